import PyProof.Rows.All
import Wide.All
import OpenK.AllK
import Wide.FinOn
import HandS.ForMost
import HandS.Wide
import HandS.IsInst
import HandS.Codes
import HandS.ClsMeth
import HandS.Defaults
import HandS.MakeKw
import HandS.MakeKwOnly
import HandS.Property
import HandS.WordsExc
import HandS.Exc
import HandS.ExcInit
import HandS.ExcIs
import HandS.ExcField
import KE.KExcIs
import HandS.Small
import HandS.StrMore
import HandS.Walk
import HandS.Iter
import KE.DataEq
import PySem.Challenge.RW_barbreaks_k01_names
set_option Elab.async false
set_option linter.all false
set_option maxRecDepth 100000
/-! Own words over the hand layer: a def of the module with its promise, in one Prop. -/
namespace Brk
open PySem L2

/-- the module's name x holds a def that keeps the promise sp by at most level k -/
def Dk (P : Program) (w : World) (K : PySem.W.Frag) (mg : Str → Option Value) (base : Heap) (CX : CXT) (k : Nat) (x : Str) (ps : List Str) (sp : Sp) : Prop :=
  ∃ (f : Addr) (fd : FuncData), mg x = some (.ref f) ∧ PySem.W.keepIn K (.ref f) = true ∧ Binds K fd ps [] ∧ FnOk P w K mg base CX k f fd ps sp
/-- the module's name x holds the def whose text is st -/
def Df (K : PySem.W.Frag) (mg : Str → Option Value) (x : Str) (st : Stmt) (ps : List Str) : Prop :=
  ∃ (f : Addr) (fd : FuncData), mg x = some (.ref f) ∧ Fun K x x st f fd ∧ Binds K fd ps []
section
variable {X : Cx} {CX : CXT} {k : Nat} {ps : List Str} {sp : Sp} {E : XK} {x : Str} {p pos : Pos} {e : Expr} {es : List Expr} {t : TA}
theorem pe_d (D : Dk X.prog X.w X.K X.mg X.base CX k x ps sp) (hr : Room k X.A) (hx : Passes CX X E) (hg : Gl X x) (ha : PA X (e :: es) t)
    (hdb : (x == ("__debug__" : Str)) = false := by decide) (he : starEach (e :: es) X.env = (false, eval e X.env) :: starEach es X.env := by rfl) (hpl : (backTo pos (starEach es X.env)).any (·.1) = false := by rfl) :
    PE X (.Call (.Name x p) (e :: es) [] pos) (tCall sp [] E t) := by
  obtain ⟨f, fd, hm, hk, hb, F⟩ := D
  exact pe_call F hr hg hm hk hb .nil hx ha hdb he hpl
end
theorem Dk.mono {P : Program} {w : World} {K : PySem.W.Frag} {mg : Str → Option Value} {base : Heap} {CX : CXT} {k : Nat} {x : Str} {ps : List Str} {sp sp' : Sp} (D : Dk P w K mg base CX k x ps sp)
    (h : ∀ f fd, FnOk P w K mg base CX k f fd ps sp → FnOk P w K mg base CX k f fd ps sp') : Dk P w K mg base CX k x ps sp' := by
  obtain ⟨f, fd, a, b, c, F⟩ := D
  exact ⟨f, fd, a, b, c, h f fd F⟩

theorem bl_t {p : Prop} [Decidable p] (h : p) : V.bl (decide p) = V.bl true := by rw [decide_eq_true h]
theorem bl_f {p : Prop} [Decidable p] (h : ¬ p) : V.bl (decide p) = V.bl false := by rw [decide_eq_false h]
theorem pos_m7 : (0 : Int) < 2147483647 := by decide
theorem pos_m9 : (0 : Int) < 2147483399 := by decide
/-! ### heaps -/
/-- only what stands at p may have changed -/
def Off (p : Addr) (H H' : Hp) : Prop := ∀ b, b ≠ p → H' b = H b
theorem Off.refl {p : Addr} {H : Hp} : Off p H H := fun _ _ => rfl
theorem Off.trans {p : Addr} {H H1 H2 : Hp} (a : Off p H H1) (b : Off p H1 H2) : Off p H H2 := fun c hc => (b c hc).trans (a c hc)
theorem Off.upd {p : Addr} {H : Hp} {o : HO} : Off p H (upd H p o) := fun _ hb => upd_ne hb

/-! ### the script's pool: a list of four ints and the list of the script's numbers -/
def PL (c : Addr) (l : List V) : Prop := ∃ z i t d : Int, 0 ≤ i ∧ l = [.int z, .int i, .int t, .int d, .ref c]
structure Pool (ns : List Int) (c : Addr) (H : Hp) (p : Addr) : Prop where
  at_ : ∃ l, H p = some (.lst l) ∧ PL c l
  cells : H c = some (.lst (ns.map V.int))
theorem Pool.off {ns : List Int} {c : Addr} {H H' : Hp} {p q : Addr} (h : Pool ns c H p) (o : Off q H H') (h1 : p ≠ q) (h2 : c ≠ q) : Pool ns c H' p := by
  obtain ⟨⟨l, a, b⟩, d⟩ := h
  exact ⟨⟨l, (o p h1).trans a, b⟩, (o c h2).trans d⟩
theorem Pool.ne {ns : List Int} {c : Addr} {H : Hp} {p : Addr} (h : Pool ns c H p) : c ≠ p := by
  obtain ⟨⟨l, a, z, i, t, d, _, rfl⟩, b⟩ := h
  intro e
  rw [e, a] at b
  have q := HO.lst.inj (Option.some.inj b)
  have m : V.ref c ∈ ns.map V.int := by rw [← q]; simp
  simp at m
theorem Pool.same {ns : List Int} {c : Addr} {H H' : Hp} {p : Addr} (h : Pool ns c H p) (s : Same H H') : Pool ns c H' p := by
  obtain ⟨⟨l, a, b⟩, d⟩ := h
  exact ⟨⟨l, s _ _ a, b⟩, s _ _ d⟩
theorem Pool.upd {ns : List Int} {c : Addr} {H : Hp} {p : Addr} {l : List V} (h : Pool ns c H p) (hl : PL c l) : Pool ns c (L2.upd H p (.lst l)) p :=
  ⟨⟨l, upd_same, hl⟩, (upd_ne h.ne).trans h.cells⟩
theorem ints_at {ns : List Int} {i : Nat} {y : V} (h : (ns.map V.int)[i]? = some y) : ∃ z, ns[i]? = some z ∧ y = V.int z := by
  rw [List.getElem?_map] at h
  cases e : ns[i]? with
  | none => rw [e] at h; cases h
  | some z => rw [e] at h; exact ⟨z, rfl, (Option.some.inj h).symm⟩
theorem atI_ge {α : Type} {xs : List α} {i : Int} {v : α} (h0 : 0 ≤ i) (h : xs[i.toNat]? = some v) : atI xs i = some v := by
  have e : i = (i.toNat : Int) := by omega
  rw [e]
  exact atI_nat h

/-! ### promises of the drawing helpers -/
/-- a draw: the pool at p is asked; the answer is good; nothing but the pool's own list is another -/
def spTake : Sp := fun vs H Q _ => ∃ (p c : Addr) (ns : List Int) (n : Int), vs = [.ref p, .int n] ∧ Pool ns c H p ∧ 0 < n ∧ n.natAbs.log2 < 9000 ∧
  ∀ (r : Int) (H' : Hp), 0 ≤ r → r < n → Pool ns c H' p → Off p H H' → Q (.int r) H'
def spBig : Sp := fun vs H Q _ => ∃ (p c : Addr) (ns : List Int), vs = [.ref p] ∧ Pool ns c H p ∧
  ∀ (r : Int) (H' : Hp), 0 ≤ r → r < 10 ^ 27 → Pool ns c H' p → Off p H H' → Q (.int r) H'
/-- a draw by the pool alone; by the pool and a number -/
def spDraw (G : Int → Prop) : Sp := fun vs H Q _ => ∃ (p c : Addr) (ns : List Int), vs = [.ref p] ∧ Pool ns c H p ∧ ∀ (r : Int) (H' : Hp), G r → Pool ns c H' p → Off p H H' → Q (.int r) H'
def spDraw2 (A : Int → Prop) (G : Int → Int → Prop) : Sp := fun vs H Q _ => ∃ (p c : Addr) (ns : List Int) (s : Int), vs = [.ref p, .int s] ∧ Pool ns c H p ∧ A s ∧ ∀ (r : Int) (H' : Hp), G s r → Pool ns c H' p → Off p H H' → Q (.int r) H'
def GFree (r : Int) : Prop := -10 ^ 27 < r ∧ r < 10 ^ 27
def GStep (r : Int) : Prop := 1 ≤ r ∧ r ≤ 10 ^ 27
theorem log2_27 {n : Int} (h : 1 ≤ n) (h2 : n ≤ 10 ^ 27) : n.natAbs.log2 < 9000 := by
  have e : n.natAbs ≠ 0 := by omega
  refine (Nat.log2_lt e).mpr (Nat.lt_of_lt_of_le (m := 2 ^ 90) (by omega) (Nat.pow_le_pow_right (by decide) (by decide)))
/-- isinstance(x, int) and (not isinstance(x, bool)) -/
def spIsInt (K : PySem.W.Frag) : Sp := fun vs H Q _ => ∃ (x : V) (t : Value) (b1 b2 : Bool), vs = [x] ∧ TyX K H x t ∧ PySem.W.kitOne K t (.type "int") = some b1 ∧ PySem.W.kitOne K t (.type "bool") = some b2 ∧ Q (.bl (b1 && !b2)) H
theorem kInt {K : PySem.W.Frag} : PySem.W.kitOne K (.type "int") (.type "int") = some true := kit_ty (by decide +kernel)
theorem kIntB {K : PySem.W.Frag} : PySem.W.kitOne K (.type "int") (.type "bool") = some false := kit_ty (by decide +kernel)
theorem isInt_int {K : PySem.W.Frag} {H : Hp} {Q : VK} {E : XK} {i : Int} (h : Q (.bl true) H) : spIsInt K [.int i] H Q E := ⟨.int i, _, true, false, rfl, .base (.int i), kit_ty (by decide +kernel), kit_ty (by decide +kernel), h⟩
def spPool (K : PySem.W.Frag) : Sp := fun vs H Q _ => ∃ (a : Addr) (ns : List Int), vs = [.ref a] ∧ SqL K H a (ns.map V.int) ∧ ns.length ≤ 63 ∧
  ∀ (p c : Addr) (H' : Hp), Pool ns c H' p → H p = none → H c = none → Same H H' → Q (.ref p) H'

/-! ### classes: methods, makers, defs read off a class -/
/-- the class at C has the method m, a def whose text is st -/
def Mf (K : PySem.W.Frag) (C : Addr) (m qual : Str) (st : Stmt) (ps : List Str) : Prop := ∃ (f : Addr) (fd : FuncData), Meth K C m f ∧ Fun K m qual st f fd ∧ Binds K fd ps []
/-- .. and it keeps the promise sp -/
def Me (P : Program) (w : World) (K : PySem.W.Frag) (mg : Str → Option Value) (base : Heap) (CX : CXT) (k : Nat) (C : Addr) (m : Str) (ps : List Str) (sp : Sp) : Prop :=
  ∃ (f : Addr) (fd : FuncData), Meth K C m f ∧ Binds K fd ps [] ∧ FnOk P w K mg base CX k f fd ps sp
/-- the class of the name x, at C, is made by an __init__ that keeps sp, its last parameters filled by dvs -/
def MkD (P : Program) (w : World) (K : PySem.W.Frag) (mg : Str → Option Value) (base : Heap) (CX : CXT) (k : Nat) (x : Str) (C : Addr) (ps : List Str) (dvs : List V) (sp : Sp) : Prop :=
  ∃ (f : Addr) (fd : FuncData) (ds : List Value), mg x = some (.ref C) ∧ Mk K C f ∧ Binds K fd ps ds ∧ Vals dvs ds ∧ FnOk P w K mg base CX k f fd ps sp
section
variable {X : Cx} {CX : CXT} {k : Nat} {ps : List Str} {sp : Sp} {dvs : List V} {E : XK} {x m : Str} {C : Addr} {p pos apos : Pos} {o e : Expr} {es : List Expr} {ta : TE} {t : TA}
theorem pe_me {pl : Sem Bool} (M : Me X.prog X.w X.K X.mg X.base CX k C m ps sp) (c : Cls X.K C) (hr : Room k X.A) (hx : Passes CX X E) (he : PE X o ta) (ha : PA X (e :: es) t)
    (hst : starEach (e :: es) X.env = (false, eval e X.env) :: starEach es X.env := by rfl) (hpl : (backTo pos (starEach es X.env)).any (·.1) = false := by rfl)
    (ht : eval (.Call (.Attribute o m apos) (e :: es) [] pos) X.env = (do
      let ov ← eval o X.env
      standAt apos.atName
      let (f, first) ← holding [ov] (getMethod ov m pl)
      callWith pos f first (backTo pos (starEach (e :: es) X.env)) (backToKw pos (keywordEach [] X.env))) := by rfl) :
    PE X (.Call (.Attribute o m apos) (e :: es) [] pos) (tMeth C m sp [] E ta t) := by
  obtain ⟨f, fd, hm, hb, F⟩ := M
  exact pe_meth (pl := pl) he c hm F hr hb .nil hx ha hst hpl ht
theorem pe_mkd (M : MkD X.prog X.w X.K X.mg X.base CX k x C ps dvs sp) (hr : Room (k + 1) X.A) (hx : Passes CX X E) (hg : Gl X x) (ha : PA X (e :: es) t)
    (hdb : (x == ("__debug__" : Str)) = false := by decide) (he : starEach (e :: es) X.env = (false, eval e X.env) :: starEach es X.env := by rfl) (hpl : (backTo pos (starEach es X.env)).any (·.1) = false := by rfl) :
    PE X (.Call (.Name x p) (e :: es) [] pos) (tMake C sp dvs E t) := by
  obtain ⟨f, fd, ds, hm, M, hb, hd, F⟩ := M
  exact pe_make M F hr hg hm hb hd hx ha hdb he hpl
/-- C.m(e, ..), m a plain def of the class at C -/
theorem pe_cfn {mc : Value} {f : Addr} {fd : FuncData} {pl : Sem Bool} (he : PE X o ta) (r : ClX.CRead X.K C mc) (ca : PySem.W.findCls X.K (.ref C) mc m = some (.val (.ref f))) (hk : PySem.W.keepIn X.K (.ref f) = true) (hb : Binds X.K fd ps [])
    (F : FnOk X.prog X.w X.K X.mg X.base CX k f fd ps sp) (hr : Room k X.A) (hx : Passes CX X E) (ha : PA X (e :: es) t)
    (hst : starEach (e :: es) X.env = (false, eval e X.env) :: starEach es X.env := by rfl) (hpl : (backTo pos (starEach es X.env)).any (·.1) = false := by rfl)
    (ht : eval (.Call (.Attribute o m apos) (e :: es) [] pos) X.env = (do
      let ov ← eval o X.env
      standAt apos.atName
      let (f, first) ← holding [ov] (getMethod ov m pl)
      callWith pos f first (backTo pos (starEach (e :: es) X.env)) (backToKw pos (keywordEach [] X.env))) := by rfl) :
    PE X (.Call (.Attribute o m apos) (e :: es) [] pos) (fun σ H Q => ta σ H fun x H1 => x = .ref C ∧ t σ H1 fun vs H2 => sp (vs ++ []) H2 Q E) := by
  constructor
  intro pins s σ H Q I h
  refine PySem.W.methodCall_KW (pl := pl) (thn (he.run pins s σ H _ I h) fun u s1 hh => ?_) ht
  obtain ⟨v, H1, I1, rv, ev, q⟩ := hh
  subst ev
  obtain rfl : u = Value.ref C := rv
  refine PySem.W.method_cls I1.kIn r.ga ?_
  refine PySem.W.cls_value I1.kIn r.rd ca rfl ?_
  have J := I1.tok (s1.toks + 1)
  refine PySem.W.callWith_K (first := []) (h₀ := X.base) I1.ok.mod.kin hk ?_ hst hpl
  refine thn (ha.run pos pins _ σ H1 _ J q) fun us s2 hh2 => ?_
  obtain ⟨vs, H2, I2, rr, q2⟩ := hh2
  exact ⟨I2.kIn, run_fn F hr hb .nil hx I2 rr q2⟩
end

/-- the class at C gives out its def m when it is asked by its own name; the text st -/
def Sf (K : PySem.W.Frag) (C : Addr) (m qual : Str) (st : Stmt) (ps : List Str) : Prop := ∃ (mc : Value) (f : Addr) (fd : FuncData), ClX.CRead K C mc ∧ PySem.W.findCls K (.ref C) mc m = some (.val (.ref f)) ∧ Fun K m qual st f fd ∧ Binds K fd ps []
def Cf (P : Program) (w : World) (K : PySem.W.Frag) (mg : Str → Option Value) (base : Heap) (CX : CXT) (k : Nat) (C : Addr) (m : Str) (ps : List Str) (sp : Sp) : Prop :=
  ∃ (mc : Value) (f : Addr) (fd : FuncData), ClX.CRead K C mc ∧ PySem.W.findCls K (.ref C) mc m = some (.val (.ref f)) ∧ PySem.W.keepIn K (.ref f) = true ∧ Binds K fd ps [] ∧ FnOk P w K mg base CX k f fd ps sp
section
variable {X : Cx} {CX : CXT} {k : Nat} {ps : List Str} {sp : Sp} {E : XK} {m : Str} {C : Addr} {pos apos : Pos} {o e : Expr} {es : List Expr} {ta : TE} {t : TA}
theorem pe_cf {pl : Sem Bool} (M : Cf X.prog X.w X.K X.mg X.base CX k C m ps sp) (hr : Room k X.A) (hx : Passes CX X E) (he : PE X o ta) (ha : PA X (e :: es) t)
    (hst : starEach (e :: es) X.env = (false, eval e X.env) :: starEach es X.env := by rfl) (hpl : (backTo pos (starEach es X.env)).any (·.1) = false := by rfl)
    (ht : eval (.Call (.Attribute o m apos) (e :: es) [] pos) X.env = (do
      let ov ← eval o X.env
      standAt apos.atName
      let (f, first) ← holding [ov] (getMethod ov m pl)
      callWith pos f first (backTo pos (starEach (e :: es) X.env)) (backToKw pos (keywordEach [] X.env))) := by rfl) :
    PE X (.Call (.Attribute o m apos) (e :: es) [] pos) (fun σ H Q => ta σ H fun x H1 => x = .ref C ∧ t σ H1 fun vs H2 => sp (vs ++ []) H2 Q E) := by
  obtain ⟨mc, f, fd, r, ca, hk, hb, F⟩ := M
  exact pe_cfn (pl := pl) he r ca hk hb F hr hx ha hst hpl ht
end
/-- a call that writes n values and then the keywords ks, in the parameters' order -/
abbrev KA (K : PySem.W.Frag) (fd : FuncData) (ps : List Str) (n : Nat) (ks : List Str) : Prop := KBn K fd ps n ks (fun us ws => us ++ ws) (fun vs zs => vs ++ zs)
def CfK (P : Program) (w : World) (K : PySem.W.Frag) (mg : Str → Option Value) (base : Heap) (CX : CXT) (k : Nat) (C : Addr) (m : Str) (ps : List Str) (n : Nat) (ks : List Str) (sp : Sp) : Prop :=
  ∃ (mc : Value) (f : Addr) (fd : FuncData), ClX.CRead K C mc ∧ PySem.W.findCls K (.ref C) mc m = some (.val (.ref f)) ∧ PySem.W.keepIn K (.ref f) = true ∧ KA K fd ps n ks ∧ FnOk P w K mg base CX k f fd ps sp
def SfK (K : PySem.W.Frag) (C : Addr) (m qual : Str) (st : Stmt) (ps : List Str) (n : Nat) (ks : List Str) : Prop := ∃ (mc : Value) (f : Addr) (fd : FuncData), ClX.CRead K C mc ∧ PySem.W.findCls K (.ref C) mc m = some (.val (.ref f)) ∧ Fun K m qual st f fd ∧ KA K fd ps n ks
def MkK (P : Program) (w : World) (K : PySem.W.Frag) (mg : Str → Option Value) (base : Heap) (CX : CXT) (k : Nat) (x : Str) (C : Addr) (ps : List Str) (n : Nat) (ks : List Str) (sp : Sp) : Prop :=
  ∃ (f : Addr) (fd : FuncData), mg x = some (.ref C) ∧ Mk K C f ∧ KA K fd ps n ks ∧ FnOk P w K mg base CX k f fd ps sp
def IfK (K : PySem.W.Frag) (C : Addr) (qual : Str) (st : Stmt) (ps : List Str) (n : Nat) (ks : List Str) : Prop := ∃ (f : Addr) (fd : FuncData), Mk K C f ∧ Fun K "__init__" qual st f fd ∧ KA K fd ps n ks
section
variable {X : Cx} {CX : CXT} {k n : Nat} {ps ks : List Str} {sp : Sp} {E : XK} {x m : Str} {C : Addr} {p pos apos : Pos} {o e : Expr} {es : List Expr} {kws : List Keyword} {ta : TE} {t tk : TA}
theorem pe_cfK {pl : Sem Bool} (M : CfK X.prog X.w X.K X.mg X.base CX k C m ps n ks sp) (hr : Room k X.A) (hx : Passes CX X E) (he : PE X o ta) (ha : PA X (e :: es) t) (hkw : PK X kws tk)
    (hall : (backToKw pos (keywordEach kws X.env)).all (·.1.isSome) = true := by rfl) (hks : (backToKw pos (keywordEach kws X.env)).filterMap (·.1) = ks := by rfl)
    (hst : starEach (e :: es) X.env = (false, eval e X.env) :: starEach es X.env := by rfl)
    (hpl : ((backTo pos (starEach (e :: es) X.env)).any (·.1) || (backToKw pos (keywordEach kws X.env)).any (·.1.isNone)) = false := by rfl)
    (ht : eval (.Call (.Attribute o m apos) (e :: es) kws pos) X.env = (do
      let ov ← eval o X.env
      standAt apos.atName
      let (f, first) ← holding [ov] (getMethod ov m pl)
      callWith pos f first (backTo pos (starEach (e :: es) X.env)) (backToKw pos (keywordEach kws X.env))) := by rfl) :
    PE X (.Call (.Attribute o m apos) (e :: es) kws pos) (fun σ H Q => ta σ H fun x H1 => x = .ref C ∧ t σ H1 fun vs H2 => tk σ H2 fun zs H3 => vs.length = n ∧ zs.length = ks.length ∧ sp (vs ++ zs) H3 Q E) := by
  obtain ⟨mc, f, fd, r, ca, hk, hb, F⟩ := M
  constructor
  intro pins s σ H Q I h
  refine PySem.W.methodCall_KW (pl := pl) (thn (he.run pins s σ H _ I h) fun u s1 hh => ?_) ht
  obtain ⟨v, H1, I1, rv, ev, q⟩ := hh
  subst ev
  obtain rfl : u = Value.ref C := rv
  refine PySem.W.method_cls I1.kIn r.ga ?_
  refine PySem.W.cls_value I1.kIn r.rd ca rfl ?_
  have J := I1.tok (s1.toks + 1)
  refine PySem.W.callWith_KW (first := []) (h₀ := X.base) I1.ok.mod.kin hk hall ?_ hpl hst
  refine thn (ha.run pos pins _ σ H1 _ J q) fun us s2 hh2 => ?_
  obtain ⟨vs, H2, I2, rr, q2⟩ := hh2
  refine thn (hkw.run pos pins s2 σ H2 _ I2 q2) fun ws s3 hh3 => ?_
  obtain ⟨zs, H3, I3, rz, l1, l2, q3⟩ := hh3
  refine ⟨I3.kIn, ?_⟩
  rw [hks]
  exact run_fnN F hr hb hx I3 rr rz l1 l2 q3
theorem pe_mkK (M : MkK X.prog X.w X.K X.mg X.base CX k x C ps (n + 1) ks sp) (hr : Room (k + 1) X.A) (hx : Passes CX X E) (hg : Gl X x) (ha : PA X (e :: es) t) (hkw : PK X kws tk)
    (hall : (backToKw pos (keywordEach kws X.env)).all (·.1.isSome) = true := by rfl) (hks : (backToKw pos (keywordEach kws X.env)).filterMap (·.1) = ks := by rfl)
    (hdb : (x == ("__debug__" : Str)) = false := by decide) (he : starEach (e :: es) X.env = (false, eval e X.env) :: starEach es X.env := by rfl)
    (hpl : ((backTo pos (starEach (e :: es) X.env)).any (·.1) || (backToKw pos (keywordEach kws X.env)).any (·.1.isNone)) = false := by rfl) :
    PE X (.Call (.Name x p) (e :: es) kws pos) (tMakeN C n ks.length sp (fun vs zs => vs ++ zs) E t tk) := by
  obtain ⟨f, fd, hm, M, hb, F⟩ := M
  exact pe_makeN M F hr hg hm hb hx ha hkw hall hks hdb he hpl
end
def If0 (K : PySem.W.Frag) (C : Addr) (qual : Str) (st : Stmt) (ps : List Str) : Prop := ∃ (f : Addr) (fd : FuncData), Mk K C f ∧ Fun K "__init__" qual st f fd ∧ Binds K fd ps []
/-- an __init__ with written defaults dvs, those behind the first j filled in by a call -/
def IfD (K : PySem.W.Frag) (C : Addr) (qual : Str) (st : Stmt) (ps : List Str) (dvs : List V) (j : Nat) : Prop := ∃ (f : Addr) (fd : FuncData) (ds : List Value), Mk K C f ∧ FunD K "__init__" qual (defArgs st) (defBody st) (defScope st) dvs [] f fd ∧ Vals (dvs.drop j) ds ∧ Binds K fd ps ds
theorem ifD_mk {K : PySem.W.Frag} {C f T : Addr} {qual : Str} {st : Stmt} {ps : List Str} {dvs : List V} {j : Nat} {oc kV doc pm cdv ct oT : Value} {od an dT : Option Addr} {osl sT : Array (Option Value)} {its : Array Value} {nT : Nat} (M : Mk K C f)
    (l : K.lookup f = some ⟨oc, od, .func (PySem.W.fnOf "__init__" qual (defArgs st) (defBody st) (defScope st) (.ref T) kV doc pm an cdv ct), osl⟩) (c : PySem.W.codeIn K cdv qual = true) (k : PySem.W.keepIn K (.ref f) = true)
    (lT : K.lookup T = some ⟨oT, dT, .seq its nT, sT⟩) (vT : Vals dvs its.toList) (n : Nat) (hd : dvs ≠ []) (hn : n + (dvs.length - j) = ps.length)
    (h : ∀ (T : Addr) (kV doc pm : Value) (an : Option Addr) (cdv ct : Value) (us its : List Value), us.length = n → its.length = dvs.length →
      ∃ k, bindArgs (PySem.W.fnOf "__init__" qual (defArgs st) (defBody st) (defScope st) (.ref T) kV doc pm an cdv ct) ⟨us, []⟩ = seqItems? (.ref T) >>= k ∧ k (some its.toArray) = pure (ps.zip (us ++ its.drop j))) : IfD K C qual st ps dvs j := by
  have F : FunD K "__init__" qual (defArgs st) (defBody st) (defScope st) dvs [] f (PySem.W.fnOf "__init__" qual (defArgs st) (defBody st) (defScope st) (.ref T) kV doc pm an cdv ct) :=
    ⟨⟨oc, od, _, kV, doc, pm, an, cdv, ct, osl, rfl, l, c, .inr ⟨hd, T, _, its.toList, nT, rfl, lT, rfl, vT⟩, .inl rfl⟩, k⟩
  obtain ⟨ds, a, b⟩ := F.binds1 n j hd hn h
  exact ⟨f, _, ds, M, F, a, b⟩
def SfD (K : PySem.W.Frag) (C : Addr) (qual : Str) (st : Stmt) (ps : List Str) (dvs : List V) (j : Nat) : Prop := ∃ (mc : Value) (f : Addr) (fd : FuncData) (ds : List Value), ClX.CRead K C mc ∧ PySem.W.findCls K (.ref C) mc "__init__" = some (.val (.ref f)) ∧
  FunD K "__init__" qual (defArgs st) (defBody st) (defScope st) dvs [] f fd ∧ Vals (dvs.drop j) ds ∧ Binds K fd ps ds
theorem sfD_mk {K : PySem.W.Frag} {C f T : Addr} {qual : Str} {st : Stmt} {ps : List Str} {dvs : List V} {j : Nat} {oc kV doc pm cdv ct oT : Value} {od an dT : Option Addr} {osl sT : Array (Option Value)} {its : Array Value} {nT : Nat} {mc : Value} (r : ClX.CRead K C mc) (ca : PySem.W.findCls K (.ref C) mc "__init__" = some (.val (.ref f)))
    (l : K.lookup f = some ⟨oc, od, .func (PySem.W.fnOf "__init__" qual (defArgs st) (defBody st) (defScope st) (.ref T) kV doc pm an cdv ct), osl⟩) (c : PySem.W.codeIn K cdv qual = true) (k : PySem.W.keepIn K (.ref f) = true)
    (lT : K.lookup T = some ⟨oT, dT, .seq its nT, sT⟩) (vT : Vals dvs its.toList) (n : Nat) (hd : dvs ≠ []) (hn : n + (dvs.length - j) = ps.length)
    (h : ∀ (T : Addr) (kV doc pm : Value) (an : Option Addr) (cdv ct : Value) (us its : List Value), us.length = n → its.length = dvs.length →
      ∃ k, bindArgs (PySem.W.fnOf "__init__" qual (defArgs st) (defBody st) (defScope st) (.ref T) kV doc pm an cdv ct) ⟨us, []⟩ = seqItems? (.ref T) >>= k ∧ k (some its.toArray) = pure (ps.zip (us ++ its.drop j))) : SfD K C qual st ps dvs j := by
  have F : FunD K "__init__" qual (defArgs st) (defBody st) (defScope st) dvs [] f (PySem.W.fnOf "__init__" qual (defArgs st) (defBody st) (defScope st) (.ref T) kV doc pm an cdv ct) :=
    ⟨⟨oc, od, _, kV, doc, pm, an, cdv, ct, osl, rfl, l, c, .inr ⟨hd, T, _, its.toList, nT, rfl, lT, rfl, vT⟩, .inl rfl⟩, k⟩
  obtain ⟨ds, a, b⟩ := F.binds1 n j hd hn h
  exact ⟨mc, f, _, ds, r, ca, F, a, b⟩
/-- a constant of the class, asked by the class's name -/
def Kc (K : PySem.W.Frag) (C : Addr) (f : Str) (v : V) : Prop := ∃ (mc u : Value), ClX.CRead K C mc ∧ ClX.CVal K C mc f v u

/-! ### lists of signs -/
/-- a comprehension over a text's signs -/
theorem lc_text {x : Str} {g : TG} {tt : TT} {te : TE} {vs : List Nat} {σ : St} {H1 : Hp} {D : Addr} {Qd : Hp → Prop} (Pv : Nat → Hp → Prop) (h0 : Pv 0 (L2.upd H1 D (.lst [])))
    (hs : ∀ (i : Nat) (c : Nat) (H : Hp), x.cps[i]? = some c → Pv i H → g (.str ⟨#[c]⟩) (wipe σ vs) H fun σ2 H2 => wipe σ2 vs = wipe σ vs ∧ tt σ2 H2 fun b H3 =>
      if b = true then te σ2 H3 fun y H4 => ∃ acc, H4 D = some (.lst acc) ∧ acc.length < sizeLine ∧ Pv (i + 1) (L2.upd H4 D (.lst (acc ++ [y]))) else Pv (i + 1) H3) (hd : ∀ H, Pv x.cps.size H → Qd H) :
    ∃ W : Nat → Nat → Hp → Prop, (∃ m, W 0 m (L2.upd H1 D (.lst []))) ∧ ∀ i m H, W i m H →
      ((Its x).stop i H ∧ Qd H) ∨ ((Its x).go i H ∧ ∃ Nx : Hp → Prop, (∀ H', Nx H' → ∃ m', m' < m ∧ W (i + 1) m' H') ∧ ∀ y H', (Its x).yld i H y H' → g y (wipe σ vs) H' fun σ2 H2 => wipe σ2 vs = wipe σ vs ∧ tt σ2 H2 fun b H3 =>
        if b = true then te σ2 H3 fun y H4 => ∃ acc, H4 D = some (.lst acc) ∧ acc.length < sizeLine ∧ Nx (L2.upd H4 D (.lst (acc ++ [y]))) else Nx H3) := by
  refine ⟨fun i m H => m + i = x.cps.size ∧ Pv i H, ⟨x.cps.size, rfl, h0⟩, ?_⟩
  intro i m H hh
  obtain ⟨hm, p⟩ := hh
  by_cases z : m = 0
  · subst z
    have e : i = x.cps.size := by omega
    subst e
    exact Or.inl ⟨Nat.le_refl _, hd H p⟩
  · refine Or.inr ⟨by show i < x.cps.size; omega, Pv (i + 1), fun H' p' => ⟨m - 1, by omega, by omega, p'⟩, ?_⟩
    intro y H' yy
    obtain ⟨e, c, hc, ey⟩ := yy
    subst e ey
    exact hs i c _ hc p

/-! ### what else stays -/
/-- all that was tracked is as it was, but for what stands at p -/
def But (p : Addr) (H H' : Hp) : Prop := ∀ b o, H b = some o → b ≠ p → H' b = some o
theorem But.of_same {p : Addr} {H H' : Hp} (s : Same H H') : But p H H' := fun b o e _ => s b o e
theorem But.of_off {p : Addr} {H H' : Hp} (s : Off p H H') : But p H H' := fun b o e hb => by rw [s b hb]; exact e
theorem But.trans {p : Addr} {H H1 H2 : Hp} (a : But p H H1) (b : But p H1 H2) : But p H H2 := fun c o e hc => b c o (a c o e hc) hc
theorem But.upd {p : Addr} {H : Hp} {o : HO} : But p H (L2.upd H p o) := fun b u e hb => by rw [upd_ne hb]; exact e
theorem Same.new {H : Hp} {p : Addr} {o : HO} (h : H p = none) : Same H (L2.upd H p o) := fun b u e => by rw [upd_ne (ne_of_none e h)]; exact e
/-- a new instance and its __init__, which leaves all but the instance -/
theorem Same.inst {H H1 : Hp} {x dx C : Addr} (nx : H x = none) (nd : H dx = none) (k : But x (L2.upd (L2.upd H dx (.own x)) x (.ins C dx [])) H1) : Same H H1 := Same.made nx nd k
/-! ### names -/
def letS : Str := "abcdefghijklmnopqrstuvwxyz"
def digS : Str := "0123456789"
def signB (c : Nat) : Bool := decide (c ∈ letS.cps.toList) || decide (c ∈ digS.cps.toList)
/-- 1 to 12 small letters and digits, a letter first -/
def nameB (z : Str) : Bool := decide (1 ≤ z.cps.size) && (decide (z.cps.size ≤ 12) && (decide (z.cps.getD 0 0 ∈ letS.cps.toList) && z.cps.toList.all signB))
def spIsName : Sp := fun vs H Q _ => ∃ (z : Str), vs = [.str z] ∧ z.length ≤ 100000 ∧ ∀ H', Same H H' → Q (.bl (nameB z)) H'

/-! ### items -/
def barOf (s o t : Int) : Int := t + (o - t) % s
/-- a Grid at g -/
def GridAt (C : Addr) (H : Hp) (g : Addr) (s o : Int) : Prop := 0 < s ∧ ∃ dx, H g = some (.ins C dx [("step", .int s), ("offset", .int o)])
theorem GridAt.same {C : Addr} {H H' : Hp} {g : Addr} {s o : Int} (h : GridAt C H g s o) (e : Same H H') : GridAt C H' g s o := by
  obtain ⟨a, dx, b⟩ := h
  exact ⟨a, dx, e _ _ b⟩
def startOf (m : V) (mo : Int) : Int := match m with
  | .int i => if i > mo then i else mo
  | _ => mo
def spGrid0 (C : Addr) : Sp := fun vs H Q _ => ∃ (p dx : Addr) (s o : Int), vs = [.ref p, .int s, .int o] ∧ H p = some (.ins C dx []) ∧ 1 ≤ s ∧ ∀ H', GridAt C H' p s (o % s) → Off p H H' → Q .non H'
def spFirstBar (C : Addr) : Sp := fun vs H Q _ => ∃ (g : Addr) (s o t : Int), vs = [.ref g, .int t] ∧ GridAt C H g s o ∧ Q (.int (barOf s o t)) H
def spNamed0 (K : PySem.W.Frag) : Sp := fun vs H Q _ => ∃ (p C dx : Addr) (fs : List (Str × V)) (z : Str), vs = [.ref p, .str z] ∧ H p = some (.ins C dx fs) ∧ Cls K C ∧ NoAttr K C "name" ∧ nameB z = true ∧ z.length ≤ 1000 ∧ fs.length < 100 ∧
  ∀ H', H' p = some (.ins C dx (putF "name" (.str z) fs)) → But p H H' → Q .non H'
def putT (g m d : V) (fs : List (Str × V)) : List (Str × V) := putF "delay" d (putF "minute" m (putF "grid" g fs))
def spTimed0 (K : PySem.W.Frag) : Sp := fun vs H Q _ => ∃ (p C dx : Addr) (fs : List (Str × V)) (g m : V) (d : Int), vs = [.ref p, g, m, .int d] ∧ H p = some (.ins C dx fs) ∧ Cls K C ∧ NoAttr K C "grid" ∧ NoAttr K C "minute" ∧ NoAttr K C "delay" ∧
  0 ≤ d ∧ d ≤ 8 ∧ fs.length < 100 ∧ ∀ H', H' p = some (.ins C dx (putT g m (.int d) fs)) → Off p H H' → Q .non H'
structure ItemC (K : PySem.W.Frag) (C : Addr) : Prop where
  c : Cls K C
  n : NoAttr K C "name"
  g : NoAttr K C "grid"
  m : NoAttr K C "minute"
  d : NoAttr K C "delay"
def putI (z : Str) (g m d : V) (fs : List (Str × V)) : List (Str × V) := putT g m d (putF "name" (.str z) fs)
def spItem0 (K : PySem.W.Frag) : Sp := fun vs H Q _ => ∃ (p C dx : Addr) (fs : List (Str × V)) (z : Str) (g m : V) (d : Int), vs = [.ref p, .str z, g, m, .int d] ∧ H p = some (.ins C dx fs) ∧ ItemC K C ∧ nameB z = true ∧ z.length ≤ 1000 ∧
  0 ≤ d ∧ d ≤ 8 ∧ fs.length < 90 ∧ ∀ H', H' p = some (.ins C dx (putI z g m (.int d) fs)) → But p H H' → Q .non H'
theorem putF_length {f : Str} {v : V} : ∀ {fs : List (Str × V)}, (putF f v fs).length ≤ fs.length + 1
  | [] => Nat.le_refl _
  | q :: r => by
    unfold putF
    split
    · exact Nat.le_succ _
    · exact Nat.succ_le_succ putF_length
theorem putI_length (z : Str) (g m : V) (d : Int) : (putI z g m (.int d) []).length ≤ 4 := by
  have a1 := @putF_length "name" (.str z) []
  have a2 := @putF_length "grid" g (putF "name" (.str z) [])
  have a3 := @putF_length "minute" m (putF "grid" g (putF "name" (.str z) []))
  have a4 := @putF_length "delay" (.int d) (putF "minute" m (putF "grid" g (putF "name" (.str z) [])))
  have a0 : ([] : List (Str × V)).length = 0 := rfl
  show (putF "delay" (.int d) (putF "minute" m (putF "grid" g (putF "name" (.str z) [])))).length ≤ 4
  omega
def spPiece0 (K : PySem.W.Frag) : Sp := fun vs H Q _ => ∃ (p C dx : Addr) (z : Str) (g m : V) (l t d : Int), vs = [.ref p, .str z, g, .int l, .int t, m, .int d] ∧ H p = some (.ins C dx []) ∧ ItemC K C ∧ NoAttr K C "least" ∧ NoAttr K C "most" ∧ nameB z = true ∧ z.length ≤ 1000 ∧
  0 ≤ d ∧ d ≤ 8 ∧ 1 ≤ l ∧ l ≤ t ∧ t ≤ l + 8 ∧ ∀ H', H' p = some (.ins C dx (putF "most" (.int t) (putF "least" (.int l) (putI z g m (.int d) [])))) → But p H H' → Q .non H'
def spBreak0 (K : PySem.W.Frag) : Sp := fun vs H Q _ => ∃ (p C dx : Addr) (z : Str) (g m : V) (n u d y : Int), vs = [.ref p, .str z, g, m, .int n, .int u, .int d, .int y] ∧ H p = some (.ins C dx []) ∧ ItemC K C ∧ NoAttr K C "places" ∧ NoAttr K C "unit" ∧ NoAttr K C "patience" ∧ nameB z = true ∧ z.length ≤ 1000 ∧
  0 ≤ d ∧ d ≤ 8 ∧ 1 ≤ n ∧ n ≤ 12 ∧ 1 ≤ u ∧ 1 ≤ y ∧ y ≤ 64 ∧ ∀ H', H' p = some (.ins C dx (putF "patience" (.int y) (putF "unit" (.int u) (putF "places" (.int n) (putI z g m (.int d) []))))) → But p H H' → Q .non H'
/-- an item at a: its grid g, its minute m; its class knows begin_at, whose text is st -/
def ItAt (K : PySem.W.Frag) (st : Stmt) (H : Hp) (a g : Addr) (m : V) : Prop := ∃ (C dx : Addr) (fs : List (Str × V)), H a = some (.ins C dx fs) ∧ Cls K C ∧ Mf K C "begin_at" "Timed.begin_at" st ["self", "moment", "delay"] ∧ NoAttr K C "grid" ∧ NoAttr K C "minute" ∧
  fs.lookup ("grid" : Str) = some (.ref g) ∧ fs.lookup ("minute" : Str) = some m ∧ fs.lookup ("begin_at" : Str) = none
theorem ItAt.same {K : PySem.W.Frag} {st : Stmt} {H H' : Hp} {a g : Addr} {m : V} (h : ItAt K st H a g m) (e : Same H H') : ItAt K st H' a g m := by
  obtain ⟨C, dx, fs, h1, r⟩ := h
  exact ⟨C, dx, fs, e _ _ h1, r⟩
def MinOk (m : V) : Prop := m = .non ∨ ∃ i, m = .int i
def spBegin (K : PySem.W.Frag) (C CG : Addr) : Sp := fun vs H Q _ => ∃ (a g dx : Addr) (fs : List (Str × V)) (m : V) (mo de s o : Int), vs = [.ref a, .int mo, .int de] ∧ H a = some (.ins C dx fs) ∧ Cls K C ∧ NoAttr K C "grid" ∧ NoAttr K C "minute" ∧
  fs.lookup ("grid" : Str) = some (.ref g) ∧ fs.lookup ("minute" : Str) = some m ∧ MinOk m ∧ GridAt CG H g s o ∧ Q (.int (barOf s o (startOf m mo + de))) H
theorem sorted_two {a b : Int} {l : List Int} (p : l.Perm [a, b]) (s : l.Pairwise (· ≤ ·)) : l = [if b > a then a else b, if b > a then b else a] := by
  have hl : l.length = 2 := p.length_eq
  match l, hl, p, s with
  | [x, y], _, p, s =>
    have hxy : x ≤ y := by
      have q := (List.pairwise_cons.mp s).1 y (List.mem_singleton.mpr rfl)
      exact q
    have hx : x = a ∨ x = b := by
      have q := p.mem_iff (a := x)
      simpa using q
    rcases hx with e | e
    · subst e
      have q : [y].Perm [b] := (List.perm_cons x).mp p
      have ey : y = b := by simpa using q.mem_iff (a := y)
      subst ey
      by_cases c : y > x
      · rw [if_pos c, if_pos c]
      · rw [if_neg c, if_neg c]
        have z : x = y := by omega
        rw [z]
    · subst e
      have q : [y].Perm [a] := (List.perm_cons x).mp (p.trans (List.Perm.swap x a []))
      have ey : y = a := by simpa using q.mem_iff (a := y)
      subst ey
      by_cases c : x > y
      · omega
      · rw [if_neg c, if_neg c]
/-- tuples of two ints at the addresses -/
def RowsIn (H : Hp) : List Addr → List (Int × Int) → Prop
  | [], [] => True
  | a :: as, q :: qs => H a = some (.tup [.int q.1, .int q.2]) ∧ RowsIn H as qs
  | _, _ => False
theorem RowsIn.same {H H' : Hp} (s : Same H H') : ∀ {as : List Addr} {qs : List (Int × Int)}, RowsIn H as qs → RowsIn H' as qs
  | [], [], _ => trivial
  | _ :: _, _ :: _, h => ⟨s _ _ h.1, RowsIn.same s h.2⟩
  | [], _ :: _, h => h.elim
  | _ :: _, [], h => h.elim
theorem RowsIn.at_ {H : Hp} : ∀ {as : List Addr} {qs : List (Int × Int)} {i : Nat} {x : V}, RowsIn H as qs → (as.map V.ref)[i]? = some x → ∃ a q, x = .ref a ∧ qs[i]? = some q ∧ H a = some (.tup [.int q.1, .int q.2])
  | [], _, i, x, _, e => by simp at e
  | a :: as, q :: qs, 0, x, h, e => ⟨a, q, by simpa using e.symm, rfl, h.1⟩
  | a :: as, q :: qs, i + 1, x, h, e => by
    obtain ⟨b, r, e1, e2, e3⟩ := RowsIn.at_ (i := i) h.2 (by simpa using e)
    exact ⟨b, r, e1, by simpa using e2, e3⟩
  | _ :: _, [], _, _, h, _ => h.elim
theorem RowsIn.len {H : Hp} : ∀ {as : List Addr} {qs : List (Int × Int)}, RowsIn H as qs → as.length = qs.length
  | [], [], _ => rfl
  | _ :: _, _ :: _, h => congrArg Nat.succ (RowsIn.len h.2)
  | [], _ :: _, h => h.elim
  | _ :: _, [], h => h.elim
theorem bar_ge {s o t : Int} (hs : 0 < s) : 0 ≤ barOf s o t - t ∧ barOf s o t - t < s := by
  unfold barOf
  have h1 := Int.emod_nonneg (o - t) (by omega : s ≠ 0)
  have h2 := Int.emod_lt_of_pos (o - t) hs
  omega
theorem bar_mod {s o o' t : Int} (h : (o - o') % s = 0) : (barOf s o t - o') % s = 0 := by
  unfold barOf
  have e : t + (o - t) % s - o' = (o - o') - s * ((o - t) / s) := by
    have q := Int.emod_add_mul_ediv (o - t) s
    omega
  rw [e, Int.sub_mul_emod_self_left]
  exact h
/-- the first bar is not earlier for a later tick -/
theorem bar_mono {s o t t' : Int} (hs : 0 < s) (h : t ≤ t') : barOf s o t ≤ barOf s o t' := by
  have a := bar_ge (o := o) (t := t) hs
  have b := bar_ge (o := o) (t := t') hs
  have d : (barOf s o t - barOf s o t') % s = 0 := by
    have h1 : (barOf s o t - o) % s = 0 := bar_mod (by simp)
    have h2 : (barOf s o t' - o) % s = 0 := bar_mod (by simp)
    have e : barOf s o t - barOf s o t' = (barOf s o t - o) - (barOf s o t' - o) := by omega
    rw [e, Int.sub_emod, h1, h2]
    simp
  by_cases c : barOf s o t ≤ barOf s o t'
  · exact c
  · have h3 : 0 < barOf s o t - barOf s o t' := by omega
    have h4 : barOf s o t - barOf s o t' < s := by omega
    rw [Int.emod_eq_of_lt (by omega) h4] at d
    omega
theorem start_mono {m : V} {a b : Int} (h : a ≤ b) : startOf m a ≤ startOf m b := by
  unfold startOf
  split
  · split <;> split <;> omega
  · exact h
theorem off_mod {o s : Int} : (o % s - o) % s = 0 := by
  have e : o % s - o = 0 - s * (o / s) := by
    have q := Int.emod_add_mul_ediv o s
    omega
  rw [e, Int.sub_mul_emod_self_left]
  simp
def spAsked (K : PySem.W.Frag) (st : Stmt) (CG : Addr) : Sp := fun vs H Q _ => ∃ (it g r : Addr) (m : V) (s o : Int) (as : List Addr) (q0 q1 q2 q3 q4 q5 q6 q7 q8 : Int × Int), vs = [.ref it, .int s, .int o, m, .ref r] ∧ ItAt K st H it g m ∧ MinOk m ∧ GridAt CG H g s (o % s) ∧
  H r = some (.lst (as.map V.ref)) ∧ RowsIn H as [q0, q1, q2, q3, q4, q5, q6, q7, q8] ∧
  barOf s (o % s) (startOf m q0.1 + q0.2) ≤ barOf s (o % s) (startOf m q1.1 + q1.2) ∧ barOf s (o % s) (startOf m q1.1 + q1.2) ≤ barOf s (o % s) (startOf m q2.1 + q2.2) ∧
  barOf s (o % s) (startOf m q0.1 + q0.2) ≤ barOf s (o % s) (startOf m q3.1 + q3.2) ∧ barOf s (o % s) (startOf m q3.1 + q3.2) ≤ barOf s (o % s) (startOf m q2.1 + q2.2) ∧ q8 = q0 ∧ ∀ H', Same H H' → Q (.bl true) H'
theorem keepU {H : Hp} {b p : Addr} {o o' u : HO} (hb : H b = some o) (hp : H p = some o') (h : o ≠ o') : L2.upd H p u b = some o := by
  have n : b ≠ p := fun z => by
    rw [z, hp] at hb
    exact h (Option.some.inj hb).symm
  rw [upd_ne n]
  exact hb
theorem RowsIn.keep {H : Hp} {p : Addr} {xs : List V} {u : HO} (hp : H p = some (.lst xs)) : ∀ {as : List Addr} {qs : List (Int × Int)}, RowsIn H as qs → RowsIn (L2.upd H p u) as qs
  | [], [], _ => trivial
  | _ :: _, _ :: _, h => ⟨keepU h.1 hp (by intro z; cases z), RowsIn.keep hp h.2⟩
  | [], _ :: _, h => h.elim
  | _ :: _, [], h => h.elim
theorem ItAt.keep {K : PySem.W.Frag} {st : Stmt} {H : Hp} {a g p : Addr} {m : V} {xs : List V} {u : HO} (h : ItAt K st H a g m) (hp : H p = some (.lst xs)) : ItAt K st (L2.upd H p u) a g m := by
  obtain ⟨C, dx, fs, h1, r⟩ := h
  exact ⟨C, dx, fs, keepU h1 hp (by intro z; cases z), r⟩
theorem GridAt.keep {C : Addr} {H : Hp} {g p : Addr} {s o : Int} {xs : List V} {u : HO} (h : GridAt C H g s o) (hp : H p = some (.lst xs)) : GridAt C (L2.upd H p u) g s o := by
  obtain ⟨a, dx, b⟩ := h
  exact ⟨a, dx, keepU b hp (by intro z; cases z)⟩
theorem look_put {f : Str} {v : V} {fs : List (Str × V)} : (putF f v fs).lookup f = some v := by rw [lookup_putF, if_pos rfl]
theorem look_ne {f g : Str} {v : V} {fs : List (Str × V)} (h : ¬ g = f) : (putF f v fs).lookup g = fs.lookup g := by rw [lookup_putF, if_neg h]
theorem putT_grid {g m d : V} {fs : List (Str × V)} : (putT g m d fs).lookup ("grid" : Str) = some g := by
  unfold putT
  rw [look_ne (by decide +kernel), look_ne (by decide +kernel), look_put]
theorem putT_min {g m d : V} {fs : List (Str × V)} : (putT g m d fs).lookup ("minute" : Str) = some m := by
  unfold putT
  rw [look_ne (by decide +kernel), look_put]
theorem putT_no {g m d : V} {fs : List (Str × V)} (h : fs.lookup ("begin_at" : Str) = none) : (putT g m d fs).lookup ("begin_at" : Str) = none := by
  unfold putT
  rw [look_ne (by decide +kernel), look_ne (by decide +kernel), look_ne (by decide +kernel), h]
theorem putI_no {z : Str} {g m d : V} : (putI z g m d []).lookup ("begin_at" : Str) = none := by
  unfold putI
  refine putT_no ?_
  rw [look_ne (by decide +kernel)]
  rfl
theorem ble_f {a b : V} (h : a = b) : V.bl (!decide (a = b)) = V.bl false := by rw [decide_eq_true h]; rfl
def spClock : Sp := fun vs H Q _ => ∃ (p c : Addr) (ns : List Int) (m : Int), vs = [.ref p, .int m] ∧ Pool ns c H p ∧ ∀ (r : V) (H' : Hp), MinOk r → Pool ns c H' p → Off p H H' → Q r H'
def spLaw (K : PySem.W.Frag) : Sp := fun vs H Q _ => ∃ (a : Addr) (ns : List Int), vs = [.ref a] ∧ SqL K H a (ns.map V.int) ∧ ns.length ≤ 63 ∧ ∀ H', Q (.bl true) H'
end Brk

set_option Elab.async false
set_option linter.all false
set_option maxRecDepth 100000
set_option maxHeartbeats 4000000
/-! Own rules: an exception that an except suite keeps in a name, asked behind the try. -/
namespace Brk
open PySem PySem.Spec PyProof.Rows L2

/-- at a stands a caught exception of the class cls with the dict d -/
def ExH (cls : Value) (d : Option Addr) (a : Addr) : HO := .ext fun g => ∃ (ob : Obj) (ws : Array Value), g.get? a = some ob ∧ Zc cls d ob ∧ ob.data = .fields ws
theorem exH_ok {P : Program} {w : World} {H : Hp} {g : Heap} {a : Addr} {cls : Value} {d : Option Addr} {ob : Obj} {ws : Array Value} (e : g.get? a = some ob) (z : Zc cls d ob) (f : ob.data = .fields ws) : ObjOk P w H g a (ExH cls d a) := by
  refine ⟨⟨ob, ws, e, z, f⟩, ⟨ob, e⟩, ?_⟩
  intro g1 g2 hh keep
  obtain ⟨o1, w1, q1, q2⟩ := hh
  exact ⟨o1, w1, keep o1 q1, q2⟩
theorem exH_at {P : Program} {w : World} {H : Hp} {g : Heap} {a : Addr} {cls : Value} {d : Option Addr} (ok : HOk P w H g) (e : H a = some (ExH cls d a)) : ∃ (ob : Obj) (ws : Array Value), g.get? a = some ob ∧ Zc cls d ob ∧ ob.data = .fields ws :=
  (show ObjOk P w H g a (.ext fun g => ∃ (ob : Obj) (ws : Array Value), g.get? a = some ob ∧ Zc cls d ob ∧ ob.data = .fields ws) from ok a _ e).1
section
variable {X : Cx} {pins : List (Addr × Obj)} {σ : L2.St} {H : Hp} {s : Shared} {a : Addr} {o : HO}
/-- what stands at a, made since the frame began, is tracked from now on -/
theorem inv_hold (I : Inv X pins σ H s) (hx : X.ex = []) (old : X.s_0.heap.get? a = none) (na : H a = none) (nl : a ≠ X.env.locals) (nc : ∀ x c, X.env.cells.lookup x = some c → c ≠ a) (np : ∀ q ∈ X.pn ++ pins, q.1 ≠ a)
    (here : ObjOk X.prog X.w (L2.upd H a o) s.heap a o) : Inv X pins σ (L2.upd H a o) s := by
  have away : ∀ b u, X.s_0.heap.get? b = some u → b ≠ a := by
    intro b u e z
    rw [z, old] at e
    cases e
  refine ⟨I.ok, I.os, I.bare, ⟨I.base.keep, I.base.slot, ?_, I.base.there, ?_, ?_, ?_⟩, I.loc, I.cell, ?_, ?_, ?_, ?_, I.len⟩
  · intro b u e n hn
    rw [upd_ne (away b u e)]
    exact I.base.free b u e n hn
  · intro b xs e
    have q := I.base.tups b xs e
    rw [upd_ne (ne_of_none q na)]
    exact q
  · intro b u v e
    have q := I.base.frzs b u v e
    rw [upd_ne (ne_of_none q na)]
    exact q
  · intro b qs e
    obtain ⟨m, q⟩ := I.base.tbls b qs e
    exact ⟨m, by rw [upd_ne (ne_of_none q na)]; exact q⟩
  · rw [upd_ne nl.symm]
    exact I.free
  · intro x c e
    rw [upd_ne (nc x c e)]
    exact I.freeC x c e
  · intro q hq
    obtain ⟨e1, e2, e3⟩ := I.pin q hq
    exact ⟨e1, by rw [upd_ne (np q hq)]; exact e2, e3⟩
  · intro b u e
    by_cases hb : b = a
    · subst hb
      rw [upd_same] at e
      cases e
      exact here
    · rw [upd_ne hb] at e
      exact (I.hok b u e).stay (fun _ _ _ q => q) (fun c q => by rw [upd_ne (ne_of_none q na)]; exact q) fun c xs q => by rw [upd_ne (ne_of_none q na)]; exact q
end

/-- what such a try wishes of an exception of its body: the clause is its own, and the suite goes through to its end; behind it the exception is tracked -/
def wHold (K : PySem.W.Frag) (c : Value) (i : Nat) (ts : Addr → Value → Option Addr → TS) (D : Ends) : WX := fun cls d σ H =>
  PySem.W.exmOne K cls c = some true ∧ ∀ a, H a = none → ts a cls d { nx := fun σ1 H1 => D.nx (σ1.set i none) (L2.upd H1 a (ExH cls d a)), rt := fun _ _ => False, bk := fun _ _ => False, ct := fun _ _ => False } (σ.set i (some (.ref a))) H
section
variable {X : Cx} {x n : Str} {c : Value} {i : Nat} {body suite : List Stmt} {b0 : Stmt} {np pos pos1 : Pos} {tb : WX → TS} {ts : Addr → Value → Option Addr → TS}
/-- try: body / except x as n: suite, where the suite may hand the exception to a name -/
theorem ps_try_hold (hst : X.stack = X.env :: X.outer) (hfr : X.env.frame = some X.env.locals) (hnd : X.N.Nodup) (hslot : X.N[i]? = some n) (hloc : X.env.kindOf n = some .local) (hnm : Names X x c) (hex : X.ex = [])
    (hbody : ∀ (W : WX) (pn : List (Addr × Obj)) (xe : Value → Shared → Prop), Takes (X.tr pn xe) W → PassesOwn (model X.prog X.w) X.A X.env xe → PSs (X.tr pn xe) body (tb W))
    (hsuite : ∀ (a : Addr) (ob : Obj) (cls : Value) (d : Option Addr) (pn : List (Addr × Obj)), Zc cls d ob → (∃ ws, ob.data = .fields ws) → PSs (X.suite a ((a, ob) :: pn)) (b0 :: suite) (ts a cls d)) :
    PS X (.Try body [.ExceptHandler (some (.Name x np)) (some n) (b0 :: suite) pos1] [] [] pos) (fun D σ H => tb (wHold X.K c i ts D) D σ H) := by
  constructor
  intro pins s σ H D I h
  have good := I.ok
  have frames : X.A.frames = some (X.env :: X.outer) := by rw [good.frames, hst]
  refine wpAny_Try_except (wpAny_mono ((hbody (wHold X.K c i ts D) (X.pn ++ pins) (fun ex sh => wpAny (model X.prog X.w) X.A (noteFrame ex X.env)
    (fun _ sh1 => wpAny (model X.prog X.w) X.A (setFlight ex none) (fun _ sh2 => wpAny (model X.prog X.w) X.A (handleBy ex X.env [.ExceptHandler (some (.Name x np)) (some n) (b0 :: suite) pos1]) (SP X pins D) X.xe sh2) X.xe sh1) X.xe sh) ?_ PassesOwn.looking).run [] s σ H D (I.toTry _) h) ?_ fun _ _ z => z)
  · intro v sh air
    obtain ⟨a, B, sI, pinsI, σI, HI, cls, d, rfl, JI, ground, slots, sky, na, os, bare, caught, then_⟩ := air
    have J : Inv X pins σI HI sI := JI.ofTry good
    have sky2 : Sky B (X.env :: X.outer) a (Zc cls d) X.env.locals sh.heap := hst ▸ sky
    show wpAny _ _ (noteFrame (.ref a) X.env) _ _ _
    refine Sky.land Zc.steady frames hfr sky2 ?_
    intro g3 fly3 slots3
    have J3 : Inv X pins σI HI { sh with heap := g3 } := J.landed ground fly3.1 (slots.trans slots3) os bare
    obtain ⟨ob3, ws3, at3, z3, f3⟩ := fly3.there
    have nofr : a ∉ frs (X.env :: X.outer) := by
      intro hm
      obtain ⟨_, o1, e1, e2⟩ := (fly3.2.2.1).mem hm
      rw [at3] at e1
      cases e1
      exact e2 _ f3
    have nL : a ≠ X.env.locals := by
      intro z
      exact nofr (List.mem_filterMap.mpr ⟨X.env, List.mem_cons_self, by rw [hfr, z]⟩)
    have nF : a ∉ X.fs := by
      intro hm
      obtain ⟨e, he, q⟩ := List.mem_filterMap.mp hm
      exact nofr (List.mem_filterMap.mpr ⟨e, List.mem_cons_of_mem _ he, q⟩)
    have newI : sI.heap.get? a = none := by
      cases q : sI.heap.get? a with
      | none => rfl
      | some u =>
        have z := ground a u q (by rw [hst]; exact nofr)
        rw [fly3.2.1] at z
        cases z
    have new0 : X.s_0.heap.get? a = none := by
      cases q : X.s_0.heap.get? a with
      | none => rfl
      | some u =>
        obtain ⟨u2, q2⟩ := J.base.there a u q (by rw [hex]; exact fun z => nomatch z)
        rw [newI] at q2
        cases q2
    have S3 := J3.suite at3 f3 na nL nF
    refine wpAny_handleBy_cons (codeAny_handlers_test ?_) (by intro q; cases q)
    have kind : PySem.W.Looks (model X.prog X.w) g3 (typeOf (.ref a)) cls := by
      intro A Q E s1 keep q
      exact wpAny_typeOf_ref (keep _ _ at3) (by rw [z3.1]; exact q)
    have match_ := PySem.W.exm_one (M := model X.prog X.w) (J3.kIn) kind caught
    have named : ∀ {Q : Value → Shared → Prop} {E : Value → Shared → Prop}, Q c { sh with heap := g3 } → wpAny (model X.prog X.w) (X.A.mark (some (.ref a))) (eval (.Name x np) X.env) Q E { sh with heap := g3 } := by
      intro Q E q
      obtain ⟨hg, hdbg, hm | ⟨hm, hv, hnn⟩⟩ := hnm
      · exact ld_glob (X := X.suite a ((a, ob3) :: (X.pn ++ pins))) S3 hg hm q hdbg
      · exact ld_blt (X := X.suite a ((a, ob3) :: (X.pn ++ pins))) S3 hg hm hv q hnn hdbg
    refine named (match_.here (codeAny_handlers_suite_as (HandSPX.lands_againZ fly3 ?_)))
    intro g4 fly4 slots4
    have J4 : Inv X pins σI HI { sh with heap := g4 } := J.landed ground fly4.1 ((slots.trans slots3).trans slots4) os bare
    obtain ⟨ob4, ws4, at4, z4, f4⟩ := fly4.there
    have S4 := J4.suite at4 f4 na nL nF
    refine store_ok (X := X.suite a ((a, ob4) :: (X.pn ++ pins))) (v := .ref a) S4 hnd hslot (.inl hloc) rfl (fun s5 S5 => ?_) (.inr hloc)
    refine wpAny_mono ((hsuite a ob4 cls d (X.pn ++ pins) z4 ⟨_, f4⟩).run [] s5 _ HI _ S5 (then_ a na)) ?_ fun _ _ z => False.elim z
    intro fl s6 q6
    cases fl with
    | next =>
      obtain ⟨σ6, H6, S6, q⟩ := q6
      refine gone_ok (X := X.suite a ((a, ob4) :: (X.pn ++ pins))) S6 hnd hslot hloc ?_
      intro s7 S7
      obtain ⟨at7, na7, _⟩ := S7.pin (a, ob4) (List.mem_append_left _ List.mem_cons_self)
      refine ⟨_, _, inv_hold (S7.unsuite good) hex new0 na7 nL ?_ ?_ (exH_ok at7 z4 f4), q⟩
      · intro y cc e z
        obtain ⟨u, o1, e1, e2⟩ := S7.cell y cc e
        rw [z, at7] at e1
        cases e1
        rw [f4] at e2
        cases e2
      · intro p hp z
        have e1 := (J.pin p hp).1
        rw [z, newI] at e1
        cases e1
    | brk =>
      obtain ⟨_, _, _, z⟩ := q6
      exact z.elim
    | cont =>
      obtain ⟨_, _, _, z⟩ := q6
      exact z.elim
    | ret u =>
      obtain ⟨_, _, _, _, _, z⟩ := q6
      exact z.elim
  · intro fl s1 q1
    cases fl with
    | next =>
      obtain ⟨σ1, H1, J1, q⟩ := q1
      exact wpAny_execs_nil ⟨σ1, H1, J1.ofTry good, q⟩
    | brk =>
      obtain ⟨σ1, H1, J1, q⟩ := q1
      exact ⟨σ1, H1, J1.ofTry good, q⟩
    | cont =>
      obtain ⟨σ1, H1, J1, q⟩ := q1
      exact ⟨σ1, H1, J1.ofTry good, q⟩
    | ret u =>
      obtain ⟨v1, σ1, H1, J1, r1, q⟩ := q1
      exact ⟨v1, σ1, H1, J1.ofTry good, r1, q⟩
end
end Brk
namespace Brk
open PySem PySem.Spec PyProof.Rows L2
/-- the object at a, an instance of the exception class at D, its dict (none, or tracked) -/
theorem exH_inst {X : Cx} {pins : List (Addr × Obj)} {σ : L2.St} {H : Hp} {s : Shared} {a D : Addr} {d : Option Addr} (I : Inv X pins σ H s) (e : H a = some (ExH (.ref D) d a)) (hd : d = none ∨ ∃ dd fs, d = some dd ∧ H dd = some (.xd fs)) :
    ∃ (ob : Obj) (od : Option Obj), PySem.W.InstAt s.heap a ob D od := by
  obtain ⟨ob, ws, e1, e2, e3⟩ := exH_at I.hok e
  rcases hd with rfl | ⟨dd, fs, rfl, hdd⟩
  · exact ⟨ob, none, e1, e2.1, by unfold PySem.W.notCls; rw [e3] <;> rfl, by rw [e2.2]; trivial⟩
  · obtain ⟨mA, hns, _⟩ := (show ObjOk X.prog X.w H s.heap dd (.xd fs) from I.hok dd _ hdd)
    obtain ⟨od, ho, _⟩ := lookIn_ns hns
    exact ⟨ob, some od, e1, e2.1, by unfold PySem.W.notCls; rw [e3] <;> rfl, by rw [e2.2]; exact ho⟩
/-- the held exception at a in H -/
def HeldAt (H : Hp) (a D : Addr) : Prop := ∃ d, H a = some (ExH (.ref D) d a) ∧ (d = none ∨ ∃ dd fs, d = some dd ∧ H dd = some (.xd fs))
section
variable {X : Cx}
theorem call_isH : CallR X (.builtin "isinstance") (fun xs H Q => ∃ (a D : Addr) (c : V) (cv : Value) (b : Bool), xs = [.ref a, c] ∧ ClsV c cv ∧ HeldAt H a D ∧ ExcC X.K D ∧ PySem.W.kitOne X.K (.ref D) cv = some b ∧ Q (.bl b) H) := by
  intro pins s σ H xs us Q I r h
  obtain ⟨a, D, c, cv, b, rfl, k, ⟨d, ha, hd⟩, C, e, q⟩ := h
  obtain ⟨u1, u2, rfl, r1, r2⟩ := vals2 r
  have e2 := k.eq r2
  subst e2
  cases r1
  obtain ⟨ob, od, J⟩ := exH_inst I ha hd
  have hcl : (PySem.W.clsIn X.K D).isSome = true := by
    obtain ⟨cd, hc, _⟩ := PySem.W.any_some C.hd
    rw [hc]
    rfl
  exact PySem.W.kia_one (PySem.W.kitx_exc hcl C.hg C.hk C.hs C.ha C.hn C.ht C.hm) I.kIn J e (fun z => nomatch z) fun tk => ⟨.bl b, H, I.tok tk, rfl, q⟩
theorem call_isHT : CallR X (.builtin "isinstance") (fun xs H Q => ∃ (a D tp : Addr) (cs : List V) (ws : List Value) (b : Bool), xs = [.ref a, .ref tp] ∧ H tp = some (.tup cs) ∧ Paired ClsV cs ws ∧ HeldAt H a D ∧ ExcC X.K D ∧ PySem.W.kitAny X.K (.ref D) ws = some b ∧ Q (.bl b) H) := by
  intro pins s σ H xs us Q I r h
  obtain ⟨a, D, tp, cs, ws, b, rfl, hT, k, ⟨d, ha, hd⟩, C, e, q⟩ := h
  obtain ⟨u1, u2, rfl, r1, r2⟩ := vals2 r
  cases (show u2 = Value.ref tp from r2)
  cases (show u1 = Value.ref a from r1)
  obtain ⟨ob, od, J⟩ := exH_inst I ha hd
  obtain ⟨_, its, rv, o, h1, h2, n, h3⟩ := (show ObjOk X.prog X.w H s.heap tp (.tup cs) from I.hok tp _ hT)
  have e3 := ClsV.all k rv
  subst e3
  obtain ⟨oc, od2, dt, sl⟩ := o
  dsimp only at h2 h3
  subst h2 h3
  have hcl : (PySem.W.clsIn X.K D).isSome = true := by
    obtain ⟨cd, hc, _⟩ := PySem.W.any_some C.hd
    rw [hc]
    rfl
  exact PySem.W.kia_tup (PySem.W.kitx_exc hcl C.hg C.hk C.hs C.ha C.hn C.ht C.hm) I.kIn J h1 e (fun z => nomatch z) fun tk => ⟨.bl b, H, I.tok tk, rfl, q⟩
/-- e.n, e a held exception -/
theorem pe_xh {e : Expr} {te : TE} {pos : Pos} {n : Str} (he : PE X e te) (hb : attributeBase e n X.env (eval e X.env) = eval e X.env := by rfl) :
    PE X (.Attribute e n pos) (fun σ H Q => te σ H fun x H1 => ∃ (a C dd : Addr) (fs : List (Str × V)) (v : V), x = .ref a ∧ H1 a = some (ExH (.ref C) (some dd) a) ∧ H1 dd = some (.xd fs) ∧ XfC X.K C ∧ PySem.W.findIn X.K (.ref C) n = some none ∧ fs.lookup n = some v ∧ Q v H1) := by
  constructor
  intro pins s σ H Q I h
  refine attr_of hb (thn (he.run pins s σ H _ I h) ?_)
  intro u s1 hh
  obtain ⟨x, H1, I1, rx, a, C, dd, fs, v, ex, ha, hdd, T, hno, l, q⟩ := hh
  subst ex
  obtain rfl : u = Value.ref a := rx
  obtain ⟨ob, ws, e1, e2, e3⟩ := exH_at I1.hok ha
  obtain ⟨mA, hns, hr⟩ := (show ObjOk X.prog X.w H1 s1.heap dd (.xd fs) from I1.hok dd _ hdd)
  obtain ⟨od, ho, hl⟩ := lookIn_ns hns
  obtain ⟨u, hu, ru⟩ := RelO.some_of (v := v) (o := mA n) (by rw [← l]; exact hr n)
  have J : PySem.W.InstAt s1.heap a ob C (some od) := ⟨e1, e2.1, by unfold PySem.W.notCls; rw [e3] <;> rfl, by rw [e2.2]; exact ho⟩
  exact HandSPX.exc_get I1.kIn J T.ga T.gg T.exC (PySem.W.findObj_own T.hdC hno rfl (by rw [hl, hu])) (handed_of ru) ⟨v, H1, I1.tok _, ru, q⟩
end

/-! ### own error classes with an __init__ of one field, of two -/
def spEr1 (C : Addr) (f : Str) : Sp := fun vs H Q _ => ∃ (a : Addr) (v : V), vs = [.ref a, v] ∧ H a = some (exo a C none) ∧ ∀ dx, H dx = none → dx ≠ a → Q .non (L2.upd (L2.upd H dx (exd dx [(f, v)])) a (exo a C (some dx)))
def spEr2 (C : Addr) (f g : Str) : Sp := fun vs H Q _ => ∃ (a : Addr) (v w : V), vs = [.ref a, v, w] ∧ H a = some (exo a C none) ∧ ∀ dx, H dx = none → dx ≠ a → Q .non (L2.upd (L2.upd (L2.upd H dx (exd dx [(f, v)])) a (exo a C (some dx))) dx (exd dx [(g, w), (f, v)]))
/-- the error class of the name x, at C, whose __init__ keeps sp -/
structure ErC (P : Program) (w : World) (K : PySem.W.Frag) (mg : Str → Option Value) (base : Heap) (x : Str) (C : Addr) (ps : List Str) (sp : Sp) : Prop where
  T : OexC K C
  m : mg x = some (.ref C)
  ex : ∃ (fI : Addr) (fd : FuncData), PySem.W.findIn K (.ref C) "__init__" = some (some (.ref fI)) ∧ PySem.W.typeIn K (.ref fI) = some (.type "function") ∧ Binds K fd ps [] ∧ FnOk P w K mg base CX0 1 fI fd ps sp
/-- .. as the text gives it -/
structure ErF (K : PySem.W.Frag) (mg : Str → Option Value) (x : Str) (C : Addr) (qual : Str) (st : Stmt) (ps : List Str) : Prop where
  T : OexC K C
  m : mg x = some (.ref C)
  ex : ∃ (fI : Addr) (fd : FuncData), PySem.W.findIn K (.ref C) "__init__" = some (some (.ref fI)) ∧ PySem.W.typeIn K (.ref fI) = some (.type "function") ∧ Binds K fd ps [] ∧ Fun K "__init__" qual st fI fd
theorem del_made {H : Hp} {a d : Addr} {o1 o2 o3 o4 : HO} (ha : H a = none) (hd : H d = none) (n : d ≠ a) : L2.upd (del (L2.upd (L2.upd (L2.upd H a o1) d o2) a o3) a) d o4 = L2.upd H d o4 := by
  funext b
  by_cases h1 : b = d
  · rw [h1, upd_same, upd_same]
  · rw [upd_ne h1, upd_ne h1]
    by_cases h2 : b = a
    · rw [h2, del_same, ha]
    · rw [del_ne h2, upd_ne h2, upd_ne h1, upd_ne h2]
theorem del_made2 {H : Hp} {a d : Addr} {o1 o2 o3 o4 o5 : HO} (ha : H a = none) (hd : H d = none) (n : d ≠ a) : L2.upd (del (L2.upd (L2.upd (L2.upd (L2.upd H a o1) d o2) a o3) d o5) a) d o4 = L2.upd H d o4 := by
  funext b
  by_cases h1 : b = d
  · rw [h1, upd_same, upd_same]
  · rw [upd_ne h1, upd_ne h1]
    by_cases h2 : b = a
    · rw [h2, del_same, ha]
    · rw [del_ne h2, upd_ne h1, upd_ne h2, upd_ne h1, upd_ne h2]

section
variable {X : Cx} {x : Str} {C : Addr} {ps : List Str} {sp : Sp} {e : Expr} {es : List Expr} {ta : TA} {p pos : Pos}
theorem pmk_er (R : ErC X.prog X.w X.K X.mg X.base x C ps sp) (hr : Room 2 X.A) (hg : Gl X x) (ha : PA X (e :: es) ta)
    (hdb : (x == ("__debug__" : Str)) = false := by decide) (hs : starEach (e :: es) X.env = (false, eval e X.env) :: starEach es X.env := by rfl) (hpl : (backTo pos (starEach es X.env)).any (·.1) = false := by rfl) :
    PMk X (.Call (.Name x p) (e :: es) [] pos) (tMkO C sp [] ta) := by
  obtain ⟨fI, fd, i1, i2, hb, F⟩ := R.ex
  exact pmk_oex R.T i1 i2 F hr hb .nil (fun _ _ _ _ _ _ _ z => z.elim) hg R.m ha hdb hs hpl
/-- f(e, ..), where what f raises is wished for at the slots -/
theorem pe_dS {k : Nat} {E : L2.St → XK} (D : Dk X.prog X.w X.K X.mg X.base (L2.CX X.prog X.w) k x ps sp) (hr : Room k X.A) (hx : ∀ σ, PassesAt (L2.CX X.prog X.w) X σ (E σ)) (hg : Gl X x) (ha : PA X (e :: es) ta)
    (hdb : (x == ("__debug__" : Str)) = false := by decide) (hs : starEach (e :: es) X.env = (false, eval e X.env) :: starEach es X.env := by rfl) (hpl : (backTo pos (starEach es X.env)).any (·.1) = false := by rfl) :
    PE X (.Call (.Name x p) (e :: es) [] pos) (tCallS sp E ta) := by
  obtain ⟨f, fd, hm, hk, hb, F⟩ := D
  exact pe_callS F hr hg hm hk hb hx ha hdb hs hpl
end
theorem look1 {f : Str} {v : V} : List.lookup f [(f, v)] = some v := by simp [List.lookup]
theorem exc_xf {K : PySem.W.Frag} {D : Addr} (h : ExcC K D) : XfC K D := ⟨h.hg, h.hk, h.hs, h.hd⟩
theorem kitAny_no {K : PySem.W.Frag} {t c : Value} {cs : List Value} (h : PySem.W.kitOne K t c = some false) (r : PySem.W.kitAny K t cs = some false) : PySem.W.kitAny K t (c :: cs) = some false := kitAny_cons h (fun _ => r) fun z => nomatch z
theorem HeldAt.same {H H' : Hp} {a D : Addr} (h : HeldAt H a D) (s : Same H H') : HeldAt H' a D := by
  obtain ⟨d, e, q⟩ := h
  refine ⟨d, s _ _ e, ?_⟩
  rcases q with q | ⟨dd, fs, e1, e2⟩
  · exact .inl q
  · exact .inr ⟨dd, fs, e1, s _ _ e2⟩
theorem kStr {K : PySem.W.Frag} : PySem.W.kitOne K (.type "str") (.type "str") = some true := kit_ty (by decide +kernel)
end Brk

set_option Elab.async false
set_option linter.all false
set_option maxRecDepth 100000
set_option maxHeartbeats 4000000
/-! Own words about texts: written numbers. -/
namespace Brk
open PySem PySem.Spec PyProof.Rows L2
/-! ### written numbers, as lists of signs -/
def digL (l : List Nat) : Bool := l.all fun c => decide (48 ≤ c ∧ c ≤ 57)
theorem digL_all {l : List Nat} : digL l = true ↔ NumText.AllDigits l := by
  unfold digL NumText.AllDigits
  simp
/-- the digits behind a minus -/
def bodyL : List Nat → List Nat
  | 45 :: r => r
  | l => l
def negL : List Nat → Bool
  | 45 :: _ => true
  | _ => false
def valL (l : List Nat) : Option Int :=
  if 1 ≤ (bodyL l).length ∧ (bodyL l).length ≤ 40 then
    if digL (bodyL l) = true then
      if (bodyL l).head? = some 48 ∧ (negL l = true ∨ 1 < (bodyL l).length) then none
      else some (if negL l = true then 0 - (NumText.digitsVal (bodyL l) : Int) else (NumText.digitsVal (bodyL l) : Int))
    else none
  else none
def numberB (l : List Nat) : Bool :=
  if l = [48] then true else decide (1 ≤ (bodyL l).length) && (decide ((bodyL l).length ≤ 40) && (!decide ((bodyL l).head? = some 48) && digL (bodyL l)))
theorem number_val (l : List Nat) : numberB l = (valL l).isSome := by
  unfold numberB valL
  by_cases h0 : l = [48]
  · subst h0
    decide
  · rw [if_neg h0]
    by_cases h1 : 1 ≤ (bodyL l).length ∧ (bodyL l).length ≤ 40
    · rw [if_pos h1, decide_eq_true h1.1, decide_eq_true h1.2]
      by_cases h2 : digL (bodyL l) = true
      · rw [if_pos h2, h2]
        by_cases h3 : (bodyL l).head? = some 48
        · rw [decide_eq_true h3]
          by_cases h4 : negL l = true ∨ 1 < (bodyL l).length
          · rw [if_pos ⟨h3, h4⟩]
            rfl
          · exfalso
            have h5 : ¬ negL l = true := fun z => h4 (.inl z)
            have h6 : ¬ 1 < (bodyL l).length := fun z => h4 (.inr z)
            have e : bodyL l = l := by
              unfold bodyL
              split
              · exact absurd rfl h5
              · rfl
            rw [e] at h3 h6 h1
            match l, h3, h6, h1 with
            | [x], h3, _, _ =>
              have ex : x = 48 := by simpa using h3
              exact h0 (by rw [ex])
            | [], _, _, h1 => simp at h1
            | _ :: _ :: _, _, h6, _ => simp at h6
        · rw [decide_eq_false h3, if_neg (fun z => h3 z.1)]
          rfl
      · rw [if_neg h2, Bool.eq_false_iff.mpr h2]
        simp
    · rw [if_neg h1]
      by_cases h2 : 1 ≤ (bodyL l).length
      · rw [decide_eq_true h2, decide_eq_false (fun z => h1 ⟨h2, z⟩)]
        rfl
      · rw [decide_eq_false h2]
        rfl
/-- digits without a needless zero ahead are the signs of their value -/
theorem num_of_digits : ∀ (n : Nat) (l : List Nat), l.length = n → NumText.AllDigits l → l ≠ [] → (l.head? = some 48 → l.length = 1) → TL.numL (NumText.digitsVal l) = l ∧ (l.head? ≠ some 48 → 1 ≤ NumText.digitsVal l) := by
  intro n
  induction n with
  | zero =>
    intro l h _ hn
    exact absurd (List.length_eq_zero_iff.mp h) hn
  | succ n ih =>
    intro l h hd hn hz
    obtain ⟨r, c, rfl⟩ : ∃ r c, l = r ++ [c] := ⟨l.dropLast, l.getLast hn, (List.dropLast_concat_getLast hn).symm⟩
    have hc : 48 ≤ c ∧ c ≤ 57 := hd c (by simp)
    have hv : NumText.digitsVal (r ++ [c]) = NumText.digitsVal r * 10 + (c - 48) := by
      unfold NumText.digitsVal
      rw [List.foldl_append]
      rfl
    by_cases hr : r = []
    · subst hr
      have e : NumText.digitsVal ([] ++ [c]) = c - 48 := by rw [hv]; show 0 * 10 + (c - 48) = _; omega
      rw [e]
      constructor
      · rw [TL.numL_lt (by omega)]
        show [48 + (c - 48)] = [c]
        congr 1
        omega
      · intro q
        have : c ≠ 48 := fun z => q (by rw [z]; rfl)
        omega
    · have hrl : r.length = n := by
        rw [List.length_append, List.length_singleton] at h
        omega
      have h0 : r.head? ≠ some 48 := by
        intro q
        have q2 : (r ++ [c]).head? = some 48 := by
          rw [List.head?_append, q]
          rfl
        have z := hz q2
        rw [List.length_append, List.length_singleton] at z
        exact hr (List.length_eq_zero_iff.mp (by omega))
      obtain ⟨i1, i2⟩ := ih r hrl (fun x hx => hd x (by simp [hx])) hr (fun q => absurd q h0)
      have p := i2 h0
      rw [hv]
      constructor
      · rw [TL.numL_step (by omega)]
        have e1 : (NumText.digitsVal r * 10 + (c - 48)) / 10 = NumText.digitsVal r := by omega
        have e2 : 48 + (NumText.digitsVal r * 10 + (c - 48)) % 10 = c := by omega
        rw [e1, e2, i1]
      · intro _
        omega

/-! ### texts and their signs -/
theorem str_ext {a b : Str} (h : a.cps.toList = b.cps.toList) : a = b := by
  obtain ⟨x⟩ := a
  obtain ⟨y⟩ := b
  have e : x = y := Array.toList_inj.mp h
  rw [e]
theorem body_neg {l : List Nat} (h : negL l = true) : l = 45 :: bodyL l := by
  unfold negL at h
  split at h
  · rfl
  · exact absurd h Bool.false_ne_true
theorem body_pos {l : List Nat} (h : negL l = false) : bodyL l = l := by
  unfold negL at h
  unfold bodyL
  split at h
  · exact absurd h.symm Bool.false_ne_true
  · rfl
theorem body_len (l : List Nat) : (bodyL l).length ≤ l.length := by
  unfold bodyL
  split <;> simp
theorem val_parts {l : List Nat} {v : Int} (h : valL l = some v) : 1 ≤ (bodyL l).length ∧ (bodyL l).length ≤ 40 ∧ NumText.AllDigits (bodyL l) ∧ ((bodyL l).head? = some 48 → (bodyL l).length = 1 ∧ negL l = false) ∧
    v = (if negL l = true then 0 - (NumText.digitsVal (bodyL l) : Int) else (NumText.digitsVal (bodyL l) : Int)) := by
  unfold valL at h
  split at h
  · rename_i h1
    split at h
    · rename_i h2
      split at h
      · cases h
      · rename_i h3
        refine ⟨h1.1, h1.2, digL_all.mp h2, fun q => ?_, (Option.some.inj h).symm⟩
        constructor
        · have z : ¬ 1 < (bodyL l).length := fun z => h3 ⟨q, .inr z⟩
          have := h1.1
          omega
        · exact Bool.eq_false_iff.mpr fun z => h3 ⟨q, .inl z⟩
    · cases h
  · cases h
theorem int_of_text {z : Str} {v : Int} (h : valL z.cps.toList = some v) : intText? z = some v := by
  obtain ⟨h1, h2, h3, h4, rfl⟩ := val_parts h
  have ne : bodyL z.cps.toList ≠ [] := fun e => by rw [e] at h1; exact absurd h1 (by decide)
  have hl : z.length = z.cps.toList.length := (Array.length_toList).symm
  cases hn : negL z.cps.toList with
  | true =>
    have e := body_neg hn
    have q := intText_neg e h3 ne (by rw [hl, e, List.length_cons]; omega)
    rw [q, if_pos rfl]
    congr 1
    omega
  | false =>
    have e := body_pos hn
    rw [e] at h1 h2 h3 ne ⊢
    have q := intText_digits h3 ne (by rw [hl]; omega)
    rw [q, if_neg Bool.false_ne_true]
theorem text_of_int {z : Str} {v : Int} (h : valL z.cps.toList = some v) : Str.ofString (toString v) = z := by
  obtain ⟨h1, h2, h3, h4, rfl⟩ := val_parts h
  have ne : bodyL z.cps.toList ≠ [] := fun e => by rw [e] at h1; exact absurd h1 (by decide)
  obtain ⟨d1, d2⟩ := num_of_digits _ _ rfl h3 ne (fun q => (h4 q).1)
  refine str_ext ?_
  cases hn : negL z.cps.toList with
  | true =>
    have h0 : (bodyL z.cps.toList).head? ≠ some 48 := fun q => by
      have := (h4 q).2
      rw [hn] at this
      cases this
    have p := d2 h0
    have e := body_neg hn
    rw [if_pos rfl, PyProof.Rows.toString_neg (by omega)]
    have e2 : (0 - (0 - (NumText.digitsVal (bodyL z.cps.toList) : Int))) = ((NumText.digitsVal (bodyL z.cps.toList) : Nat) : Int) := by omega
    rw [e2, signs_ofString, String.toList_append, List.map_append, ← signs_ofString (toString _)]
    have e3 := TL.tl_num (NumText.digitsVal (bodyL z.cps.toList))
    unfold TL.tl at e3
    rw [e3, d1, e]
    rfl
  | false =>
    have e := body_pos hn
    rw [if_neg Bool.false_ne_true]
    have e3 := TL.tl_num (NumText.digitsVal (bodyL z.cps.toList))
    unfold TL.tl at e3
    rw [e3, d1, e]
theorem digits_lt : ∀ {l : List Nat}, NumText.AllDigits l → NumText.digitsVal l < 10 ^ l.length := by
  have key : ∀ (l : List Nat) (a k : Nat), NumText.AllDigits l → a < 10 ^ k → l.foldl (fun acc c => acc * 10 + (c - 48)) a < 10 ^ (k + l.length) := by
    intro l
    induction l with
    | nil => intro a k _ h; exact h
    | cons c r ih =>
      intro a k h ha
      have hc := h c (List.mem_cons_self ..)
      have q := ih (a * 10 + (c - 48)) (k + 1) (fun x hx => h x (List.mem_cons_of_mem _ hx)) (by rw [Nat.pow_succ]; omega)
      rw [List.foldl_cons, List.length_cons]
      have e : k + (r.length + 1) = k + 1 + r.length := by omega
      rw [e]
      exact q
  intro l h
  have q := key l 0 0 h (by decide)
  rw [Nat.zero_add] at q
  exact q
theorem val_small {l : List Nat} {v : Int} (h : valL l = some v) : v.natAbs.log2 < 1920 := by
  obtain ⟨h1, h2, h3, h4, rfl⟩ := val_parts h
  have q := digits_lt h3
  have b : NumText.digitsVal (bodyL l) < 10 ^ 40 := Nat.lt_of_lt_of_le q (Nat.pow_le_pow_right (by decide) h2)
  have e : (if negL l = true then 0 - (NumText.digitsVal (bodyL l) : Int) else (NumText.digitsVal (bodyL l) : Int)).natAbs = NumText.digitsVal (bodyL l) := by
    split <;> omega
  rw [e]
  by_cases z : NumText.digitsVal (bodyL l) = 0
  · rw [z]
    decide
  · exact (Nat.log2_lt z).mpr (Nat.lt_of_lt_of_le (m := 2 ^ 133) (by omega) (Nat.pow_le_pow_right (by decide) (by decide)))
/-- the first sign, the rest -/
theorem cut_first {z : Str} : decide (V.str (cutS z none (some 1)) = V.str "-") = negL z.cps.toList := by
  have e : (cutS z none (some 1)).cps.toList = z.cps.toList.take 1 := by
    unfold cutS
    rw [HT.sIx_none]
    have e1 : HT.sIx z.length z.length (some 1) = min 1 z.length := HT.sIx_nat _ _ 1
    rw [e1]
    show ((z.cps.toList.drop 0).take (min 1 z.length - 0)) = _
    rw [List.drop_zero, Nat.sub_zero]
    have hl : z.length = z.cps.toList.length := (Array.length_toList).symm
    rw [hl, List.take_eq_take_iff]
    omega
  have m : ("-" : Str).cps.toList = [45] := by decide +kernel
  cases hn : negL z.cps.toList with
  | true =>
    refine decide_eq_true ?_
    congr 1
    refine str_ext ?_
    rw [e, m, body_neg hn]
    rfl
  | false =>
    refine decide_eq_false fun q => ?_
    have q2 := congrArg (fun s : Str => s.cps.toList) (V.str.inj q)
    simp only [e, m] at q2
    cases hz : z.cps.toList with
    | nil => rw [hz] at q2; cases q2
    | cons c r =>
      rw [hz] at q2 hn
      have ec : c = 45 := by simpa using q2
      rw [ec] at hn
      cases hn
theorem cut_rest {z : Str} (h : negL z.cps.toList = true) : (cutS z (some 1) none).cps.toList = bodyL z.cps.toList := by
  have e := body_neg h
  have hl : z.length = z.cps.toList.length := (Array.length_toList).symm
  unfold cutS
  have e1 : HT.sIx z.length 0 (some 1) = min 1 z.length := HT.sIx_nat _ _ 1
  rw [e1, HT.sIx_none]
  have e2 : min 1 z.length = 1 := by rw [hl, e, List.length_cons]; omega
  rw [e2]
  show (z.cps.toList.drop 1).take (z.length - 1) = _
  rw [List.take_of_length_le (by rw [List.length_drop, ← hl]; exact Nat.le_refl _)]
  rw [e]
  rfl

theorem cut_prefix {z : Str} : (Txt.removeprefix z "-").cps.toList = bodyL z.cps.toList := by
  have hl : z.length = z.cps.toList.length := (Array.length_toList).symm
  have em : ("-" : Str) = ⟨#[45]⟩ := by decide +kernel
  unfold Txt.removeprefix
  rw [em]
  cases hn : negL z.cps.toList with
  | true =>
    have e := body_neg hn
    have h1 : Builtin.Str.subAt z ⟨#[45]⟩ 0 = true := ((StrLaws.subAt_one z 45 0).mpr (by rw [e]; rfl)).2
    rw [h1, if_pos rfl]
    have h2 : 1 ≤ z.length := by rw [hl, e, List.length_cons]; omega
    show (Txt.affix z (some (1, z.length))).cps.toList = _
    unfold Txt.affix
    have h3 : (z.length - 1 == z.length) = false := by
      rw [beq_eq_false_iff_ne]
      omega
    dsimp only
    rw [h3, if_neg Bool.false_ne_true]
    show (z.cps.extract 1 z.length).toList = _
    rw [Array.toList_extract, List.extract_eq_drop_take]
    rw [List.take_of_length_le (by rw [List.length_drop, hl]; exact Nat.le_refl _)]
    rw [e]
    rfl
  | false =>
    have h1 : Builtin.Str.subAt z ⟨#[45]⟩ 0 = false := by
      refine Bool.eq_false_iff.mpr fun q => ?_
      cases hz : z.cps.toList with
      | nil =>
        have ez : z = ⟨#[]⟩ := str_ext hz
        rw [ez] at q
        exact absurd q (by decide +kernel)
      | cons c r =>
        have q2 := (StrLaws.subAt_one z 45 0).mp ⟨by rw [hl, hz]; show 0 + 1 ≤ r.length + 1; omega, q⟩
        rw [hz] at q2 hn
        have ec : c = 45 := by simpa using q2
        rw [ec] at hn
        cases hn
    rw [h1, if_neg Bool.false_ne_true, body_pos hn]
    rfl
theorem find_dig {c : Nat} (h : 48 ≤ c ∧ c ≤ 57) : Txt.find "0123456789" ⟨#[c]⟩ = (c : Int) - 48 := by
  have q : c = 48 ∨ c = 49 ∨ c = 50 ∨ c = 51 ∨ c = 52 ∨ c = 53 ∨ c = 54 ∨ c = 55 ∨ c = 56 ∨ c = 57 := by omega
  rcases q with rfl | rfl | rfl | rfl | rfl | rfl | rfl | rfl | rfl | rfl <;> decide +kernel
theorem dig_mem {c : Nat} : c ∈ ("0123456789" : Str).cps.toList ↔ 48 ≤ c ∧ c ≤ 57 := by
  have e : ("0123456789" : Str).cps.toList = [48, 49, 50, 51, 52, 53, 54, 55, 56, 57] := by decide +kernel
  rw [e]
  simp only [List.mem_cons, List.not_mem_nil, or_false]
  omega
theorem find_no {c : Nat} (h : ¬ (48 ≤ c ∧ c ≤ 57)) : Txt.find "0123456789" ⟨#[c]⟩ = -1 := by
  have q := StrLaws.found_one "0123456789" c
  rw [decide_eq_false (fun z => h (dig_mem.mp z))] at q
  unfold Txt.find
  cases e : Builtin.Str.occurrences "0123456789" ⟨#[c]⟩ 0 ("0123456789" : Str).length 1 with
  | nil => rfl
  | cons x r =>
    rw [e] at q
    cases q
/-- a for over a text's signs -/
theorem for_text {x : Str} {g : TG} {tb : TS} {D : Ends} {σ : L2.St} {H : Hp} (Pv : Nat → L2.St → Hp → Prop) (h0 : Pv 0 σ H)
    (hs : ∀ (i c : Nat) (σ : L2.St) (H : Hp), x.cps[i]? = some c → Pv i σ H → g (.str ⟨#[c]⟩) σ H fun σ2 H2 => tb { D with nx := Pv (i + 1), ct := Pv (i + 1), bk := D.nx } σ2 H2) (hd : ∀ σ H, Pv x.cps.size σ H → D.nx σ H) :
    ∃ W : Nat → Nat → L2.St → Hp → Prop, (∃ m, W 0 m σ H) ∧ ∀ i m σ H, W i m σ H →
      ((Its x).stop i H ∧ D.nx σ H) ∨ ((Its x).go i H ∧ ∃ N : L2.St → Hp → Prop, (∀ σ' H', N σ' H' → ∃ m', m' < m ∧ W (i + 1) m' σ' H') ∧ ∀ y H', (Its x).yld i H y H' → g y σ H' fun σ2 H2 => tb { D with nx := N, ct := N, bk := D.nx } σ2 H2) := by
  refine ⟨fun i m σ H => m + i = x.cps.size ∧ Pv i σ H, ⟨x.cps.size, rfl, h0⟩, ?_⟩
  intro i m σ H hh
  obtain ⟨hm, p⟩ := hh
  by_cases z : m = 0
  · subst z
    have e : i = x.cps.size := by omega
    subst e
    exact Or.inl ⟨Nat.le_refl _, hd σ H p⟩
  · refine Or.inr ⟨by show i < x.cps.size; omega, Pv (i + 1), fun _ _ p' => ⟨m - 1, by omega, by omega, p'⟩, ?_⟩
    intro y H' yy
    obtain ⟨e, c, hc, ey⟩ := yy
    subst e ey
    exact hs i c σ _ hc p
section
variable {X : Cx}
/-- text * number: some text, of so many signs -/
theorem op_mulS : OpR X (binaryOp .Mult) (fun x y H Q => ∃ (z : Str) (i : Int), x = .str z ∧ y = .int i ∧ z.length ≤ 16 ∧ 0 ≤ i ∧ i ≤ 1000000 ∧ ∀ r : Str, (r.length : Int) = (z.length : Int) * i → Q (.str r) H) := by
  intro pins s σ H x y v u Q I rx ry h
  obtain ⟨z, i, rfl, rfl, h1, h2, h3, q⟩ := h
  obtain ⟨t, rfl⟩ := rx
  obtain ⟨t', rfl⟩ := ry
  refine PySem.W.KXi.mul rfl h1 (by omega) (by omega) fun t2 k _ e => ?_
  exact ⟨.str _, H, I.tok _, ⟨_, rfl⟩, q _ (e h2)⟩
end

def spIsNumber : Sp := fun vs H Q _ => ∃ (z : Str), vs = [.str z] ∧ z.length ≤ 100000 ∧ ∀ H', Same H H' → Q (.bl (numberB z.cps.toList)) H'

def vOpt : Option Int → V
  | some v => .int v
  | none => .non
def spValue : Sp := fun vs H Q _ => ∃ (z : Str), vs = [.str z] ∧ z.length ≤ 600 ∧ Q (vOpt (valL z.cps.toList)) H
def spReadNumber (C : Addr) : Sp := fun vs H Q E => ∃ (z : Str), vs = [.str z] ∧ z.length ≤ 600 ∧ (∀ v, valL z.cps.toList = some v → ∀ H', Same H H' → Q (.int v) H') ∧
  (valL z.cps.toList = none → ∀ H' d, Same H H' → H' d = none → E (.ref C) (some d) (L2.upd H' d (.xd [("text", .str z)])))
def spWriteNumber : Sp := fun vs H Q _ => ∃ (v : Int), vs = [.int v] ∧ v.natAbs.log2 < 1920 ∧ Q (.str (Str.ofString (toString v))) H
def spReadT : Sp := fun vs H Q _ => ∃ (z : Str), vs = [.str z] ∧ z.length ≤ 600 ∧ ∀ H', Same H H' → Q (.bl true) H'

theorem catL {a b : Str} (ha : a.length ≤ 1000) (hb : b.length ≤ 1000) : a.length + b.length ≤ sizeLine := Nat.le_trans (Nat.add_le_add ha hb) (by decide)
theorem cutS_len {z : Str} {lo hi : Option Int} : (cutS z lo hi).length ≤ z.length := by
  have h1 : (cutS z lo hi).length = ((z.cps.toList.drop (HT.sIx z.length 0 lo)).take (HT.sIx z.length z.length hi - HT.sIx z.length 0 lo)).length := by
    unfold cutS
    exact (Array.length_toList).symm
  have h2 : z.length = z.cps.toList.length := (Array.length_toList).symm
  rw [h1, h2, List.length_take, List.length_drop]
  omega
theorem str_at {z : Str} {i : Int} (h0 : 0 ≤ i) (h1 : i < z.length) : ∃ c, z.cps[i.toNat]? = some c := by
  have h : z.length = z.cps.size := rfl
  exact ⟨_, Array.getElem?_eq_getElem (by omega)⟩
theorem one_len {c : Nat} : (⟨#[c]⟩ : Str).length = 1 := rfl
theorem join_small {y : Str} (hy : y.length = 0) : ∀ {ys : List Str}, (∀ x ∈ ys, x.length ≤ 1) → (Txt.join y ys).length ≤ ys.length := by
  have key : ∀ (ys : List Str), (∀ x ∈ ys, x.length ≤ 1) → (Str.join y ys).length ≤ ys.length := by
    intro ys
    induction ys with
    | nil => intro _; exact Nat.le_refl _
    | cons a r ih =>
      intro h
      cases r with
      | nil =>
        have := h a (List.mem_singleton.mpr rfl)
        exact this
      | cons b q =>
        have i1 := ih fun x hx => h x (List.mem_cons_of_mem _ hx)
        have i2 := h a (List.mem_cons_self ..)
        show (a ++ y ++ Str.join y (b :: q)).length ≤ _
        rw [Str.length_append, Str.length_append, List.length_cons]
        omega
  intro ys h
  rw [TL.join_eq]
  exact key ys h
def spNear : Sp := fun vs H Q _ => ∃ (z : Str), vs = [.str z] ∧ z.length ≤ 100 ∧ ∀ (p : Addr) (ys : List Str) (H' : Hp), Same H H' → H' p = some (.lst (ys.map V.str)) → (∀ y ∈ ys, y.length ≤ 600) → Q (.ref p) H'
def spWritten : Sp := fun vs H Q _ => ∃ (p c : Addr) (ns : List Int), vs = [.ref p] ∧ Pool ns c H p ∧ ∀ (y : Str) (H' : Hp), y.length ≤ 60 → Pool ns c H' p → Q (.str y) H'
def spOther : Sp := fun vs H Q _ => ∃ (p c : Addr) (ns : List Int) (z : Str), vs = [.ref p, .str z] ∧ Pool ns c H p ∧ z.length ≤ 60 ∧ ∀ (y : Str) (H' : Hp), y.length ≤ 300 → Pool ns c H' p → Q (.str y) H'
end Brk

set_option Elab.async false
set_option linter.all false
set_option maxRecDepth 100000
set_option maxHeartbeats 4000000
/-! Own words: things that are made under a name, or refused for it. -/
namespace Brk
open PySem PySem.Spec PyProof.Rows L2
/-- a refused name: the new exception's dict has it -/
def RefN (CB : Addr) (z : Str) (H : Hp) (E : XK) : Prop := ∀ (H' : Hp) (d : Addr), Same H H' → H' d = some (.xd [("name", .str z)]) → E (.ref CB) (some d) H'
theorem RefN.from {CB : Addr} {z : Str} {H H1 : Hp} {E : XK} (r : RefN CB z H E) (s : Same H H1) : RefN CB z H1 E := fun H' d s' e => r H' d (s.trans s') e
def spNamedX (K : PySem.W.Frag) (CB : Addr) : Sp := fun vs H Q E => ∃ (p C dx : Addr) (fs : List (Str × V)) (z : Str), vs = [.ref p, .str z] ∧ H p = some (.ins C dx fs) ∧ Cls K C ∧ NoAttr K C "name" ∧ z.length ≤ 1000 ∧ fs.length < 100 ∧
  (nameB z = true → ∀ H', H' p = some (.ins C dx (putF "name" (.str z) fs)) → But p H H' → Q .non H') ∧ (nameB z = false → RefN CB z H E)
def spItemX (K : PySem.W.Frag) (CB : Addr) : Sp := fun vs H Q E => ∃ (p C dx : Addr) (fs : List (Str × V)) (z : Str) (g m : V) (d : Int), vs = [.ref p, .str z, g, m, .int d] ∧ H p = some (.ins C dx fs) ∧ ItemC K C ∧ z.length ≤ 1000 ∧ 0 ≤ d ∧ d ≤ 8 ∧ fs.length < 90 ∧
  (nameB z = true → ∀ H', H' p = some (.ins C dx (putI z g m (.int d) fs)) → But p H H' → Q .non H') ∧ (nameB z = false → RefN CB z H E)
/-- an instance of C at p with the name z -/
def NameAt (C p : Addr) (z : Str) (H : Hp) : Prop := ∃ (dx : Addr) (fs : List (Str × V)), H p = some (.ins C dx fs) ∧ fs.lookup ("name" : Str) = some (.str z)
theorem putI_name {z : Str} {g m d : V} {fs : List (Str × V)} : (putI z g m d fs).lookup ("name" : Str) = some (.str z) := by
  unfold putI putT
  rw [look_ne (by decide +kernel), look_ne (by decide +kernel), look_ne (by decide +kernel), look_put]
def spPieceX (K : PySem.W.Frag) (CB : Addr) : Sp := fun vs H Q E => ∃ (p C dx : Addr) (z : Str) (g m : V) (l t d : Int), vs = [.ref p, .str z, g, .int l, .int t, m, .int d] ∧ H p = some (.ins C dx []) ∧ ItemC K C ∧ NoAttr K C "least" ∧ NoAttr K C "most" ∧ z.length ≤ 1000 ∧
  0 ≤ d ∧ d ≤ 8 ∧ 1 ≤ l ∧ l ≤ t ∧ t ≤ l + 8 ∧ (nameB z = true → ∀ H', NameAt C p z H' → But p H H' → Q .non H') ∧ (nameB z = false → RefN CB z H E)
def spBreakX (K : PySem.W.Frag) (CB : Addr) : Sp := fun vs H Q E => ∃ (p C dx : Addr) (z : Str) (g m : V) (n u d y : Int), vs = [.ref p, .str z, g, m, .int n, .int u, .int d, .int y] ∧ H p = some (.ins C dx []) ∧ ItemC K C ∧ NoAttr K C "places" ∧ NoAttr K C "unit" ∧ NoAttr K C "patience" ∧ z.length ≤ 1000 ∧
  0 ≤ d ∧ d ≤ 8 ∧ 1 ≤ n ∧ n ≤ 12 ∧ 1 ≤ u ∧ 1 ≤ y ∧ y ≤ 64 ∧ (nameB z = true → ∀ H', NameAt C p z H' → But p H H' → Q .non H') ∧ (nameB z = false → RefN CB z H E)
/-! ### a house of one kind -/
def spFromOne : Sp := fun vs H Q _ => ∃ n m : Int, vs = [.int n, .int m] ∧ 1 ≤ n ∧ n ≤ m ∧ Q .non H
def spApart1 : Sp := fun vs H Q _ => ∃ n : Int, vs = [.int n] ∧ 1 ≤ n ∧ Q .non H
def spKind1 (CB : Addr) : Sp := fun vs H Q E => ∃ (l : Addr) (z : Str), vs = [.ref l] ∧ H l = some (.lst [.str z]) ∧ z.length ≤ 1000 ∧ (nameB z = true → ∀ H', Same H H' → Q .non H') ∧ (nameB z = false → RefN CB z H E)
def spSpan0 (C : Addr) : Sp := fun vs H Q _ => ∃ (p dx : Addr) (lo hi : Int), vs = [.ref p, .int lo, .int hi] ∧ H p = some (.ins C dx []) ∧ lo ≤ hi ∧ ∀ H', Off p H H' → Q .non H'
def spWays0 (K : PySem.W.Frag) : Sp := fun vs H Q _ => ∃ a : Addr, vs = [.ref a] ∧ SqT K H a [.int 0, .int 0] ∧ ∀ x H', Same H H' → Q (.ref x) H'
structure HouseC (K : PySem.W.Frag) (C : Addr) : Prop where
  c : Cls K C
  n1 : NoAttr K C "studios"
  n2 : NoAttr K C "crews"
  n3 : NoAttr K C "kinds"
  n4 : NoAttr K C "walk"
  n5 : NoAttr K C "pack"
  n6 : NoAttr K C "ahead"
  n7 : NoAttr K C "apart"
/-- a house at p whose kinds are the one text -/
def KindAt (C p : Addr) (z : Str) (H : Hp) : Prop := ∃ (dx t : Addr) (fs : List (Str × V)), H p = some (.ins C dx fs) ∧ fs.lookup ("kinds" : Str) = some (.ref t) ∧ H t = some (.tup [.str z])
def spHouseX (K : PySem.W.Frag) (C CB W1 W2 : Addr) : Sp := fun vs H Q E => ∃ (p dx l : Addr) (z : Str), vs = [.ref p, .int 1, .int 1, .ref l, .ref W1, .ref W2, .int 1, .int 1] ∧ H p = some (.ins C dx []) ∧ H l = some (.lst [.str z]) ∧ HouseC K C ∧ z.length ≤ 1000 ∧
  (nameB z = true → ∀ H', KindAt C p z H' → But p H H' → Q .non H') ∧ (nameB z = false → RefN CB z H E)
/-- what isinstance asks of an own class -/
structure OwnI (K : PySem.W.Frag) (C : Addr) : Prop where
  ha : PySem.W.findIn K (.ref C) "__class__" = some (some (.builtin "object.__class__"))
  hn : PySem.W.specialIn K (.builtin "object.__class__") "__get__" = some (some (.builtin "getset_descriptor.__get__"))
  ht : PySem.W.takesIn K (.builtin "object.__class__") = some true
  hm : PySem.W.mroIn K C (.type "object") = some true
theorem tyx_own {K : PySem.W.Frag} {H : Hp} {a C dx : Addr} {fs : List (Str × V)} (e : H a = some (.ins C dx fs)) (c : Cls K C) (o : OwnI K C) : TyX K H (.ref a) (.ref C) := .base (.ins e c o.ha o.hn o.ht o.hm)
structure NmC (K : PySem.W.Frag) (C CN : Addr) : Prop where
  c : Cls K C
  o : OwnI K C
  n : NoAttr K C "name"
  k : PySem.W.kitOne K (.ref C) (.ref CN) = some true
def spMadeX (K : PySem.W.Frag) (CN CH CB : Addr) : Sp := fun vs H Q E => ∃ (n : Int) (z : Str), vs = [.int n, .str z] ∧ 0 ≤ n ∧ n ≤ 4 ∧ z.length ≤ 1000 ∧
  (nameB z = true → ∀ x H', Same H H' → ((n ≤ 3 ∧ ∃ C, NmC K C CN ∧ NameAt C x z H') ∨ (n = 4 ∧ KindAt CH x z H')) → Q (.ref x) H') ∧ (nameB z = false → RefN CB z H E)
def spDoorX : Sp := fun vs H Q _ => ∃ (n : Int) (z : Str), vs = [.int n, .str z, .bl (nameB z)] ∧ 0 ≤ n ∧ n ≤ 4 ∧ z.length ≤ 1000 ∧ ∀ H', Same H H' → Q (.bl true) H'
def spLName : Sp := fun vs H Q _ => ∃ (z : Str), vs = [.str z] ∧ z.length ≤ 1000 ∧ Q (.bl (nameB z)) H
theorem NameAt.same {C p : Addr} {z : Str} {H H' : Hp} (h : NameAt C p z H) (s : Same H H') : NameAt C p z H' := by
  obtain ⟨dx, fs, a, b⟩ := h
  exact ⟨dx, fs, s _ _ a, b⟩
/-! ### names by place -/
theorem name_yes {z : Str} (h1 : 1 ≤ z.cps.size) (h2 : z.cps.size ≤ 12) (h : ∀ j c, z.cps[j]? = some c → signB c = true ∧ (j = 0 → c ∈ letS.cps.toList)) : nameB z = true := by
  unfold nameB
  have h0 : z.cps.getD 0 0 ∈ letS.cps.toList := by
    have e : z.cps[0]? = some (z.cps.getD 0 0) := by
      rw [Array.getElem?_eq_getElem (by omega)]
      simp [Array.getD, (by omega : 0 < z.cps.size)]
    exact (h 0 _ e).2 rfl
  rw [decide_eq_true h1, decide_eq_true h2, decide_eq_true h0]
  refine List.all_eq_true.mpr fun c hc => ?_
  obtain ⟨j, hj, e⟩ := List.getElem_of_mem hc
  rw [Array.length_toList] at hj
  exact (h j c (by rw [Array.getElem?_eq_getElem hj, ← e]; simp)).1
theorem name_no {z : Str} {j c : Nat} (hc : z.cps[j]? = some c) (h : ¬ (signB c = true ∧ (j = 0 → c ∈ letS.cps.toList))) : nameB z = false := by
  cases e : nameB z with
  | false => rfl
  | true =>
    exfalso
    unfold nameB at e
    rw [Bool.and_eq_true, Bool.and_eq_true, Bool.and_eq_true] at e
    obtain ⟨_, _, e3, e4⟩ := e
    refine h ⟨?_, fun j0 => ?_⟩
    · refine List.all_eq_true.mp e4 c ?_
      rw [← Array.getElem?_toList] at hc
      exact List.mem_of_getElem? hc
    · subst j0
      have q : z.cps.getD 0 0 = c := by
        obtain ⟨hlt, e5⟩ := Array.getElem?_eq_some_iff.mp hc
        simp [Array.getD, hlt, e5]
      rw [← q]
      exact of_decide_eq_true e3
theorem name_len {z : Str} (h : ¬ (1 ≤ z.cps.size ∧ z.cps.size ≤ 12)) : nameB z = false := by
  unfold nameB
  by_cases h1 : 1 ≤ z.cps.size
  · rw [decide_eq_false (fun h2 => h ⟨h1, h2⟩)]
    simp
  · rw [decide_eq_false h1]
    rfl
theorem find_neg {z : Str} {c : Nat} : decide (Txt.find z ⟨#[c]⟩ < 0) = !decide (c ∈ z.cps.toList) := by
  have q := StrLaws.found_one z c
  unfold Txt.find
  cases e : Builtin.Str.occurrences z ⟨#[c]⟩ 0 z.length 1 with
  | nil =>
    rw [e] at q
    rw [← q]
    rfl
  | cons x r =>
    rw [e] at q
    rw [← q]
    exact decide_eq_false (by show ¬ ((x : Nat) : Int) < 0; omega)
/-! ### a op1 b op2 c op3 d, as a test -/
def tChain3 (r r' r'' : R2) (ta tb tc td : TE) : TE := fun σ H Q => ta σ H fun x H1 => tb σ H1 fun y H2 => r x y H2 fun z H3 => ∃ k, z = .bl k ∧
  (if k = true then tc σ H3 fun w H4 => r' y w H4 fun z2 H5 => ∃ k2, z2 = .bl k2 ∧ (if k2 = true then td σ H5 fun w2 H6 => r'' w w2 H6 Q else Q (.bl false) H5) else Q (.bl false) H3)
theorem pt_chain3 {X : Cx} {a b c d : Expr} {ta tb tc td : TE} {pos : Pos} {op op' op'' : CmpOp} {r r' r'' : R2} (ho : OpR X (compareOp op) r) (ho' : OpR X (compareOp op') r') (ho'' : OpR X (compareOp op'') r'') (ha : PE X a ta) (hb : PE X b tb) (hc : PE X c tc) (hd : PE X d td)
    (hm : lastMarks [op, op', op''] [b, c, d] = false := by with_unfolding_all rfl) : PT X (.Compare a [op, op', op''] [b, c, d] pos) (tTest (tChain3 r r' r'' ta tb tc td)) := by
  refine ⟨fun pins s σ H Q I h => ?_⟩
  refine isTrue_chain (thn (ha.run pins s σ H _ I h) fun v s1 ⟨x, H1, I1, r1, q1⟩ => test_link (thn (hb.run pins s1 σ H1 _ I1 q1) fun u s2 ⟨y, H2, I2, r2, q2⟩ =>
    thn (ho pins s2 σ H2 x y v u _ I2 r1 r2 q2) fun e s3 ⟨z, H3, I3, r3, k, e0, q3⟩ => ?_)) hm
  subst e0
  cases r3
  refine wpAny_truthy_bool ?_
  cases k with
  | false =>
    obtain ⟨k', e', q'⟩ := q3
    cases e'
    exact ite_ff ⟨H3, I3, q'⟩
  | true =>
    refine ite_tt (test_link (thn (hc.run pins s3 σ H3 _ I3 q3) fun w' s4 ⟨z', H4, I4, r4, q4⟩ => thn (ho' pins s4 σ H4 y z' u w' _ I4 r2 r4 q4) fun d' s5 ⟨z2, H5, I5, r5, k2, e2, q5⟩ => ?_))
    subst e2
    cases r5
    refine wpAny_truthy_bool ?_
    cases k2 with
    | false =>
      obtain ⟨k', e', q'⟩ := q5
      cases e'
      exact ite_ff ⟨H5, I5, q'⟩
    | true =>
      refine ite_tt (test_last (thn (hd.run pins s5 σ H5 _ I5 q5) fun w2 s6 ⟨z3, H6, I6, r6, q6⟩ => thn (ho'' pins s6 σ H6 z' z3 w' w2 _ I6 r4 r6 q6) fun d2 s7 ⟨z4, H7, I7, r7, k3, e3, q7⟩ => ?_))
      subst e3
      cases r7
      exact wpAny_truthy_bool ⟨H7, I7, q7⟩
/-! ### an __init__ with keyword-only defaults -/
/-- n values and the keywords ks are written, the keyword-only defaults ms fill up -/
def IfG (K : PySem.W.Frag) (C : Addr) (qual : Str) (st : Stmt) (ps : List Str) (n : Nat) (ks : List Str) (ms : List V) : Prop := ∃ (f : Addr) (fd : FuncData) (gU : List Value → List Value → List Value), Mk K C f ∧ Fun K "__init__" qual st f fd ∧ KBn K fd ps n ks gU (fun vs zs => vs ++ (zs ++ ms))
def MkG (P : Program) (w : World) (K : PySem.W.Frag) (mg : Str → Option Value) (base : Heap) (CX : CXT) (k : Nat) (x : Str) (C : Addr) (ps : List Str) (n : Nat) (ks : List Str) (ms : List V) (sp : Sp) : Prop :=
  ∃ (f : Addr) (fd : FuncData) (gU : List Value → List Value → List Value), mg x = some (.ref C) ∧ Mk K C f ∧ KBn K fd ps n ks gU (fun vs zs => vs ++ (zs ++ ms)) ∧ FnOk P w K mg base CX k f fd ps sp
theorem ifG_mk {K : PySem.W.Frag} {C f D : Addr} {qual : Str} {st : Stmt} {ps ks : List Str} {oc doc pm cdv ct : Value} {od an : Option Addr} {osl : Array (Option Value)} (kws : List (Str × V)) (M : Mk K C f)
    (l : K.lookup f = some ⟨oc, od, .func (PySem.W.fnOf "__init__" qual (defArgs st) (defBody st) (defScope st) .none (.ref D) doc pm an cdv ct), osl⟩) (c : PySem.W.codeIn K cdv qual = true) (k : PySem.W.keepIn K (.ref f) = true)
    (hq : ∀ q ∈ kws, ∃ u, PySem.W.nsIn K D q.1 = some (some u) ∧ RelV q.2 u) (n : Nat) (hk : kws ≠ [])
    (h : ∀ (D : Addr) (doc pm : Value) (an : Option Addr) (cdv ct : Value) (us mv ws : List Value), us.length = n → mv.length = kws.length → ws.length = ks.length →
      KwChain D ((kws.map (·.1)).zip mv) (bindArgs (PySem.W.fnOf "__init__" qual (defArgs st) (defBody st) (defScope st) .none (.ref D) doc pm an cdv ct) ⟨us, ks.zip ws⟩) (ps.zip (us ++ (ws ++ mv)))) : IfG K C qual st ps n ks (kws.map (·.2)) := by
  have F : FunD K "__init__" qual (defArgs st) (defBody st) (defScope st) [] kws f (PySem.W.fnOf "__init__" qual (defArgs st) (defBody st) (defScope st) .none (.ref D) doc pm an cdv ct) :=
    ⟨⟨oc, od, _, _, doc, pm, an, cdv, ct, osl, rfl, l, c, .inl ⟨rfl, rfl⟩, .inr ⟨D, rfl, hq⟩⟩, k⟩
  obtain ⟨mv, b⟩ := F.kbinds0 n ks kws (fun us mv ws => us ++ (ws ++ mv)) hk (fun _ z => z) (fun r1 r2 r3 => r1.append (r3.append r2)) h
  exact ⟨f, _, _, M, fun_mk l c k, b⟩
section
variable {X : Cx} {CX : CXT} {k n : Nat} {ps ks : List Str} {ms : List V} {sp : Sp} {E : XK} {x : Str} {C : Addr} {p pos : Pos} {e : Expr} {es : List Expr} {kws : List Keyword} {t tk : TA}
theorem pe_mkG (M : MkG X.prog X.w X.K X.mg X.base CX k x C ps (n + 1) ks ms sp) (hr : Room (k + 1) X.A) (hx : Passes CX X E) (hg : Gl X x) (ha : PA X (e :: es) t) (hkw : PK X kws tk)
    (hall : (backToKw pos (keywordEach kws X.env)).all (·.1.isSome) = true := by rfl) (hks : (backToKw pos (keywordEach kws X.env)).filterMap (·.1) = ks := by rfl)
    (hdb : (x == ("__debug__" : Str)) = false := by decide) (he : starEach (e :: es) X.env = (false, eval e X.env) :: starEach es X.env := by rfl)
    (hpl : ((backTo pos (starEach (e :: es) X.env)).any (·.1) || (backToKw pos (keywordEach kws X.env)).any (·.1.isNone)) = false := by rfl) :
    PE X (.Call (.Name x p) (e :: es) kws pos) (tMakeK C n ks.length sp (fun vs zs => vs ++ (zs ++ ms)) E t tk) := by
  obtain ⟨f, fd, gU, hm, M, hb, F⟩ := M
  exact pe_makeK M F hr hg hm hb hx ha hkw hall hks hdb he hpl
end
theorem sqT_of {K : PySem.W.Frag} {W : Addr} {d : Option Addr} {i : Array Value} {n : Nat} {sl : Array (Option Value)} {xs : List V} (l : K.lookup W = some ⟨.type "tuple", d, .seq i n, sl⟩) (z : i.size ≤ sizeLine) (v : Vals xs i.toList) : ∀ H, SqT K H W xs := fun _ => .inr ⟨_, i, n, l, rfl, rfl, z, v⟩
/-- the __init__ of a class with one written default (a reference) and four keyword-only ones, called with four values -/
def IfW (K : PySem.W.Frag) (C : Addr) (qual : Str) (st : Stmt) (ps : List Str) (kws : List (Str × V)) (e : Addr) : Prop := ∃ (f : Addr) (fd : FuncData) (ds : List Value), Mk K C f ∧ FunD K "__init__" qual (defArgs st) (defBody st) (defScope st) [.ref e] kws f fd ∧ Vals (kws.map (·.2)) ds ∧ Binds K fd ps ds
theorem ifW_mk {K : PySem.W.Frag} {C f D T e : Addr} {qual : Str} {st : Stmt} {ps : List Str} {oc doc pm cdv ct oT : Value} {od an dT : Option Addr} {osl sT : Array (Option Value)} {iT : Array Value} {nT : Nat} (kws : List (Str × V)) (M : Mk K C f)
    (l : K.lookup f = some ⟨oc, od, .func (PySem.W.fnOf "__init__" qual (defArgs st) (defBody st) (defScope st) (.ref T) (.ref D) doc pm an cdv ct), osl⟩) (c : PySem.W.codeIn K cdv qual = true) (k : PySem.W.keepIn K (.ref f) = true)
    (lT : K.lookup T = some ⟨oT, dT, .seq iT nT, sT⟩) (vT : Vals [.ref e] iT.toList) (hq : ∀ q ∈ kws, ∃ u, PySem.W.nsIn K D q.1 = some (some u) ∧ RelV q.2 u) (n : Nat) (hk : kws ≠ []) (hn : n + kws.length = ps.length)
    (h : ∀ (T D : Addr) (doc pm : Value) (an : Option Addr) (cdv ct : Value) (us its ks : List Value), us.length = n → its.length = 1 → ks.length = kws.length →
      ∃ k, bindArgs (PySem.W.fnOf "__init__" qual (defArgs st) (defBody st) (defScope st) (.ref T) (.ref D) doc pm an cdv ct) ⟨us, []⟩ = seqItems? (.ref T) >>= k ∧ KwChain D ((kws.map (·.1)).zip ks) (k (some its.toArray)) (ps.zip (us ++ (its.drop 1 ++ ks)))) : IfW K C qual st ps kws e := by
  have F : FunD K "__init__" qual (defArgs st) (defBody st) (defScope st) [.ref e] kws f (PySem.W.fnOf "__init__" qual (defArgs st) (defBody st) (defScope st) (.ref T) (.ref D) doc pm an cdv ct) :=
    ⟨⟨oc, od, _, _, doc, pm, an, cdv, ct, osl, rfl, l, c, .inr ⟨by simp, T, _, iT.toList, nT, rfl, lT, rfl, vT⟩, .inr ⟨D, rfl, hq⟩⟩, k⟩
  obtain ⟨ds, a, b⟩ := F.binds n 1 (by simp) (by simpa using hn) (fun T D doc pm an cdv ct us its ks h1 h2 h3 => h T D doc pm an cdv ct us its ks h1 h2 h3) hk
  exact ⟨f, _, ds, M, F, by simpa using a, b⟩
theorem un_of {A : Around} {k : Nat} (hr : Room k A) : A.units + 64 < cLine := by
  have q := hr.un
  omega
theorem kBool {K : PySem.W.Frag} : PySem.W.kitOne K (.type "bool") (.type "bool") = some true := kit_ty (by decide +kernel)
theorem kTup {K : PySem.W.Frag} : PySem.W.kitOne K (.type "tuple") (.type "tuple") = some true := kit_ty (by decide +kernel)
theorem eqv_one {z : Str} : PyData.eqv (.tuple [.str z]) (.tuple [.str z]) = true := by simp [PyData.eqv, PyData.eqvAll]
/-- == of any texts, numbers, tuples and lists of such -/
def rEqP (K : PySem.W.Frag) : R2 := fun x y H Q => ∃ d e, Dp K H x d ∧ Dp K H y e ∧ d.plain = true ∧ e.plain = true ∧ d.depth + e.depth ≤ 60 ∧ Q (.bl (PyData.eqv d e)) H
theorem op_eqP {X : Cx} (hu : X.A.units + 64 < cLine) : OpR X (compareOp .Eq) (rEqP X.K) := by
  intro pins s σ H x y v u Q I rx ry h
  obtain ⟨d, e, hd, he, sd, se, hde, q⟩ := h
  obtain ⟨as, r1⟩ := Dp.reads I d x v hd rx
  obtain ⟨bs, r2⟩ := Dp.reads I e y u he ry
  exact SeqAt.eq_plain r1 r2 sd se (by omega) ⟨.bl _, H, I, rfl, q⟩
theorem pl_one {z : Str} : (PyData.tuple [.str z]).plain = true := by simp [PyData.plain, PyData.plainAll]
theorem dp_one {z : Str} : (PyData.tuple [.str z]).depth + (PyData.tuple [.str z]).depth ≤ 60 := by simp [PyData.depth, PyData.depthAll]
end Brk

set_option Elab.async false
set_option linter.all false
set_option maxRecDepth 100000
set_option maxHeartbeats 4000000
namespace Brk.K01
open PySem L2 Brk
def top (i : Nat) : Stmt := PySem.Challenge.pw_barbreaks_k01_names.main.body.getD i (.Pass ⟨0, 0, 0, 0⟩)
abbrev s_l_take : Stmt := top 46
theorem sc_l_take : FnScope ["_law_pool_here", "_law_size", "_law_cells", "_law_mixed", "_law_cell", "_law_digit"] ["_law_pool_here", "_law_size"] (defScope s_l_take) := ⟨rfl, rfl, rfl, by decide +kernel, rfl, by decide +kernel, by decide +kernel⟩
abbrev s_l_pool : Stmt := top 45
theorem sc_l_pool : FnScope ["_law_script", "_law_seed", "_law_cell"] ["_law_script"] (defScope s_l_pool) := ⟨rfl, rfl, rfl, by decide +kernel, rfl, by decide +kernel, by decide +kernel⟩
abbrev s_is_name : Stmt := top 18
theorem sc_is_name : FnScope ["text", "sign"] ["text"] (defScope s_is_name) := ⟨rfl, rfl, rfl, by decide +kernel, rfl, by decide +kernel, by decide +kernel⟩
abbrev s_BadName_init : Stmt := inClass (top 3) 0
theorem sc_BadName_init : FnScope ["self", "name"] ["self", "name"] (defScope s_BadName_init) := ⟨rfl, rfl, rfl, by decide +kernel, rfl, by decide +kernel, by decide +kernel⟩
abbrev s_Grid_init : Stmt := inClass (top 23) 0
theorem sc_Grid_init : FnScope ["self", "step", "offset"] ["self", "step", "offset"] (defScope s_Grid_init) := ⟨rfl, rfl, rfl, by decide +kernel, rfl, by decide +kernel, by decide +kernel⟩
abbrev s_Timed_init : Stmt := inClass (top 40) 1
theorem sc_Timed_init : FnScope ["self", "grid", "minute", "delay"] ["self", "grid", "minute", "delay"] (defScope s_Timed_init) := ⟨rfl, rfl, rfl, by decide +kernel, rfl, by decide +kernel, by decide +kernel⟩
abbrev s_Named_init : Stmt := inClass (top 39) 0
theorem sc_Named_init : FnScope ["self", "name"] ["self", "name"] (defScope s_Named_init) := ⟨rfl, rfl, rfl, by decide +kernel, rfl, by decide +kernel, by decide +kernel⟩
abbrev s_Item_init : Stmt := inClass (top 41) 0
theorem sc_Item_init : FnScope ["self", "name", "grid", "minute", "delay"] ["self", "name", "grid", "minute", "delay"] (defScope s_Item_init) := ⟨rfl, rfl, rfl, by decide +kernel, rfl, by decide +kernel, by decide +kernel⟩
abbrev s_Piece_init : Stmt := inClass (top 42) 1
theorem sc_Piece_init : FnScope ["self", "name", "grid", "least", "most", "minute", "delay"] ["self", "name", "grid", "least", "most", "minute", "delay"] (defScope s_Piece_init) := ⟨rfl, rfl, rfl, by decide +kernel, rfl, by decide +kernel, by decide +kernel⟩
abbrev s_Break_init : Stmt := inClass (top 43) 2
theorem sc_Break_init : FnScope ["self", "name", "grid", "minute", "places", "unit", "delay", "patience"] ["self", "name", "grid", "minute", "places", "unit", "delay", "patience"] (defScope s_Break_init) := ⟨rfl, rfl, rfl, by decide +kernel, rfl, by decide +kernel, by decide +kernel⟩
abbrev s_check_from_one : Stmt := top 33
theorem sc_check_from_one : FnScope ["number", "most"] ["number", "most"] (defScope s_check_from_one) := ⟨rfl, rfl, rfl, by decide +kernel, rfl, by decide +kernel, by decide +kernel⟩
abbrev s_check_apart : Stmt := top 36
theorem sc_check_apart : FnScope ["apart"] ["apart"] (defScope s_check_apart) := ⟨rfl, rfl, rfl, by decide +kernel, rfl, by decide +kernel, by decide +kernel⟩
abbrev s_Span_init : Stmt := inClass (top 26) 0
theorem sc_Span_init : FnScope ["self", "low", "high"] ["self", "low", "high"] (defScope s_Span_init) := ⟨rfl, rfl, rfl, by decide +kernel, rfl, by decide +kernel, by decide +kernel⟩
abbrev s_span_of_ways : Stmt := top 35
theorem sc_span_of_ways : FnScope ["bounds", "low", "high"] ["bounds"] (defScope s_span_of_ways) := ⟨rfl, rfl, rfl, by decide +kernel, rfl, by decide +kernel, by decide +kernel⟩
abbrev s_check_kinds : Stmt := top 34
theorem sc_check_kinds : FnScope ["kinds", "at", "kind"] ["kinds"] (defScope s_check_kinds) := ⟨rfl, rfl, rfl, by decide +kernel, rfl, by decide +kernel, by decide +kernel⟩
abbrev s_House_init : Stmt := inClass (top 37) 0
theorem sc_House_init : FnScope ["self", "studios", "crews", "kinds", "walk", "pack", "ahead", "apart"] ["self", "studios", "crews", "kinds", "walk", "pack", "ahead", "apart"] (defScope s_House_init) := ⟨rfl, rfl, rfl, by decide +kernel, rfl, by decide +kernel, by decide +kernel⟩
abbrev s_l_text : Stmt := top 47
theorem sc_l_text : FnScope ["_law_pool_here", "_law_letters", "_law_signs", "_law_size", "_law_free", "_law_text_here", "_law_k", "_law_at"] ["_law_pool_here"] (defScope s_l_text) := ⟨rfl, rfl, rfl, by decide +kernel, rfl, by decide +kernel, by decide +kernel⟩
abbrev s_l_near : Stmt := top 48
theorem sc_l_near : FnScope ["_law_text_here", "_law_rows"] ["_law_text_here"] (defScope s_l_near) := ⟨rfl, rfl, rfl, by decide +kernel, rfl, by decide +kernel, by decide +kernel⟩
abbrev s_l_name : Stmt := top 49
theorem sc_l_name : FnScope ["_law_text_here", "_law_letters", "_law_k"] ["_law_text_here"] (defScope s_l_name) := ⟨rfl, rfl, rfl, by decide +kernel, rfl, by decide +kernel, by decide +kernel⟩
abbrev s_l_made : Stmt := top 50
theorem sc_l_made : FnScope ["_law_door_here", "_law_text_here"] ["_law_door_here", "_law_text_here"] (defScope s_l_made) := ⟨rfl, rfl, rfl, by decide +kernel, rfl, by decide +kernel, by decide +kernel⟩
abbrev s_l_door : Stmt := top 51
theorem sc_l_door : FnScope ["_law_door_here", "_law_text_here", "_law_due", "_law_found", "_law_made_here", "e"] ["_law_door_here", "_law_text_here", "_law_due"] (defScope s_l_door) := ⟨rfl, rfl, rfl, by decide +kernel, rfl, by decide +kernel, by decide +kernel⟩
abbrev s_law : Stmt := top 52
theorem sc_law : FnScope ["_law_script", "_law_pool_here", "_law_text_here", "_law_one", "_law_due", "_law_told", "_law_door_here"] ["_law_script"] (defScope s_law) := ⟨rfl, rfl, rfl, by decide +kernel, rfl, by decide +kernel, by decide +kernel⟩
structure Txt (K : PySem.W.Frag) (mg : Str → Option Value) (C_BadName : Addr) (C_BarbreaksError : Addr) (C_Grid : Addr) (C_Timed : Addr) (C_Named : Addr) (C_Item : Addr) (C_Piece : Addr) (C_Break : Addr) (C_Span : Addr) (C_House : Addr) (C_BadNumber : Addr) (C_BadText : Addr) (C_BadWord : Addr) (C_Refused : Addr) (C_Twice : Addr) (C_Unknown : Addr) : Prop where
  l_take : Df K mg "_law_take" s_l_take ["_law_pool_here", "_law_size"]
  b_int : mg "int" = none
  b_len : mg "len" = none
  l_pool : Df K mg "_law_pool" s_l_pool ["_law_script"]
  b_list : mg "list" = none
  is_name : Df K mg "is_name" s_is_name ["text"]
  b_all : mg "all" = none
  v_MOST_SIGNS : ∃ u, mg "MOST_SIGNS" = some u ∧ RelV (.int 12) u
  v_LETTERS : ∃ u, mg "LETTERS" = some u ∧ RelV (.str "abcdefghijklmnopqrstuvwxyz") u
  v_DIGITS : ∃ u, mg "DIGITS" = some u ∧ RelV (.str "0123456789") u
  er_BadName : ErF K mg "BadName" C_BadName "BadName.__init__" s_BadName_init ["self", "name"]
  g_BadName : mg "BadName" = some (.ref C_BadName)
  xn_BadName_name : PySem.W.findIn K (.ref C_BadName) "name" = some none
  g_Grid : mg "Grid" = some (.ref C_Grid)
  c_Grid : Cls K C_Grid
  n_Grid_step : NoAttr K C_Grid "step"
  n_Grid_offset : NoAttr K C_Grid "offset"
  i3_Grid : IfD K C_Grid "Grid.__init__" s_Grid_init ["self", "step", "offset"] [.int 0] 1
  g_Timed : mg "Timed" = some (.ref C_Timed)
  c_Timed : Cls K C_Timed
  k_Timed_MOST_DELAY : Kc K C_Timed "MOST_DELAY" (.int 8)
  q4_Timed : SfD K C_Timed "Timed.__init__" s_Timed_init ["self", "grid", "minute", "delay"] [.non, .int 0] 2
  i4_Timed : IfD K C_Timed "Timed.__init__" s_Timed_init ["self", "grid", "minute", "delay"] [.non, .int 0] 2
  g_Named : mg "Named" = some (.ref C_Named)
  c_Named : Cls K C_Named
  q_Named_init : Sf K C_Named "__init__" "Named.__init__" s_Named_init ["self", "name"]
  i_Named : If0 K C_Named "Named.__init__" s_Named_init ["self", "name"]
  g_Item : mg "Item" = some (.ref C_Item)
  c_Item : Cls K C_Item
  q_Item_init : SfK K C_Item "__init__" "Item.__init__" s_Item_init ["self", "name", "grid", "minute", "delay"] 2 ["grid", "minute", "delay"]
  j_Item : IfG K C_Item "Item.__init__" s_Item_init ["self", "name", "grid", "minute", "delay"] 2 ["grid"] [.non, .int 0]
  g_Piece : mg "Piece" = some (.ref C_Piece)
  c_Piece : Cls K C_Piece
  k_Piece_MOST_SPREAD : Kc K C_Piece "MOST_SPREAD" (.int 8)
  j_Piece : IfG K C_Piece "Piece.__init__" s_Piece_init ["self", "name", "grid", "least", "most", "minute", "delay"] 2 ["grid", "least", "most"] [.non, .int 0]
  g_Break : mg "Break" = some (.ref C_Break)
  c_Break : Cls K C_Break
  k_Break_MOST_PLACES : Kc K C_Break "MOST_PLACES" (.int 12)
  k_Break_MOST_PATIENCE : Kc K C_Break "MOST_PATIENCE" (.int 64)
  j_Break : IfG K C_Break "Break.__init__" s_Break_init ["self", "name", "grid", "minute", "places", "unit", "delay", "patience"] 2 ["grid", "minute", "places", "unit"] [.int 0, .int 1]
  check_from_one : Df K mg "check_from_one" s_check_from_one ["number", "most"]
  check_apart : Df K mg "check_apart" s_check_apart ["apart"]
  g_Span : mg "Span" = some (.ref C_Span)
  c_Span : Cls K C_Span
  n_Span_low : NoAttr K C_Span "low"
  n_Span_high : NoAttr K C_Span "high"
  i_Span : If0 K C_Span "Span.__init__" s_Span_init ["self", "low", "high"]
  span_of_ways : Df K mg "span_of_ways" s_span_of_ways ["bounds"]
  v_MOST_SPREAD_OF_WAYS : ∃ u, mg "MOST_SPREAD_OF_WAYS" = some u ∧ RelV (.int 8) u
  check_kinds : Df K mg "check_kinds" s_check_kinds ["kinds"]
  b_enumerate : mg "enumerate" = none
  v_MOST_KINDS : ∃ u, mg "MOST_KINDS" = some u ∧ RelV (.int 5) u
  g_House : mg "House" = some (.ref C_House)
  c_House : Cls K C_House
  n_House_studios : NoAttr K C_House "studios"
  n_House_crews : NoAttr K C_House "crews"
  n_House_kinds : NoAttr K C_House "kinds"
  n_House_walk : NoAttr K C_House "walk"
  n_House_pack : NoAttr K C_House "pack"
  n_House_ahead : NoAttr K C_House "ahead"
  n_House_apart : NoAttr K C_House "apart"
  b_tuple : mg "tuple" = none
  v_MOST_STUDIOS : ∃ u, mg "MOST_STUDIOS" = some u ∧ RelV (.int 6) u
  v_MOST_CREWS : ∃ u, mg "MOST_CREWS" = some u ∧ RelV (.int 6) u
  v_MOST_AHEAD : ∃ u, mg "MOST_AHEAD" = some u ∧ RelV (.int 3) u
  w_House : ∃ (W58_0 W58_1 e : Addr), (∀ H, SqT K H W58_0 [.int 0, .int 0]) ∧ (∀ H, SqT K H W58_1 [.int 0, .int 0]) ∧ IfW K C_House "House.__init__" s_House_init ["self", "studios", "crews", "kinds", "walk", "pack", "ahead", "apart"] [("walk", .ref W58_0), ("pack", .ref W58_1), ("ahead", .int 1), ("apart", .int 1)] e
  l_text : Df K mg "_law_text" s_l_text ["_law_pool_here"]
  b_range : mg "range" = none
  l_near : Df K mg "_law_near" s_l_near ["_law_text_here"]
  l_name : Df K mg "_law_name" s_l_name ["_law_text_here"]
  l_made : Df K mg "_law_made" s_l_made ["_law_door_here", "_law_text_here"]
  n_Item_name : NoAttr K C_Item "name"
  n_Item_grid : NoAttr K C_Item "grid"
  n_Item_minute : NoAttr K C_Item "minute"
  n_Item_delay : NoAttr K C_Item "delay"
  n_Piece_name : NoAttr K C_Piece "name"
  n_Piece_grid : NoAttr K C_Piece "grid"
  n_Piece_minute : NoAttr K C_Piece "minute"
  n_Piece_delay : NoAttr K C_Piece "delay"
  n_Break_name : NoAttr K C_Break "name"
  n_Break_grid : NoAttr K C_Break "grid"
  n_Break_minute : NoAttr K C_Break "minute"
  n_Break_delay : NoAttr K C_Break "delay"
  n_Named_name : NoAttr K C_Named "name"
  n_Piece_least : NoAttr K C_Piece "least"
  n_Piece_most : NoAttr K C_Piece "most"
  n_Break_places : NoAttr K C_Break "places"
  n_Break_unit : NoAttr K C_Break "unit"
  n_Break_patience : NoAttr K C_Break "patience"
  o_Named : OwnI K C_Named
  o_Item : OwnI K C_Item
  o_Piece : OwnI K C_Piece
  o_Break : OwnI K C_Break
  ko_Named_Named : PySem.W.kitOne K (.ref C_Named) (.ref C_Named) = some true
  ko_Item_Named : PySem.W.kitOne K (.ref C_Item) (.ref C_Named) = some true
  ko_Piece_Named : PySem.W.kitOne K (.ref C_Piece) (.ref C_Named) = some true
  ko_Break_Named : PySem.W.kitOne K (.ref C_Break) (.ref C_Named) = some true
  l_door : Df K mg "_law_door" s_l_door ["_law_door_here", "_law_text_here", "_law_due"]
  b_isinstance : mg "isinstance" = none
  b_str : mg "str" = none
  b_ValueError : mg "ValueError" = none
  o_House : OwnI K C_House
  ko_House_House : PySem.W.kitOne K (.ref C_House) (.ref C_House) = some true
  g_BarbreaksError : mg "BarbreaksError" = some (.ref C_BarbreaksError)
  ec_BadName : ExcC K C_BadName
  xm_BadName_BarbreaksError : PySem.W.exmOne K (.ref C_BadName) (.ref C_BarbreaksError) = some true
  ko_BadName_BadName : PySem.W.kitOne K (.ref C_BadName) (.ref C_BadName) = some true
  ko_BadName_ValueError : PySem.W.kitOne K (.ref C_BadName) (.type "ValueError") = some true
  g_BadNumber : mg "BadNumber" = some (.ref C_BadNumber)
  g_BadText : mg "BadText" = some (.ref C_BadText)
  g_BadWord : mg "BadWord" = some (.ref C_BadWord)
  g_Refused : mg "Refused" = some (.ref C_Refused)
  g_Twice : mg "Twice" = some (.ref C_Twice)
  g_Unknown : mg "Unknown" = some (.ref C_Unknown)
  ko_BadName_BadNumber : PySem.W.kitOne K (.ref C_BadName) (.ref C_BadNumber) = some false
  ko_BadName_BadText : PySem.W.kitOne K (.ref C_BadName) (.ref C_BadText) = some false
  ko_BadName_BadWord : PySem.W.kitOne K (.ref C_BadName) (.ref C_BadWord) = some false
  ko_BadName_Refused : PySem.W.kitOne K (.ref C_BadName) (.ref C_Refused) = some false
  ko_BadName_Twice : PySem.W.kitOne K (.ref C_BadName) (.ref C_Twice) = some false
  ko_BadName_Unknown : PySem.W.kitOne K (.ref C_BadName) (.ref C_Unknown) = some false
  b_bool : mg "bool" = none
  law : Df K mg "law" s_law ["_law_script"]
section
variable {P : Program} {w : World} {K : PySem.W.Frag} {mg : Str → Option Value} {base : Heap} {C_BadName : Addr} {C_BarbreaksError : Addr} {C_Grid : Addr} {C_Timed : Addr} {C_Named : Addr} {C_Item : Addr} {C_Piece : Addr} {C_Break : Addr} {C_Span : Addr} {C_House : Addr} {C_BadNumber : Addr} {C_BadText : Addr} {C_BadWord : Addr} {C_Refused : Addr} {C_Twice : Addr} {C_Unknown : Addr}
theorem ok_l_take (T : Txt K mg C_BadName C_BarbreaksError C_Grid C_Timed C_Named C_Item C_Piece C_Break C_Span C_House C_BadNumber C_BadText C_BadWord C_Refused C_Twice C_Unknown) : Dk P w K mg base CX0 1 "_law_take" ["_law_pool_here", "_law_size"] spTake := by
  obtain ⟨f, fd, g, F, b⟩ := T.l_take
  refine ⟨f, fd, g, F.kp, b, F.ok sc_l_take (fun vs H Q E h => ?_) (fun cdv A outer s H vs Q E hr h => ?_)⟩
  · obtain ⟨p, c, ns, n, rfl, _⟩ := h
    rfl
  · obtain ⟨p, c, ns, n, rfl, hp, hn, hn9, k⟩ := h
    obtain ⟨⟨l, hl, z, i, t, d, hi, rfl⟩, hc⟩ := id hp
    refine ⟨_, (pss_cons (ps_set (i := 2) sc_l_take.nd rfl (Or.inl rfl) (pe_ix ix_list (pv 0) pe_int (fun _ _ => rfl)))
  (pss_cons (ps_asg (pe_op op_add (pe_ix ix_list (pv 0) pe_int (fun _ _ => rfl)) pe_int) (pg_sub (pv 0) pe_int set_list))
  (pss_cons (ps_set (i := 3) sc_l_take.nd rfl (Or.inl rfl) (pe_op op_mod (pe_callTy call_int1 (by rfl) T.b_int (by decide +kernel) (pa_cons (pe_op op_add (pe_op op_add (pe_op op_mul (pe_ix ix_list (pv 0) pe_int (fun _ _ => rfl)) pe_int) (pe_op op_mul (pe_ix ix_list (pv 0) pe_int (fun _ _ => rfl)) pe_int)) pe_int) pa_nil)) pe_int))
  (C8.pss_cut (ps_if (PW.pt (pw_and (pt_cmpR op_eq (pe_ix ix_list (pv 0) pe_int (fun _ _ => rfl)) pe_int (nomark _)) (pw_and1 (pt_cmpR op_lt (pe_ix ix_list (pv 0) pe_int (fun _ _ => rfl)) (pe_callB call_len_seq (by rfl) T.b_len (by decide +kernel) (pa_cons (pv 2) pa_nil)) (nomark _)))))
  (pss_cons (ps_set (i := 4) sc_l_take.nd rfl (Or.inl rfl) (pe_callTy call_int1 (by rfl) T.b_int (by decide +kernel) (pa_cons (pe_ix ix_list (pv 2) (pe_ix ix_list (pv 0) pe_int (fun _ _ => rfl)) (fun _ _ => rfl)) pa_nil)))
  (pss_cons (ps_asg (pe_op op_add (pe_ix ix_list (pv 0) pe_int (fun _ _ => rfl)) pe_int) (pg_sub (pv 0) pe_int set_list))
  (pss_cons (ps_set (i := 3) sc_l_take.nd rfl (Or.inl rfl) (pe_op op_mod (pe_callTy call_int1 (by rfl) T.b_int (by decide +kernel) (pa_cons (pe_op op_add (pe_op op_add (pe_op op_mul (pv 4) pe_int) (pe_ix ix_list (pv 0) pe_int (fun _ _ => rfl))) (pe_op op_mul (pe_ix ix_list (pv 0) pe_int (fun _ _ => rfl)) pe_int)) pa_nil)) pe_int))
  (pss_one (ps_if (pt_cmpR op_ge (pv 4) (pe_op op_pow pe_int pe_int) (nomark _))
  (pss_one (ps_asg (pv 4) (pg_sub (pv 0) pe_int set_list)))
  pss_nil)))))
  pss_nil)
  (pss_cons (ps_if (pt_cmpR op_gt (pe_ix ix_list (pv 0) pe_int (fun _ _ => rfl)) pe_int (nomark _))
  (pss_cons (ps_set (i := 5) sc_l_take.nd rfl (Or.inl rfl) (pe_op op_mod (pe_callTy call_int1 (by rfl) T.b_int (by decide +kernel) (pa_cons (pe_ix ix_list (pv 0) pe_int (fun _ _ => rfl)) pa_nil)) (pv 1)))
  (pss_cons (ps_asg (pe_op op_fdivW (pe_ix ix_list (pv 0) pe_int (fun _ _ => rfl)) (pv 1)) (pg_sub (pv 0) pe_int set_list))
  (pss_one (ps_ret (pv 5)))))
  pss_nil)
  (pss_cons (ps_set (i := 3) sc_l_take.nd rfl (Or.inl rfl) (pe_op op_mod (pe_callTy call_int1 (by rfl) T.b_int (by decide +kernel) (pa_cons (pe_op op_add (pe_op op_mul (pv 3) pe_int) (pe_op op_fdivW (pv 3) pe_int)) pa_nil)) pe_int))
  (pss_one (ps_ret (pe_op op_mod (pe_callTy call_int1 (by rfl) T.b_int (by decide +kernel) (pa_cons (pv 3) pa_nil)) (pv 1)))))))))), ?_⟩
    -- cells = pool[4]; pool[2] = pool[2] + 1
    refine ⟨_, rfl, _, _, _, _, rfl, rfl, SqL.of hl, rfl, ?_⟩
    refine ⟨_, rfl, _, _, _, _, rfl, rfl, SqL.of hl, rfl, _, _, rfl, rfl, _, rfl, _, _, _, _, rfl, rfl, hl, rfl, ?_⟩
    have hp1 : Pool ns c (upd H p (.lst [.int z, .int i, .int (t + 1), .int d, .ref c])) p := hp.upd ⟨_, _, _, _, hi, rfl⟩
    have o1 : Off p H (upd H p (.lst [.int z, .int i, .int (t + 1), .int d, .ref c])) := Off.upd
    have hl1 : upd H p (.lst [.int z, .int i, .int (t + 1), .int d, .ref c]) p = some (.lst [.int z, .int i, .int (t + 1), .int d, .ref c]) := upd_same
    -- mixed = int(pool[3] * 48271 + pool[2] * 69621 + 19) % 2147483647
    refine ⟨_, rfl, _, _, _, _, rfl, rfl, SqL.of hl1, rfl, _, _, rfl, rfl, (.inr ⟨by decide, by decide⟩), _, rfl, _, _, _, _, rfl, rfl, SqL.of hl1, rfl, _, _, rfl, rfl, (.inr ⟨by decide, by decide⟩), _, _, rfl, rfl, _, _, rfl, rfl, .inl ⟨_, rfl, _, _, rfl, rfl, pos_m7, ?_⟩⟩
    generalize (d * 48271 + (t + 1) * 69621 + 19) % 2147483647 = mx
    -- the first if, joined
    refine ⟨fun σ H' => ∃ (m1 : Int) (c1 : Option V) (z1 i1 t1 d1 : Int), σ = [some (.ref p), some (.int n), some (.ref c), some (.int m1), c1, none] ∧ 0 ≤ i1 ∧ H' p = some (.lst [.int z1, .int i1, .int t1, .int d1, .ref c]) ∧ Off p H H', ?_, ?_⟩
    · refine ⟨_, rfl, _, _, _, _, rfl, rfl, SqL.of hl1, rfl, rfl, _, rfl, ?_⟩
      refine ite2 (fun hz => ?_) (fun _ => iteF ⟨_, _, _, _, _, _, rfl, hi, hl1, o1⟩)
      have hc1 : upd H p (.lst [.int z, .int i, .int (t + 1), .int d, .ref c]) c = some (.lst (ns.map V.int)) := hp1.cells
      refine ⟨_, rfl, _, _, _, _, rfl, rfl, SqL.of hl1, rfl, _, rfl, c, _, rfl, .inl (SqL.of hc1), _, _, rfl, rfl, _, rfl, ?_⟩
      refine ite2 (fun hlt => ?_) (fun _ => ⟨_, _, _, _, _, _, rfl, hi, hl1, o1⟩)
      have hlt' : i < ((ns.map V.int).length : Int) := of_decide_eq_true hlt
      rw [List.length_map] at hlt'
      obtain ⟨v, hv⟩ : ∃ v, ns[i.toNat]? = some v := ⟨_, List.getElem?_eq_getElem (by omega)⟩
      -- cell = int(cells[pool[1]])
      refine ⟨_, rfl, _, rfl, _, _, _, _, rfl, rfl, SqL.of hl1, rfl, c, _, i, V.int v, rfl, rfl, SqL.of hc1, atI_ge hi (by rw [List.getElem?_map, hv]; rfl), .inl ⟨_, rfl, ?_⟩⟩
      -- pool[1] = pool[1] + 1
      refine ⟨_, rfl, _, _, _, _, rfl, rfl, SqL.of hl1, rfl, _, _, rfl, rfl, _, rfl, _, _, _, _, rfl, rfl, hl1, rfl, ?_⟩
      have hl2 : upd (upd H p (.lst [.int z, .int i, .int (t + 1), .int d, .ref c])) p (.lst [.int z, .int (i + 1), .int (t + 1), .int d, .ref c]) p = some (.lst [.int z, .int (i + 1), .int (t + 1), .int d, .ref c]) := upd_same
      have o2 : Off p H (upd (upd H p (.lst [.int z, .int i, .int (t + 1), .int d, .ref c])) p (.lst [.int z, .int (i + 1), .int (t + 1), .int d, .ref c])) := o1.trans Off.upd
      refine ⟨_, rfl, _, _, rfl, rfl, (.inr ⟨by decide, by decide⟩), _, rfl, _, _, _, _, rfl, rfl, SqL.of hl2, rfl, _, _, rfl, rfl, _, rfl, _, _, _, _, rfl, rfl, SqL.of hl2, rfl, _, _, rfl, rfl, (.inr ⟨by decide, by decide⟩), _, _, rfl, rfl, .inl ⟨_, rfl, _, _, rfl, rfl, pos_m7, ?_⟩⟩
      refine ⟨_, rfl, _, _, rfl, rfl, ⟨by decide, by decide, by decide⟩, _, _, rfl, rfl, _, rfl, ?_⟩
      refine ite2 (fun _ => ?_) (fun _ => ⟨_, _, _, _, _, _, rfl, by omega, hl2, o2⟩)
      refine ⟨_, rfl, _, rfl, _, _, _, _, rfl, rfl, hl2, rfl, ?_⟩
      exact ⟨_, _, v, i + 1, t + 1, d, rfl, by omega, upd_same, o2.trans Off.upd⟩
    · rintro σ H2 ⟨m1, c1, z1, i1, t1, d1, rfl, hi1, hl2, o2⟩
      have hp2 : Pool ns c H2 p := ⟨⟨_, hl2, _, _, _, _, hi1, rfl⟩, (o2 c hp.ne).trans hc⟩
      -- if pool[0] > 0: digit = int(pool[0]) % size; pool[0] = pool[0] // size; return digit
      refine ⟨_, rfl, _, _, _, _, rfl, rfl, SqL.of hl2, rfl, _, _, rfl, rfl, _, rfl, ?_⟩
      refine ite2 (fun _ => ?_) (fun _ => ?_)
      · refine ⟨_, rfl, _, _, _, _, rfl, rfl, SqL.of hl2, rfl, .inl ⟨_, rfl, _, rfl, _, _, rfl, rfl, hn, ?_⟩⟩
        refine ⟨_, rfl, _, _, _, _, rfl, rfl, SqL.of hl2, rfl, _, rfl, _, _, rfl, rfl, ⟨hn, hn9⟩, _, rfl, _, _, _, _, rfl, rfl, hl2, rfl, ?_⟩
        refine ⟨_, rfl, ?_⟩
        exact k _ _ (Int.emod_nonneg _ (by omega)) (Int.emod_lt_of_pos _ hn) (hp2.upd ⟨_, _, _, _, hi1, rfl⟩) (o2.trans Off.upd)
      · refine ⟨_, rfl, _, _, rfl, rfl, (.inr ⟨by decide, by decide⟩), _, rfl, _, _, rfl, rfl, ⟨by decide, by decide +kernel⟩, _, _, rfl, rfl, .inl ⟨_, rfl, _, _, rfl, rfl, pos_m9, ?_⟩⟩
        refine ⟨_, rfl, .inl ⟨_, rfl, _, rfl, _, _, rfl, rfl, hn, ?_⟩⟩
        exact k _ _ (Int.emod_nonneg _ (by omega)) (Int.emod_lt_of_pos _ hn) hp2 o2

theorem ok_l_pool (T : Txt K mg C_BadName C_BarbreaksError C_Grid C_Timed C_Named C_Item C_Piece C_Break C_Span C_House C_BadNumber C_BadText C_BadWord C_Refused C_Twice C_Unknown) : Dk P w K mg base CX0 1 "_law_pool" ["_law_script"] (spPool K) := by
  obtain ⟨f, fd, g, F, b⟩ := T.l_pool
  refine ⟨f, fd, g, F.kp, b, F.ok sc_l_pool (fun vs H Q E h => ?_) (fun cdv A outer s H vs Q E hr h => ?_)⟩
  · obtain ⟨a, ns, rfl, _⟩ := h
    rfl
  · obtain ⟨a, ns, rfl, hS, hlen, k⟩ := h
    refine ⟨_, (pss_cons (ps_set (i := 1) sc_l_pool.nd rfl (Or.inl rfl) pe_int)
  (pss_cons (ps_for PassesOwn.never rfl (pi_list (pv 0)) (pg_name (i := 2) sc_l_pool.nd rfl (Or.inl rfl))
  (pss_one (ps_set (i := 1) sc_l_pool.nd rfl (Or.inl rfl) (pe_op op_mod (pe_callTy call_int1 (by rfl) T.b_int (by decide +kernel) (pa_cons (pe_op op_add (pe_op op_add (pe_op op_mul (pv 1) pe_int) (pe_op op_mul (pe_callTy call_int1 (by rfl) T.b_int (by decide +kernel) (pa_cons (pv 2) pa_nil)) pe_int)) pe_int) pa_nil)) pe_int))))
  (pss_one (ps_ret (pe_lst (pa_cons pe_int (pa_cons pe_int (pa_cons pe_int (pa_cons (pv 1) (pa_cons (pe_callTy call_list_of (by rfl) T.b_list (by decide +kernel) (pa_cons (pv 0) pa_nil)) pa_nil)))))))))), ?_⟩
    refine ⟨_, rfl, a, rfl, ⟨_, hS⟩, for_list (K := K) (a := a) (xs := ns.map V.int) (fun i σ H' => ∃ (d : Int) (v : Option V), σ = [some (.ref a), some (.int d), v] ∧ H' = H) ⟨7, none, rfl, rfl⟩ (fun i σ H' _ ⟨_, _, _, e⟩ => by rw [e]; exact hS) ?_ ?_⟩
    · rintro i y σ H' hi ⟨d, v, rfl, rfl⟩
      obtain ⟨z, _, rfl⟩ := ints_at hi
      refine ⟨_, rfl, _, _, rfl, rfl, (.inr ⟨by decide, by decide⟩), _, rfl, .inl ⟨_, rfl, _, _, rfl, rfl, (.inr ⟨by decide, by decide⟩), _, _, rfl, rfl, _, _, rfl, rfl, .inl ⟨_, rfl, _, _, rfl, rfl, pos_m7, ?_⟩⟩⟩
      exact ⟨_, _, rfl, rfl⟩
    · rintro σ H' ⟨d, v, rfl, rfl⟩
      refine ⟨_, rfl, _, rfl, a, _, rfl, .inl hS, fun c hc => ⟨(by show 5 ≤ sizeLine; decide), fun p hp => ?_⟩⟩
      have npc : c ≠ p := fun e => by
        rw [← e, upd_same] at hp
        cases hp
      have hp0 : H' p = none := by
        rw [upd_ne npc.symm] at hp
        exact hp
      refine k p c _ ⟨⟨_, upd_same, 0, 0, 0, d, by decide, rfl⟩, (upd_ne npc).trans upd_same⟩ hp0 hc fun b o e => ?_
      rw [upd_ne (ne_of_none e hp0), upd_ne (ne_of_none e hc)]
      exact e

theorem ok_is_name (T : Txt K mg C_BadName C_BarbreaksError C_Grid C_Timed C_Named C_Item C_Piece C_Break C_Span C_House C_BadNumber C_BadText C_BadWord C_Refused C_Twice C_Unknown) : Dk P w K mg base CX0 1 "is_name" ["text"] spIsName := by
  obtain ⟨f, fd, g, F, b⟩ := T.is_name
  refine ⟨f, fd, g, F.kp, b, F.ok sc_is_name (fun vs H Q E h => ?_) (fun cdv A outer s H vs Q E hr h => ?_)⟩
  · obtain ⟨z, rfl, _⟩ := h
    rfl
  · obtain ⟨z, rfl, hz, k⟩ := h
    refine ⟨_, (pss_cons (ps_if (PW.pt (pw_or (pt_not (pt_chain op_le op_le pe_int (pe_callB call_len_str (by rfl) T.b_len (by decide +kernel) (pa_cons (pv 0) pa_nil)) (C8.pe_gc (by rfl) T.v_MOST_SIGNS))) (pw_or1 (pt_cmpR op_notIn_sign (pe_item_str (pv 0) pe_int (fun _ _ => rfl)) (C8.pe_gc (by rfl) T.v_LETTERS) (by rfl)))))
  (pss_one (ps_ret pe_bl))
  pss_nil)
  (pss_one (ps_ret (pe_callB (cr_all rfl) (by rfl) T.b_all (by decide +kernel) (pa_cons (pe_lc (own := [("sign", 1)]) (g := gName 1) (tt := tYes) (by rfl) sc_is_name.nd (pi_str (pv 0)) (blkOk_by (own := [("sign", 1)]) (N := ["text", "sign"]) (sc := defScope s_is_name) (by decide +kernel)) (fun _ _ _ _ _ => pg_name (i := 1) sc_is_name.nd rfl (Or.inl rfl)) (fun _ _ _ _ _ => pts_nil) (fun _ _ _ _ _ => (pe_or (pe_cmpR op_in_sign (pv 1) (C8.pe_gc (by rfl) T.v_LETTERS) (by rfl)) (pe_one (pe_cmpR op_in_sign (pv 1) (C8.pe_gc (by rfl) T.v_DIGITS) (by rfl)))))) pa_nil))))), ?_⟩
    have hsz : z.length ≤ sizeLine := Nat.le_trans hz (by decide)
    have hnB : nameB z = (decide (1 ≤ z.cps.size) && (decide (z.cps.size ≤ 12) && (decide (z.cps.getD 0 0 ∈ letS.cps.toList) && z.cps.toList.all signB))) := rfl
    have no : nameB z = false → Q (.bl false) H := fun e => by have q := k H (Same.refl H); rw [e] at q; exact q
    have hl : z.length = z.cps.size := rfl
    -- if not 1 <= len(text) <= MOST_SIGNS or text[0] not in LETTERS: return False
    refine ⟨_, rfl, z, rfl, hsz, _, _, rfl, rfl, _, rfl, ?_⟩
    refine ite2 (fun h1 => ?_) (fun h1 => ?_)
    · refine ⟨_, _, rfl, rfl, _, rfl, ?_⟩
      have h1' : (1 : Int) ≤ (z.length : Int) := of_decide_eq_true h1
      by_cases h2 : (z.length : Int) ≤ 12
      · rw [decide_eq_true h2]
        refine iteF ?_
        have hs1 : 0 < z.cps.size := by omega
        have hc : z.cps[(0 : Int).toNat]? = some (z.cps.getD 0 0) := by
          show z.cps[0]? = _
          rw [Array.getElem?_eq_getElem hs1]
          simp [Array.getD, hs1]
        refine ⟨_, rfl, z, 0, _, rfl, rfl, by decide, by decide, by omega, hc, _, _, rfl, rfl, _, rfl, ?_⟩
        by_cases h3 : z.cps.getD 0 0 ∈ letS.cps.toList
        · have e3 : decide (z.cps.getD 0 0 ∈ ("abcdefghijklmnopqrstuvwxyz" : Str).cps.toList) = true := decide_eq_true h3
          rw [e3]
          refine iteF ?_
          -- return all([sign in LETTERS or sign in DIGITS for sign in text])
          refine ⟨_, rfl, z, rfl, fun D hD => ?_⟩
          refine lc_text (fun i H' => H' = upd H D (.lst ((z.cps.toList.take i).map fun c => .bl (signB c)))) (by simp) ?_ ?_
          · rintro i c H' hc rfl
            refine ⟨rfl, ?_⟩
            have hi : i < z.cps.size := (Array.getElem?_eq_some_iff.mp hc).1
            have hcl : z.cps.toList[i]? = some c := by rw [← hc]; exact Array.getElem?_toList.symm ▸ rfl
            have ht : (z.cps.toList.take (i + 1)).map (fun c => V.bl (signB c)) = (z.cps.toList.take i).map (fun c => V.bl (signB c)) ++ [.bl (signB c)] := by
              rw [List.take_succ, hcl]
              simp
            have fin : ∀ b : Bool, b = signB c → ∃ acc, upd H D (.lst ((z.cps.toList.take i).map fun c => .bl (signB c))) D = some (.lst acc) ∧ acc.length < sizeLine ∧
                upd (upd H D (.lst ((z.cps.toList.take i).map fun c => .bl (signB c)))) D (.lst (acc ++ [.bl b])) = upd H D (.lst ((z.cps.toList.take (i + 1)).map fun c => .bl (signB c))) := fun b e => by
              refine ⟨_, upd_same, ?_, ?_⟩
              · rw [List.length_map, List.length_take]
                exact Nat.lt_of_le_of_lt (Nat.min_le_left _ _) (by omega)
              · rw [e, ht, upd_upd]
            refine ⟨_, rfl, c, _, rfl, rfl, _, rfl, ?_⟩
            refine ite2 (fun q => ?_) (fun q => ?_)
            · exact fin _ (by unfold signB; rw [show decide (c ∈ letS.cps.toList) = true from q]; rfl)
            · refine ⟨_, rfl, c, _, rfl, rfl, ?_⟩
              have q' : decide (c ∈ letS.cps.toList) = false := Bool.eq_false_iff.mpr q
              exact fin _ (by unfold signB; rw [q', Bool.false_or]; rfl)
          · rintro H' rfl
            refine ⟨D, z.cps.toList.map signB, rfl, SqL.of (xs := (z.cps.toList.map signB).map V.bl) ?_, ?_⟩
            · rw [upd_same, List.map_map, List.take_of_length_le (by rw [Array.length_toList]; exact Nat.le_refl _)]
              rfl
            · have e : nameB z = (z.cps.toList.map signB).all id := by
                rw [hnB, decide_eq_true (by omega : 1 ≤ z.cps.size), decide_eq_true (by omega : z.cps.size ≤ 12), decide_eq_true h3, List.all_map]
                rfl
              rw [← e]
              exact k _ (Same.new hD)
        · have e3 : decide (z.cps.getD 0 0 ∈ ("abcdefghijklmnopqrstuvwxyz" : Str).cps.toList) = false := decide_eq_false h3
          rw [e3]
          refine iteT (no ?_)
          rw [hnB, decide_eq_false h3]
          simp
      · rw [decide_eq_false h2]
        refine iteT (no ?_)
        rw [hnB, decide_eq_false (by omega : ¬ z.cps.size ≤ 12)]
        simp
    · refine ⟨_, rfl, ?_⟩
      refine iteT (no ?_)
      have h1' : ¬ (1 : Int) ≤ (z.length : Int) := fun e => h1 (decide_eq_true e)
      rw [hnB, decide_eq_false (by omega : ¬ 1 ≤ z.cps.size)]
      rfl

theorem er_BadName (T : Txt K mg C_BadName C_BarbreaksError C_Grid C_Timed C_Named C_Item C_Piece C_Break C_Span C_House C_BadNumber C_BadText C_BadWord C_Refused C_Twice C_Unknown) : ErC P w K mg base "BadName" C_BadName ["self", "name"] (spEr1 C_BadName "name") := by
  obtain ⟨R, m, fI, fd, a, t, b, F⟩ := T.er_BadName
  refine ⟨R, m, fI, fd, a, t, b, F.ok sc_BadName_init (fun vs H Q E h => ?_) (fun cdv A outer s H vs Q E hr h => ?_)⟩
  · obtain ⟨a, v, rfl, _⟩ := h
    rfl
  · obtain ⟨a, v, rfl, ha, k⟩ := h
    refine ⟨_, (pss_one (ps_ost (pv 0) (pv 1))), ?_⟩
    exact ⟨_, rfl, _, rfl, a, C_BadName, rfl, R, T.xn_BadName_name, .inl ⟨ha, fun dx n ne => k dx n ne⟩⟩

theorem ok_Grid_init0 (T : Txt K mg C_BadName C_BarbreaksError C_Grid C_Timed C_Named C_Item C_Piece C_Break C_Span C_House C_BadNumber C_BadText C_BadWord C_Refused C_Twice C_Unknown) : MkD P w K mg base CX0 1 "Grid" C_Grid ["self", "step", "offset"] [] (spGrid0 C_Grid) := by
  obtain ⟨f, fd, ds, M, F, vd, b⟩ := T.i3_Grid
  refine ⟨f, fd, ds, T.g_Grid, M, b, vd, F.ok sc_Grid_init (fun vs H Q E h => ?_) (fun cdv A outer s H vs Q E hr h => ?_)⟩
  · obtain ⟨p, dx, s, o, rfl, _⟩ := h
    rfl
  · obtain ⟨p, dx, st, o, rfl, hp, hs, k⟩ := h
    refine ⟨_, (pss_cons (ps_if (pt_cmpR op_lt (pv 1) pe_int (nomark _))
  (pss_one ps_never)
  pss_nil)
  (pss_cons (ps_fld (pv 0) (pv 1) rfl)
  (pss_one (ps_fld (pv 0) (pe_op op_mod (pv 2) (pv 1)) rfl)))), ?_⟩
    refine ⟨_, rfl, _, _, rfl, rfl, _, rfl, ?_⟩
    refine ite2 (fun q => ?_) (fun _ => ?_)
    · have q' : st < 1 := of_decide_eq_true q
      omega
    refine ⟨_, rfl, _, rfl, p, C_Grid, dx, _, rfl, hp, T.c_Grid, T.n_Grid_step, (by show 0 < 1000; decide), ?_⟩
    refine ⟨_, rfl, _, rfl, _, _, rfl, rfl, (by show 0 < st; omega), _, rfl, p, C_Grid, dx, _, rfl, upd_same, T.c_Grid, T.n_Grid_offset, (by show 1 < 1000; decide), ?_⟩
    exact k _ ⟨by omega, dx, upd_same⟩ (Off.upd.trans Off.upd)

theorem fn_Timed_init0 (T : Txt K mg C_BadName C_BarbreaksError C_Grid C_Timed C_Named C_Item C_Piece C_Break C_Span C_House C_BadNumber C_BadText C_BadWord C_Refused C_Twice C_Unknown) {f : Addr} {fd : FuncData} (F : FunD K "__init__" "Timed.__init__" (defArgs s_Timed_init) (defBody s_Timed_init) (defScope s_Timed_init) [.non, .int 0] [] f fd) : FnOk P w K mg base CX0 1 f fd ["self", "grid", "minute", "delay"] (spTimed0 K) := by
  refine F.ok sc_Timed_init (fun vs H Q E h => ?_) (fun cdv A outer s H vs Q E hr h => ?_)
  · obtain ⟨p, C, dx, fs, g, m, d, rfl, _⟩ := h
    rfl
  · obtain ⟨p, C, dx, fs, g, m, d, rfl, hp, hC, n1, n2, n3, d0, d8, hfs, k⟩ := h
    obtain ⟨mc, u, r1, r2⟩ := T.k_Timed_MOST_DELAY
    refine ⟨_, (pss_cons (ps_if (pt_not (pt_chain op_le op_le pe_int (pv 3) (ClX.pe_cval (C8.pe_gc (v := .ref C_Timed) (by rfl) ⟨_, T.g_Timed, rfl⟩))))
  (pss_one ps_never)
  pss_nil)
  (pss_cons (ps_fld (pv 0) (pv 1) rfl)
  (pss_cons (ps_fld (pv 0) (pv 2) rfl)
  (pss_one (ps_fld (pv 0) (pv 3) rfl))))), ?_⟩
    refine ⟨_, rfl, _, _, rfl, rfl, true, bl_t d0, iteT ⟨C_Timed, mc, _, u, rfl, r1, r2, _, _, rfl, rfl, true, bl_t d8, iteF ?_⟩⟩
    have l1 := @putF_length "grid" g fs
    have l2 := @putF_length "minute" m (putF "grid" g fs)
    refine ⟨_, rfl, _, rfl, p, C, dx, fs, rfl, hp, hC, n1, by omega, ?_⟩
    refine ⟨_, rfl, _, rfl, p, C, dx, _, rfl, upd_same, hC, n2, by omega, ?_⟩
    refine ⟨_, rfl, _, rfl, p, C, dx, _, rfl, upd_same, hC, n3, by omega, ?_⟩
    exact k _ upd_same ((Off.upd.trans Off.upd).trans Off.upd)
theorem ok_Timed_init0 (T : Txt K mg C_BadName C_BarbreaksError C_Grid C_Timed C_Named C_Item C_Piece C_Break C_Span C_House C_BadNumber C_BadText C_BadWord C_Refused C_Twice C_Unknown) : Cf P w K mg base CX0 1 C_Timed "__init__" ["self", "grid", "minute", "delay"] (spTimed0 K) := by
  obtain ⟨mc, f, fd, ds, r, a, F, vd, b⟩ := T.q4_Timed
  cases vd
  exact ⟨mc, f, fd, r, a, F.kp, b, fn_Timed_init0 T F⟩
theorem mk_Timed_init0 (T : Txt K mg C_BadName C_BarbreaksError C_Grid C_Timed C_Named C_Item C_Piece C_Break C_Span C_House C_BadNumber C_BadText C_BadWord C_Refused C_Twice C_Unknown) : MkD P w K mg base CX0 1 "Timed" C_Timed ["self", "grid", "minute", "delay"] [] (spTimed0 K) := by
  obtain ⟨f, fd, ds, M, F, vd, b⟩ := T.i4_Timed
  exact ⟨f, fd, ds, T.g_Timed, M, b, vd, fn_Timed_init0 T F⟩

theorem fn_Named_initX (T : Txt K mg C_BadName C_BarbreaksError C_Grid C_Timed C_Named C_Item C_Piece C_Break C_Span C_House C_BadNumber C_BadText C_BadWord C_Refused C_Twice C_Unknown) {f : Addr} {fd : FuncData} (F : Fun K "__init__" "Named.__init__" s_Named_init f fd) : FnOk P w K mg base (L2.CX P w) 3 f fd ["self", "name"] (spNamedX K C_BadName) := by
  have D_is_name := ok_is_name (P := P) (w := w) (base := base) T
  have ER_BadName := er_BadName (P := P) (w := w) (base := base) T
  refine F.okX sc_Named_init (fun vs H Q E h => ?_) (fun cdv A outer s H vs Q E hr h => ?_)
  · obtain ⟨p, C, dx, fs, z, rfl, _⟩ := h
    rfl
  · obtain ⟨p, C, dx, fs, z, rfl, hp, hC, hn, hzl, hfs, k1, k2⟩ := h
    refine ⟨_, (pss_cons (ps_if (pt_not (pt_val (pe_d D_is_name (hr.mono (by decide)) pass0 (by rfl) (pa_cons (pv 1) pa_nil))))
  (pss_one (ps_raise rfl (takes_of rfl rfl rfl rfl) (pmk_er ER_BadName (hr.mono (by decide)) (by rfl) (pa_cons (pv 1) pa_nil))))
  pss_nil)
  (pss_one (ps_fld (pv 0) (pv 1) rfl))), ?_⟩
    refine ⟨_, rfl, z, rfl, by omega, fun H1 s1 => ⟨_, rfl, ?_⟩⟩
    cases hz : nameB z with
    | true =>
      refine iteF ⟨_, rfl, _, rfl, p, C, dx, fs, rfl, s1 _ _ hp, hC, hn, by omega, ?_⟩
      exact k1 hz _ upd_same ((But.of_same s1).trans But.upd)
    | false =>
      refine iteT ⟨_, rfl, (by show 1 ≤ 1000; decide), fun a ha => ⟨a, _, rfl, upd_same, fun d hd hda => ⟨rfl, d, _, upd_same, (upd_ne hda).trans upd_same, (upd_ne hda).symm.trans hd, ?_⟩⟩⟩
      rw [del_made ha ((upd_ne hda).symm.trans hd) hda]
      exact k2 hz _ _ (s1.trans (Same.new ((upd_ne hda).symm.trans hd))) upd_same
theorem ok_Named_initX (T : Txt K mg C_BadName C_BarbreaksError C_Grid C_Timed C_Named C_Item C_Piece C_Break C_Span C_House C_BadNumber C_BadText C_BadWord C_Refused C_Twice C_Unknown) : Cf P w K mg base (L2.CX P w) 3 C_Named "__init__" ["self", "name"] (spNamedX K C_BadName) := by
  obtain ⟨mc, f, fd, r, a, F, b⟩ := T.q_Named_init
  exact ⟨mc, f, fd, r, a, F.kp, b, fn_Named_initX T F⟩
theorem mk_Named_initX (T : Txt K mg C_BadName C_BarbreaksError C_Grid C_Timed C_Named C_Item C_Piece C_Break C_Span C_House C_BadNumber C_BadText C_BadWord C_Refused C_Twice C_Unknown) : MkD P w K mg base (L2.CX P w) 3 "Named" C_Named ["self", "name"] [] (spNamedX K C_BadName) := by
  obtain ⟨f, fd, M, F, b⟩ := T.i_Named
  exact ⟨f, fd, [], T.g_Named, M, b, .nil, fn_Named_initX T F⟩

theorem fn_Item_initX (T : Txt K mg C_BadName C_BarbreaksError C_Grid C_Timed C_Named C_Item C_Piece C_Break C_Span C_House C_BadNumber C_BadText C_BadWord C_Refused C_Twice C_Unknown) {f : Addr} {fd : FuncData} (F : Fun K "__init__" "Item.__init__" s_Item_init f fd) : FnOk P w K mg base (L2.CX P w) 4 f fd ["self", "name", "grid", "minute", "delay"] (spItemX K C_BadName) := by
  have S_Named_init := ok_Named_initX (P := P) (w := w) (base := base) T
  have S_Timed_init := ok_Timed_init0 (P := P) (w := w) (base := base) T
  refine F.okX sc_Item_init (fun vs H Q E h => ?_) (fun cdv A outer s H vs Q E hr h => ?_)
  · obtain ⟨p, C, dx, fs, z, g, m, d, rfl, _⟩ := h
    rfl
  · obtain ⟨p, C, dx, fs, z, g, m, d, rfl, hp, hC, hzl, d0, d8, hfs, k1, k2⟩ := h
    refine ⟨_, (pss_cons (ps_expr (pe_cf S_Named_init (hr.mono (by decide)) (passes_call (takes_of rfl rfl rfl rfl) (fun _ _ _ _ z => z)) (C8.pe_gc (v := .ref C_Named) (by rfl) ⟨_, T.g_Named, rfl⟩) (pa_cons (pv 0) (pa_cons (pv 1) pa_nil))))
  (pss_one (ps_expr (pe_cf S_Timed_init (hr.mono (by decide)) pass0 (C8.pe_gc (v := .ref C_Timed) (by rfl) ⟨_, T.g_Timed, rfl⟩) (pa_cons (pv 0) (pa_cons (pv 2) (pa_cons (pv 3) (pa_cons (pv 4) pa_nil)))))))), ?_⟩
    have l1 := @putF_length "name" (.str z) fs
    refine ⟨rfl, _, rfl, _, rfl, p, C, dx, fs, z, rfl, hp, hC.c, hC.n, hzl, by omega, fun hz H1 h1 b1 => ?_, fun hz => k2 hz⟩
    refine ⟨rfl, _, rfl, _, rfl, _, rfl, _, rfl, p, C, dx, _, g, m, d, rfl, h1, hC.c, hC.g, hC.m, hC.d, d0, d8, by omega, fun H2 h2 o2 => ?_⟩
    exact k1 hz _ h2 (b1.trans fun b o e hb => by rw [o2 b hb]; exact e)
theorem ok_Item_initX (T : Txt K mg C_BadName C_BarbreaksError C_Grid C_Timed C_Named C_Item C_Piece C_Break C_Span C_House C_BadNumber C_BadText C_BadWord C_Refused C_Twice C_Unknown) : CfK P w K mg base (L2.CX P w) 4 C_Item "__init__" ["self", "name", "grid", "minute", "delay"] 2 ["grid", "minute", "delay"] (spItemX K C_BadName) := by
  obtain ⟨mc, f, fd, r, a, F, b⟩ := T.q_Item_init
  exact ⟨mc, f, fd, r, a, F.kp, b, fn_Item_initX T F⟩
theorem mk_Item_initX (T : Txt K mg C_BadName C_BarbreaksError C_Grid C_Timed C_Named C_Item C_Piece C_Break C_Span C_House C_BadNumber C_BadText C_BadWord C_Refused C_Twice C_Unknown) : MkG P w K mg base (L2.CX P w) 4 "Item" C_Item ["self", "name", "grid", "minute", "delay"] 2 ["grid"] [.non, .int 0] (spItemX K C_BadName) := by
  obtain ⟨f, fd, gU, M, F, b⟩ := T.j_Item
  exact ⟨f, fd, gU, T.g_Item, M, b, fn_Item_initX T F⟩

theorem mk_Piece_initX (T : Txt K mg C_BadName C_BarbreaksError C_Grid C_Timed C_Named C_Item C_Piece C_Break C_Span C_House C_BadNumber C_BadText C_BadWord C_Refused C_Twice C_Unknown) : MkG P w K mg base (L2.CX P w) 5 "Piece" C_Piece ["self", "name", "grid", "least", "most", "minute", "delay"] 2 ["grid", "least", "most"] [.non, .int 0] (spPieceX K C_BadName) := by
  have S_Item_init := ok_Item_initX (P := P) (w := w) (base := base) T
  obtain ⟨f, fd, gU, M, F, b⟩ := T.j_Piece
  refine ⟨f, fd, gU, T.g_Piece, M, b, F.okX sc_Piece_init (fun vs H Q E h => ?_) (fun cdv A outer s H vs Q E hr h => ?_)⟩
  · obtain ⟨p, C, dx, z, g, m, l, t, d, rfl, _⟩ := h
    rfl
  · obtain ⟨p, C, dx, z, g, m, l, t, d, rfl, hp, hC, n1, n2, hzl, d0, d8, l1, lt, t8, k1, k2⟩ := h
    obtain ⟨mc, u, r1, r2⟩ := T.k_Piece_MOST_SPREAD
    refine ⟨_, (pss_cons (ps_expr (pe_cfK S_Item_init (hr.mono (by decide)) (passes_call (takes_of rfl rfl rfl rfl) (fun _ _ _ _ z => z)) (C8.pe_gc (v := .ref C_Item) (by rfl) ⟨_, T.g_Item, rfl⟩) (pa_cons (pv 0) (pa_cons (pv 1) pa_nil)) (pk_cons (pv 2) (pk_cons (pv 5) (pk_cons (pv 6) pk_nil)))))
  (pss_cons (ps_if (pt_cmpR op_lt (pv 3) pe_int (nomark _))
  (pss_one ps_never)
  pss_nil)
  (pss_cons (ps_if (pt_not (pt_chain op_le op_le (pv 3) (pv 4) (pe_op op_add (pv 3) (ClX.pe_cval (C8.pe_gc (v := .ref C_Piece) (by rfl) ⟨_, T.g_Piece, rfl⟩)))))
  (pss_one ps_never)
  pss_nil)
  (pss_cons (ps_fld (pv 0) (pv 3) rfl)
  (pss_one (ps_fld (pv 0) (pv 4) rfl)))))), ?_⟩
    refine ⟨rfl, _, rfl, _, rfl, _, rfl, _, rfl, _, rfl, rfl, rfl, p, C, dx, [], z, g, m, d, rfl, hp, hC, hzl, d0, d8, by decide, fun hz H1 h1 b1 => ?_, fun hz => k2 hz⟩
    refine ⟨_, rfl, _, _, rfl, rfl, false, bl_f (by omega), iteF ?_⟩
    refine ⟨_, rfl, _, rfl, _, _, rfl, rfl, true, bl_t lt, iteT ⟨_, rfl, C_Piece, mc, _, u, rfl, r1, r2, _, _, rfl, rfl, _, _, rfl, rfl, true, bl_t t8, iteF ?_⟩⟩
    refine ⟨_, rfl, _, rfl, p, C, dx, _, rfl, h1, hC.c, n1, (by exact Nat.lt_of_le_of_lt (putI_length z g m d) (by decide)), ?_⟩
    refine ⟨_, rfl, _, rfl, p, C, dx, _, rfl, upd_same, hC.c, n2, (by exact Nat.lt_of_le_of_lt (Nat.le_trans putF_length (Nat.succ_le_succ (putI_length z g m d))) (by decide)), ?_⟩
    exact k1 hz _ ⟨dx, _, upd_same, (look_ne (by decide +kernel)).trans ((look_ne (by decide +kernel)).trans putI_name)⟩ (b1.trans (But.upd.trans But.upd))

theorem mk_Break_initX (T : Txt K mg C_BadName C_BarbreaksError C_Grid C_Timed C_Named C_Item C_Piece C_Break C_Span C_House C_BadNumber C_BadText C_BadWord C_Refused C_Twice C_Unknown) : MkG P w K mg base (L2.CX P w) 5 "Break" C_Break ["self", "name", "grid", "minute", "places", "unit", "delay", "patience"] 2 ["grid", "minute", "places", "unit"] [.int 0, .int 1] (spBreakX K C_BadName) := by
  have S_Item_init := ok_Item_initX (P := P) (w := w) (base := base) T
  obtain ⟨f, fd, gU, M, F, b⟩ := T.j_Break
  refine ⟨f, fd, gU, T.g_Break, M, b, F.okX sc_Break_init (fun vs H Q E h => ?_) (fun cdv A outer s H vs Q E hr h => ?_)⟩
  · obtain ⟨p, C, dx, z, g, m, n, u, d, y, rfl, _⟩ := h
    rfl
  · obtain ⟨p, C, dx, z, g, m, n, u, d, y, rfl, hp, hC, n1, n2, n3, hzl, d0, d8, a1, a2, a3, a4, a5, k1, k2⟩ := h
    obtain ⟨mc, c1, r1, r2⟩ := T.k_Break_MOST_PLACES
    obtain ⟨mc2, c2, r3, r4⟩ := T.k_Break_MOST_PATIENCE
    refine ⟨_, (pss_cons (ps_expr (pe_cfK S_Item_init (hr.mono (by decide)) (passes_call (takes_of rfl rfl rfl rfl) (fun _ _ _ _ z => z)) (C8.pe_gc (v := .ref C_Item) (by rfl) ⟨_, T.g_Item, rfl⟩) (pa_cons (pv 0) (pa_cons (pv 1) pa_nil)) (pk_cons (pv 2) (pk_cons (pv 3) (pk_cons (pv 6) pk_nil)))))
  (pss_cons (ps_if (pt_not (pt_chain op_le op_le pe_int (pv 4) (ClX.pe_cval (C8.pe_gc (v := .ref C_Break) (by rfl) ⟨_, T.g_Break, rfl⟩))))
  (pss_one ps_never)
  pss_nil)
  (pss_cons (ps_if (pt_cmpR op_lt (pv 5) pe_int (nomark _))
  (pss_one ps_never)
  pss_nil)
  (pss_cons (ps_if (pt_not (pt_chain op_le op_le pe_int (pv 7) (ClX.pe_cval (C8.pe_gc (v := .ref C_Break) (by rfl) ⟨_, T.g_Break, rfl⟩))))
  (pss_one ps_never)
  pss_nil)
  (pss_cons (ps_fld (pv 0) (pv 4) rfl)
  (pss_cons (ps_fld (pv 0) (pv 5) rfl)
  (pss_one (ps_fld (pv 0) (pv 7) rfl)))))))), ?_⟩
    refine ⟨rfl, _, rfl, _, rfl, _, rfl, _, rfl, _, rfl, rfl, rfl, p, C, dx, [], z, g, m, d, rfl, hp, hC, hzl, d0, d8, by decide, fun hz H1 h1 b1 => ?_, fun hz => k2 hz⟩
    refine ⟨_, rfl, _, _, rfl, rfl, true, bl_t a1, iteT ⟨C_Break, mc, _, c1, rfl, r1, r2, _, _, rfl, rfl, true, bl_t a2, iteF ?_⟩⟩
    refine ⟨_, rfl, _, _, rfl, rfl, false, bl_f (by omega), iteF ?_⟩
    refine ⟨_, rfl, _, _, rfl, rfl, true, bl_t a4, iteT ⟨C_Break, mc2, _, c2, rfl, r3, r4, _, _, rfl, rfl, true, bl_t a5, iteF ?_⟩⟩
    refine ⟨_, rfl, _, rfl, p, C, dx, _, rfl, h1, hC.c, n1, (by exact Nat.lt_of_le_of_lt (putI_length z g m d) (by decide)), ?_⟩
    refine ⟨_, rfl, _, rfl, p, C, dx, _, rfl, upd_same, hC.c, n2, (by exact Nat.lt_of_le_of_lt (Nat.le_trans putF_length (Nat.succ_le_succ (putI_length z g m d))) (by decide)), ?_⟩
    refine ⟨_, rfl, _, rfl, p, C, dx, _, rfl, upd_same, hC.c, n3, (by exact Nat.lt_of_le_of_lt (Nat.le_trans putF_length (Nat.succ_le_succ (Nat.le_trans putF_length (Nat.succ_le_succ (putI_length z g m d))))) (by decide)), ?_⟩
    exact k1 hz _ ⟨dx, _, upd_same, (look_ne (by decide +kernel)).trans ((look_ne (by decide +kernel)).trans ((look_ne (by decide +kernel)).trans putI_name))⟩ (b1.trans (But.upd.trans (But.upd.trans But.upd)))

theorem ok_check_from_one (T : Txt K mg C_BadName C_BarbreaksError C_Grid C_Timed C_Named C_Item C_Piece C_Break C_Span C_House C_BadNumber C_BadText C_BadWord C_Refused C_Twice C_Unknown) : Dk P w K mg base CX0 1 "check_from_one" ["number", "most"] spFromOne := by
  obtain ⟨f, fd, g, F, b⟩ := T.check_from_one
  refine ⟨f, fd, g, F.kp, b, F.ok sc_check_from_one (fun vs H Q E h => ?_) (fun cdv A outer s H vs Q E hr h => ?_)⟩
  · obtain ⟨n, m, rfl, _⟩ := h
    rfl
  · obtain ⟨n, m, rfl, h1, h2, k⟩ := h
    refine ⟨_, (pss_one (ps_if (pt_not (pt_chain op_le op_le pe_int (pv 0) (pv 1)))
  (pss_one ps_never)
  pss_nil)), ?_⟩
    exact ⟨_, rfl, _, _, rfl, rfl, true, bl_t h1, iteT ⟨_, rfl, _, _, rfl, rfl, true, bl_t h2, iteF k⟩⟩

theorem ok_check_apart (T : Txt K mg C_BadName C_BarbreaksError C_Grid C_Timed C_Named C_Item C_Piece C_Break C_Span C_House C_BadNumber C_BadText C_BadWord C_Refused C_Twice C_Unknown) : Dk P w K mg base CX0 1 "check_apart" ["apart"] spApart1 := by
  obtain ⟨f, fd, g, F, b⟩ := T.check_apart
  refine ⟨f, fd, g, F.kp, b, F.ok sc_check_apart (fun vs H Q E h => ?_) (fun cdv A outer s H vs Q E hr h => ?_)⟩
  · obtain ⟨n, rfl, _⟩ := h
    rfl
  · obtain ⟨n, rfl, h1, k⟩ := h
    refine ⟨_, (pss_one (ps_if (pt_cmpR op_lt (pv 0) pe_int (nomark _))
  (pss_one ps_never)
  pss_nil)), ?_⟩
    exact ⟨_, rfl, _, _, rfl, rfl, false, bl_f (by omega), iteF k⟩

theorem ok_Span_init0 (T : Txt K mg C_BadName C_BarbreaksError C_Grid C_Timed C_Named C_Item C_Piece C_Break C_Span C_House C_BadNumber C_BadText C_BadWord C_Refused C_Twice C_Unknown) : MkD P w K mg base CX0 1 "Span" C_Span ["self", "low", "high"] [] (spSpan0 C_Span) := by
  obtain ⟨f, fd, M, F, b⟩ := T.i_Span
  refine ⟨f, fd, [], T.g_Span, M, b, .nil, F.ok sc_Span_init (fun vs H Q E h => ?_) (fun cdv A outer s H vs Q E hr h => ?_)⟩
  · obtain ⟨p, dx, lo, hi, rfl, _⟩ := h
    rfl
  · obtain ⟨p, dx, lo, hi, rfl, hp, hl, k⟩ := h
    refine ⟨_, (pss_cons (ps_if (pt_cmpR op_gt (pv 1) (pv 2) (nomark _))
  (pss_one ps_never)
  pss_nil)
  (pss_cons (ps_fld (pv 0) (pv 1) rfl)
  (pss_one (ps_fld (pv 0) (pv 2) rfl)))), ?_⟩
    refine ⟨_, rfl, _, rfl, _, _, rfl, rfl, false, bl_f (by omega), iteF ?_⟩
    refine ⟨_, rfl, _, rfl, p, C_Span, dx, _, rfl, hp, T.c_Span, T.n_Span_low, (by show 0 < 1000; decide), ?_⟩
    refine ⟨_, rfl, _, rfl, p, C_Span, dx, _, rfl, upd_same, T.c_Span, T.n_Span_high, (by show 1 < 1000; decide), ?_⟩
    exact k _ (Off.upd.trans Off.upd)

theorem ok_span_of_ways (T : Txt K mg C_BadName C_BarbreaksError C_Grid C_Timed C_Named C_Item C_Piece C_Break C_Span C_House C_BadNumber C_BadText C_BadWord C_Refused C_Twice C_Unknown) : Dk P w K mg base CX0 3 "span_of_ways" ["bounds"] (spWays0 K) := by
  have D_Span := ok_Span_init0 (P := P) (w := w) (base := base) T
  obtain ⟨f, fd, g, F, b⟩ := T.span_of_ways
  refine ⟨f, fd, g, F.kp, b, F.ok sc_span_of_ways (fun vs H Q E h => ?_) (fun cdv A outer s H vs Q E hr h => ?_)⟩
  · obtain ⟨a, rfl, _⟩ := h
    rfl
  · obtain ⟨a, rfl, ha, k⟩ := h
    refine ⟨_, (pss_cons (ps_asg (pv 0) (pg_tup (by rfl) (pgs_cons (pg_name (i := 1) sc_span_of_ways.nd rfl (Or.inl rfl)) (pgs_cons (pg_name (i := 2) sc_span_of_ways.nd rfl (Or.inl rfl)) pgs_nil))))
  (pss_cons (ps_if (pt_not (pt_chain3 op_le op_le op_le pe_int (pv 1) (pv 2) (pe_op op_add (pv 1) (C8.pe_gc (by rfl) T.v_MOST_SPREAD_OF_WAYS))))
  (pss_one ps_never)
  pss_nil)
  (pss_one (ps_ret (pe_mkd D_Span (hr.mono (by decide)) pass0 (by rfl) (pa_cons (pv 1) (pa_cons (pv 2) pa_nil))))))), ?_⟩
    refine ⟨_, rfl, a, _, rfl, ha, rfl, _, _, rfl, _, _, rfl, rfl, ?_⟩
    refine ⟨_, rfl, _, _, rfl, rfl, true, rfl, iteT ⟨_, rfl, _, _, rfl, rfl, true, rfl, iteT ⟨_, rfl, _, _, rfl, rfl, _, _, rfl, rfl, true, rfl, iteF ?_⟩⟩⟩
    refine ⟨_, rfl, _, rfl, fun x dx nx nd ne => ⟨x, dx, 0, 0, rfl, upd_same, by decide, fun H1 o1 => ⟨rfl, ?_⟩⟩⟩
    exact k x _ (Same.inst nx nd (But.of_off o1))

theorem ok_check_kinds (T : Txt K mg C_BadName C_BarbreaksError C_Grid C_Timed C_Named C_Item C_Piece C_Break C_Span C_House C_BadNumber C_BadText C_BadWord C_Refused C_Twice C_Unknown) : Dk P w K mg base (L2.CX P w) 3 "check_kinds" ["kinds"] (spKind1 C_BadName) := by
  have D_is_name := ok_is_name (P := P) (w := w) (base := base) T
  have ER_BadName := er_BadName (P := P) (w := w) (base := base) T
  have ER_TooMany : True := trivial
  obtain ⟨f, fd, g, F, b⟩ := T.check_kinds
  refine ⟨f, fd, g, F.kp, b, F.okX sc_check_kinds (fun vs H Q E h => ?_) (fun cdv A outer s H vs Q E hr h => ?_)⟩
  · obtain ⟨l, z, rfl, _⟩ := h
    rfl
  · obtain ⟨l, z, rfl, hl, hzl, k1, k2⟩ := h
    refine ⟨_, (pss_cons (ps_if (pt_cmpR op_gt (pe_callB call_len_seq (by rfl) T.b_len (by decide +kernel) (pa_cons (pv 0) pa_nil)) (C8.pe_gc (by rfl) T.v_MOST_KINDS) (nomark _))
  (pss_one ps_never)
  pss_nil)
  (pss_one (ps_for (passes_of rfl) rfl (pi_enum (by rfl) T.b_enumerate (pa_cons (pv 0) pa_nil)) (pg_tup (by rfl) (pgs_cons (pg_name (i := 1) sc_check_kinds.nd rfl (Or.inl rfl)) (pgs_cons (pg_name (i := 2) sc_check_kinds.nd rfl (Or.inl rfl)) pgs_nil)))
  (pss_cons (ps_if (pt_not (pt_val (pe_d D_is_name (hr.mono (by decide)) pass0 (by rfl) (pa_cons (pv 2) pa_nil))))
  (pss_one (ps_raise rfl (takes_of rfl rfl rfl rfl) (pmk_er ER_BadName (hr.mono (by decide)) (by rfl) (pa_cons (pv 2) pa_nil))))
  pss_nil)
  (pss_one (ps_if (pt_cmpR op_in_seq (pv 2) (pe_slice sl_list (pv 0) po_none (po_some (pv 1))) (by rfl))
  (pss_one ps_never)
  pss_nil)))))), ?_⟩
    refine ⟨_, rfl, l, _, rfl, .inl (SqL.of hl), _, _, rfl, rfl, false, rfl, iteF ?_⟩
    refine ⟨_, rfl, l, _, rfl, SqL.of hl, for_it (walk_enum (xs := [.str z])) (fun i σ H' => ∃ (x1 x2 : Option V), σ = [some (.ref l), x1, x2] ∧ Same H H' ∧ (0 < i → nameB z = true)) ⟨_, _, rfl, Same.refl _, fun q => absurd q (by decide)⟩ (fun i σ H' _ ⟨_, _, _, s1, _⟩ => SqL.of (s1 _ _ hl)) ?_ ?_⟩
    · rintro i x σ H1 H2 hi ⟨x1, x2, rfl, s1, _⟩ ⟨t, a, b, rfl, nt, rfl, ea, eb⟩
      have i0 : i = 0 := by
        have : i < 1 := hi
        omega
      subst i0
      cases ea
      cases eb
      have s2 := s1.trans (Same.new (o := .tup [.int (0 : Nat), .str z]) nt)
      refine ⟨t, _, rfl, SqT.of upd_same, rfl, _, _, rfl, _, _, rfl, rfl, ?_⟩
      refine ⟨_, rfl, z, rfl, by omega, fun H3 s3 => ⟨_, rfl, ?_⟩⟩
      have s4 := s2.trans s3
      cases hz : nameB z with
      | true =>
        refine iteF ?_
        refine ⟨_, rfl, _, rfl, _, rfl, _, rfl, l, _, rfl, SqL.of (s4 _ _ hl), fun q nq => ⟨q, _, rfl, .inl (SqL.of upd_same), rfl, rfl, false, rfl, iteF ?_⟩⟩
        exact ⟨_, _, rfl, s4.trans (Same.new nq), fun _ => rfl⟩
      | false =>
        refine iteT ⟨_, rfl, (by show 1 ≤ 1000; decide), fun a ha => ⟨a, _, rfl, upd_same, fun d hd hda => ⟨rfl, d, _, upd_same, (upd_ne hda).trans upd_same, (upd_ne hda).symm.trans hd, ?_⟩⟩⟩
        rw [del_made ha ((upd_ne hda).symm.trans hd) hda]
        exact k2 hz _ _ (s4.trans (Same.new ((upd_ne hda).symm.trans hd))) upd_same
    · rintro σ H1 ⟨x1, x2, rfl, s1, q⟩
      exact k1 (q (by show 0 < 1; decide)) _ s1

theorem hc_House (T : Txt K mg C_BadName C_BarbreaksError C_Grid C_Timed C_Named C_Item C_Piece C_Break C_Span C_House C_BadNumber C_BadText C_BadWord C_Refused C_Twice C_Unknown) : HouseC K C_House := ⟨T.c_House, T.n_House_studios, T.n_House_crews, T.n_House_kinds, T.n_House_walk, T.n_House_pack, T.n_House_ahead, T.n_House_apart⟩
theorem mk_House_initX (T : Txt K mg C_BadName C_BarbreaksError C_Grid C_Timed C_Named C_Item C_Piece C_Break C_Span C_House C_BadNumber C_BadText C_BadWord C_Refused C_Twice C_Unknown) : ∃ (W1 W2 : Addr), MkD P w K mg base (L2.CX P w) 5 "House" C_House ["self", "studios", "crews", "kinds", "walk", "pack", "ahead", "apart"] [.ref W1, .ref W2, .int 1, .int 1] (spHouseX K C_House C_BadName W1 W2) := by
  have D_check_from_one := ok_check_from_one (P := P) (w := w) (base := base) T
  have D_check_kinds := ok_check_kinds (P := P) (w := w) (base := base) T
  have D_span_of_ways := ok_span_of_ways (P := P) (w := w) (base := base) T
  have D_check_apart := ok_check_apart (P := P) (w := w) (base := base) T
  obtain ⟨W1, W2, e, w1, w2, f, fd, ds, M, F, vd, b⟩ := T.w_House
  refine ⟨W1, W2, f, fd, ds, T.g_House, M, b, vd, F.ok sc_House_init (fun vs H Q E h => ?_) (fun cdv A outer s H vs Q E hr h => ?_)⟩
  · obtain ⟨p, dx, l, z, rfl, _⟩ := h
    rfl
  · obtain ⟨p, dx, l, z, rfl, hp, hl, hC, hzl, k1, k2⟩ := h
    refine ⟨_, (pss_cons (ps_expr (pe_d D_check_from_one (hr.mono (by decide)) pass0 (by rfl) (pa_cons (pv 1) (pa_cons (C8.pe_gc (by rfl) T.v_MOST_STUDIOS) pa_nil))))
  (pss_cons (ps_expr (pe_d D_check_from_one (hr.mono (by decide)) pass0 (by rfl) (pa_cons (pv 2) (pa_cons (C8.pe_gc (by rfl) T.v_MOST_CREWS) pa_nil))))
  (pss_cons (ps_expr (pe_d D_check_kinds (hr.mono (by decide)) (passes_call (takes_of rfl rfl rfl rfl) (fun _ _ _ _ z => z)) (by rfl) (pa_cons (pv 3) pa_nil)))
  (pss_cons (ps_fld (pv 0) (pv 1) rfl)
  (pss_cons (ps_fld (pv 0) (pv 2) rfl)
  (pss_cons (ps_fld (pv 0) (pe_callTy call_tuple_of (by rfl) T.b_tuple (by decide +kernel) (pa_cons (pv 3) pa_nil)) rfl)
  (pss_cons (ps_fld (pv 0) (pe_d D_span_of_ways (hr.mono (by decide)) pass0 (by rfl) (pa_cons (pv 4) pa_nil)) rfl)
  (pss_cons (ps_fld (pv 0) (pe_d D_span_of_ways (hr.mono (by decide)) pass0 (by rfl) (pa_cons (pv 5) pa_nil)) rfl)
  (pss_cons (ps_expr (pe_d D_check_from_one (hr.mono (by decide)) pass0 (by rfl) (pa_cons (pv 6) (pa_cons (C8.pe_gc (by rfl) T.v_MOST_AHEAD) pa_nil))))
  (pss_cons (ps_expr (pe_d D_check_apart (hr.mono (by decide)) pass0 (by rfl) (pa_cons (pv 7) pa_nil)))
  (pss_cons (ps_fld (pv 0) (pv 6) rfl)
  (pss_one (ps_fld (pv 0) (pv 7) rfl))))))))))))), ?_⟩
    have npl : l ≠ p := fun q => by
      rw [q, hp] at hl
      cases hl
    refine ⟨_, rfl, 1, 6, rfl, by decide, by decide, ?_⟩
    refine ⟨_, rfl, 1, 6, rfl, by decide, by decide, ?_⟩
    refine ⟨_, rfl, l, z, rfl, hl, hzl, fun hz H1 s1 => ?_, fun hz => k2 hz⟩
    refine ⟨_, rfl, _, rfl, p, C_House, dx, _, rfl, s1 _ _ hp, hC.c, hC.n1, (by show 0 < 1000; decide), ?_⟩
    refine ⟨_, rfl, _, rfl, p, C_House, dx, _, rfl, upd_same, hC.c, hC.n2, (by show 1 < 1000; decide), ?_⟩
    refine ⟨_, rfl, l, _, rfl, .inl ⟨SqL.of ((upd_ne npl).trans ((upd_ne npl).trans (s1 _ _ hl))), fun t nt => ?_⟩⟩
    have ntp : t ≠ p := fun q => by
      rw [q, upd_same] at nt
      cases nt
    refine ⟨_, rfl, p, C_House, dx, _, rfl, (upd_ne ntp.symm).trans upd_same, hC.c, hC.n3, (by show 2 < 1000; decide), ?_⟩
    refine ⟨_, rfl, W1, rfl, w1 _, fun x2 H2 s2 => ⟨_, rfl, p, C_House, dx, _, rfl, s2 _ _ upd_same, hC.c, hC.n4, (by show 3 < 1000; decide), ?_⟩⟩
    refine ⟨_, rfl, W2, rfl, w2 _, fun x3 H3 s3 => ⟨_, rfl, p, C_House, dx, _, rfl, s3 _ _ upd_same, hC.c, hC.n5, (by show 4 < 1000; decide), ?_⟩⟩
    refine ⟨_, rfl, 1, 3, rfl, by decide, by decide, ?_⟩
    refine ⟨_, rfl, 1, rfl, by decide, ?_⟩
    refine ⟨_, rfl, _, rfl, p, C_House, dx, _, rfl, upd_same, hC.c, hC.n6, (by show 5 < 1000; decide), ?_⟩
    refine ⟨_, rfl, _, rfl, p, C_House, dx, _, rfl, upd_same, hC.c, hC.n7, (by show 6 < 1000; decide), ?_⟩
    refine k1 hz _ ⟨dx, t, _, upd_same, ?_, ?_⟩ ?_
    · rw [look_ne (by decide +kernel), look_ne (by decide +kernel), look_ne (by decide +kernel), look_ne (by decide +kernel), look_put]
    · exact (upd_ne ntp).trans ((upd_ne ntp).trans ((upd_ne ntp).trans (s3 _ _ ((upd_ne ntp).trans (s2 _ _ ((upd_ne ntp).trans upd_same))))))
    · exact (But.of_same s1).trans (But.upd.trans (But.upd.trans ((But.of_same (Same.new nt)).trans (But.upd.trans ((But.of_same s2).trans (But.upd.trans ((But.of_same s3).trans (But.upd.trans (But.upd.trans But.upd)))))))))

theorem ok_l_text (T : Txt K mg C_BadName C_BarbreaksError C_Grid C_Timed C_Named C_Item C_Piece C_Break C_Span C_House C_BadNumber C_BadText C_BadWord C_Refused C_Twice C_Unknown) : Dk P w K mg base CX0 2 "_law_text" ["_law_pool_here"] spWritten := by
  have D_l_take := ok_l_take (P := P) (w := w) (base := base) T
  obtain ⟨f, fd, g, F, b⟩ := T.l_text
  refine ⟨f, fd, g, F.kp, b, F.ok sc_l_text (fun vs H Q E h => ?_) (fun cdv A outer s H vs Q E hr h => ?_)⟩
  · obtain ⟨p, c, ns, rfl, _⟩ := h
    rfl
  · obtain ⟨p, c, ns, rfl, hp, k⟩ := h
    refine ⟨_, (pss_cons (ps_set (i := 1) sc_l_text.nd rfl (Or.inl rfl) pe_str)
  (pss_cons (ps_set (i := 2) sc_l_text.nd rfl (Or.inl rfl) pe_str)
  (C8.pss_cut (ps_set (i := 2) sc_l_text.nd rfl (Or.inl rfl) (pe_op op_add_str (pv 2) pe_str))
  (pss_cons (ps_set (i := 3) sc_l_text.nd rfl (Or.inl rfl) (pe_d D_l_take (hr.mono (by decide)) pass0 (by rfl) (pa_cons (pv 0) (pa_cons pe_int pa_nil))))
  (C8.pss_cut (ps_if (pt_cmpR op_eq (pe_d D_l_take (hr.mono (by decide)) pass0 (by rfl) (pa_cons (pv 0) (pa_cons pe_int pa_nil))) pe_int (nomark _))
  (pss_one (ps_set (i := 3) sc_l_text.nd rfl (Or.inl rfl) (pe_ix ix_list (pe_lst (pa_cons pe_int (pa_cons pe_int (pa_cons pe_int pa_nil)))) (pe_d D_l_take (hr.mono (by decide)) pass0 (by rfl) (pa_cons (pv 0) (pa_cons pe_int pa_nil))) (fun _ _ => rfl))))
  pss_nil)
  (pss_cons (ps_set (i := 4) sc_l_text.nd rfl (Or.inl rfl) (pe_d D_l_take (hr.mono (by decide)) pass0 (by rfl) (pa_cons (pv 0) (pa_cons pe_int pa_nil))))
  (pss_cons (ps_set (i := 5) sc_l_text.nd rfl (Or.inl rfl) pe_str)
  (pss_cons (ps_for PassesOwn.never rfl (pi_range1 rfl T.b_range (pa_cons (pv 3) pa_nil)) (pg_name (i := 6) sc_l_text.nd rfl (Or.inl rfl))
  (pss_one (ps_if (pt_cmpR op_eq (pv 4) pe_int (nomark _))
  (pss_one (ps_set (i := 5) sc_l_text.nd rfl (Or.inl rfl) (pe_op op_add_str (pv 5) (pe_item_str (pv 2) (pe_d D_l_take (hr.mono (by decide)) pass0 (by rfl) (pa_cons (pv 0) (pa_cons pe_int pa_nil))) (fun _ _ => rfl)))))
  (pss_one (ps_if (pt_cmpR op_eq (pv 6) pe_int (nomark _))
  (pss_one (ps_set (i := 5) sc_l_text.nd rfl (Or.inl rfl) (pe_op op_add_str (pv 5) (pe_item_str (pv 1) (pe_d D_l_take (hr.mono (by decide)) pass0 (by rfl) (pa_cons (pv 0) (pa_cons pe_int pa_nil))) (fun _ _ => rfl)))))
  (pss_one (ps_set (i := 5) sc_l_text.nd rfl (Or.inl rfl) (pe_op op_add_str (pv 5) (pe_item_str (pe_op op_add_str (pv 1) pe_str) (pe_d D_l_take (hr.mono (by decide)) pass0 (by rfl) (pa_cons (pv 0) (pa_cons pe_int pa_nil))) (fun _ _ => rfl))))))))))
  (C8.pss_cut (ps_if (PW.pt (pw_and (pt_cmpR op_eq (pv 4) pe_int (nomark _)) (pw_and1 (pt_cmpR op_gt (pv 3) pe_int (nomark _)))))
  (pss_cons (ps_set (i := 7) sc_l_text.nd rfl (Or.inl rfl) (pe_d D_l_take (hr.mono (by decide)) pass0 (by rfl) (pa_cons (pv 0) (pa_cons (pv 3) pa_nil))))
  (pss_one (ps_set (i := 5) sc_l_text.nd rfl (Or.inl rfl) (pe_op op_add_str (pe_op op_add_str (pe_slice sl_str (pv 5) po_none (po_some (pv 7))) (pe_item_str (pv 2) (pe_d D_l_take (hr.mono (by decide)) pass0 (by rfl) (pa_cons (pv 0) (pa_cons pe_int pa_nil))) (fun _ _ => rfl))) (pe_slice sl_str (pv 5) (po_some (pe_op op_add (pv 7) pe_int)) po_none)))))
  pss_nil)
  (pss_one (ps_ret (pv 5)))))))))))), ?_⟩
    have ll : (letS : Str).length = 26 := by decide +kernel
    have l10 : ("0123456789" : Str).length = 10 := by decide +kernel
    refine ⟨fun σ H' => ∃ sg : Str, σ = [some (.ref p), some (.str letS), some (.str sg), none, none, none, none, none] ∧ 96 ≤ sg.length ∧ sg.length ≤ 200 ∧ H' = H, ?_, ?_⟩
    · exact ⟨_, rfl, _, _, rfl, rfl, catL (by decide +kernel) (by decide +kernel), _, rfl, (by rw [Str.length_append]; decide +kernel), (by rw [Str.length_append]; decide +kernel), rfl⟩
    rintro σ H0 ⟨sg, rfl, g1, g2, rfl⟩
    refine ⟨_, rfl, p, c, ns, _, rfl, hp, by decide, by decide +kernel, fun s H1 s0 s1 hp1 o1 => ?_⟩
    refine ⟨fun σ H' => ∃ m : Int, σ = [some (.ref p), some (.str letS), some (.str sg), some (.int m), none, none, none, none] ∧ 0 ≤ m ∧ m ≤ 14 ∧ Pool ns c H' p, ?_, ?_⟩
    · refine ⟨_, rfl, p, c, ns, _, rfl, hp1, by decide, by decide +kernel, fun q H2 q0 q1 hp2 o2 => ?_⟩
      refine ⟨rfl, _, rfl, ?_⟩
      refine ite2 (fun _ => ?_) (fun _ => ⟨s, rfl, by omega, by omega, hp2⟩)
      refine ⟨(by show 3 ≤ sizeLine; decide), fun l nl => ?_⟩
      refine ⟨_, rfl, p, c, ns, _, rfl, hp2.same (Same.new nl), by decide, by decide +kernel, fun y H3 y0 y1 hp3 o3 => ?_⟩
      obtain ⟨v, hv, v1, v2⟩ : ∃ v : Int, atI [V.int 1, .int 12, .int 13] y = some (.int v) ∧ 0 ≤ v ∧ v ≤ 14 := by
        have q : y = 0 ∨ y = 1 ∨ y = 2 := by omega
        rcases q with rfl | rfl | rfl
        · exact ⟨1, rfl, by decide, by decide⟩
        · exact ⟨12, rfl, by decide, by decide⟩
        · exact ⟨13, rfl, by decide, by decide⟩
      have npl : l ≠ p := by
        obtain ⟨lp, e, _⟩ := hp2.at_
        exact (ne_of_none e nl).symm
      exact ⟨l, _, y, _, rfl, rfl, SqL.of ((o3 l npl).trans upd_same), hv, v, rfl, v1, v2, hp3⟩
    rintro σ H4 ⟨m, rfl, m1, m2, hp4⟩
    refine ⟨_, rfl, p, c, ns, _, rfl, hp4, by decide, by decide +kernel, fun fr H5 fr0 fr1 hp5 o5 => ?_⟩
    refine ⟨_, rfl, m, rfl, by omega, by omega, for_range (n := m.toNat) (fun j σ H' => ∃ (t : Str) (x6 : Option V), σ = [some (.ref p), some (.str letS), some (.str sg), some (.int m), some (.int fr), some (.str t), x6, none] ∧ t.length = j ∧ Pool ns c H' p) ⟨_, _, rfl, (by decide +kernel), hp5⟩ ?_ ?_⟩
    · rintro j σ H6 hj ⟨t, x6, rfl, ht, hp6⟩
      refine ⟨_, rfl, rfl, _, rfl, ?_⟩
      refine ite2 (fun _ => ?_) (fun _ => ?_)
      · refine ⟨_, rfl, _, rfl, _, rfl, p, c, ns, _, rfl, hp6, by decide, by decide +kernel, fun y H7 y0 y1 hp7 o7 => ?_⟩
        obtain ⟨cy, hcy⟩ := str_at (z := sg) y0 (by omega)
        refine ⟨sg, y, cy, rfl, rfl, y0, by omega, by omega, hcy, _, _, rfl, rfl, catL (by omega) (by rw [one_len]; decide), _, _, rfl, ?_, hp7⟩
        rw [Str.length_append, one_len, ht]
      · refine ⟨_, rfl, rfl, _, rfl, ?_⟩
        refine ite2 (fun _ => ?_) (fun _ => ?_)
        · refine ⟨_, rfl, _, rfl, _, rfl, p, c, ns, _, rfl, hp6, by decide, by decide +kernel, fun y H7 y0 y1 hp7 o7 => ?_⟩
          obtain ⟨cy, hcy⟩ := str_at (z := letS) y0 (by omega)
          refine ⟨letS, y, cy, rfl, rfl, y0, by omega, by omega, hcy, _, _, rfl, rfl, catL (by omega) (by rw [one_len]; decide), _, _, rfl, ?_, hp7⟩
          rw [Str.length_append, one_len, ht]
        · refine ⟨_, rfl, _, rfl, _, _, rfl, rfl, catL (by omega) (by omega), _, rfl, p, c, ns, _, rfl, hp6, by decide, by decide +kernel, fun y H7 y0 y1 hp7 o7 => ?_⟩
          obtain ⟨cy, hcy⟩ := str_at (z := letS ++ "0123456789") y0 (by rw [Str.length_append]; omega)
          refine ⟨letS ++ "0123456789", y, cy, rfl, rfl, y0, (by omega), (by rw [Str.length_append]; omega), hcy, _, _, rfl, rfl, catL (by omega) (by rw [one_len]; decide), _, _, rfl, ?_, hp7⟩
          rw [Str.length_append, one_len, ht]
    · rintro σ H6 ⟨t, x6, rfl, ht, hp6⟩
      have hsz : t.length ≤ sizeLine := Nat.le_trans (by omega : t.length ≤ 60) (by decide)
      have cz : ∀ lo hi, (cutS t lo hi).length ≤ 14 := fun lo hi => Nat.le_trans cutS_len (by omega)
      refine ⟨fun σ H' => ∃ (t : Str) (x6 x7 : Option V), σ = [some (.ref p), some (.str letS), some (.str sg), some (.int m), some (.int fr), some (.str t), x6, x7] ∧ t.length ≤ 60 ∧ Pool ns c H' p, ?_, ?_⟩
      · refine ⟨_, rfl, rfl, _, rfl, ?_⟩
        refine ite2 (fun _ => ?_) (fun _ => iteF ⟨_, _, _, rfl, by omega, hp6⟩)
        refine ⟨_, rfl, _, _, rfl, rfl, _, rfl, ?_⟩
        refine ite2 (fun q => ?_) (fun _ => ⟨_, _, _, rfl, by omega, hp6⟩)
        have q0 : 0 < m := of_decide_eq_true q
        refine ⟨_, rfl, _, rfl, p, c, ns, m, rfl, hp6, q0, log2_27 q0 (by omega), fun at_ H7 a0 a1 hp7 o7 => ?_⟩
        refine ⟨_, rfl, _, rfl, _, rfl, t, rfl, hsz, _, rfl, _, rfl, p, c, ns, _, rfl, hp7, by decide, by decide +kernel, fun y H8 y0 y1 hp8 o8 => ?_⟩
        obtain ⟨cy, hcy⟩ := str_at (z := sg) y0 (by omega)
        refine ⟨sg, y, cy, rfl, rfl, y0, by omega, by omega, hcy, _, _, rfl, rfl, catL (by have := cz none (some at_); omega) (by rw [one_len]; decide), _, rfl, _, rfl, _, _, rfl, rfl, _, rfl, t, rfl, hsz, _, _, rfl, rfl, catL (by rw [Str.length_append, one_len]; have := cz none (some at_); omega) (by have := cz (some (at_ + 1)) none; omega), _, _, _, rfl, ?_, hp8⟩
        rw [Str.length_append, Str.length_append, one_len]
        have q1 := cz none (some at_)
        have q2 := cz (some (at_ + 1)) none
        omega
      · rintro σ H7 ⟨t, x6, x7, rfl, ht, hp7⟩
        exact ⟨_, rfl, k _ _ ht hp7⟩

theorem ok_l_near (T : Txt K mg C_BadName C_BarbreaksError C_Grid C_Timed C_Named C_Item C_Piece C_Break C_Span C_House C_BadNumber C_BadText C_BadWord C_Refused C_Twice C_Unknown) : Dk P w K mg base CX0 1 "_law_near" ["_law_text_here"] spNear := by
  obtain ⟨f, fd, g, F, b⟩ := T.l_near
  refine ⟨f, fd, g, F.kp, b, F.ok sc_l_near (fun vs H Q E h => ?_) (fun cdv A outer s H vs Q E hr h => ?_)⟩
  · obtain ⟨z, rfl, _⟩ := h
    rfl
  · obtain ⟨z, rfl, hz, k⟩ := h
    refine ⟨_, (pss_cons (ps_set (i := 1) sc_l_near.nd rfl (Or.inl rfl) (pe_lst (pa_cons (pv 0) (pa_cons (pe_op op_add_str pe_str (pv 0)) (pa_cons (pe_op op_add_str pe_str (pv 0)) (pa_cons (pe_op op_add_str (pv 0) pe_str) (pa_cons (pe_op op_add_str (pv 0) pe_str) (pa_cons (pe_op op_add_str (pv 0) pe_str) (pa_cons (pe_op op_add_str (pv 0) pe_str) (pa_cons (pe_op op_add_str (pv 0) pe_str) (pa_cons (pe_upper (pv 0)) pa_nil)))))))))))
  (pss_one (ps_ret (pe_op op_cat (pv 1) (pe_lst (pa_cons pe_str (pa_cons pe_str (pa_cons pe_str (pa_cons pe_str (pa_cons pe_str (pa_cons (pe_op op_mulS pe_str pe_int) (pa_cons (pe_op op_mulS pe_str pe_int) (pa_cons (pe_op op_mulS pe_str pe_int) (pa_cons (pe_op op_mulS pe_str pe_int) (pa_cons (pe_op op_mulS pe_str pe_int) pa_nil))))))))))))))), ?_⟩
    have z1 : z.length ≤ 1000 := by omega
    have z2 : z.length ≤ 5592405 := by omega
    refine ⟨_, rfl, _, rfl, _, _, rfl, rfl, catL (by decide +kernel) z1, _, rfl, _, _, rfl, rfl, catL (by decide +kernel) z1, _, rfl, _, _, rfl, rfl, catL z1 (by decide +kernel), _, rfl, _, _, rfl, rfl, catL z1 (by decide +kernel), _, rfl, _, _, rfl, rfl, catL z1 (by decide +kernel), _, rfl, _, _, rfl, rfl, catL z1 (by decide +kernel), _, rfl, _, _, rfl, rfl, catL z1 (by decide +kernel), _, rfl, ⟨z, rfl⟩, z, rfl, rfl, z2, (by show 9 ≤ sizeLine; decide), fun p1 n1 => ?_⟩
    have s1 := Same.new (o := .lst [.str (z), .str ("0" ++ z), .str (" " ++ z), .str (z ++ "0"), .str (z ++ "\n"), .str (z ++ " "), .str (z ++ "_"), .str (z ++ "-"), .str (Txt.upper z)]) n1
    refine ⟨_, rfl, _, _, rfl, rfl, by decide +kernel, by decide, by decide, fun r1 e1 => ⟨_, _, rfl, rfl, by decide +kernel, by decide, by decide, fun r2 e2 => ⟨_, _, rfl, rfl, by decide +kernel, by decide, by decide, fun r3 e3 => ⟨_, _, rfl, rfl, by decide +kernel, by decide, by decide, fun r4 e4 => ⟨_, _, rfl, rfl, by decide +kernel, by decide, by decide, fun r5 e5 => ?_⟩⟩⟩⟩⟩
    have l1 : ("a" : Str).length = 1 := by decide +kernel
    have l2 : ("a9" : Str).length = 2 := by decide +kernel
    rw [l1] at e1 e2 e4 e5
    rw [l2] at e3
    refine ⟨(by show 10 ≤ sizeLine; decide), fun p2 n2 => ?_⟩
    have s2 := Same.new (o := .lst [.str (""), .str ("a"), .str ("z9"), .str ("9z"), .str ("Z"), .str (r1), .str (r2), .str (r3), .str (r4), .str (r5)]) n2
    refine ⟨p1, p2, _, _, rfl, rfl, s2 _ _ upd_same, upd_same, (by show 19 ≤ sizeLine; decide), fun p3 n3 => ?_⟩
    refine k p3 [z, "0" ++ z, " " ++ z, z ++ "0", z ++ "\n", z ++ " ", z ++ "_", z ++ "-", Txt.upper z, "", "a", "z9", "9z", "Z", r1, r2, r3, r4, r5] _ ((s1.trans s2).trans (Same.new n3)) upd_same ?_
    have w : ∀ {y : Str}, y.length ≤ 10 → (y ++ z).length ≤ 600 ∧ (z ++ y).length ≤ 600 := fun {y} hy => by
      rw [Str.length_append, Str.length_append]
      omega
    intro y hy
    simp only [List.mem_cons, List.not_mem_nil, or_false] at hy
    rcases hy with rfl | rfl | rfl | rfl | rfl | rfl | rfl | rfl | rfl | rfl | rfl | rfl | rfl | rfl | rfl | rfl | rfl | rfl | rfl
    · omega
    · exact (w (by decide +kernel)).1
    · exact (w (by decide +kernel)).1
    · exact (w (by decide +kernel)).2
    · exact (w (by decide +kernel)).2
    · exact (w (by decide +kernel)).2
    · exact (w (by decide +kernel)).2
    · exact (w (by decide +kernel)).2
    · have q := PyProof.Rows.len_upper z
      omega
    · decide +kernel
    · decide +kernel
    · decide +kernel
    · decide +kernel
    · decide +kernel
    · omega
    · omega
    · omega
    · omega
    · omega

theorem ok_l_name (T : Txt K mg C_BadName C_BarbreaksError C_Grid C_Timed C_Named C_Item C_Piece C_Break C_Span C_House C_BadNumber C_BadText C_BadWord C_Refused C_Twice C_Unknown) : Dk P w K mg base CX0 1 "_law_name" ["_law_text_here"] spLName := by
  obtain ⟨f, fd, g, F, b⟩ := T.l_name
  refine ⟨f, fd, g, F.kp, b, F.ok sc_l_name (fun vs H Q E h => ?_) (fun cdv A outer s H vs Q E hr h => ?_)⟩
  · obtain ⟨z, rfl, _⟩ := h
    rfl
  · obtain ⟨z, rfl, hz, k⟩ := h
    refine ⟨_, (pss_cons (ps_set (i := 1) sc_l_name.nd rfl (Or.inl rfl) pe_str)
  (pss_cons (ps_if (PW.pt (pw_or (pt_cmpR op_eq (pe_callB call_len_str (by rfl) T.b_len (by decide +kernel) (pa_cons (pv 0) pa_nil)) pe_int (nomark _)) (pw_or1 (pt_cmpR op_gt (pe_callB call_len_str (by rfl) T.b_len (by decide +kernel) (pa_cons (pv 0) pa_nil)) pe_int (nomark _)))))
  (pss_one (ps_ret pe_bl))
  pss_nil)
  (pss_cons (ps_for PassesOwn.never rfl (pi_range1 rfl T.b_range (pa_cons (pe_callB call_len_str (by rfl) T.b_len (by decide +kernel) (pa_cons (pv 0) pa_nil)) pa_nil)) (pg_name (i := 2) sc_l_name.nd rfl (Or.inl rfl))
  (pss_one (ps_if (PW.pt (pw_and (pt_cmpR op_lt (pe_m1 PySem.F.slot_str_find PySem.F.type_str_find mt_find (pv 1) (pe_item_str (pv 0) (pv 2) (fun _ _ => rfl))) pe_int (nomark _)) (pw_and1 (PW.pt (pw_or (pt_cmpR op_eq (pv 2) pe_int (nomark _)) (pw_or1 (pt_cmpR op_lt (pe_m1 PySem.F.slot_str_find PySem.F.type_str_find mt_find pe_str (pe_item_str (pv 0) (pv 2) (fun _ _ => rfl))) pe_int (nomark _))))))))
  (pss_one (ps_ret pe_bl))
  pss_nil)))
  (pss_one (ps_ret pe_bl))))), ?_⟩
    have hsz : z.length ≤ sizeLine := Nat.le_trans hz (by decide)
    have hl : z.length = z.cps.size := rfl
    have no : nameB z = false → Q (.bl false) H := fun e => by rw [e] at k; exact k
    refine ⟨_, rfl, z, rfl, hsz, rfl, _, rfl, ?_⟩
    refine ite2 (fun q => iteT (no (name_len ?_))) (fun q1 => ?_)
    · have q2 := V.int.inj (of_decide_eq_true q)
      omega
    have q1' : ¬ (z.length : Int) = 0 := fun e => q1 (decide_eq_true (congrArg V.int e))
    refine ⟨_, rfl, z, rfl, hsz, _, _, rfl, rfl, _, rfl, ?_⟩
    refine ite2 (fun q => no (name_len ?_)) (fun q2 => ?_)
    · have q2 : (12 : Int) < (z.length : Int) := of_decide_eq_true q
      omega
    have q2' : ¬ (12 : Int) < (z.length : Int) := fun e => q2 (decide_eq_true e)
    refine ⟨_, rfl, z, rfl, hsz, _, rfl, by omega, by omega, for_range (n := z.length) (fun i σ H' => ∃ (x2 : Option V), σ = [some (.str z), some (.str letS), x2] ∧ H' = H ∧ ∀ j c, j < i → z.cps[j]? = some c → signB c = true ∧ (j = 0 → c ∈ letS.cps.toList)) ⟨_, rfl, rfl, fun j c hj => absurd hj (Nat.not_lt_zero j)⟩ ?_ ?_⟩
    · rintro j σ H1 hj ⟨x2, rfl, rfl, ih⟩
      rw [Int.zero_add]
      obtain ⟨ch, hc⟩ : ∃ ch, z.cps[j]? = some ch := ⟨_, Array.getElem?_eq_getElem (by omega)⟩
      have step : (signB ch = true ∧ (j = 0 → ch ∈ letS.cps.toList)) → ∀ i c, i < j + 1 → z.cps[i]? = some c → signB c = true ∧ (i = 0 → c ∈ letS.cps.toList) := fun hs i c hi hci => by
        by_cases e : i = j
        · subst e
          rw [hc] at hci
          cases hci
          exact hs
        · exact ih i c (by omega) hci
      refine ⟨_, rfl, ⟨_, rfl⟩, _, rfl, _, rfl, z, (j : Int), ch, rfl, rfl, by omega, by omega, by omega, hc, _, _, rfl, rfl, _, _, rfl, rfl, _, rfl, ?_⟩
      rw [find_neg]
      refine ite2 (fun q => ?_) (fun q => iteF ⟨_, rfl, rfl, step ?_⟩)
      · have nl : ¬ ch ∈ letS.cps.toList := fun e => by
          rw [show decide (ch ∈ letS.cps.toList) = true from decide_eq_true e] at q
          cases q
        refine ⟨_, rfl, rfl, _, rfl, ?_⟩
        refine ite2 (fun q0 => ?_) (fun q0 => ?_)
        · have j0 : j = 0 := by
            have := V.int.inj (of_decide_eq_true q0)
            omega
          exact no (name_no hc fun e => nl (e.2 j0))
        · have j0 : ¬ j = 0 := fun e => q0 (decide_eq_true (by rw [e]; rfl))
          refine ⟨⟨_, rfl⟩, _, rfl, _, rfl, z, (j : Int), ch, rfl, rfl, by omega, by omega, by omega, hc, _, _, rfl, rfl, _, _, rfl, rfl, _, rfl, ?_⟩
          rw [find_neg]
          refine ite2 (fun q => ?_) (fun q => ⟨_, rfl, rfl, step ⟨?_, fun e => absurd e j0⟩⟩)
          · refine no (name_no hc fun e => ?_)
            have e1 := e.1
            unfold signB at e1
            rw [decide_eq_false nl, Bool.false_or] at e1
            rw [show decide (ch ∈ ("0123456789" : Str).cps.toList) = true from e1] at q
            cases q
          · unfold signB
            have e1 : decide (ch ∈ digS.cps.toList) = true := by
              cases e : decide (ch ∈ digS.cps.toList) with
              | true => rfl
              | false => exact absurd (by rw [show decide (ch ∈ ("0123456789" : Str).cps.toList) = false from e]; rfl) q
            rw [e1, Bool.or_true]
      · have e1 : decide (ch ∈ letS.cps.toList) = true := by
          cases e : decide (ch ∈ letS.cps.toList) with
          | true => rfl
          | false => exact absurd (by rw [show decide (ch ∈ letS.cps.toList) = false from e]; rfl) q
        refine ⟨?_, fun _ => of_decide_eq_true e1⟩
        unfold signB
        rw [e1, Bool.true_or]
    · rintro σ H1 ⟨x2, rfl, rfl, ih⟩
      have e : nameB z = true := name_yes (by omega) (by omega) fun j c hc => ih j c (by
        obtain ⟨h1, _⟩ := Array.getElem?_eq_some_iff.mp hc
        exact h1) hc
      rw [e] at k
      exact k

theorem ok_l_made (T : Txt K mg C_BadName C_BarbreaksError C_Grid C_Timed C_Named C_Item C_Piece C_Break C_Span C_House C_BadNumber C_BadText C_BadWord C_Refused C_Twice C_Unknown) : Dk P w K mg base (L2.CX P w) 7 "_law_made" ["_law_door_here", "_law_text_here"] (spMadeX K C_Named C_House C_BadName) := by
  have D_Grid := ok_Grid_init0 (P := P) (w := w) (base := base) T
  have D_Named := mk_Named_initX (P := P) (w := w) (base := base) T
  have D_Item := mk_Item_initX (P := P) (w := w) (base := base) T
  have D_Piece := mk_Piece_initX (P := P) (w := w) (base := base) T
  have D_Break := mk_Break_initX (P := P) (w := w) (base := base) T
  obtain ⟨W1, W2, D_House⟩ := mk_House_initX (P := P) (w := w) (base := base) T
  obtain ⟨f, fd, g, F, b⟩ := T.l_made
  refine ⟨f, fd, g, F.kp, b, F.okX sc_l_made (fun vs H Q E h => ?_) (fun cdv A outer s H vs Q E hr h => ?_)⟩
  · obtain ⟨n, z, rfl, _⟩ := h
    rfl
  · obtain ⟨n, z, rfl, n0, n4, hzl, k1, k2⟩ := h
    refine ⟨_, (pss_cons (ps_if (pt_cmpR op_eq (pv 0) pe_int (nomark _))
  (pss_one (ps_ret (pe_mkd D_Named (hr.mono (by decide)) (passes_call (takes_of rfl rfl rfl rfl) (fun _ _ _ _ z => z)) (by rfl) (pa_cons (pv 1) pa_nil))))
  pss_nil)
  (pss_cons (ps_if (pt_cmpR op_eq (pv 0) pe_int (nomark _))
  (pss_one (ps_ret (pe_mkG D_Item (hr.mono (by decide)) (passes_call (takes_of rfl rfl rfl rfl) (fun _ _ _ _ z => z)) (by rfl) (pa_cons (pv 1) pa_nil) (pk_cons (pe_mkd D_Grid (hr.mono (by decide)) pass0 (by rfl) (pa_cons pe_int (pa_cons pe_int pa_nil))) pk_nil))))
  pss_nil)
  (pss_cons (ps_if (pt_cmpR op_eq (pv 0) pe_int (nomark _))
  (pss_one (ps_ret (pe_mkG D_Piece (hr.mono (by decide)) (passes_call (takes_of rfl rfl rfl rfl) (fun _ _ _ _ z => z)) (by rfl) (pa_cons (pv 1) pa_nil) (pk_cons (pe_mkd D_Grid (hr.mono (by decide)) pass0 (by rfl) (pa_cons pe_int (pa_cons pe_int pa_nil))) (pk_cons pe_int (pk_cons pe_int pk_nil))))))
  pss_nil)
  (pss_cons (ps_if (pt_cmpR op_eq (pv 0) pe_int (nomark _))
  (pss_one (ps_ret (pe_mkG D_Break (hr.mono (by decide)) (passes_call (takes_of rfl rfl rfl rfl) (fun _ _ _ _ z => z)) (by rfl) (pa_cons (pv 1) pa_nil) (pk_cons (pe_mkd D_Grid (hr.mono (by decide)) pass0 (by rfl) (pa_cons pe_int (pa_cons pe_int pa_nil))) (pk_cons pe_int (pk_cons pe_int (pk_cons pe_int pk_nil)))))))
  pss_nil)
  (pss_one (ps_ret (pe_mkd D_House (hr.mono (by decide)) (passes_call (takes_of rfl rfl rfl rfl) (fun _ _ _ _ z => z)) (by rfl) (pa_cons pe_int (pa_cons pe_int (pa_cons (pe_lst (pa_cons (pv 1) pa_nil)) pa_nil)))))))))), ?_⟩
    have II : ItemC K C_Item := ⟨T.c_Item, T.n_Item_name, T.n_Item_grid, T.n_Item_minute, T.n_Item_delay⟩
    have IP : ItemC K C_Piece := ⟨T.c_Piece, T.n_Piece_name, T.n_Piece_grid, T.n_Piece_minute, T.n_Piece_delay⟩
    have IB : ItemC K C_Break := ⟨T.c_Break, T.n_Break_name, T.n_Break_grid, T.n_Break_minute, T.n_Break_delay⟩
    have ne : ∀ {i : Int}, ¬ decide (V.int n = V.int i) = true → n ≠ i := fun h e => h (decide_eq_true (congrArg V.int e))
    refine ⟨_, rfl, rfl, _, rfl, ite2 (fun h0 => ?_) (fun h0 => ?_)⟩
    · have n0 : n = 0 := V.int.inj (of_decide_eq_true h0)
      refine ⟨_, rfl, fun x dx nx nd nn => ⟨x, C_Named, dx, [], z, rfl, upd_same, T.c_Named, T.n_Named_name, hzl, by decide, fun hz H1 h1 b1 => ⟨rfl, ?_⟩, fun hz => (k2 hz).from (Same.inst nx nd (But.of_same (Same.refl _)))⟩⟩
      exact k1 hz x _ (Same.inst nx nd b1) (.inl ⟨by omega, C_Named, ⟨T.c_Named, T.o_Named, T.n_Named_name, T.ko_Named_Named⟩, dx, _, h1, look_put⟩)
    refine ⟨_, rfl, rfl, _, rfl, ite2 (fun h1 => ?_) (fun h1 => ?_)⟩
    · have n1 : n = 1 := V.int.inj (of_decide_eq_true h1)
      refine ⟨_, rfl, fun g dg ng ndg neg => ⟨g, dg, 5, 3, rfl, upd_same, by decide, fun HG hG oG => ⟨rfl, ?_⟩⟩⟩
      have sG := Same.inst ng ndg (But.of_off oG)
      refine ⟨rfl, rfl, fun x dx nx nd nn => ⟨x, C_Item, dx, [], z, .ref g, .non, 0, rfl, upd_same, II, hzl, by decide, by decide, by decide, fun hz H1 h1 b1 => ⟨rfl, ?_⟩, fun hz => (k2 hz).from (sG.trans (Same.inst nx nd (But.of_same (Same.refl _))))⟩⟩
      exact k1 hz x _ (sG.trans (Same.inst nx nd b1)) (.inl ⟨by omega, C_Item, ⟨T.c_Item, T.o_Item, T.n_Item_name, T.ko_Item_Named⟩, dx, _, h1, putI_name⟩)
    refine ⟨_, rfl, rfl, _, rfl, ite2 (fun h2 => ?_) (fun h2 => ?_)⟩
    · have n2 : n = 2 := V.int.inj (of_decide_eq_true h2)
      refine ⟨_, rfl, fun g dg ng ndg neg => ⟨g, dg, 5, 3, rfl, upd_same, by decide, fun HG hG oG => ⟨rfl, ?_⟩⟩⟩
      have sG := Same.inst ng ndg (But.of_off oG)
      refine ⟨rfl, rfl, fun x dx nx nd nn => ⟨x, C_Piece, dx, z, .ref g, .non, 1, 1, 0, rfl, upd_same, IP, T.n_Piece_least, T.n_Piece_most, hzl, by decide, by decide, by decide, by decide, by decide, fun hz H1 h1 b1 => ⟨rfl, ?_⟩, fun hz => (k2 hz).from (sG.trans (Same.inst nx nd (But.of_same (Same.refl _))))⟩⟩
      exact k1 hz x _ (sG.trans (Same.inst nx nd b1)) (.inl ⟨by omega, C_Piece, ⟨T.c_Piece, T.o_Piece, T.n_Piece_name, T.ko_Piece_Named⟩, h1⟩)
    refine ⟨_, rfl, rfl, _, rfl, ite2 (fun h3 => ?_) (fun h3 => ?_)⟩
    · have n3 : n = 3 := V.int.inj (of_decide_eq_true h3)
      refine ⟨_, rfl, fun g dg ng ndg neg => ⟨g, dg, 5, 3, rfl, upd_same, by decide, fun HG hG oG => ⟨rfl, ?_⟩⟩⟩
      have sG := Same.inst ng ndg (But.of_off oG)
      refine ⟨rfl, rfl, fun x dx nx nd nn => ⟨x, C_Break, dx, z, .ref g, .int 0, 1, 1, 0, 1, rfl, upd_same, IB, T.n_Break_places, T.n_Break_unit, T.n_Break_patience, hzl, by decide, by decide, by decide, by decide, by decide, by decide, by decide, fun hz H1 h1 b1 => ⟨rfl, ?_⟩, fun hz => (k2 hz).from (sG.trans (Same.inst nx nd (But.of_same (Same.refl _))))⟩⟩
      exact k1 hz x _ (sG.trans (Same.inst nx nd b1)) (.inl ⟨by omega, C_Break, ⟨T.c_Break, T.o_Break, T.n_Break_name, T.ko_Break_Named⟩, h1⟩)
    · have n4 : n = 4 := by
        have := ne h0
        have := ne h1
        have := ne h2
        have := ne h3
        omega
      refine ⟨_, rfl, (by show 1 ≤ sizeLine; decide), fun l nl => fun x dx nx nd nn => ⟨x, dx, l, z, rfl, upd_same, (Same.inst nx nd (But.of_same (Same.refl _))) _ _ upd_same, hc_House T, hzl, fun hz H1 h1 b1 => ⟨rfl, ?_⟩, fun hz => (k2 hz).from ((Same.new nl).trans (Same.inst nx nd (But.of_same (Same.refl _))))⟩⟩
      exact k1 hz x _ ((Same.new nl).trans (Same.inst nx nd b1)) (.inr ⟨n4, h1⟩)

theorem ok_l_door (T : Txt K mg C_BadName C_BarbreaksError C_Grid C_Timed C_Named C_Item C_Piece C_Break C_Span C_House C_BadNumber C_BadText C_BadWord C_Refused C_Twice C_Unknown) : Dk P w K mg base CX0 8 "_law_door" ["_law_door_here", "_law_text_here", "_law_due"] spDoorX := by
  have D_l_made := ok_l_made (P := P) (w := w) (base := base) T
  obtain ⟨f, fd, g, F, b⟩ := T.l_door
  refine ⟨f, fd, g, F.kp, b, F.ok sc_l_door (fun vs H Q E h => ?_) (fun cdv A outer s H vs Q E hr h => ?_)⟩
  · obtain ⟨n, z, rfl, _⟩ := h
    rfl
  · obtain ⟨n, z, rfl, n0, n4, hzl, k⟩ := h
    refine ⟨_, (pss_cons (ps_set (i := 3) sc_l_door.nd rfl (Or.inl rfl) pe_non)
  (pss_cons (ps_set (i := 4) sc_l_door.nd rfl (Or.inl rfl) pe_non)
  (C8.pss_cut (ps_try_hold (i := 5) rfl rfl sc_l_door.nd rfl rfl ⟨rfl, by decide, Or.inl T.g_BarbreaksError⟩ rfl (fun W pn xe tk _ => (pss_one (ps_set (i := 4) sc_l_door.nd rfl (Or.inl rfl) (pe_dS D_l_made (hr.mono (by decide)) (fun σ => passAt tk σ) (by rfl) (pa_cons (pv 0) (pa_cons (pv 1) pa_nil)))))) (fun a ob cls d pn hz hf => (pss_one (ps_set (i := 3) sc_l_door.nd rfl (Or.inl rfl) (pv 5)))))
  (pss_cons (ps_if (pt_val (pv 2))
  (pss_cons (ps_if (pt_cmpR op_notN (pv 3) pe_non (nomark _))
  (pss_one (ps_ret pe_bl))
  pss_nil)
  (pss_cons (ps_if (pt_cmpR op_eq (pv 0) pe_int (nomark _))
  (pss_one (ps_ret (pe_and (pe_callB call_isi (by rfl) T.b_isinstance (by decide +kernel) (pa_cons (pv 4) (pa_cons (C8.pe_gc (v := .ref C_House) (by rfl) ⟨_, T.g_House, rfl⟩) pa_nil))) (pe_and (pe_callB call_isi (by rfl) T.b_isinstance (by decide +kernel) (pa_cons (pe_fld (pv 4) rfl) (pa_cons (pe_bltn (v := .ty "tuple") (by rfl) T.b_tuple (by decide +kernel) rfl) pa_nil))) (pe_one (pe_cmpR (op_eqP (un_of hr)) (pe_fld (pv 4) rfl) (pe_tup (pa_cons (pv 1) pa_nil)) (nomark _)))))))
  pss_nil)
  (pss_one (ps_ret (pe_and (pe_callB call_isi (by rfl) T.b_isinstance (by decide +kernel) (pa_cons (pv 4) (pa_cons (C8.pe_gc (v := .ref C_Named) (by rfl) ⟨_, T.g_Named, rfl⟩) pa_nil))) (pe_and (pe_callB call_isi (by rfl) T.b_isinstance (by decide +kernel) (pa_cons (pe_fld (pv 4) rfl) (pa_cons (pe_bltn (v := .ty "str") (by rfl) T.b_str (by decide +kernel) rfl) pa_nil))) (pe_one (pe_cmpR op_eq (pe_fld (pv 4) rfl) (pv 1) (nomark _)))))))))
  pss_nil)
  (pss_cons (ps_if (PW.pt (pw_or (pt_not (pt_val (pe_callB call_isH (by rfl) T.b_isinstance (by decide +kernel) (pa_cons (pv 3) (pa_cons (C8.pe_gc (v := .ref C_BadName) (by rfl) ⟨_, T.g_BadName, rfl⟩) pa_nil))))) (pw_or1 (pt_not (pt_val (pe_callB call_isH (by rfl) T.b_isinstance (by decide +kernel) (pa_cons (pv 3) (pa_cons (pe_bltn (v := .ty "ValueError") (by rfl) T.b_ValueError (by decide +kernel) rfl) pa_nil))))))))
  (pss_one (ps_ret pe_bl))
  pss_nil)
  (pss_cons (ps_if (pt_val (pe_callB call_isHT (by rfl) T.b_isinstance (by decide +kernel) (pa_cons (pv 3) (pa_cons (pe_tup (pa_cons (C8.pe_gc (v := .ref C_BadNumber) (by rfl) ⟨_, T.g_BadNumber, rfl⟩) (pa_cons (C8.pe_gc (v := .ref C_BadText) (by rfl) ⟨_, T.g_BadText, rfl⟩) (pa_cons (C8.pe_gc (v := .ref C_BadWord) (by rfl) ⟨_, T.g_BadWord, rfl⟩) (pa_cons (C8.pe_gc (v := .ref C_Refused) (by rfl) ⟨_, T.g_Refused, rfl⟩) (pa_cons (C8.pe_gc (v := .ref C_Twice) (by rfl) ⟨_, T.g_Twice, rfl⟩) (pa_cons (C8.pe_gc (v := .ref C_Unknown) (by rfl) ⟨_, T.g_Unknown, rfl⟩) pa_nil))))))) pa_nil))))
  (pss_one (ps_ret pe_bl))
  pss_nil)
  (pss_one (ps_ret (pe_and (pe_callB call_isi (by rfl) T.b_isinstance (by decide +kernel) (pa_cons (pe_xh (pv 3)) (pa_cons (pe_bltn (v := .ty "str") (by rfl) T.b_str (by decide +kernel) rfl) pa_nil))) (pe_one (pe_cmpR op_eq (pe_xh (pv 3)) (pv 1) (nomark _)))))))))))), ?_⟩
    refine ⟨fun σ H' => ∃ (fv vv : V), σ = [some (.int n), some (.str z), some (.bl (nameB z)), some fv, some vv, none] ∧ Same H H' ∧
      ((nameB z = true ∧ fv = .non ∧ ∃ x, vv = .ref x ∧ ((n ≤ 3 ∧ ∃ C, NmC K C C_Named ∧ NameAt C x z H') ∨ (n = 4 ∧ KindAt C_House x z H'))) ∨
      (nameB z = false ∧ vv = .non ∧ ∃ a d, fv = .ref a ∧ H' a = some (ExH (.ref C_BadName) (some d) a) ∧ H' d = some (.xd [("name", .str z)]))), ?_, ?_⟩
    · refine ⟨_, rfl, _, rfl, n, z, rfl, n0, n4, hzl, fun hz x H1 s1 hx => ?_, fun hz H1 d s1 hd => ?_⟩
      · exact ⟨.non, .ref x, rfl, s1, .inl ⟨hz, rfl, x, rfl, hx⟩⟩
      · refine ⟨T.xm_BadName_BarbreaksError, fun a na => ?_⟩
        have nad : d ≠ a := ne_of_none hd na
        refine ⟨_, rfl, .ref a, .non, rfl, s1.trans (Same.new na), .inr ⟨hz, rfl, a, d, rfl, upd_same, (upd_ne nad).trans hd⟩⟩
    · rintro σ H' ⟨fv, vv, rfl, s1, hcase⟩
      rcases hcase with ⟨hz, rfl, x, rfl, hx⟩ | ⟨hz, rfl, a, d, rfl, ha, hd⟩
      · rw [hz]
        refine ⟨_, rfl, true, rfl, iteT ?_⟩
        refine ⟨_, rfl, rfl, _, rfl, iteF ?_⟩
        refine ⟨_, rfl, rfl, _, rfl, ite2 (fun h4 => ?_) (fun h4 => ?_)⟩
        · have e4 : n = 4 := V.int.inj (of_decide_eq_true h4)
          rcases hx with ⟨q, _⟩ | ⟨_, dx, t, fs, e, lk, ht⟩
          · omega
          refine ⟨_, rfl, .ref x, _, _, _, true, rfl, .own _, tyx_own e T.c_House T.o_House, T.ko_House_House, true, rfl, iteT ?_⟩
          refine ⟨_, rfl, x, C_House, dx, fs, .ref t, rfl, e, T.c_House, T.n_House_kinds, lk, .ref t, _, _, _, true, rfl, .ty _, .base (.tup ht), kTup, true, rfl, iteT ?_⟩
          refine ⟨_, rfl, x, C_House, dx, fs, .ref t, rfl, e, T.c_House, T.n_House_kinds, lk, _, rfl, (by show 1 ≤ sizeLine; decide), fun q nq => ?_⟩
          refine ⟨_, _, .tup (SqT.of ((Same.new nq) _ _ ht)) (.cons (.str z) .nil), .tup (SqT.of upd_same) (.cons (.str z) .nil), pl_one, pl_one, dp_one, ?_⟩
          rw [eqv_one]
          exact k _ (s1.trans (Same.new nq))
        · have e4 : n ≠ 4 := fun q => h4 (decide_eq_true (congrArg V.int q))
          rcases hx with ⟨_, C, hC, dx, fs, e, lk⟩ | ⟨q, _⟩
          · refine ⟨_, rfl, .ref x, _, _, _, true, rfl, .own _, tyx_own e hC.c hC.o, hC.k, true, rfl, iteT ?_⟩
            refine ⟨_, rfl, x, C, dx, fs, .str z, rfl, e, hC.c, hC.n, lk, .str z, _, _, _, true, rfl, .ty _, .base (.str _), kStr, true, rfl, iteT ?_⟩
            refine ⟨_, rfl, x, C, dx, fs, .str z, rfl, e, hC.c, hC.n, lk, _, rfl, rfl, ?_⟩
            have ee : V.bl (decide (V.str z = V.str z)) = V.bl true := bl_t rfl
            rw [ee]
            exact k _ s1
          · exact absurd q e4
      · rw [hz]
        refine ⟨_, rfl, false, rfl, iteF ?_⟩
        have hH : HeldAt H' a C_BadName := ⟨some d, ha, .inr ⟨d, _, rfl, hd⟩⟩
        refine ⟨_, rfl, a, C_BadName, _, _, true, rfl, .own _, hH, T.ec_BadName, T.ko_BadName_BadName, true, rfl, iteF ⟨_, rfl, a, C_BadName, _, _, true, rfl, .ty _, hH, T.ec_BadName, T.ko_BadName_ValueError, true, rfl, iteF ?_⟩⟩
        refine ⟨_, rfl, (by show 6 ≤ sizeLine; decide), fun tp ntp => ⟨a, C_BadName, tp, _, _, false, rfl, upd_same, (.cons (.own _) (.cons (.own _) (.cons (.own _) (.cons (.own _) (.cons (.own _) (.cons (.own _) .nil)))))), hH.same (Same.new ntp), T.ec_BadName, (kitAny_no T.ko_BadName_BadNumber (kitAny_no T.ko_BadName_BadText (kitAny_no T.ko_BadName_BadWord (kitAny_no T.ko_BadName_Refused (kitAny_no T.ko_BadName_Twice (kitAny_no T.ko_BadName_Unknown kitAny_nil)))))), false, rfl, iteF ?_⟩⟩
        have s2 := Same.new (o := .tup [.ref C_BadNumber, .ref C_BadText, .ref C_BadWord, .ref C_Refused, .ref C_Twice, .ref C_Unknown]) ntp
        refine ⟨_, rfl, a, C_BadName, d, _, _, rfl, s2 _ _ ha, s2 _ _ hd, (exc_xf T.ec_BadName), T.xn_BadName_name, look1, .str _, _, _, _, true, rfl, .ty _, .base (.str _), kStr, true, rfl, iteT ⟨_, rfl, a, C_BadName, d, _, _, rfl, s2 _ _ ha, s2 _ _ hd, (exc_xf T.ec_BadName), T.xn_BadName_name, look1, _, rfl, rfl, ?_⟩⟩
        have e : V.bl (decide (V.str z = V.str z)) = V.bl true := bl_t rfl
        rw [e]
        exact k _ (s1.trans s2)

theorem ok_law (T : Txt K mg C_BadName C_BarbreaksError C_Grid C_Timed C_Named C_Item C_Piece C_Break C_Span C_House C_BadNumber C_BadText C_BadWord C_Refused C_Twice C_Unknown) : ∀ (f : Addr) (fd : FuncData), Fun K "law" "law" s_law f fd → FnOk P w K mg base CX0 9 f fd ["_law_script"] (spLaw K) := by
  intro f fd F
  have D_l_pool := ok_l_pool (P := P) (w := w) (base := base) T
  have D_l_text := ok_l_text (P := P) (w := w) (base := base) T
  have D_l_near := ok_l_near (P := P) (w := w) (base := base) T
  have D_l_name := ok_l_name (P := P) (w := w) (base := base) T
  have D_is_name := ok_is_name (P := P) (w := w) (base := base) T
  have D_l_door := ok_l_door (P := P) (w := w) (base := base) T
  refine F.ok sc_law (fun vs H Q E h => ?_) (fun cdv A outer s H vs Q E hr h => ?_)
  · obtain ⟨a, ns, rfl, _⟩ := h
    rfl
  · obtain ⟨a, ns, rfl, hS, hlen, k⟩ := h
    refine ⟨_, (pss_cons (ps_set (i := 1) sc_law.nd rfl (Or.inl rfl) (pe_d D_l_pool (hr.mono (by decide)) pass0 (by rfl) (pa_cons (pv 0) pa_nil)))
  (pss_cons (ps_set (i := 2) sc_law.nd rfl (Or.inl rfl) (pe_d D_l_text (hr.mono (by decide)) pass0 (by rfl) (pa_cons (pv 1) pa_nil)))
  (pss_cons (ps_for PassesOwn.never rfl (pi_list (pe_d D_l_near (hr.mono (by decide)) pass0 (by rfl) (pa_cons (pv 2) pa_nil))) (pg_name (i := 3) sc_law.nd rfl (Or.inl rfl))
  (pss_cons (ps_set (i := 4) sc_law.nd rfl (Or.inl rfl) (pe_d D_l_name (hr.mono (by decide)) pass0 (by rfl) (pa_cons (pv 3) pa_nil)))
  (pss_cons (ps_set (i := 5) sc_law.nd rfl (Or.inl rfl) (pe_d D_is_name (hr.mono (by decide)) pass0 (by rfl) (pa_cons (pv 3) pa_nil)))
  (pss_cons (ps_if (PW.pt (pw_or (pt_not (pt_val (pe_callB call_isi (by rfl) T.b_isinstance (by decide +kernel) (pa_cons (pv 5) (pa_cons (pe_bltn (v := .ty "bool") (by rfl) T.b_bool (by decide +kernel) rfl) pa_nil))))) (pw_or1 (pt_cmpR op_ne (pv 5) (pv 4) (nomark _)))))
  (pss_one (ps_ret pe_bl))
  pss_nil)
  (pss_one (ps_for PassesOwn.never rfl (pi_range1 rfl T.b_range (pa_cons pe_int pa_nil)) (pg_name (i := 6) sc_law.nd rfl (Or.inl rfl))
  (pss_one (ps_if (pt_not (pt_val (pe_d D_l_door (hr.mono (by decide)) pass0 (by rfl) (pa_cons (pv 6) (pa_cons (pv 3) (pa_cons (pv 4) pa_nil))))))
  (pss_one (ps_ret pe_bl))
  pss_nil))))))))
  (pss_cons (ps_set (i := 5) sc_law.nd rfl (Or.inl rfl) (pe_d D_is_name (hr.mono (by decide)) pass0 (by rfl) (pa_cons (pv 2) pa_nil)))
  (pss_one (ps_ret (pe_and (pe_callB call_isi (by rfl) T.b_isinstance (by decide +kernel) (pa_cons (pv 5) (pa_cons (pe_bltn (v := .ty "bool") (by rfl) T.b_bool (by decide +kernel) rfl) pa_nil))) (pe_one (pe_cmpR op_eq (pv 5) (pe_d D_l_name (hr.mono (by decide)) pass0 (by rfl) (pa_cons (pv 2) pa_nil)) (nomark _)))))))))), ?_⟩
    refine ⟨_, rfl, a, ns, rfl, hS, hlen, fun p c H0 hp0 _ _ _ => ?_⟩
    refine ⟨_, rfl, p, c, ns, rfl, hp0, fun t H1 ht hp1 => ?_⟩
    refine ⟨_, rfl, t, rfl, by omega, fun l ys H3 s3 hl hys => ?_⟩
    refine ⟨l, rfl, ⟨_, SqL.of hl⟩, for_list (K := K) (a := l) (xs := ys.map V.str) (fun i σ H4 => ∃ x3 x4 x5 x6 : Option V, σ = [some (.ref a), some (.ref p), some (.str t), x3, x4, x5, x6] ∧ Same H3 H4) ⟨_, _, _, _, rfl, Same.refl _⟩ (fun i σ H4 _ ⟨_, _, _, _, _, s4⟩ => SqL.of (s4 _ _ hl)) ?_ ?_⟩
    · rintro i x σ H4 hx ⟨x3, x4, x5, x6, rfl, s4⟩
      obtain ⟨y, hy, rfl⟩ : ∃ y, ys[i]? = some y ∧ x = V.str y := by
        rw [List.getElem?_map] at hx
        cases e : ys[i]? with
        | none => rw [e] at hx; cases hx
        | some y => rw [e] at hx; exact ⟨y, rfl, (Option.some.inj hx).symm⟩
      have hyl := hys y (List.mem_of_getElem? hy)
      refine ⟨_, rfl, y, rfl, by omega, ?_⟩
      refine ⟨_, rfl, y, rfl, by omega, fun H5 s5 => ?_⟩
      refine ⟨_, rfl, .bl _, _, _, _, true, rfl, .ty _, .base (.bl _), kBool, true, rfl, iteF ⟨_, rfl, _, rfl, rfl, false, ble_f rfl, iteF ?_⟩⟩
      have s6 := s4.trans s5
      refine ⟨5, rfl, by decide, by decide, for_range (n := 5) (fun j σ H6 => ∃ x6 : Option V, σ = [some (.ref a), some (.ref p), some (.str t), some (.str y), some (.bl (nameB y)), some (.bl (nameB y)), x6] ∧ Same H3 H6) ⟨_, rfl, s6⟩ ?_ ?_⟩
      · rintro j σ H6 hj ⟨x6, rfl, s7⟩
        rw [Int.zero_add]
        refine ⟨_, rfl, _, rfl, _, rfl, (j : Int), y, rfl, by omega, by omega, by omega, fun H7 s8 => ⟨true, rfl, iteF ?_⟩⟩
        exact ⟨_, rfl, s7.trans s8⟩
      · rintro σ H6 ⟨x6, rfl, s7⟩
        exact ⟨_, _, _, _, rfl, s7⟩
    · rintro σ H4 ⟨x3, x4, x5, x6, rfl, s4⟩
      refine ⟨_, rfl, t, rfl, by omega, fun H5 s5 => ?_⟩
      refine ⟨_, rfl, .bl _, _, _, _, true, rfl, .ty _, .base (.bl _), kBool, true, rfl, iteT ⟨_, rfl, _, rfl, t, rfl, by omega, rfl, ?_⟩⟩
      have e : V.bl (decide (V.bl (nameB t) = V.bl (nameB t))) = V.bl true := bl_t rfl
      rw [e]
      exact k _

end
theorem all_mk {l : PySem.W.OpenLaw} {w : World} {K : PySem.W.Frag} {h : Heap} {mg : Str → Option Value} {fa : Addr} (X : K.In h) (G : h.Ns mainGlobals mg) (hfa : mg "law" = some (.ref fa))
    {C_BadName : Addr} {C_BarbreaksError : Addr} {C_Grid : Addr} {C_Timed : Addr} {C_Named : Addr} {C_Item : Addr} {C_Piece : Addr} {C_Break : Addr} {C_Span : Addr} {C_House : Addr} {C_BadNumber : Addr} {C_BadText : Addr} {C_BadWord : Addr} {C_Refused : Addr} {C_Twice : Addr} {C_Unknown : Addr} {f1 : Addr} {od1 an1 : Option Addr} {sl1 : Array (Option Value)} {oc1 kV1 dc1 pm1 cd1 ct1 : Value} {f4 : Addr} {od4 an4 : Option Addr} {sl4 : Array (Option Value)} {oc4 kV4 dc4 pm4 cd4 ct4 : Value} {f6 : Addr} {od6 an6 : Option Addr} {sl6 : Array (Option Value)} {oc6 kV6 dc6 pm6 cd6 ct6 : Value} {u8 : Value} {u9 : Value} {u10 : Value} {f11 : Addr} {od11 an11 : Option Addr} {sl11 : Array (Option Value)} {oc11 kV11 dc11 pm11 cd11 ct11 : Value} {nm11 qn11 : Str} {N11 : Addr} {bs11 sub11 : List Value} {sn11 : List Str} {ab11 : Bool} {col11 : Option Bool} {dd11 : Option Addr} {m011 m111 m211 m311 m511 : Option Value} {f17 : Addr} {od17 an17 : Option Addr} {sl17 : Array (Option Value)} {oc17 kV17 dc17 pm17 cd17 ct17 : Value} {T17 : Addr} {oT17 : Value} {dT17 : Option Addr} {iT17 : Array Value} {nT17 : Nat} {sT17 : Array (Option Value)} {u19 : Value} {f20 : Addr} {od20 an20 : Option Addr} {sl20 : Array (Option Value)} {oc20 kV20 dc20 pm20 cd20 ct20 : Value} {T20 : Addr} {oT20 : Value} {dT20 : Option Addr} {iT20 : Array Value} {nT20 : Nat} {sT20 : Array (Option Value)} {f21 : Addr} {od21 an21 : Option Addr} {sl21 : Array (Option Value)} {oc21 kV21 dc21 pm21 cd21 ct21 : Value} {T21 : Addr} {oT21 : Value} {dT21 : Option Addr} {iT21 : Array Value} {nT21 : Nat} {sT21 : Array (Option Value)} {f23 : Addr} {od23 an23 : Option Addr} {sl23 : Array (Option Value)} {oc23 kV23 dc23 pm23 cd23 ct23 : Value} {f24 : Addr} {od24 an24 : Option Addr} {sl24 : Array (Option Value)} {oc24 kV24 dc24 pm24 cd24 ct24 : Value} {f26 : Addr} {od26 an26 : Option Addr} {sl26 : Array (Option Value)} {oc26 kV26 dc26 pm26 cd26 ct26 : Value} {f27 : Addr} {od27 an27 : Option Addr} {sl27 : Array (Option Value)} {oc27 dc27 pm27 cd27 ct27 : Value} {D27 : Addr} {w27_0 : Value} {w27_1 : Value} {u29 : Value} {f30 : Addr} {od30 an30 : Option Addr} {sl30 : Array (Option Value)} {oc30 dc30 pm30 cd30 ct30 : Value} {D30 : Addr} {w30_0 : Value} {w30_1 : Value} {u32 : Value} {u33 : Value} {f34 : Addr} {od34 an34 : Option Addr} {sl34 : Array (Option Value)} {oc34 dc34 pm34 cd34 ct34 : Value} {D34 : Addr} {w34_0 : Value} {w34_1 : Value} {f35 : Addr} {od35 an35 : Option Addr} {sl35 : Array (Option Value)} {oc35 kV35 dc35 pm35 cd35 ct35 : Value} {f36 : Addr} {od36 an36 : Option Addr} {sl36 : Array (Option Value)} {oc36 kV36 dc36 pm36 cd36 ct36 : Value} {f40 : Addr} {od40 an40 : Option Addr} {sl40 : Array (Option Value)} {oc40 kV40 dc40 pm40 cd40 ct40 : Value} {f41 : Addr} {od41 an41 : Option Addr} {sl41 : Array (Option Value)} {oc41 kV41 dc41 pm41 cd41 ct41 : Value} {u42 : Value} {f43 : Addr} {od43 an43 : Option Addr} {sl43 : Array (Option Value)} {oc43 kV43 dc43 pm43 cd43 ct43 : Value} {u45 : Value} {u55 : Value} {u56 : Value} {u57 : Value} {f58 : Addr} {od58 an58 : Option Addr} {sl58 : Array (Option Value)} {oc58 dc58 pm58 cd58 ct58 : Value} {T58 D58 e58 : Addr} {oT58 : Value} {dT58 : Option Addr} {iT58 : Array Value} {nT58 : Nat} {sT58 : Array (Option Value)} {W58_0 : Addr} {dwW58_0 : Option Addr} {iwW58_0 : Array Value} {nwW58_0 : Nat} {swW58_0 : Array (Option Value)} {W58_1 : Addr} {dwW58_1 : Option Addr} {iwW58_1 : Array Value} {nwW58_1 : Nat} {swW58_1 : Array (Option Value)} {w58_0 : Value} {w58_1 : Value} {w58_2 : Value} {w58_3 : Value} {f59 : Addr} {od59 an59 : Option Addr} {sl59 : Array (Option Value)} {oc59 kV59 dc59 pm59 cd59 ct59 : Value} {f61 : Addr} {od61 an61 : Option Addr} {sl61 : Array (Option Value)} {oc61 kV61 dc61 pm61 cd61 ct61 : Value} {f62 : Addr} {od62 an62 : Option Addr} {sl62 : Array (Option Value)} {oc62 kV62 dc62 pm62 cd62 ct62 : Value} {f63 : Addr} {od63 an63 : Option Addr} {sl63 : Array (Option Value)} {oc63 kV63 dc63 pm63 cd63 ct63 : Value} {f90 : Addr} {od90 an90 : Option Addr} {sl90 : Array (Option Value)} {oc90 kV90 dc90 pm90 cd90 ct90 : Value} {f114 : Addr} {od114 an114 : Option Addr} {sl114 : Array (Option Value)} {oc114 kV114 dc114 pm114 cd114 ct114 : Value}
    (a1 : PySem.W.nsIn K mainGlobals "_law_take" = some (some (.ref f1)))
    (l1 : K.lookup f1 = some ⟨oc1, od1, .func (PySem.W.fnOf "_law_take" "_law_take" (defArgs s_l_take) (defBody s_l_take) (defScope s_l_take) .none kV1 dc1 pm1 an1 cd1 ct1), sl1⟩)
    (c1 : PySem.W.codeIn K cd1 "_law_take" = true)
    (k1 : PySem.W.keepIn K (.ref f1) = true)
    (z2 : PySem.W.nsIn K mainGlobals "int" = some none)
    (z3 : PySem.W.nsIn K mainGlobals "len" = some none)
    (a4 : PySem.W.nsIn K mainGlobals "_law_pool" = some (some (.ref f4)))
    (l4 : K.lookup f4 = some ⟨oc4, od4, .func (PySem.W.fnOf "_law_pool" "_law_pool" (defArgs s_l_pool) (defBody s_l_pool) (defScope s_l_pool) .none kV4 dc4 pm4 an4 cd4 ct4), sl4⟩)
    (c4 : PySem.W.codeIn K cd4 "_law_pool" = true)
    (k4 : PySem.W.keepIn K (.ref f4) = true)
    (z5 : PySem.W.nsIn K mainGlobals "list" = some none)
    (a6 : PySem.W.nsIn K mainGlobals "is_name" = some (some (.ref f6)))
    (l6 : K.lookup f6 = some ⟨oc6, od6, .func (PySem.W.fnOf "is_name" "is_name" (defArgs s_is_name) (defBody s_is_name) (defScope s_is_name) .none kV6 dc6 pm6 an6 cd6 ct6), sl6⟩)
    (c6 : PySem.W.codeIn K cd6 "is_name" = true)
    (k6 : PySem.W.keepIn K (.ref f6) = true)
    (z7 : PySem.W.nsIn K mainGlobals "all" = some none)
    (g8 : PySem.W.nsIn K mainGlobals "MOST_SIGNS" = some (some u8))
    (r8 : RelV (.int 12) u8)
    (g9 : PySem.W.nsIn K mainGlobals "LETTERS" = some (some u9))
    (r9 : RelV (.str "abcdefghijklmnopqrstuvwxyz") u9)
    (g10 : PySem.W.nsIn K mainGlobals "DIGITS" = some (some u10))
    (r10 : RelV (.str "0123456789") u10)
    (g11 : PySem.W.nsIn K mainGlobals "BadName" = some (some (.ref C_BadName)))
    (x11 : K.lookup C_BadName = some (excClassObj nm11 qn11 C_BadName N11 bs11 [.ref C_BarbreaksError, .type "ValueError", .type "Exception", .type "BaseException", .type "object"] true sn11 sub11 ab11 col11 dd11 m011 m111 m211 m311 m511 "ValueError.__new__"))
    (sa11 : PySem.W.findIn K (.ref C_BadName) "__setattr__" = some (some (.builtin "object.__setattr__")))
    (eC11 : PySem.W.subIn K (.ref C_BadName) (.type "BaseException") = some true)
    (tC11 : PySem.W.typeIn K (.ref C_BadName) = some (.type "type"))
    (kC11 : PySem.W.keepIn K (.ref C_BadName) = true)
    (a11 : PySem.W.findIn K (.ref C_BadName) "__init__" = some (some (.ref f11)))
    (t11 : PySem.W.typeIn K (.ref f11) = some (.type "function"))
    (l11 : K.lookup f11 = some ⟨oc11, od11, .func (PySem.W.fnOf "__init__" "BadName.__init__" (defArgs s_BadName_init) (defBody s_BadName_init) (defScope s_BadName_init) .none kV11 dc11 pm11 an11 cd11 ct11), sl11⟩)
    (c11 : PySem.W.codeIn K cd11 "BadName.__init__" = true)
    (k11 : PySem.W.keepIn K (.ref f11) = true)
    (g12 : PySem.W.nsIn K mainGlobals "BadName" = some (some (.ref C_BadName)))
    (xn13 : PySem.W.findIn K (.ref C_BadName) "name" = some none)
    (g14 : PySem.W.nsIn K mainGlobals "Grid" = some (some (.ref C_Grid)))
    (pg14 : PySem.W.plainGet K C_Grid Str.empty = true)
    (hd14 : PySem.W.hasDictIn K C_Grid = true)
    (po14 : PySem.W.plainOver K C_Grid = true)
    (sa14 : PySem.W.findIn K (.ref C_Grid) "__setattr__" = some (some (.builtin "object.__setattr__")))
    (n15 : PySem.W.findIn K (.ref C_Grid) "step" = some none)
    (n16 : PySem.W.findIn K (.ref C_Grid) "offset" = some none)
    (mk17 : PySem.W.makesIn K C_Grid = true)
    (a17 : PySem.W.findIn K (.ref C_Grid) "__init__" = some (some (.ref f17)))
    (i17 : PySem.W.isFn K (.ref f17) = true)
    (kc17 : PySem.W.keepIn K (.ref C_Grid) = true)
    (l17 : K.lookup f17 = some ⟨oc17, od17, .func (PySem.W.fnOf "__init__" "Grid.__init__" (defArgs s_Grid_init) (defBody s_Grid_init) (defScope s_Grid_init) (.ref T17) kV17 dc17 pm17 an17 cd17 ct17), sl17⟩)
    (c17 : PySem.W.codeIn K cd17 "Grid.__init__" = true)
    (k17 : PySem.W.keepIn K (.ref f17) = true)
    (lT17 : K.lookup T17 = some ⟨oT17, dT17, .seq iT17 nT17, sT17⟩)
    (vT17 : Vals [.int 0] iT17.toList)
    (g18 : PySem.W.nsIn K mainGlobals "Timed" = some (some (.ref C_Timed)))
    (pg18 : PySem.W.plainGet K C_Timed Str.empty = true)
    (hd18 : PySem.W.hasDictIn K C_Timed = true)
    (po18 : PySem.W.plainOver K C_Timed = true)
    (sa18 : PySem.W.findIn K (.ref C_Timed) "__setattr__" = some (some (.builtin "object.__setattr__")))
    (rd19 : PySem.W.readsIn K C_Timed (.type "type") = true)
    (ga19 : PySem.W.specialIn K (.ref C_Timed) "__getattribute__" = some (some (.builtin "type.__getattribute__")))
    (a19 : PySem.W.findCls K (.ref C_Timed) (.type "type") "MOST_DELAY" = some (.val u19))
    (r19 : RelV (.int 8) u19)
    (rd20 : PySem.W.readsIn K C_Timed (.type "type") = true)
    (ga20 : PySem.W.specialIn K (.ref C_Timed) "__getattribute__" = some (some (.builtin "type.__getattribute__")))
    (a20 : PySem.W.findCls K (.ref C_Timed) (.type "type") "__init__" = some (.val (.ref f20)))
    (l20 : K.lookup f20 = some ⟨oc20, od20, .func (PySem.W.fnOf "__init__" "Timed.__init__" (defArgs s_Timed_init) (defBody s_Timed_init) (defScope s_Timed_init) (.ref T20) kV20 dc20 pm20 an20 cd20 ct20), sl20⟩)
    (c20 : PySem.W.codeIn K cd20 "Timed.__init__" = true)
    (k20 : PySem.W.keepIn K (.ref f20) = true)
    (lT20 : K.lookup T20 = some ⟨oT20, dT20, .seq iT20 nT20, sT20⟩)
    (vT20 : Vals [.non, .int 0] iT20.toList)
    (mk21 : PySem.W.makesIn K C_Timed = true)
    (a21 : PySem.W.findIn K (.ref C_Timed) "__init__" = some (some (.ref f21)))
    (i21 : PySem.W.isFn K (.ref f21) = true)
    (kc21 : PySem.W.keepIn K (.ref C_Timed) = true)
    (l21 : K.lookup f21 = some ⟨oc21, od21, .func (PySem.W.fnOf "__init__" "Timed.__init__" (defArgs s_Timed_init) (defBody s_Timed_init) (defScope s_Timed_init) (.ref T21) kV21 dc21 pm21 an21 cd21 ct21), sl21⟩)
    (c21 : PySem.W.codeIn K cd21 "Timed.__init__" = true)
    (k21 : PySem.W.keepIn K (.ref f21) = true)
    (lT21 : K.lookup T21 = some ⟨oT21, dT21, .seq iT21 nT21, sT21⟩)
    (vT21 : Vals [.non, .int 0] iT21.toList)
    (g22 : PySem.W.nsIn K mainGlobals "Named" = some (some (.ref C_Named)))
    (pg22 : PySem.W.plainGet K C_Named Str.empty = true)
    (hd22 : PySem.W.hasDictIn K C_Named = true)
    (po22 : PySem.W.plainOver K C_Named = true)
    (sa22 : PySem.W.findIn K (.ref C_Named) "__setattr__" = some (some (.builtin "object.__setattr__")))
    (rd23 : PySem.W.readsIn K C_Named (.type "type") = true)
    (ga23 : PySem.W.specialIn K (.ref C_Named) "__getattribute__" = some (some (.builtin "type.__getattribute__")))
    (a23 : PySem.W.findCls K (.ref C_Named) (.type "type") "__init__" = some (.val (.ref f23)))
    (l23 : K.lookup f23 = some ⟨oc23, od23, .func (PySem.W.fnOf "__init__" "Named.__init__" (defArgs s_Named_init) (defBody s_Named_init) (defScope s_Named_init) .none kV23 dc23 pm23 an23 cd23 ct23), sl23⟩)
    (c23 : PySem.W.codeIn K cd23 "Named.__init__" = true)
    (k23 : PySem.W.keepIn K (.ref f23) = true)
    (mk24 : PySem.W.makesIn K C_Named = true)
    (a24 : PySem.W.findIn K (.ref C_Named) "__init__" = some (some (.ref f24)))
    (i24 : PySem.W.isFn K (.ref f24) = true)
    (kc24 : PySem.W.keepIn K (.ref C_Named) = true)
    (l24 : K.lookup f24 = some ⟨oc24, od24, .func (PySem.W.fnOf "__init__" "Named.__init__" (defArgs s_Named_init) (defBody s_Named_init) (defScope s_Named_init) .none kV24 dc24 pm24 an24 cd24 ct24), sl24⟩)
    (c24 : PySem.W.codeIn K cd24 "Named.__init__" = true)
    (k24 : PySem.W.keepIn K (.ref f24) = true)
    (g25 : PySem.W.nsIn K mainGlobals "Item" = some (some (.ref C_Item)))
    (pg25 : PySem.W.plainGet K C_Item Str.empty = true)
    (hd25 : PySem.W.hasDictIn K C_Item = true)
    (po25 : PySem.W.plainOver K C_Item = true)
    (sa25 : PySem.W.findIn K (.ref C_Item) "__setattr__" = some (some (.builtin "object.__setattr__")))
    (rd26 : PySem.W.readsIn K C_Item (.type "type") = true)
    (ga26 : PySem.W.specialIn K (.ref C_Item) "__getattribute__" = some (some (.builtin "type.__getattribute__")))
    (a26 : PySem.W.findCls K (.ref C_Item) (.type "type") "__init__" = some (.val (.ref f26)))
    (l26 : K.lookup f26 = some ⟨oc26, od26, .func (PySem.W.fnOf "__init__" "Item.__init__" (defArgs s_Item_init) (defBody s_Item_init) (defScope s_Item_init) .none kV26 dc26 pm26 an26 cd26 ct26), sl26⟩)
    (c26 : PySem.W.codeIn K cd26 "Item.__init__" = true)
    (k26 : PySem.W.keepIn K (.ref f26) = true)
    (mk27 : PySem.W.makesIn K C_Item = true)
    (a27 : PySem.W.findIn K (.ref C_Item) "__init__" = some (some (.ref f27)))
    (i27 : PySem.W.isFn K (.ref f27) = true)
    (kc27 : PySem.W.keepIn K (.ref C_Item) = true)
    (l27 : K.lookup f27 = some ⟨oc27, od27, .func (PySem.W.fnOf "__init__" "Item.__init__" (defArgs s_Item_init) (defBody s_Item_init) (defScope s_Item_init) .none (.ref D27) dc27 pm27 an27 cd27 ct27), sl27⟩)
    (c27 : PySem.W.codeIn K cd27 "Item.__init__" = true)
    (k27 : PySem.W.keepIn K (.ref f27) = true)
    (q27_0 : PySem.W.nsIn K D27 "minute" = some (some w27_0))
    (r27_0 : RelV (.non) w27_0)
    (q27_1 : PySem.W.nsIn K D27 "delay" = some (some w27_1))
    (r27_1 : RelV (.int 0) w27_1)
    (g28 : PySem.W.nsIn K mainGlobals "Piece" = some (some (.ref C_Piece)))
    (pg28 : PySem.W.plainGet K C_Piece Str.empty = true)
    (hd28 : PySem.W.hasDictIn K C_Piece = true)
    (po28 : PySem.W.plainOver K C_Piece = true)
    (sa28 : PySem.W.findIn K (.ref C_Piece) "__setattr__" = some (some (.builtin "object.__setattr__")))
    (rd29 : PySem.W.readsIn K C_Piece (.type "type") = true)
    (ga29 : PySem.W.specialIn K (.ref C_Piece) "__getattribute__" = some (some (.builtin "type.__getattribute__")))
    (a29 : PySem.W.findCls K (.ref C_Piece) (.type "type") "MOST_SPREAD" = some (.val u29))
    (r29 : RelV (.int 8) u29)
    (mk30 : PySem.W.makesIn K C_Piece = true)
    (a30 : PySem.W.findIn K (.ref C_Piece) "__init__" = some (some (.ref f30)))
    (i30 : PySem.W.isFn K (.ref f30) = true)
    (kc30 : PySem.W.keepIn K (.ref C_Piece) = true)
    (l30 : K.lookup f30 = some ⟨oc30, od30, .func (PySem.W.fnOf "__init__" "Piece.__init__" (defArgs s_Piece_init) (defBody s_Piece_init) (defScope s_Piece_init) .none (.ref D30) dc30 pm30 an30 cd30 ct30), sl30⟩)
    (c30 : PySem.W.codeIn K cd30 "Piece.__init__" = true)
    (k30 : PySem.W.keepIn K (.ref f30) = true)
    (q30_0 : PySem.W.nsIn K D30 "minute" = some (some w30_0))
    (r30_0 : RelV (.non) w30_0)
    (q30_1 : PySem.W.nsIn K D30 "delay" = some (some w30_1))
    (r30_1 : RelV (.int 0) w30_1)
    (g31 : PySem.W.nsIn K mainGlobals "Break" = some (some (.ref C_Break)))
    (pg31 : PySem.W.plainGet K C_Break Str.empty = true)
    (hd31 : PySem.W.hasDictIn K C_Break = true)
    (po31 : PySem.W.plainOver K C_Break = true)
    (sa31 : PySem.W.findIn K (.ref C_Break) "__setattr__" = some (some (.builtin "object.__setattr__")))
    (rd32 : PySem.W.readsIn K C_Break (.type "type") = true)
    (ga32 : PySem.W.specialIn K (.ref C_Break) "__getattribute__" = some (some (.builtin "type.__getattribute__")))
    (a32 : PySem.W.findCls K (.ref C_Break) (.type "type") "MOST_PLACES" = some (.val u32))
    (r32 : RelV (.int 12) u32)
    (rd33 : PySem.W.readsIn K C_Break (.type "type") = true)
    (ga33 : PySem.W.specialIn K (.ref C_Break) "__getattribute__" = some (some (.builtin "type.__getattribute__")))
    (a33 : PySem.W.findCls K (.ref C_Break) (.type "type") "MOST_PATIENCE" = some (.val u33))
    (r33 : RelV (.int 64) u33)
    (mk34 : PySem.W.makesIn K C_Break = true)
    (a34 : PySem.W.findIn K (.ref C_Break) "__init__" = some (some (.ref f34)))
    (i34 : PySem.W.isFn K (.ref f34) = true)
    (kc34 : PySem.W.keepIn K (.ref C_Break) = true)
    (l34 : K.lookup f34 = some ⟨oc34, od34, .func (PySem.W.fnOf "__init__" "Break.__init__" (defArgs s_Break_init) (defBody s_Break_init) (defScope s_Break_init) .none (.ref D34) dc34 pm34 an34 cd34 ct34), sl34⟩)
    (c34 : PySem.W.codeIn K cd34 "Break.__init__" = true)
    (k34 : PySem.W.keepIn K (.ref f34) = true)
    (q34_0 : PySem.W.nsIn K D34 "delay" = some (some w34_0))
    (r34_0 : RelV (.int 0) w34_0)
    (q34_1 : PySem.W.nsIn K D34 "patience" = some (some w34_1))
    (r34_1 : RelV (.int 1) w34_1)
    (a35 : PySem.W.nsIn K mainGlobals "check_from_one" = some (some (.ref f35)))
    (l35 : K.lookup f35 = some ⟨oc35, od35, .func (PySem.W.fnOf "check_from_one" "check_from_one" (defArgs s_check_from_one) (defBody s_check_from_one) (defScope s_check_from_one) .none kV35 dc35 pm35 an35 cd35 ct35), sl35⟩)
    (c35 : PySem.W.codeIn K cd35 "check_from_one" = true)
    (k35 : PySem.W.keepIn K (.ref f35) = true)
    (a36 : PySem.W.nsIn K mainGlobals "check_apart" = some (some (.ref f36)))
    (l36 : K.lookup f36 = some ⟨oc36, od36, .func (PySem.W.fnOf "check_apart" "check_apart" (defArgs s_check_apart) (defBody s_check_apart) (defScope s_check_apart) .none kV36 dc36 pm36 an36 cd36 ct36), sl36⟩)
    (c36 : PySem.W.codeIn K cd36 "check_apart" = true)
    (k36 : PySem.W.keepIn K (.ref f36) = true)
    (g37 : PySem.W.nsIn K mainGlobals "Span" = some (some (.ref C_Span)))
    (pg37 : PySem.W.plainGet K C_Span Str.empty = true)
    (hd37 : PySem.W.hasDictIn K C_Span = true)
    (po37 : PySem.W.plainOver K C_Span = true)
    (sa37 : PySem.W.findIn K (.ref C_Span) "__setattr__" = some (some (.builtin "object.__setattr__")))
    (n38 : PySem.W.findIn K (.ref C_Span) "low" = some none)
    (n39 : PySem.W.findIn K (.ref C_Span) "high" = some none)
    (mk40 : PySem.W.makesIn K C_Span = true)
    (a40 : PySem.W.findIn K (.ref C_Span) "__init__" = some (some (.ref f40)))
    (i40 : PySem.W.isFn K (.ref f40) = true)
    (kc40 : PySem.W.keepIn K (.ref C_Span) = true)
    (l40 : K.lookup f40 = some ⟨oc40, od40, .func (PySem.W.fnOf "__init__" "Span.__init__" (defArgs s_Span_init) (defBody s_Span_init) (defScope s_Span_init) .none kV40 dc40 pm40 an40 cd40 ct40), sl40⟩)
    (c40 : PySem.W.codeIn K cd40 "Span.__init__" = true)
    (k40 : PySem.W.keepIn K (.ref f40) = true)
    (a41 : PySem.W.nsIn K mainGlobals "span_of_ways" = some (some (.ref f41)))
    (l41 : K.lookup f41 = some ⟨oc41, od41, .func (PySem.W.fnOf "span_of_ways" "span_of_ways" (defArgs s_span_of_ways) (defBody s_span_of_ways) (defScope s_span_of_ways) .none kV41 dc41 pm41 an41 cd41 ct41), sl41⟩)
    (c41 : PySem.W.codeIn K cd41 "span_of_ways" = true)
    (k41 : PySem.W.keepIn K (.ref f41) = true)
    (g42 : PySem.W.nsIn K mainGlobals "MOST_SPREAD_OF_WAYS" = some (some u42))
    (r42 : RelV (.int 8) u42)
    (a43 : PySem.W.nsIn K mainGlobals "check_kinds" = some (some (.ref f43)))
    (l43 : K.lookup f43 = some ⟨oc43, od43, .func (PySem.W.fnOf "check_kinds" "check_kinds" (defArgs s_check_kinds) (defBody s_check_kinds) (defScope s_check_kinds) .none kV43 dc43 pm43 an43 cd43 ct43), sl43⟩)
    (c43 : PySem.W.codeIn K cd43 "check_kinds" = true)
    (k43 : PySem.W.keepIn K (.ref f43) = true)
    (z44 : PySem.W.nsIn K mainGlobals "enumerate" = some none)
    (g45 : PySem.W.nsIn K mainGlobals "MOST_KINDS" = some (some u45))
    (r45 : RelV (.int 5) u45)
    (g46 : PySem.W.nsIn K mainGlobals "House" = some (some (.ref C_House)))
    (pg46 : PySem.W.plainGet K C_House Str.empty = true)
    (hd46 : PySem.W.hasDictIn K C_House = true)
    (po46 : PySem.W.plainOver K C_House = true)
    (sa46 : PySem.W.findIn K (.ref C_House) "__setattr__" = some (some (.builtin "object.__setattr__")))
    (n47 : PySem.W.findIn K (.ref C_House) "studios" = some none)
    (n48 : PySem.W.findIn K (.ref C_House) "crews" = some none)
    (n49 : PySem.W.findIn K (.ref C_House) "kinds" = some none)
    (n50 : PySem.W.findIn K (.ref C_House) "walk" = some none)
    (n51 : PySem.W.findIn K (.ref C_House) "pack" = some none)
    (n52 : PySem.W.findIn K (.ref C_House) "ahead" = some none)
    (n53 : PySem.W.findIn K (.ref C_House) "apart" = some none)
    (z54 : PySem.W.nsIn K mainGlobals "tuple" = some none)
    (g55 : PySem.W.nsIn K mainGlobals "MOST_STUDIOS" = some (some u55))
    (r55 : RelV (.int 6) u55)
    (g56 : PySem.W.nsIn K mainGlobals "MOST_CREWS" = some (some u56))
    (r56 : RelV (.int 6) u56)
    (g57 : PySem.W.nsIn K mainGlobals "MOST_AHEAD" = some (some u57))
    (r57 : RelV (.int 3) u57)
    (mk58 : PySem.W.makesIn K C_House = true)
    (a58 : PySem.W.findIn K (.ref C_House) "__init__" = some (some (.ref f58)))
    (i58 : PySem.W.isFn K (.ref f58) = true)
    (kc58 : PySem.W.keepIn K (.ref C_House) = true)
    (l58 : K.lookup f58 = some ⟨oc58, od58, .func (PySem.W.fnOf "__init__" "House.__init__" (defArgs s_House_init) (defBody s_House_init) (defScope s_House_init) (.ref T58) (.ref D58) dc58 pm58 an58 cd58 ct58), sl58⟩)
    (c58 : PySem.W.codeIn K cd58 "House.__init__" = true)
    (k58 : PySem.W.keepIn K (.ref f58) = true)
    (lT58 : K.lookup T58 = some ⟨oT58, dT58, .seq iT58 nT58, sT58⟩)
    (vT58 : Vals [.ref e58] iT58.toList)
    (q58_0 : PySem.W.nsIn K D58 "walk" = some (some w58_0))
    (r58_0 : RelV (.ref W58_0) w58_0)
    (q58_1 : PySem.W.nsIn K D58 "pack" = some (some w58_1))
    (r58_1 : RelV (.ref W58_1) w58_1)
    (q58_2 : PySem.W.nsIn K D58 "ahead" = some (some w58_2))
    (r58_2 : RelV (.int 1) w58_2)
    (q58_3 : PySem.W.nsIn K D58 "apart" = some (some w58_3))
    (r58_3 : RelV (.int 1) w58_3)
    (lwW58_0 : K.lookup W58_0 = some ⟨.type "tuple", dwW58_0, .seq iwW58_0 nwW58_0, swW58_0⟩)
    (zwW58_0 : iwW58_0.size ≤ sizeLine)
    (vwW58_0 : Vals [.int 0, .int 0] iwW58_0.toList)
    (lwW58_1 : K.lookup W58_1 = some ⟨.type "tuple", dwW58_1, .seq iwW58_1 nwW58_1, swW58_1⟩)
    (zwW58_1 : iwW58_1.size ≤ sizeLine)
    (vwW58_1 : Vals [.int 0, .int 0] iwW58_1.toList)
    (a59 : PySem.W.nsIn K mainGlobals "_law_text" = some (some (.ref f59)))
    (l59 : K.lookup f59 = some ⟨oc59, od59, .func (PySem.W.fnOf "_law_text" "_law_text" (defArgs s_l_text) (defBody s_l_text) (defScope s_l_text) .none kV59 dc59 pm59 an59 cd59 ct59), sl59⟩)
    (c59 : PySem.W.codeIn K cd59 "_law_text" = true)
    (k59 : PySem.W.keepIn K (.ref f59) = true)
    (z60 : PySem.W.nsIn K mainGlobals "range" = some none)
    (a61 : PySem.W.nsIn K mainGlobals "_law_near" = some (some (.ref f61)))
    (l61 : K.lookup f61 = some ⟨oc61, od61, .func (PySem.W.fnOf "_law_near" "_law_near" (defArgs s_l_near) (defBody s_l_near) (defScope s_l_near) .none kV61 dc61 pm61 an61 cd61 ct61), sl61⟩)
    (c61 : PySem.W.codeIn K cd61 "_law_near" = true)
    (k61 : PySem.W.keepIn K (.ref f61) = true)
    (a62 : PySem.W.nsIn K mainGlobals "_law_name" = some (some (.ref f62)))
    (l62 : K.lookup f62 = some ⟨oc62, od62, .func (PySem.W.fnOf "_law_name" "_law_name" (defArgs s_l_name) (defBody s_l_name) (defScope s_l_name) .none kV62 dc62 pm62 an62 cd62 ct62), sl62⟩)
    (c62 : PySem.W.codeIn K cd62 "_law_name" = true)
    (k62 : PySem.W.keepIn K (.ref f62) = true)
    (a63 : PySem.W.nsIn K mainGlobals "_law_made" = some (some (.ref f63)))
    (l63 : K.lookup f63 = some ⟨oc63, od63, .func (PySem.W.fnOf "_law_made" "_law_made" (defArgs s_l_made) (defBody s_l_made) (defScope s_l_made) .none kV63 dc63 pm63 an63 cd63 ct63), sl63⟩)
    (c63 : PySem.W.codeIn K cd63 "_law_made" = true)
    (k63 : PySem.W.keepIn K (.ref f63) = true)
    (n64 : PySem.W.findIn K (.ref C_Item) "name" = some none)
    (n65 : PySem.W.findIn K (.ref C_Item) "grid" = some none)
    (n66 : PySem.W.findIn K (.ref C_Item) "minute" = some none)
    (n67 : PySem.W.findIn K (.ref C_Item) "delay" = some none)
    (n68 : PySem.W.findIn K (.ref C_Piece) "name" = some none)
    (n69 : PySem.W.findIn K (.ref C_Piece) "grid" = some none)
    (n70 : PySem.W.findIn K (.ref C_Piece) "minute" = some none)
    (n71 : PySem.W.findIn K (.ref C_Piece) "delay" = some none)
    (n72 : PySem.W.findIn K (.ref C_Break) "name" = some none)
    (n73 : PySem.W.findIn K (.ref C_Break) "grid" = some none)
    (n74 : PySem.W.findIn K (.ref C_Break) "minute" = some none)
    (n75 : PySem.W.findIn K (.ref C_Break) "delay" = some none)
    (n76 : PySem.W.findIn K (.ref C_Named) "name" = some none)
    (n77 : PySem.W.findIn K (.ref C_Piece) "least" = some none)
    (n78 : PySem.W.findIn K (.ref C_Piece) "most" = some none)
    (n79 : PySem.W.findIn K (.ref C_Break) "places" = some none)
    (n80 : PySem.W.findIn K (.ref C_Break) "unit" = some none)
    (n81 : PySem.W.findIn K (.ref C_Break) "patience" = some none)
    (ia82 : PySem.W.findIn K (.ref C_Named) "__class__" = some (some (.builtin "object.__class__")))
    (ib82 : PySem.W.specialIn K (.builtin "object.__class__") "__get__" = some (some (.builtin "getset_descriptor.__get__")))
    (ic82 : PySem.W.takesIn K (.builtin "object.__class__") = some true)
    (id82 : PySem.W.mroIn K C_Named (.type "object") = some true)
    (ia83 : PySem.W.findIn K (.ref C_Item) "__class__" = some (some (.builtin "object.__class__")))
    (ib83 : PySem.W.specialIn K (.builtin "object.__class__") "__get__" = some (some (.builtin "getset_descriptor.__get__")))
    (ic83 : PySem.W.takesIn K (.builtin "object.__class__") = some true)
    (id83 : PySem.W.mroIn K C_Item (.type "object") = some true)
    (ia84 : PySem.W.findIn K (.ref C_Piece) "__class__" = some (some (.builtin "object.__class__")))
    (ib84 : PySem.W.specialIn K (.builtin "object.__class__") "__get__" = some (some (.builtin "getset_descriptor.__get__")))
    (ic84 : PySem.W.takesIn K (.builtin "object.__class__") = some true)
    (id84 : PySem.W.mroIn K C_Piece (.type "object") = some true)
    (ia85 : PySem.W.findIn K (.ref C_Break) "__class__" = some (some (.builtin "object.__class__")))
    (ib85 : PySem.W.specialIn K (.builtin "object.__class__") "__get__" = some (some (.builtin "getset_descriptor.__get__")))
    (ic85 : PySem.W.takesIn K (.builtin "object.__class__") = some true)
    (id85 : PySem.W.mroIn K C_Break (.type "object") = some true)
    (ko86 : PySem.W.kitOne K (.ref C_Named) (.ref C_Named) = some true)
    (ko87 : PySem.W.kitOne K (.ref C_Item) (.ref C_Named) = some true)
    (ko88 : PySem.W.kitOne K (.ref C_Piece) (.ref C_Named) = some true)
    (ko89 : PySem.W.kitOne K (.ref C_Break) (.ref C_Named) = some true)
    (a90 : PySem.W.nsIn K mainGlobals "_law_door" = some (some (.ref f90)))
    (l90 : K.lookup f90 = some ⟨oc90, od90, .func (PySem.W.fnOf "_law_door" "_law_door" (defArgs s_l_door) (defBody s_l_door) (defScope s_l_door) .none kV90 dc90 pm90 an90 cd90 ct90), sl90⟩)
    (c90 : PySem.W.codeIn K cd90 "_law_door" = true)
    (k90 : PySem.W.keepIn K (.ref f90) = true)
    (z91 : PySem.W.nsIn K mainGlobals "isinstance" = some none)
    (z92 : PySem.W.nsIn K mainGlobals "str" = some none)
    (z93 : PySem.W.nsIn K mainGlobals "ValueError" = some none)
    (ia94 : PySem.W.findIn K (.ref C_House) "__class__" = some (some (.builtin "object.__class__")))
    (ib94 : PySem.W.specialIn K (.builtin "object.__class__") "__get__" = some (some (.builtin "getset_descriptor.__get__")))
    (ic94 : PySem.W.takesIn K (.builtin "object.__class__") = some true)
    (id94 : PySem.W.mroIn K C_House (.type "object") = some true)
    (ko95 : PySem.W.kitOne K (.ref C_House) (.ref C_House) = some true)
    (g96 : PySem.W.nsIn K mainGlobals "BarbreaksError" = some (some (.ref C_BarbreaksError)))
    (hg97 : PySem.W.findIn K (.ref C_BadName) "__getattribute__" = some (some (.builtin "BaseException.__getattribute__")))
    (hk97 : PySem.W.findIn K (.ref C_BadName) "__getattr__" = some none)
    (hs97 : PySem.W.subIn K (.ref C_BadName) (.type "BaseException") = some true)
    (hd97 : PySem.W.hasDictIn K C_BadName = true)
    (ha97 : PySem.W.findIn K (.ref C_BadName) "__class__" = some (some (.builtin "object.__class__")))
    (hn97 : PySem.W.specialIn K (.builtin "object.__class__") "__get__" = some (some (.builtin "getset_descriptor.__get__")))
    (ht97 : PySem.W.takesIn K (.builtin "object.__class__") = some true)
    (hm97 : PySem.W.mroIn K C_BadName (.type "object") = some true)
    (xa98 : PySem.W.subIn K (.ref C_BarbreaksError) (.type "BaseException") = some true)
    (xb98 : PySem.W.hasDictIn K C_BarbreaksError = true)
    (xc98 : PySem.W.typeIn K (.ref C_BarbreaksError) = some (.type "type"))
    (xd98 : PySem.W.subIn K (.ref C_BadName) (.ref C_BarbreaksError) = some true)
    (ko99 : PySem.W.kitOne K (.ref C_BadName) (.ref C_BadName) = some true)
    (ko100 : PySem.W.kitOne K (.ref C_BadName) (.type "ValueError") = some true)
    (g101 : PySem.W.nsIn K mainGlobals "BadNumber" = some (some (.ref C_BadNumber)))
    (g102 : PySem.W.nsIn K mainGlobals "BadText" = some (some (.ref C_BadText)))
    (g103 : PySem.W.nsIn K mainGlobals "BadWord" = some (some (.ref C_BadWord)))
    (g104 : PySem.W.nsIn K mainGlobals "Refused" = some (some (.ref C_Refused)))
    (g105 : PySem.W.nsIn K mainGlobals "Twice" = some (some (.ref C_Twice)))
    (g106 : PySem.W.nsIn K mainGlobals "Unknown" = some (some (.ref C_Unknown)))
    (ko107 : PySem.W.kitOne K (.ref C_BadName) (.ref C_BadNumber) = some false)
    (ko108 : PySem.W.kitOne K (.ref C_BadName) (.ref C_BadText) = some false)
    (ko109 : PySem.W.kitOne K (.ref C_BadName) (.ref C_BadWord) = some false)
    (ko110 : PySem.W.kitOne K (.ref C_BadName) (.ref C_Refused) = some false)
    (ko111 : PySem.W.kitOne K (.ref C_BadName) (.ref C_Twice) = some false)
    (ko112 : PySem.W.kitOne K (.ref C_BadName) (.ref C_Unknown) = some false)
    (z113 : PySem.W.nsIn K mainGlobals "bool" = some none)
    (a114 : PySem.W.nsIn K mainGlobals "law" = some (some (.ref f114)))
    (l114 : K.lookup f114 = some ⟨oc114, od114, .func (PySem.W.fnOf "law" "law" (defArgs s_law) (defBody s_law) (defScope s_law) .none kV114 dc114 pm114 an114 cd114 ct114), sl114⟩)
    (c114 : PySem.W.codeIn K cd114 "law" = true)
    (k114 : PySem.W.keepIn K (.ref f114) = true)
    : ∃ fd : FuncData, (∀ (s : Shared) (v : Value), BindsTo s fd ⟨[v], []⟩ [("_law_script", v)]) ∧ ∀ base : Heap, K.In base → base.Ns mainGlobals mg → FnOk l.prog w K mg base CX0 9 fa fd ["_law_script"] (spLaw K) := by
  have T : Txt K mg C_BadName C_BarbreaksError C_Grid C_Timed C_Named C_Item C_Piece C_Break C_Span C_House C_BadNumber C_BadText C_BadWord C_Refused C_Twice C_Unknown :=
    ⟨⟨f1, _, PySem.W.mg_of X G a1, (fun_mk (st := s_l_take) l1 c1 k1), (fun_mk (st := s_l_take) l1 c1 k1).binds (ps := ["_law_pool_here", "_law_size"]) fun _ _ _ _ _ _ us hl => match us, hl with | [_, _], _ => rfl⟩,
     PySem.W.mg_none_of X G z2,
     PySem.W.mg_none_of X G z3,
     ⟨f4, _, PySem.W.mg_of X G a4, (fun_mk (st := s_l_pool) l4 c4 k4), (fun_mk (st := s_l_pool) l4 c4 k4).binds (ps := ["_law_script"]) fun _ _ _ _ _ _ us hl => match us, hl with | [_], _ => rfl⟩,
     PySem.W.mg_none_of X G z5,
     ⟨f6, _, PySem.W.mg_of X G a6, (fun_mk (st := s_is_name) l6 c6 k6), (fun_mk (st := s_is_name) l6 c6 k6).binds (ps := ["text"]) fun _ _ _ _ _ _ us hl => match us, hl with | [_], _ => rfl⟩,
     PySem.W.mg_none_of X G z7,
     ⟨u8, PySem.W.mg_of X G g8, r8⟩,
     ⟨u9, PySem.W.mg_of X G g9, r9⟩,
     ⟨u10, PySem.W.mg_of X G g10, r10⟩,
     ⟨⟨⟨_, _, _, _, _, _, _, _, _, _, _, _, _, _, _, x11, by rfl⟩, sa11, eC11, tC11, kC11⟩, PySem.W.mg_of X G g11, f11, _, a11, t11, (fun_mk (st := s_BadName_init) l11 c11 k11).binds (ps := ["self", "name"]) fun _ _ _ _ _ _ us hl => match us, hl with | [_, _], _ => rfl, (fun_mk (st := s_BadName_init) l11 c11 k11)⟩,
     PySem.W.mg_of X G g12,
     xn13,
     PySem.W.mg_of X G g14,
     ⟨pg14, hd14, po14, sa14⟩,
     n15,
     n16,
     ifD_mk ⟨mk17, a17, i17, kc17⟩ l17 c17 k17 lT17 vT17 3 (by simp) (by rfl) (fun T kV doc pm an cdv ct us its h1 h2 => match us, h1, its, h2 with | [_, _, _], _, [_], _ => ⟨_, rfl, rfl⟩),
     PySem.W.mg_of X G g18,
     ⟨pg18, hd18, po18, sa18⟩,
     ⟨_, u19, ⟨rd19, ga19⟩, ⟨a19, r19⟩⟩,
     sfD_mk ⟨rd20, ga20⟩ a20 l20 c20 k20 lT20 vT20 4 (by simp) (by rfl) (fun T kV doc pm an cdv ct us its h1 h2 => match us, h1, its, h2 with | [_, _, _, _], _, [_, _], _ => ⟨_, rfl, rfl⟩),
     ifD_mk ⟨mk21, a21, i21, kc21⟩ l21 c21 k21 lT21 vT21 4 (by simp) (by rfl) (fun T kV doc pm an cdv ct us its h1 h2 => match us, h1, its, h2 with | [_, _, _, _], _, [_, _], _ => ⟨_, rfl, rfl⟩),
     PySem.W.mg_of X G g22,
     ⟨pg22, hd22, po22, sa22⟩,
     ⟨_, f23, _, ⟨rd23, ga23⟩, a23, (fun_mk (st := s_Named_init) l23 c23 k23), (fun_mk (st := s_Named_init) l23 c23 k23).binds (ps := ["self", "name"]) fun _ _ _ _ _ _ us hl => match us, hl with | [_, _], _ => rfl⟩,
     ⟨f24, _, ⟨mk24, a24, i24, kc24⟩, (fun_mk (st := s_Named_init) l24 c24 k24), (fun_mk (st := s_Named_init) l24 c24 k24).binds (ps := ["self", "name"]) fun _ _ _ _ _ _ us hl => match us, hl with | [_, _], _ => rfl⟩,
     PySem.W.mg_of X G g25,
     ⟨pg25, hd25, po25, sa25⟩,
     ⟨_, f26, _, ⟨rd26, ga26⟩, a26, (fun_mk (st := s_Item_init) l26 c26 k26), ⟨fun s us ws _ h1 h2 => match us, h1, ws, h2 with | [_, _], _, [_, _, _], _ => .of_eq rfl, fun r1 r2 => r1.append r2⟩⟩,
     (ifG_mk [("minute", .non), ("delay", .int 0)] ⟨mk27, a27, i27, kc27⟩ l27 c27 k27 (by intro q hq; simp only [List.mem_cons, List.not_mem_nil, or_false] at hq; rcases hq with rfl | rfl; exact ⟨_, q27_0, r27_0⟩ ; exact ⟨_, q27_1, r27_1⟩) 2 (by simp) (fun _ _ _ _ _ _ us mv ws h1 h2 h3 => match us, h1, mv, h2, ws, h3 with | [_, _], _, [_, _], _, [_], _ => ⟨_, _, _, _, _, _, rfl, rfl, ⟨_, _, _, _, _, _, rfl, rfl, rfl⟩⟩)),
     PySem.W.mg_of X G g28,
     ⟨pg28, hd28, po28, sa28⟩,
     ⟨_, u29, ⟨rd29, ga29⟩, ⟨a29, r29⟩⟩,
     (ifG_mk [("minute", .non), ("delay", .int 0)] ⟨mk30, a30, i30, kc30⟩ l30 c30 k30 (by intro q hq; simp only [List.mem_cons, List.not_mem_nil, or_false] at hq; rcases hq with rfl | rfl; exact ⟨_, q30_0, r30_0⟩ ; exact ⟨_, q30_1, r30_1⟩) 2 (by simp) (fun _ _ _ _ _ _ us mv ws h1 h2 h3 => match us, h1, mv, h2, ws, h3 with | [_, _], _, [_, _], _, [_, _, _], _ => ⟨_, _, _, _, _, _, rfl, rfl, ⟨_, _, _, _, _, _, rfl, rfl, rfl⟩⟩)),
     PySem.W.mg_of X G g31,
     ⟨pg31, hd31, po31, sa31⟩,
     ⟨_, u32, ⟨rd32, ga32⟩, ⟨a32, r32⟩⟩,
     ⟨_, u33, ⟨rd33, ga33⟩, ⟨a33, r33⟩⟩,
     (ifG_mk [("delay", .int 0), ("patience", .int 1)] ⟨mk34, a34, i34, kc34⟩ l34 c34 k34 (by intro q hq; simp only [List.mem_cons, List.not_mem_nil, or_false] at hq; rcases hq with rfl | rfl; exact ⟨_, q34_0, r34_0⟩ ; exact ⟨_, q34_1, r34_1⟩) 2 (by simp) (fun _ _ _ _ _ _ us mv ws h1 h2 h3 => match us, h1, mv, h2, ws, h3 with | [_, _], _, [_, _], _, [_, _, _, _], _ => ⟨_, _, _, _, _, _, rfl, rfl, ⟨_, _, _, _, _, _, rfl, rfl, rfl⟩⟩)),
     ⟨f35, _, PySem.W.mg_of X G a35, (fun_mk (st := s_check_from_one) l35 c35 k35), (fun_mk (st := s_check_from_one) l35 c35 k35).binds (ps := ["number", "most"]) fun _ _ _ _ _ _ us hl => match us, hl with | [_, _], _ => rfl⟩,
     ⟨f36, _, PySem.W.mg_of X G a36, (fun_mk (st := s_check_apart) l36 c36 k36), (fun_mk (st := s_check_apart) l36 c36 k36).binds (ps := ["apart"]) fun _ _ _ _ _ _ us hl => match us, hl with | [_], _ => rfl⟩,
     PySem.W.mg_of X G g37,
     ⟨pg37, hd37, po37, sa37⟩,
     n38,
     n39,
     ⟨f40, _, ⟨mk40, a40, i40, kc40⟩, (fun_mk (st := s_Span_init) l40 c40 k40), (fun_mk (st := s_Span_init) l40 c40 k40).binds (ps := ["self", "low", "high"]) fun _ _ _ _ _ _ us hl => match us, hl with | [_, _, _], _ => rfl⟩,
     ⟨f41, _, PySem.W.mg_of X G a41, (fun_mk (st := s_span_of_ways) l41 c41 k41), (fun_mk (st := s_span_of_ways) l41 c41 k41).binds (ps := ["bounds"]) fun _ _ _ _ _ _ us hl => match us, hl with | [_], _ => rfl⟩,
     ⟨u42, PySem.W.mg_of X G g42, r42⟩,
     ⟨f43, _, PySem.W.mg_of X G a43, (fun_mk (st := s_check_kinds) l43 c43 k43), (fun_mk (st := s_check_kinds) l43 c43 k43).binds (ps := ["kinds"]) fun _ _ _ _ _ _ us hl => match us, hl with | [_], _ => rfl⟩,
     PySem.W.mg_none_of X G z44,
     ⟨u45, PySem.W.mg_of X G g45, r45⟩,
     PySem.W.mg_of X G g46,
     ⟨pg46, hd46, po46, sa46⟩,
     n47,
     n48,
     n49,
     n50,
     n51,
     n52,
     n53,
     PySem.W.mg_none_of X G z54,
     ⟨u55, PySem.W.mg_of X G g55, r55⟩,
     ⟨u56, PySem.W.mg_of X G g56, r56⟩,
     ⟨u57, PySem.W.mg_of X G g57, r57⟩,
     ⟨W58_0, W58_1, e58, sqT_of lwW58_0 zwW58_0 vwW58_0, sqT_of lwW58_1 zwW58_1 vwW58_1, (ifW_mk [("walk", .ref W58_0), ("pack", .ref W58_1), ("ahead", .int 1), ("apart", .int 1)] ⟨mk58, a58, i58, kc58⟩ l58 c58 k58 lT58 vT58 (by intro q hq; simp only [List.mem_cons, List.not_mem_nil, or_false] at hq; rcases hq with rfl | rfl | rfl | rfl; exact ⟨_, q58_0, r58_0⟩ ; exact ⟨_, q58_1, r58_1⟩ ; exact ⟨_, q58_2, r58_2⟩ ; exact ⟨_, q58_3, r58_3⟩) 4 (by simp) (by rfl) (fun _ _ _ _ _ _ _ us its ks h1 h2 h3 => match us, h1, its, h2, ks, h3 with | [_, _, _, _], _, [_], _, [_, _, _, _], _ => ⟨_, rfl, ⟨_, _, _, _, _, _, rfl, rfl, ⟨_, _, _, _, _, _, rfl, rfl, ⟨_, _, _, _, _, _, rfl, rfl, ⟨_, _, _, _, _, _, rfl, rfl, rfl⟩⟩⟩⟩⟩))⟩,
     ⟨f59, _, PySem.W.mg_of X G a59, (fun_mk (st := s_l_text) l59 c59 k59), (fun_mk (st := s_l_text) l59 c59 k59).binds (ps := ["_law_pool_here"]) fun _ _ _ _ _ _ us hl => match us, hl with | [_], _ => rfl⟩,
     PySem.W.mg_none_of X G z60,
     ⟨f61, _, PySem.W.mg_of X G a61, (fun_mk (st := s_l_near) l61 c61 k61), (fun_mk (st := s_l_near) l61 c61 k61).binds (ps := ["_law_text_here"]) fun _ _ _ _ _ _ us hl => match us, hl with | [_], _ => rfl⟩,
     ⟨f62, _, PySem.W.mg_of X G a62, (fun_mk (st := s_l_name) l62 c62 k62), (fun_mk (st := s_l_name) l62 c62 k62).binds (ps := ["_law_text_here"]) fun _ _ _ _ _ _ us hl => match us, hl with | [_], _ => rfl⟩,
     ⟨f63, _, PySem.W.mg_of X G a63, (fun_mk (st := s_l_made) l63 c63 k63), (fun_mk (st := s_l_made) l63 c63 k63).binds (ps := ["_law_door_here", "_law_text_here"]) fun _ _ _ _ _ _ us hl => match us, hl with | [_, _], _ => rfl⟩,
     n64,
     n65,
     n66,
     n67,
     n68,
     n69,
     n70,
     n71,
     n72,
     n73,
     n74,
     n75,
     n76,
     n77,
     n78,
     n79,
     n80,
     n81,
     ⟨ia82, ib82, ic82, id82⟩,
     ⟨ia83, ib83, ic83, id83⟩,
     ⟨ia84, ib84, ic84, id84⟩,
     ⟨ia85, ib85, ic85, id85⟩,
     ko86,
     ko87,
     ko88,
     ko89,
     ⟨f90, _, PySem.W.mg_of X G a90, (fun_mk (st := s_l_door) l90 c90 k90), (fun_mk (st := s_l_door) l90 c90 k90).binds (ps := ["_law_door_here", "_law_text_here", "_law_due"]) fun _ _ _ _ _ _ us hl => match us, hl with | [_, _, _], _ => rfl⟩,
     PySem.W.mg_none_of X G z91,
     PySem.W.mg_none_of X G z92,
     PySem.W.mg_none_of X G z93,
     ⟨ia94, ib94, ic94, id94⟩,
     ko95,
     PySem.W.mg_of X G g96,
     ⟨hg97, hk97, hs97, hd97, ha97, hn97, ht97, hm97⟩,
     PySem.W.exm_ref xa98 xb98 xc98 xd98,
     ko99,
     ko100,
     PySem.W.mg_of X G g101,
     PySem.W.mg_of X G g102,
     PySem.W.mg_of X G g103,
     PySem.W.mg_of X G g104,
     PySem.W.mg_of X G g105,
     PySem.W.mg_of X G g106,
     ko107,
     ko108,
     ko109,
     ko110,
     ko111,
     ko112,
     PySem.W.mg_none_of X G z113,
     ⟨f114, _, PySem.W.mg_of X G a114, (fun_mk (st := s_law) l114 c114 k114), (fun_mk (st := s_law) l114 c114 k114).binds (ps := ["_law_script"]) fun _ _ _ _ _ _ us hl => match us, hl with | [_], _ => rfl⟩⟩
  obtain ⟨f, fd, g, F, b⟩ := T.law
  obtain rfl : f = fa := Value.ref.inj (Option.some.inj (g.symm.trans hfa))
  refine ⟨fd, fun s v => ?_, fun base _ _ => (ok_law (P := l.prog) (w := w) (base := base) T) f fd F⟩
  obtain ⟨oc, od, kV, doc, pm, an, cdv, ct, osl, rfl, lk, hcd⟩ := F.ex
  exact .of_eq rfl
theorem walk {l : PySem.W.OpenLaw} {q : Program} {loose : List Str} {XP : (Str → Option Value) → Heap → Prop} {YP : World → Heap → Prop} {d : DefRec} {K : Params → PySem.W.Frag} (hn : l.most = some 63) (hdf : d.params.defaults = [])
    (hY : ∀ (w : World) (h : Heap), YP w h → (K w.params).In h)
    (F : ∀ (w : World) (mg : Str → Option Value) (fa : Addr) (h : Heap), (K w.params).In h → h.Ns mainGlobals mg → mg d.name = some (.ref fa) →
      ∃ fd : FuncData, (∀ (s : Shared) (u : Value), BindsTo s fd ⟨[u], []⟩ [("_law_script", u)]) ∧ ∀ base : Heap, (K w.params).In base → base.Ns mainGlobals mg → FnOk l.prog w (K w.params) mg base CX0 9 fa fd ["_law_script"] (spLaw (K w.params))) :
    PySem.W.WalkO q loose XP YP l.row.toRowW d [] (fun f vs => PySem.call f vs) :=
  L2.walk_of (n := 63) (k := 9) (x := "_law_script") (CX := fun _ => CX0) (sp := fun w => spLaw (K w.params)) hn (by decide) hdf ⟨rfl, by decide, by decide⟩ hY F (fun _ _ a ns hl _ hS => ⟨a, ns, rfl, hS, hl, fun _ => rfl⟩) fun _ _ _ _ _ z => z
end Brk.K01
open PySem PySem.W PyProof.Rows in
set_option maxRecDepth 100000 in
set_option maxHeartbeats 0 in
theorem PySem.Challenge.cw_barbreaks_k01_names_holds : PySem.Challenge.rw_barbreaks_k01_names.Holds := by
  w_on; o_law; k_head; (case hw => w_witness2)
  k_fill
  refine Brk.K01.walk (l := PySem.Challenge.rw_barbreaks_k01_names) rfl rfl (fun w h Y => PySem.W.kIn_of Y) ?F
  case F =>
    intro w mg fa h KX G hmg
    refine' Brk.K01.all_mk KX G hmg ?a1 ?l1 ?c1 ?k1 ?z2 ?z3 ?a4 ?l4 ?c4 ?k4 ?z5 ?a6 ?l6 ?c6 ?k6 ?z7 ?g8 ?r8 ?g9 ?r9 ?g10 ?r10 ?g11 ?x11 ?sa11 ?eC11 ?tC11 ?kC11 ?a11 ?t11 ?l11 ?c11 ?k11 ?g12 ?xn13 ?g14 ?pg14 ?hd14 ?po14 ?sa14 ?n15 ?n16 ?mk17 ?a17 ?i17 ?kc17 ?l17 ?c17 ?k17 ?lT17 ?vT17 ?g18 ?pg18 ?hd18 ?po18 ?sa18 ?rd19 ?ga19 ?a19 ?r19 ?rd20 ?ga20 ?a20 ?l20 ?c20 ?k20 ?lT20 ?vT20 ?mk21 ?a21 ?i21 ?kc21 ?l21 ?c21 ?k21 ?lT21 ?vT21 ?g22 ?pg22 ?hd22 ?po22 ?sa22 ?rd23 ?ga23 ?a23 ?l23 ?c23 ?k23 ?mk24 ?a24 ?i24 ?kc24 ?l24 ?c24 ?k24 ?g25 ?pg25 ?hd25 ?po25 ?sa25 ?rd26 ?ga26 ?a26 ?l26 ?c26 ?k26 ?mk27 ?a27 ?i27 ?kc27 ?l27 ?c27 ?k27 ?q27_0 ?r27_0 ?q27_1 ?r27_1 ?g28 ?pg28 ?hd28 ?po28 ?sa28 ?rd29 ?ga29 ?a29 ?r29 ?mk30 ?a30 ?i30 ?kc30 ?l30 ?c30 ?k30 ?q30_0 ?r30_0 ?q30_1 ?r30_1 ?g31 ?pg31 ?hd31 ?po31 ?sa31 ?rd32 ?ga32 ?a32 ?r32 ?rd33 ?ga33 ?a33 ?r33 ?mk34 ?a34 ?i34 ?kc34 ?l34 ?c34 ?k34 ?q34_0 ?r34_0 ?q34_1 ?r34_1 ?a35 ?l35 ?c35 ?k35 ?a36 ?l36 ?c36 ?k36 ?g37 ?pg37 ?hd37 ?po37 ?sa37 ?n38 ?n39 ?mk40 ?a40 ?i40 ?kc40 ?l40 ?c40 ?k40 ?a41 ?l41 ?c41 ?k41 ?g42 ?r42 ?a43 ?l43 ?c43 ?k43 ?z44 ?g45 ?r45 ?g46 ?pg46 ?hd46 ?po46 ?sa46 ?n47 ?n48 ?n49 ?n50 ?n51 ?n52 ?n53 ?z54 ?g55 ?r55 ?g56 ?r56 ?g57 ?r57 ?mk58 ?a58 ?i58 ?kc58 ?l58 ?c58 ?k58 ?lT58 ?vT58 ?q58_0 ?r58_0 ?q58_1 ?r58_1 ?q58_2 ?r58_2 ?q58_3 ?r58_3 ?lwW58_0 ?zwW58_0 ?vwW58_0 ?lwW58_1 ?zwW58_1 ?vwW58_1 ?a59 ?l59 ?c59 ?k59 ?z60 ?a61 ?l61 ?c61 ?k61 ?a62 ?l62 ?c62 ?k62 ?a63 ?l63 ?c63 ?k63 ?n64 ?n65 ?n66 ?n67 ?n68 ?n69 ?n70 ?n71 ?n72 ?n73 ?n74 ?n75 ?n76 ?n77 ?n78 ?n79 ?n80 ?n81 ?ia82 ?ib82 ?ic82 ?id82 ?ia83 ?ib83 ?ic83 ?id83 ?ia84 ?ib84 ?ic84 ?id84 ?ia85 ?ib85 ?ic85 ?id85 ?ko86 ?ko87 ?ko88 ?ko89 ?a90 ?l90 ?c90 ?k90 ?z91 ?z92 ?z93 ?ia94 ?ib94 ?ic94 ?id94 ?ko95 ?g96 ?hg97 ?hk97 ?hs97 ?hd97 ?ha97 ?hn97 ?ht97 ?hm97 ?xa98 ?xb98 ?xc98 ?xd98 ?ko99 ?ko100 ?g101 ?g102 ?g103 ?g104 ?g105 ?g106 ?ko107 ?ko108 ?ko109 ?ko110 ?ko111 ?ko112 ?z113 ?a114 ?l114 ?c114 ?k114
    (case a1 => k_is)
    (case l1 => k_is)
    (case c1 => k_is)
    (case k1 => k_is)
    (case z2 => k_is)
    (case z3 => k_is)
    (case a4 => k_is)
    (case l4 => k_is)
    (case c4 => k_is)
    (case k4 => k_is)
    (case z5 => k_is)
    (case a6 => k_is)
    (case l6 => k_is)
    (case c6 => k_is)
    (case k6 => k_is)
    (case z7 => k_is)
    (case g8 => k_is)
    (case r8 => exact ⟨_, rfl⟩)
    (case g9 => k_is)
    (case r9 => exact ⟨_, rfl⟩)
    (case g10 => k_is)
    (case r10 => exact ⟨_, rfl⟩)
    (case g11 => k_is)
    (case x11 => k_is)
    (case sa11 => k_is)
    (case eC11 => k_is)
    (case tC11 => k_is)
    (case kC11 => k_is)
    (case a11 => k_is)
    (case t11 => k_is)
    (case l11 => k_is)
    (case c11 => k_is)
    (case k11 => k_is)
    (case g12 => k_is)
    (case xn13 => k_is)
    (case g14 => k_is)
    (case pg14 => k_is)
    (case hd14 => k_is)
    (case po14 => k_is)
    (case sa14 => k_is)
    (case n15 => k_is)
    (case n16 => k_is)
    (case mk17 => k_is)
    (case a17 => k_is)
    (case i17 => k_is)
    (case kc17 => k_is)
    (case l17 => k_is)
    (case c17 => k_is)
    (case k17 => k_is)
    (case lT17 => k_is)
    (case vT17 => exact (.cons (by first | exact ⟨_, rfl⟩ | rfl) .nil))
    (case g18 => k_is)
    (case pg18 => k_is)
    (case hd18 => k_is)
    (case po18 => k_is)
    (case sa18 => k_is)
    (case rd19 => k_is)
    (case ga19 => k_is)
    (case a19 => k_is)
    (case r19 => exact ⟨_, rfl⟩)
    (case rd20 => k_is)
    (case ga20 => k_is)
    (case a20 => k_is)
    (case l20 => k_is)
    (case c20 => k_is)
    (case k20 => k_is)
    (case lT20 => k_is)
    (case vT20 => exact (.cons (by first | exact ⟨_, rfl⟩ | rfl) (.cons (by first | exact ⟨_, rfl⟩ | rfl) .nil)))
    (case mk21 => k_is)
    (case a21 => k_is)
    (case i21 => k_is)
    (case kc21 => k_is)
    (case l21 => k_is)
    (case c21 => k_is)
    (case k21 => k_is)
    (case lT21 => k_is)
    (case vT21 => exact (.cons (by first | exact ⟨_, rfl⟩ | rfl) (.cons (by first | exact ⟨_, rfl⟩ | rfl) .nil)))
    (case g22 => k_is)
    (case pg22 => k_is)
    (case hd22 => k_is)
    (case po22 => k_is)
    (case sa22 => k_is)
    (case rd23 => k_is)
    (case ga23 => k_is)
    (case a23 => k_is)
    (case l23 => k_is)
    (case c23 => k_is)
    (case k23 => k_is)
    (case mk24 => k_is)
    (case a24 => k_is)
    (case i24 => k_is)
    (case kc24 => k_is)
    (case l24 => k_is)
    (case c24 => k_is)
    (case k24 => k_is)
    (case g25 => k_is)
    (case pg25 => k_is)
    (case hd25 => k_is)
    (case po25 => k_is)
    (case sa25 => k_is)
    (case rd26 => k_is)
    (case ga26 => k_is)
    (case a26 => k_is)
    (case l26 => k_is)
    (case c26 => k_is)
    (case k26 => k_is)
    (case mk27 => k_is)
    (case a27 => k_is)
    (case i27 => k_is)
    (case kc27 => k_is)
    (case l27 => k_is)
    (case c27 => k_is)
    (case k27 => k_is)
    (case q27_0 => k_is)
    (case r27_0 => first | exact ⟨_, rfl⟩ | rfl)
    (case q27_1 => k_is)
    (case r27_1 => first | exact ⟨_, rfl⟩ | rfl)
    (case g28 => k_is)
    (case pg28 => k_is)
    (case hd28 => k_is)
    (case po28 => k_is)
    (case sa28 => k_is)
    (case rd29 => k_is)
    (case ga29 => k_is)
    (case a29 => k_is)
    (case r29 => exact ⟨_, rfl⟩)
    (case mk30 => k_is)
    (case a30 => k_is)
    (case i30 => k_is)
    (case kc30 => k_is)
    (case l30 => k_is)
    (case c30 => k_is)
    (case k30 => k_is)
    (case q30_0 => k_is)
    (case r30_0 => first | exact ⟨_, rfl⟩ | rfl)
    (case q30_1 => k_is)
    (case r30_1 => first | exact ⟨_, rfl⟩ | rfl)
    (case g31 => k_is)
    (case pg31 => k_is)
    (case hd31 => k_is)
    (case po31 => k_is)
    (case sa31 => k_is)
    (case rd32 => k_is)
    (case ga32 => k_is)
    (case a32 => k_is)
    (case r32 => exact ⟨_, rfl⟩)
    (case rd33 => k_is)
    (case ga33 => k_is)
    (case a33 => k_is)
    (case r33 => exact ⟨_, rfl⟩)
    (case mk34 => k_is)
    (case a34 => k_is)
    (case i34 => k_is)
    (case kc34 => k_is)
    (case l34 => k_is)
    (case c34 => k_is)
    (case k34 => k_is)
    (case q34_0 => k_is)
    (case r34_0 => first | exact ⟨_, rfl⟩ | rfl)
    (case q34_1 => k_is)
    (case r34_1 => first | exact ⟨_, rfl⟩ | rfl)
    (case a35 => k_is)
    (case l35 => k_is)
    (case c35 => k_is)
    (case k35 => k_is)
    (case a36 => k_is)
    (case l36 => k_is)
    (case c36 => k_is)
    (case k36 => k_is)
    (case g37 => k_is)
    (case pg37 => k_is)
    (case hd37 => k_is)
    (case po37 => k_is)
    (case sa37 => k_is)
    (case n38 => k_is)
    (case n39 => k_is)
    (case mk40 => k_is)
    (case a40 => k_is)
    (case i40 => k_is)
    (case kc40 => k_is)
    (case l40 => k_is)
    (case c40 => k_is)
    (case k40 => k_is)
    (case a41 => k_is)
    (case l41 => k_is)
    (case c41 => k_is)
    (case k41 => k_is)
    (case g42 => k_is)
    (case r42 => exact ⟨_, rfl⟩)
    (case a43 => k_is)
    (case l43 => k_is)
    (case c43 => k_is)
    (case k43 => k_is)
    (case z44 => k_is)
    (case g45 => k_is)
    (case r45 => exact ⟨_, rfl⟩)
    (case g46 => k_is)
    (case pg46 => k_is)
    (case hd46 => k_is)
    (case po46 => k_is)
    (case sa46 => k_is)
    (case n47 => k_is)
    (case n48 => k_is)
    (case n49 => k_is)
    (case n50 => k_is)
    (case n51 => k_is)
    (case n52 => k_is)
    (case n53 => k_is)
    (case z54 => k_is)
    (case g55 => k_is)
    (case r55 => exact ⟨_, rfl⟩)
    (case g56 => k_is)
    (case r56 => exact ⟨_, rfl⟩)
    (case g57 => k_is)
    (case r57 => exact ⟨_, rfl⟩)
    (case mk58 => k_is)
    (case a58 => k_is)
    (case i58 => k_is)
    (case kc58 => k_is)
    (case l58 => k_is)
    (case c58 => k_is)
    (case k58 => k_is)
    (case lT58 => k_is)
    (case vT58 => exact (.cons (by rfl) .nil))
    (case q58_0 => k_is)
    (case r58_0 => first | exact ⟨_, rfl⟩ | rfl)
    (case q58_1 => k_is)
    (case r58_1 => first | exact ⟨_, rfl⟩ | rfl)
    (case q58_2 => k_is)
    (case r58_2 => first | exact ⟨_, rfl⟩ | rfl)
    (case q58_3 => k_is)
    (case r58_3 => first | exact ⟨_, rfl⟩ | rfl)
    (case lwW58_0 => k_is)
    (case zwW58_0 => decide +kernel)
    (case vwW58_0 => exact (.cons (by first | exact ⟨_, rfl⟩ | rfl) (.cons (by first | exact ⟨_, rfl⟩ | rfl) .nil)))
    (case lwW58_1 => k_is)
    (case zwW58_1 => decide +kernel)
    (case vwW58_1 => exact (.cons (by first | exact ⟨_, rfl⟩ | rfl) (.cons (by first | exact ⟨_, rfl⟩ | rfl) .nil)))
    (case a59 => k_is)
    (case l59 => k_is)
    (case c59 => k_is)
    (case k59 => k_is)
    (case z60 => k_is)
    (case a61 => k_is)
    (case l61 => k_is)
    (case c61 => k_is)
    (case k61 => k_is)
    (case a62 => k_is)
    (case l62 => k_is)
    (case c62 => k_is)
    (case k62 => k_is)
    (case a63 => k_is)
    (case l63 => k_is)
    (case c63 => k_is)
    (case k63 => k_is)
    (case n64 => k_is)
    (case n65 => k_is)
    (case n66 => k_is)
    (case n67 => k_is)
    (case n68 => k_is)
    (case n69 => k_is)
    (case n70 => k_is)
    (case n71 => k_is)
    (case n72 => k_is)
    (case n73 => k_is)
    (case n74 => k_is)
    (case n75 => k_is)
    (case n76 => k_is)
    (case n77 => k_is)
    (case n78 => k_is)
    (case n79 => k_is)
    (case n80 => k_is)
    (case n81 => k_is)
    (case ia82 => k_is)
    (case ib82 => k_is)
    (case ic82 => k_is)
    (case id82 => k_is)
    (case ia83 => k_is)
    (case ib83 => k_is)
    (case ic83 => k_is)
    (case id83 => k_is)
    (case ia84 => k_is)
    (case ib84 => k_is)
    (case ic84 => k_is)
    (case id84 => k_is)
    (case ia85 => k_is)
    (case ib85 => k_is)
    (case ic85 => k_is)
    (case id85 => k_is)
    (case ko86 => kit_is)
    (case ko87 => kit_is)
    (case ko88 => kit_is)
    (case ko89 => kit_is)
    (case a90 => k_is)
    (case l90 => k_is)
    (case c90 => k_is)
    (case k90 => k_is)
    (case z91 => k_is)
    (case z92 => k_is)
    (case z93 => k_is)
    (case ia94 => k_is)
    (case ib94 => k_is)
    (case ic94 => k_is)
    (case id94 => k_is)
    (case ko95 => kit_is)
    (case g96 => k_is)
    (case hg97 => k_is)
    (case hk97 => k_is)
    (case hs97 => k_is)
    (case hd97 => k_is)
    (case ha97 => k_is)
    (case hn97 => k_is)
    (case ht97 => k_is)
    (case hm97 => k_is)
    (case xa98 => k_is)
    (case xb98 => k_is)
    (case xc98 => k_is)
    (case xd98 => (first | k_is | rfl))
    (case ko99 => kit_is)
    (case ko100 => kit_is)
    (case g101 => k_is)
    (case g102 => k_is)
    (case g103 => k_is)
    (case g104 => k_is)
    (case g105 => k_is)
    (case g106 => k_is)
    (case ko107 => kit_is)
    (case ko108 => kit_is)
    (case ko109 => kit_is)
    (case ko110 => kit_is)
    (case ko111 => kit_is)
    (case ko112 => kit_is)
    (case z113 => k_is)
    (case a114 => k_is)
    (case l114 => k_is)
    (case c114 => k_is)
    (case k114 => k_is)
#print axioms PySem.Challenge.cw_barbreaks_k01_names_holds
