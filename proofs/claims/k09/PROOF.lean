import PyProof.Rows.All
import Wide.All
import OpenK.AllK
import Wide.FinOn
import HandS.ForMost
import HandS.Wide
import HandS.IsInst
import HandS.Codes
import HandS.ClsMeth
import HandS.Defaults
import HandS.MakeKw
import HandS.MakeKwOnly
import HandS.Property
import HandS.WordsExc
import HandS.Exc
import HandS.ExcInit
import HandS.ExcIs
import HandS.ExcField
import KE.KExcIs
import HandS.Small
import HandS.StrMore
import HandS.Walk
import HandS.Iter
import KE.DataEq
import PySem.Challenge.RW_barbreaks_k09_break_limits
set_option Elab.async false
set_option linter.all false
set_option maxRecDepth 100000
/-! Own words over the hand layer: a def of the module with its promise, in one Prop. -/
namespace Brk
open PySem L2

/-- the module's name x holds a def that keeps the promise sp by at most level k -/
def Dk (P : Program) (w : World) (K : PySem.W.Frag) (mg : Str → Option Value) (base : Heap) (CX : CXT) (k : Nat) (x : Str) (ps : List Str) (sp : Sp) : Prop :=
  ∃ (f : Addr) (fd : FuncData), mg x = some (.ref f) ∧ PySem.W.keepIn K (.ref f) = true ∧ Binds K fd ps [] ∧ FnOk P w K mg base CX k f fd ps sp
/-- the module's name x holds the def whose text is st -/
def Df (K : PySem.W.Frag) (mg : Str → Option Value) (x : Str) (st : Stmt) (ps : List Str) : Prop :=
  ∃ (f : Addr) (fd : FuncData), mg x = some (.ref f) ∧ Fun K x x st f fd ∧ Binds K fd ps []
section
variable {X : Cx} {CX : CXT} {k : Nat} {ps : List Str} {sp : Sp} {E : XK} {x : Str} {p pos : Pos} {e : Expr} {es : List Expr} {t : TA}
theorem pe_d (D : Dk X.prog X.w X.K X.mg X.base CX k x ps sp) (hr : Room k X.A) (hx : Passes CX X E) (hg : Gl X x) (ha : PA X (e :: es) t)
    (hdb : (x == ("__debug__" : Str)) = false := by decide) (he : starEach (e :: es) X.env = (false, eval e X.env) :: starEach es X.env := by rfl) (hpl : (backTo pos (starEach es X.env)).any (·.1) = false := by rfl) :
    PE X (.Call (.Name x p) (e :: es) [] pos) (tCall sp [] E t) := by
  obtain ⟨f, fd, hm, hk, hb, F⟩ := D
  exact pe_call F hr hg hm hk hb .nil hx ha hdb he hpl
end
theorem Dk.mono {P : Program} {w : World} {K : PySem.W.Frag} {mg : Str → Option Value} {base : Heap} {CX : CXT} {k : Nat} {x : Str} {ps : List Str} {sp sp' : Sp} (D : Dk P w K mg base CX k x ps sp)
    (h : ∀ f fd, FnOk P w K mg base CX k f fd ps sp → FnOk P w K mg base CX k f fd ps sp') : Dk P w K mg base CX k x ps sp' := by
  obtain ⟨f, fd, a, b, c, F⟩ := D
  exact ⟨f, fd, a, b, c, h f fd F⟩

theorem bl_t {p : Prop} [Decidable p] (h : p) : V.bl (decide p) = V.bl true := by rw [decide_eq_true h]
theorem bl_f {p : Prop} [Decidable p] (h : ¬ p) : V.bl (decide p) = V.bl false := by rw [decide_eq_false h]
theorem pos_m7 : (0 : Int) < 2147483647 := by decide
theorem pos_m9 : (0 : Int) < 2147483399 := by decide
/-! ### heaps -/
/-- only what stands at p may have changed -/
def Off (p : Addr) (H H' : Hp) : Prop := ∀ b, b ≠ p → H' b = H b
theorem Off.refl {p : Addr} {H : Hp} : Off p H H := fun _ _ => rfl
theorem Off.trans {p : Addr} {H H1 H2 : Hp} (a : Off p H H1) (b : Off p H1 H2) : Off p H H2 := fun c hc => (b c hc).trans (a c hc)
theorem Off.upd {p : Addr} {H : Hp} {o : HO} : Off p H (upd H p o) := fun _ hb => upd_ne hb

/-! ### the script's pool: a list of four ints and the list of the script's numbers -/
def PL (c : Addr) (l : List V) : Prop := ∃ z i t d : Int, 0 ≤ i ∧ l = [.int z, .int i, .int t, .int d, .ref c]
structure Pool (ns : List Int) (c : Addr) (H : Hp) (p : Addr) : Prop where
  at_ : ∃ l, H p = some (.lst l) ∧ PL c l
  cells : H c = some (.lst (ns.map V.int))
theorem Pool.off {ns : List Int} {c : Addr} {H H' : Hp} {p q : Addr} (h : Pool ns c H p) (o : Off q H H') (h1 : p ≠ q) (h2 : c ≠ q) : Pool ns c H' p := by
  obtain ⟨⟨l, a, b⟩, d⟩ := h
  exact ⟨⟨l, (o p h1).trans a, b⟩, (o c h2).trans d⟩
theorem Pool.ne {ns : List Int} {c : Addr} {H : Hp} {p : Addr} (h : Pool ns c H p) : c ≠ p := by
  obtain ⟨⟨l, a, z, i, t, d, _, rfl⟩, b⟩ := h
  intro e
  rw [e, a] at b
  have q := HO.lst.inj (Option.some.inj b)
  have m : V.ref c ∈ ns.map V.int := by rw [← q]; simp
  simp at m
theorem Pool.same {ns : List Int} {c : Addr} {H H' : Hp} {p : Addr} (h : Pool ns c H p) (s : Same H H') : Pool ns c H' p := by
  obtain ⟨⟨l, a, b⟩, d⟩ := h
  exact ⟨⟨l, s _ _ a, b⟩, s _ _ d⟩
theorem Pool.upd {ns : List Int} {c : Addr} {H : Hp} {p : Addr} {l : List V} (h : Pool ns c H p) (hl : PL c l) : Pool ns c (L2.upd H p (.lst l)) p :=
  ⟨⟨l, upd_same, hl⟩, (upd_ne h.ne).trans h.cells⟩
theorem ints_at {ns : List Int} {i : Nat} {y : V} (h : (ns.map V.int)[i]? = some y) : ∃ z, ns[i]? = some z ∧ y = V.int z := by
  rw [List.getElem?_map] at h
  cases e : ns[i]? with
  | none => rw [e] at h; cases h
  | some z => rw [e] at h; exact ⟨z, rfl, (Option.some.inj h).symm⟩
theorem atI_ge {α : Type} {xs : List α} {i : Int} {v : α} (h0 : 0 ≤ i) (h : xs[i.toNat]? = some v) : atI xs i = some v := by
  have e : i = (i.toNat : Int) := by omega
  rw [e]
  exact atI_nat h

/-! ### promises of the drawing helpers -/
/-- a draw: the pool at p is asked; the answer is good; nothing but the pool's own list is another -/
def spTake : Sp := fun vs H Q _ => ∃ (p c : Addr) (ns : List Int) (n : Int), vs = [.ref p, .int n] ∧ Pool ns c H p ∧ 0 < n ∧ n.natAbs.log2 < 9000 ∧
  ∀ (r : Int) (H' : Hp), 0 ≤ r → r < n → Pool ns c H' p → Off p H H' → Q (.int r) H'
def spBig : Sp := fun vs H Q _ => ∃ (p c : Addr) (ns : List Int), vs = [.ref p] ∧ Pool ns c H p ∧
  ∀ (r : Int) (H' : Hp), 0 ≤ r → r < 10 ^ 27 → Pool ns c H' p → Off p H H' → Q (.int r) H'
/-- a draw by the pool alone; by the pool and a number -/
def spDraw (G : Int → Prop) : Sp := fun vs H Q _ => ∃ (p c : Addr) (ns : List Int), vs = [.ref p] ∧ Pool ns c H p ∧ ∀ (r : Int) (H' : Hp), G r → Pool ns c H' p → Off p H H' → Q (.int r) H'
def spDraw2 (A : Int → Prop) (G : Int → Int → Prop) : Sp := fun vs H Q _ => ∃ (p c : Addr) (ns : List Int) (s : Int), vs = [.ref p, .int s] ∧ Pool ns c H p ∧ A s ∧ ∀ (r : Int) (H' : Hp), G s r → Pool ns c H' p → Off p H H' → Q (.int r) H'
def GFree (r : Int) : Prop := -10 ^ 27 < r ∧ r < 10 ^ 27
def GStep (r : Int) : Prop := 1 ≤ r ∧ r ≤ 10 ^ 27
theorem log2_27 {n : Int} (h : 1 ≤ n) (h2 : n ≤ 10 ^ 27) : n.natAbs.log2 < 9000 := by
  have e : n.natAbs ≠ 0 := by omega
  refine (Nat.log2_lt e).mpr (Nat.lt_of_lt_of_le (m := 2 ^ 90) (by omega) (Nat.pow_le_pow_right (by decide) (by decide)))
/-- isinstance(x, int) and (not isinstance(x, bool)) -/
def spIsInt (K : PySem.W.Frag) : Sp := fun vs H Q _ => ∃ (x : V) (t : Value) (b1 b2 : Bool), vs = [x] ∧ TyX K H x t ∧ PySem.W.kitOne K t (.type "int") = some b1 ∧ PySem.W.kitOne K t (.type "bool") = some b2 ∧ Q (.bl (b1 && !b2)) H
theorem kInt {K : PySem.W.Frag} : PySem.W.kitOne K (.type "int") (.type "int") = some true := kit_ty (by decide +kernel)
theorem kIntB {K : PySem.W.Frag} : PySem.W.kitOne K (.type "int") (.type "bool") = some false := kit_ty (by decide +kernel)
theorem isInt_int {K : PySem.W.Frag} {H : Hp} {Q : VK} {E : XK} {i : Int} (h : Q (.bl true) H) : spIsInt K [.int i] H Q E := ⟨.int i, _, true, false, rfl, .base (.int i), kit_ty (by decide +kernel), kit_ty (by decide +kernel), h⟩
def spPool (K : PySem.W.Frag) : Sp := fun vs H Q _ => ∃ (a : Addr) (ns : List Int), vs = [.ref a] ∧ SqL K H a (ns.map V.int) ∧ ns.length ≤ 63 ∧
  ∀ (p c : Addr) (H' : Hp), Pool ns c H' p → H p = none → H c = none → Same H H' → Q (.ref p) H'

/-! ### classes: methods, makers, defs read off a class -/
/-- the class at C has the method m, a def whose text is st -/
def Mf (K : PySem.W.Frag) (C : Addr) (m qual : Str) (st : Stmt) (ps : List Str) : Prop := ∃ (f : Addr) (fd : FuncData), Meth K C m f ∧ Fun K m qual st f fd ∧ Binds K fd ps []
/-- .. and it keeps the promise sp -/
def Me (P : Program) (w : World) (K : PySem.W.Frag) (mg : Str → Option Value) (base : Heap) (CX : CXT) (k : Nat) (C : Addr) (m : Str) (ps : List Str) (sp : Sp) : Prop :=
  ∃ (f : Addr) (fd : FuncData), Meth K C m f ∧ Binds K fd ps [] ∧ FnOk P w K mg base CX k f fd ps sp
/-- the class of the name x, at C, is made by an __init__ that keeps sp, its last parameters filled by dvs -/
def MkD (P : Program) (w : World) (K : PySem.W.Frag) (mg : Str → Option Value) (base : Heap) (CX : CXT) (k : Nat) (x : Str) (C : Addr) (ps : List Str) (dvs : List V) (sp : Sp) : Prop :=
  ∃ (f : Addr) (fd : FuncData) (ds : List Value), mg x = some (.ref C) ∧ Mk K C f ∧ Binds K fd ps ds ∧ Vals dvs ds ∧ FnOk P w K mg base CX k f fd ps sp
section
variable {X : Cx} {CX : CXT} {k : Nat} {ps : List Str} {sp : Sp} {dvs : List V} {E : XK} {x m : Str} {C : Addr} {p pos apos : Pos} {o e : Expr} {es : List Expr} {ta : TE} {t : TA}
theorem pe_me {pl : Sem Bool} (M : Me X.prog X.w X.K X.mg X.base CX k C m ps sp) (c : Cls X.K C) (hr : Room k X.A) (hx : Passes CX X E) (he : PE X o ta) (ha : PA X (e :: es) t)
    (hst : starEach (e :: es) X.env = (false, eval e X.env) :: starEach es X.env := by rfl) (hpl : (backTo pos (starEach es X.env)).any (·.1) = false := by rfl)
    (ht : eval (.Call (.Attribute o m apos) (e :: es) [] pos) X.env = (do
      let ov ← eval o X.env
      standAt apos.atName
      let (f, first) ← holding [ov] (getMethod ov m pl)
      callWith pos f first (backTo pos (starEach (e :: es) X.env)) (backToKw pos (keywordEach [] X.env))) := by rfl) :
    PE X (.Call (.Attribute o m apos) (e :: es) [] pos) (tMeth C m sp [] E ta t) := by
  obtain ⟨f, fd, hm, hb, F⟩ := M
  exact pe_meth (pl := pl) he c hm F hr hb .nil hx ha hst hpl ht
theorem pe_mkd (M : MkD X.prog X.w X.K X.mg X.base CX k x C ps dvs sp) (hr : Room (k + 1) X.A) (hx : Passes CX X E) (hg : Gl X x) (ha : PA X (e :: es) t)
    (hdb : (x == ("__debug__" : Str)) = false := by decide) (he : starEach (e :: es) X.env = (false, eval e X.env) :: starEach es X.env := by rfl) (hpl : (backTo pos (starEach es X.env)).any (·.1) = false := by rfl) :
    PE X (.Call (.Name x p) (e :: es) [] pos) (tMake C sp dvs E t) := by
  obtain ⟨f, fd, ds, hm, M, hb, hd, F⟩ := M
  exact pe_make M F hr hg hm hb hd hx ha hdb he hpl
/-- C.m(e, ..), m a plain def of the class at C -/
theorem pe_cfn {mc : Value} {f : Addr} {fd : FuncData} {pl : Sem Bool} (he : PE X o ta) (r : ClX.CRead X.K C mc) (ca : PySem.W.findCls X.K (.ref C) mc m = some (.val (.ref f))) (hk : PySem.W.keepIn X.K (.ref f) = true) (hb : Binds X.K fd ps [])
    (F : FnOk X.prog X.w X.K X.mg X.base CX k f fd ps sp) (hr : Room k X.A) (hx : Passes CX X E) (ha : PA X (e :: es) t)
    (hst : starEach (e :: es) X.env = (false, eval e X.env) :: starEach es X.env := by rfl) (hpl : (backTo pos (starEach es X.env)).any (·.1) = false := by rfl)
    (ht : eval (.Call (.Attribute o m apos) (e :: es) [] pos) X.env = (do
      let ov ← eval o X.env
      standAt apos.atName
      let (f, first) ← holding [ov] (getMethod ov m pl)
      callWith pos f first (backTo pos (starEach (e :: es) X.env)) (backToKw pos (keywordEach [] X.env))) := by rfl) :
    PE X (.Call (.Attribute o m apos) (e :: es) [] pos) (fun σ H Q => ta σ H fun x H1 => x = .ref C ∧ t σ H1 fun vs H2 => sp (vs ++ []) H2 Q E) := by
  constructor
  intro pins s σ H Q I h
  refine PySem.W.methodCall_KW (pl := pl) (thn (he.run pins s σ H _ I h) fun u s1 hh => ?_) ht
  obtain ⟨v, H1, I1, rv, ev, q⟩ := hh
  subst ev
  obtain rfl : u = Value.ref C := rv
  refine PySem.W.method_cls I1.kIn r.ga ?_
  refine PySem.W.cls_value I1.kIn r.rd ca rfl ?_
  have J := I1.tok (s1.toks + 1)
  refine PySem.W.callWith_K (first := []) (h₀ := X.base) I1.ok.mod.kin hk ?_ hst hpl
  refine thn (ha.run pos pins _ σ H1 _ J q) fun us s2 hh2 => ?_
  obtain ⟨vs, H2, I2, rr, q2⟩ := hh2
  exact ⟨I2.kIn, run_fn F hr hb .nil hx I2 rr q2⟩
end

/-- the class at C gives out its def m when it is asked by its own name; the text st -/
def Sf (K : PySem.W.Frag) (C : Addr) (m qual : Str) (st : Stmt) (ps : List Str) : Prop := ∃ (mc : Value) (f : Addr) (fd : FuncData), ClX.CRead K C mc ∧ PySem.W.findCls K (.ref C) mc m = some (.val (.ref f)) ∧ Fun K m qual st f fd ∧ Binds K fd ps []
def Cf (P : Program) (w : World) (K : PySem.W.Frag) (mg : Str → Option Value) (base : Heap) (CX : CXT) (k : Nat) (C : Addr) (m : Str) (ps : List Str) (sp : Sp) : Prop :=
  ∃ (mc : Value) (f : Addr) (fd : FuncData), ClX.CRead K C mc ∧ PySem.W.findCls K (.ref C) mc m = some (.val (.ref f)) ∧ PySem.W.keepIn K (.ref f) = true ∧ Binds K fd ps [] ∧ FnOk P w K mg base CX k f fd ps sp
section
variable {X : Cx} {CX : CXT} {k : Nat} {ps : List Str} {sp : Sp} {E : XK} {m : Str} {C : Addr} {pos apos : Pos} {o e : Expr} {es : List Expr} {ta : TE} {t : TA}
theorem pe_cf {pl : Sem Bool} (M : Cf X.prog X.w X.K X.mg X.base CX k C m ps sp) (hr : Room k X.A) (hx : Passes CX X E) (he : PE X o ta) (ha : PA X (e :: es) t)
    (hst : starEach (e :: es) X.env = (false, eval e X.env) :: starEach es X.env := by rfl) (hpl : (backTo pos (starEach es X.env)).any (·.1) = false := by rfl)
    (ht : eval (.Call (.Attribute o m apos) (e :: es) [] pos) X.env = (do
      let ov ← eval o X.env
      standAt apos.atName
      let (f, first) ← holding [ov] (getMethod ov m pl)
      callWith pos f first (backTo pos (starEach (e :: es) X.env)) (backToKw pos (keywordEach [] X.env))) := by rfl) :
    PE X (.Call (.Attribute o m apos) (e :: es) [] pos) (fun σ H Q => ta σ H fun x H1 => x = .ref C ∧ t σ H1 fun vs H2 => sp (vs ++ []) H2 Q E) := by
  obtain ⟨mc, f, fd, r, ca, hk, hb, F⟩ := M
  exact pe_cfn (pl := pl) he r ca hk hb F hr hx ha hst hpl ht
end
/-- a call that writes n values and then the keywords ks, in the parameters' order -/
abbrev KA (K : PySem.W.Frag) (fd : FuncData) (ps : List Str) (n : Nat) (ks : List Str) : Prop := KBn K fd ps n ks (fun us ws => us ++ ws) (fun vs zs => vs ++ zs)
def CfK (P : Program) (w : World) (K : PySem.W.Frag) (mg : Str → Option Value) (base : Heap) (CX : CXT) (k : Nat) (C : Addr) (m : Str) (ps : List Str) (n : Nat) (ks : List Str) (sp : Sp) : Prop :=
  ∃ (mc : Value) (f : Addr) (fd : FuncData), ClX.CRead K C mc ∧ PySem.W.findCls K (.ref C) mc m = some (.val (.ref f)) ∧ PySem.W.keepIn K (.ref f) = true ∧ KA K fd ps n ks ∧ FnOk P w K mg base CX k f fd ps sp
def SfK (K : PySem.W.Frag) (C : Addr) (m qual : Str) (st : Stmt) (ps : List Str) (n : Nat) (ks : List Str) : Prop := ∃ (mc : Value) (f : Addr) (fd : FuncData), ClX.CRead K C mc ∧ PySem.W.findCls K (.ref C) mc m = some (.val (.ref f)) ∧ Fun K m qual st f fd ∧ KA K fd ps n ks
def MkK (P : Program) (w : World) (K : PySem.W.Frag) (mg : Str → Option Value) (base : Heap) (CX : CXT) (k : Nat) (x : Str) (C : Addr) (ps : List Str) (n : Nat) (ks : List Str) (sp : Sp) : Prop :=
  ∃ (f : Addr) (fd : FuncData), mg x = some (.ref C) ∧ Mk K C f ∧ KA K fd ps n ks ∧ FnOk P w K mg base CX k f fd ps sp
def IfK (K : PySem.W.Frag) (C : Addr) (qual : Str) (st : Stmt) (ps : List Str) (n : Nat) (ks : List Str) : Prop := ∃ (f : Addr) (fd : FuncData), Mk K C f ∧ Fun K "__init__" qual st f fd ∧ KA K fd ps n ks
section
variable {X : Cx} {CX : CXT} {k n : Nat} {ps ks : List Str} {sp : Sp} {E : XK} {x m : Str} {C : Addr} {p pos apos : Pos} {o e : Expr} {es : List Expr} {kws : List Keyword} {ta : TE} {t tk : TA}
theorem pe_cfK {pl : Sem Bool} (M : CfK X.prog X.w X.K X.mg X.base CX k C m ps n ks sp) (hr : Room k X.A) (hx : Passes CX X E) (he : PE X o ta) (ha : PA X (e :: es) t) (hkw : PK X kws tk)
    (hall : (backToKw pos (keywordEach kws X.env)).all (·.1.isSome) = true := by rfl) (hks : (backToKw pos (keywordEach kws X.env)).filterMap (·.1) = ks := by rfl)
    (hst : starEach (e :: es) X.env = (false, eval e X.env) :: starEach es X.env := by rfl)
    (hpl : ((backTo pos (starEach (e :: es) X.env)).any (·.1) || (backToKw pos (keywordEach kws X.env)).any (·.1.isNone)) = false := by rfl)
    (ht : eval (.Call (.Attribute o m apos) (e :: es) kws pos) X.env = (do
      let ov ← eval o X.env
      standAt apos.atName
      let (f, first) ← holding [ov] (getMethod ov m pl)
      callWith pos f first (backTo pos (starEach (e :: es) X.env)) (backToKw pos (keywordEach kws X.env))) := by rfl) :
    PE X (.Call (.Attribute o m apos) (e :: es) kws pos) (fun σ H Q => ta σ H fun x H1 => x = .ref C ∧ t σ H1 fun vs H2 => tk σ H2 fun zs H3 => vs.length = n ∧ zs.length = ks.length ∧ sp (vs ++ zs) H3 Q E) := by
  obtain ⟨mc, f, fd, r, ca, hk, hb, F⟩ := M
  constructor
  intro pins s σ H Q I h
  refine PySem.W.methodCall_KW (pl := pl) (thn (he.run pins s σ H _ I h) fun u s1 hh => ?_) ht
  obtain ⟨v, H1, I1, rv, ev, q⟩ := hh
  subst ev
  obtain rfl : u = Value.ref C := rv
  refine PySem.W.method_cls I1.kIn r.ga ?_
  refine PySem.W.cls_value I1.kIn r.rd ca rfl ?_
  have J := I1.tok (s1.toks + 1)
  refine PySem.W.callWith_KW (first := []) (h₀ := X.base) I1.ok.mod.kin hk hall ?_ hpl hst
  refine thn (ha.run pos pins _ σ H1 _ J q) fun us s2 hh2 => ?_
  obtain ⟨vs, H2, I2, rr, q2⟩ := hh2
  refine thn (hkw.run pos pins s2 σ H2 _ I2 q2) fun ws s3 hh3 => ?_
  obtain ⟨zs, H3, I3, rz, l1, l2, q3⟩ := hh3
  refine ⟨I3.kIn, ?_⟩
  rw [hks]
  exact run_fnN F hr hb hx I3 rr rz l1 l2 q3
theorem pe_mkK (M : MkK X.prog X.w X.K X.mg X.base CX k x C ps (n + 1) ks sp) (hr : Room (k + 1) X.A) (hx : Passes CX X E) (hg : Gl X x) (ha : PA X (e :: es) t) (hkw : PK X kws tk)
    (hall : (backToKw pos (keywordEach kws X.env)).all (·.1.isSome) = true := by rfl) (hks : (backToKw pos (keywordEach kws X.env)).filterMap (·.1) = ks := by rfl)
    (hdb : (x == ("__debug__" : Str)) = false := by decide) (he : starEach (e :: es) X.env = (false, eval e X.env) :: starEach es X.env := by rfl)
    (hpl : ((backTo pos (starEach (e :: es) X.env)).any (·.1) || (backToKw pos (keywordEach kws X.env)).any (·.1.isNone)) = false := by rfl) :
    PE X (.Call (.Name x p) (e :: es) kws pos) (tMakeN C n ks.length sp (fun vs zs => vs ++ zs) E t tk) := by
  obtain ⟨f, fd, hm, M, hb, F⟩ := M
  exact pe_makeN M F hr hg hm hb hx ha hkw hall hks hdb he hpl
end
def If0 (K : PySem.W.Frag) (C : Addr) (qual : Str) (st : Stmt) (ps : List Str) : Prop := ∃ (f : Addr) (fd : FuncData), Mk K C f ∧ Fun K "__init__" qual st f fd ∧ Binds K fd ps []
/-- an __init__ with written defaults dvs, those behind the first j filled in by a call -/
def IfD (K : PySem.W.Frag) (C : Addr) (qual : Str) (st : Stmt) (ps : List Str) (dvs : List V) (j : Nat) : Prop := ∃ (f : Addr) (fd : FuncData) (ds : List Value), Mk K C f ∧ FunD K "__init__" qual (defArgs st) (defBody st) (defScope st) dvs [] f fd ∧ Vals (dvs.drop j) ds ∧ Binds K fd ps ds
theorem ifD_mk {K : PySem.W.Frag} {C f T : Addr} {qual : Str} {st : Stmt} {ps : List Str} {dvs : List V} {j : Nat} {oc kV doc pm cdv ct oT : Value} {od an dT : Option Addr} {osl sT : Array (Option Value)} {its : Array Value} {nT : Nat} (M : Mk K C f)
    (l : K.lookup f = some ⟨oc, od, .func (PySem.W.fnOf "__init__" qual (defArgs st) (defBody st) (defScope st) (.ref T) kV doc pm an cdv ct), osl⟩) (c : PySem.W.codeIn K cdv qual = true) (k : PySem.W.keepIn K (.ref f) = true)
    (lT : K.lookup T = some ⟨oT, dT, .seq its nT, sT⟩) (vT : Vals dvs its.toList) (n : Nat) (hd : dvs ≠ []) (hn : n + (dvs.length - j) = ps.length)
    (h : ∀ (T : Addr) (kV doc pm : Value) (an : Option Addr) (cdv ct : Value) (us its : List Value), us.length = n → its.length = dvs.length →
      ∃ k, bindArgs (PySem.W.fnOf "__init__" qual (defArgs st) (defBody st) (defScope st) (.ref T) kV doc pm an cdv ct) ⟨us, []⟩ = seqItems? (.ref T) >>= k ∧ k (some its.toArray) = pure (ps.zip (us ++ its.drop j))) : IfD K C qual st ps dvs j := by
  have F : FunD K "__init__" qual (defArgs st) (defBody st) (defScope st) dvs [] f (PySem.W.fnOf "__init__" qual (defArgs st) (defBody st) (defScope st) (.ref T) kV doc pm an cdv ct) :=
    ⟨⟨oc, od, _, kV, doc, pm, an, cdv, ct, osl, rfl, l, c, .inr ⟨hd, T, _, its.toList, nT, rfl, lT, rfl, vT⟩, .inl rfl⟩, k⟩
  obtain ⟨ds, a, b⟩ := F.binds1 n j hd hn h
  exact ⟨f, _, ds, M, F, a, b⟩
def SfD (K : PySem.W.Frag) (C : Addr) (qual : Str) (st : Stmt) (ps : List Str) (dvs : List V) (j : Nat) : Prop := ∃ (mc : Value) (f : Addr) (fd : FuncData) (ds : List Value), ClX.CRead K C mc ∧ PySem.W.findCls K (.ref C) mc "__init__" = some (.val (.ref f)) ∧
  FunD K "__init__" qual (defArgs st) (defBody st) (defScope st) dvs [] f fd ∧ Vals (dvs.drop j) ds ∧ Binds K fd ps ds
theorem sfD_mk {K : PySem.W.Frag} {C f T : Addr} {qual : Str} {st : Stmt} {ps : List Str} {dvs : List V} {j : Nat} {oc kV doc pm cdv ct oT : Value} {od an dT : Option Addr} {osl sT : Array (Option Value)} {its : Array Value} {nT : Nat} {mc : Value} (r : ClX.CRead K C mc) (ca : PySem.W.findCls K (.ref C) mc "__init__" = some (.val (.ref f)))
    (l : K.lookup f = some ⟨oc, od, .func (PySem.W.fnOf "__init__" qual (defArgs st) (defBody st) (defScope st) (.ref T) kV doc pm an cdv ct), osl⟩) (c : PySem.W.codeIn K cdv qual = true) (k : PySem.W.keepIn K (.ref f) = true)
    (lT : K.lookup T = some ⟨oT, dT, .seq its nT, sT⟩) (vT : Vals dvs its.toList) (n : Nat) (hd : dvs ≠ []) (hn : n + (dvs.length - j) = ps.length)
    (h : ∀ (T : Addr) (kV doc pm : Value) (an : Option Addr) (cdv ct : Value) (us its : List Value), us.length = n → its.length = dvs.length →
      ∃ k, bindArgs (PySem.W.fnOf "__init__" qual (defArgs st) (defBody st) (defScope st) (.ref T) kV doc pm an cdv ct) ⟨us, []⟩ = seqItems? (.ref T) >>= k ∧ k (some its.toArray) = pure (ps.zip (us ++ its.drop j))) : SfD K C qual st ps dvs j := by
  have F : FunD K "__init__" qual (defArgs st) (defBody st) (defScope st) dvs [] f (PySem.W.fnOf "__init__" qual (defArgs st) (defBody st) (defScope st) (.ref T) kV doc pm an cdv ct) :=
    ⟨⟨oc, od, _, kV, doc, pm, an, cdv, ct, osl, rfl, l, c, .inr ⟨hd, T, _, its.toList, nT, rfl, lT, rfl, vT⟩, .inl rfl⟩, k⟩
  obtain ⟨ds, a, b⟩ := F.binds1 n j hd hn h
  exact ⟨mc, f, _, ds, r, ca, F, a, b⟩
/-- a constant of the class, asked by the class's name -/
def Kc (K : PySem.W.Frag) (C : Addr) (f : Str) (v : V) : Prop := ∃ (mc u : Value), ClX.CRead K C mc ∧ ClX.CVal K C mc f v u

/-! ### lists of signs -/
/-- a comprehension over a text's signs -/
theorem lc_text {x : Str} {g : TG} {tt : TT} {te : TE} {vs : List Nat} {σ : St} {H1 : Hp} {D : Addr} {Qd : Hp → Prop} (Pv : Nat → Hp → Prop) (h0 : Pv 0 (L2.upd H1 D (.lst [])))
    (hs : ∀ (i : Nat) (c : Nat) (H : Hp), x.cps[i]? = some c → Pv i H → g (.str ⟨#[c]⟩) (wipe σ vs) H fun σ2 H2 => wipe σ2 vs = wipe σ vs ∧ tt σ2 H2 fun b H3 =>
      if b = true then te σ2 H3 fun y H4 => ∃ acc, H4 D = some (.lst acc) ∧ acc.length < sizeLine ∧ Pv (i + 1) (L2.upd H4 D (.lst (acc ++ [y]))) else Pv (i + 1) H3) (hd : ∀ H, Pv x.cps.size H → Qd H) :
    ∃ W : Nat → Nat → Hp → Prop, (∃ m, W 0 m (L2.upd H1 D (.lst []))) ∧ ∀ i m H, W i m H →
      ((Its x).stop i H ∧ Qd H) ∨ ((Its x).go i H ∧ ∃ Nx : Hp → Prop, (∀ H', Nx H' → ∃ m', m' < m ∧ W (i + 1) m' H') ∧ ∀ y H', (Its x).yld i H y H' → g y (wipe σ vs) H' fun σ2 H2 => wipe σ2 vs = wipe σ vs ∧ tt σ2 H2 fun b H3 =>
        if b = true then te σ2 H3 fun y H4 => ∃ acc, H4 D = some (.lst acc) ∧ acc.length < sizeLine ∧ Nx (L2.upd H4 D (.lst (acc ++ [y]))) else Nx H3) := by
  refine ⟨fun i m H => m + i = x.cps.size ∧ Pv i H, ⟨x.cps.size, rfl, h0⟩, ?_⟩
  intro i m H hh
  obtain ⟨hm, p⟩ := hh
  by_cases z : m = 0
  · subst z
    have e : i = x.cps.size := by omega
    subst e
    exact Or.inl ⟨Nat.le_refl _, hd H p⟩
  · refine Or.inr ⟨by show i < x.cps.size; omega, Pv (i + 1), fun H' p' => ⟨m - 1, by omega, by omega, p'⟩, ?_⟩
    intro y H' yy
    obtain ⟨e, c, hc, ey⟩ := yy
    subst e ey
    exact hs i c _ hc p

/-! ### what else stays -/
/-- all that was tracked is as it was, but for what stands at p -/
def But (p : Addr) (H H' : Hp) : Prop := ∀ b o, H b = some o → b ≠ p → H' b = some o
theorem But.of_same {p : Addr} {H H' : Hp} (s : Same H H') : But p H H' := fun b o e _ => s b o e
theorem But.of_off {p : Addr} {H H' : Hp} (s : Off p H H') : But p H H' := fun b o e hb => by rw [s b hb]; exact e
theorem But.trans {p : Addr} {H H1 H2 : Hp} (a : But p H H1) (b : But p H1 H2) : But p H H2 := fun c o e hc => b c o (a c o e hc) hc
theorem But.upd {p : Addr} {H : Hp} {o : HO} : But p H (L2.upd H p o) := fun b u e hb => by rw [upd_ne hb]; exact e
theorem Same.new {H : Hp} {p : Addr} {o : HO} (h : H p = none) : Same H (L2.upd H p o) := fun b u e => by rw [upd_ne (ne_of_none e h)]; exact e
/-- a new instance and its __init__, which leaves all but the instance -/
theorem Same.inst {H H1 : Hp} {x dx C : Addr} (nx : H x = none) (nd : H dx = none) (k : But x (L2.upd (L2.upd H dx (.own x)) x (.ins C dx [])) H1) : Same H H1 := Same.made nx nd k
/-! ### names -/
def letS : Str := "abcdefghijklmnopqrstuvwxyz"
def digS : Str := "0123456789"
def signB (c : Nat) : Bool := decide (c ∈ letS.cps.toList) || decide (c ∈ digS.cps.toList)
/-- 1 to 12 small letters and digits, a letter first -/
def nameB (z : Str) : Bool := decide (1 ≤ z.cps.size) && (decide (z.cps.size ≤ 12) && (decide (z.cps.getD 0 0 ∈ letS.cps.toList) && z.cps.toList.all signB))
def spIsName : Sp := fun vs H Q _ => ∃ (z : Str), vs = [.str z] ∧ z.length ≤ 100000 ∧ ∀ H', Same H H' → Q (.bl (nameB z)) H'

/-! ### items -/
def barOf (s o t : Int) : Int := t + (o - t) % s
/-- a Grid at g -/
def GridAt (C : Addr) (H : Hp) (g : Addr) (s o : Int) : Prop := 0 < s ∧ ∃ dx, H g = some (.ins C dx [("step", .int s), ("offset", .int o)])
theorem GridAt.same {C : Addr} {H H' : Hp} {g : Addr} {s o : Int} (h : GridAt C H g s o) (e : Same H H') : GridAt C H' g s o := by
  obtain ⟨a, dx, b⟩ := h
  exact ⟨a, dx, e _ _ b⟩
def startOf (m : V) (mo : Int) : Int := match m with
  | .int i => if i > mo then i else mo
  | _ => mo
def spGrid0 (C : Addr) : Sp := fun vs H Q _ => ∃ (p dx : Addr) (s o : Int), vs = [.ref p, .int s, .int o] ∧ H p = some (.ins C dx []) ∧ 1 ≤ s ∧ ∀ H', GridAt C H' p s (o % s) → Off p H H' → Q .non H'
def spFirstBar (C : Addr) : Sp := fun vs H Q _ => ∃ (g : Addr) (s o t : Int), vs = [.ref g, .int t] ∧ GridAt C H g s o ∧ Q (.int (barOf s o t)) H
def spNamed0 (K : PySem.W.Frag) : Sp := fun vs H Q _ => ∃ (p C dx : Addr) (fs : List (Str × V)) (z : Str), vs = [.ref p, .str z] ∧ H p = some (.ins C dx fs) ∧ Cls K C ∧ NoAttr K C "name" ∧ nameB z = true ∧ z.length ≤ 1000 ∧ fs.length < 100 ∧
  ∀ H', H' p = some (.ins C dx (putF "name" (.str z) fs)) → But p H H' → Q .non H'
def putT (g m d : V) (fs : List (Str × V)) : List (Str × V) := putF "delay" d (putF "minute" m (putF "grid" g fs))
def spTimed0 (K : PySem.W.Frag) : Sp := fun vs H Q _ => ∃ (p C dx : Addr) (fs : List (Str × V)) (g m : V) (d : Int), vs = [.ref p, g, m, .int d] ∧ H p = some (.ins C dx fs) ∧ Cls K C ∧ NoAttr K C "grid" ∧ NoAttr K C "minute" ∧ NoAttr K C "delay" ∧
  0 ≤ d ∧ d ≤ 8 ∧ fs.length < 100 ∧ ∀ H', H' p = some (.ins C dx (putT g m (.int d) fs)) → Off p H H' → Q .non H'
structure ItemC (K : PySem.W.Frag) (C : Addr) : Prop where
  c : Cls K C
  n : NoAttr K C "name"
  g : NoAttr K C "grid"
  m : NoAttr K C "minute"
  d : NoAttr K C "delay"
def putI (z : Str) (g m d : V) (fs : List (Str × V)) : List (Str × V) := putT g m d (putF "name" (.str z) fs)
def spItem0 (K : PySem.W.Frag) : Sp := fun vs H Q _ => ∃ (p C dx : Addr) (fs : List (Str × V)) (z : Str) (g m : V) (d : Int), vs = [.ref p, .str z, g, m, .int d] ∧ H p = some (.ins C dx fs) ∧ ItemC K C ∧ nameB z = true ∧ z.length ≤ 1000 ∧
  0 ≤ d ∧ d ≤ 8 ∧ fs.length < 90 ∧ ∀ H', H' p = some (.ins C dx (putI z g m (.int d) fs)) → But p H H' → Q .non H'
theorem putF_length {f : Str} {v : V} : ∀ {fs : List (Str × V)}, (putF f v fs).length ≤ fs.length + 1
  | [] => Nat.le_refl _
  | q :: r => by
    unfold putF
    split
    · exact Nat.le_succ _
    · exact Nat.succ_le_succ putF_length
theorem putI_length (z : Str) (g m : V) (d : Int) : (putI z g m (.int d) []).length ≤ 4 := by
  have a1 := @putF_length "name" (.str z) []
  have a2 := @putF_length "grid" g (putF "name" (.str z) [])
  have a3 := @putF_length "minute" m (putF "grid" g (putF "name" (.str z) []))
  have a4 := @putF_length "delay" (.int d) (putF "minute" m (putF "grid" g (putF "name" (.str z) [])))
  have a0 : ([] : List (Str × V)).length = 0 := rfl
  show (putF "delay" (.int d) (putF "minute" m (putF "grid" g (putF "name" (.str z) [])))).length ≤ 4
  omega
def spPiece0 (K : PySem.W.Frag) : Sp := fun vs H Q _ => ∃ (p C dx : Addr) (z : Str) (g m : V) (l t d : Int), vs = [.ref p, .str z, g, .int l, .int t, m, .int d] ∧ H p = some (.ins C dx []) ∧ ItemC K C ∧ NoAttr K C "least" ∧ NoAttr K C "most" ∧ nameB z = true ∧ z.length ≤ 1000 ∧
  0 ≤ d ∧ d ≤ 8 ∧ 1 ≤ l ∧ l ≤ t ∧ t ≤ l + 8 ∧ ∀ H', H' p = some (.ins C dx (putF "most" (.int t) (putF "least" (.int l) (putI z g m (.int d) [])))) → But p H H' → Q .non H'
def spBreak0 (K : PySem.W.Frag) : Sp := fun vs H Q _ => ∃ (p C dx : Addr) (z : Str) (g m : V) (n u d y : Int), vs = [.ref p, .str z, g, m, .int n, .int u, .int d, .int y] ∧ H p = some (.ins C dx []) ∧ ItemC K C ∧ NoAttr K C "places" ∧ NoAttr K C "unit" ∧ NoAttr K C "patience" ∧ nameB z = true ∧ z.length ≤ 1000 ∧
  0 ≤ d ∧ d ≤ 8 ∧ 1 ≤ n ∧ n ≤ 12 ∧ 1 ≤ u ∧ 1 ≤ y ∧ y ≤ 64 ∧ ∀ H', H' p = some (.ins C dx (putF "patience" (.int y) (putF "unit" (.int u) (putF "places" (.int n) (putI z g m (.int d) []))))) → But p H H' → Q .non H'
/-- an item at a: its grid g, its minute m; its class knows begin_at, whose text is st -/
def ItAt (K : PySem.W.Frag) (st : Stmt) (H : Hp) (a g : Addr) (m : V) : Prop := ∃ (C dx : Addr) (fs : List (Str × V)), H a = some (.ins C dx fs) ∧ Cls K C ∧ Mf K C "begin_at" "Timed.begin_at" st ["self", "moment", "delay"] ∧ NoAttr K C "grid" ∧ NoAttr K C "minute" ∧
  fs.lookup ("grid" : Str) = some (.ref g) ∧ fs.lookup ("minute" : Str) = some m ∧ fs.lookup ("begin_at" : Str) = none
theorem ItAt.same {K : PySem.W.Frag} {st : Stmt} {H H' : Hp} {a g : Addr} {m : V} (h : ItAt K st H a g m) (e : Same H H') : ItAt K st H' a g m := by
  obtain ⟨C, dx, fs, h1, r⟩ := h
  exact ⟨C, dx, fs, e _ _ h1, r⟩
def MinOk (m : V) : Prop := m = .non ∨ ∃ i, m = .int i
def spBegin (K : PySem.W.Frag) (C CG : Addr) : Sp := fun vs H Q _ => ∃ (a g dx : Addr) (fs : List (Str × V)) (m : V) (mo de s o : Int), vs = [.ref a, .int mo, .int de] ∧ H a = some (.ins C dx fs) ∧ Cls K C ∧ NoAttr K C "grid" ∧ NoAttr K C "minute" ∧
  fs.lookup ("grid" : Str) = some (.ref g) ∧ fs.lookup ("minute" : Str) = some m ∧ MinOk m ∧ GridAt CG H g s o ∧ Q (.int (barOf s o (startOf m mo + de))) H
theorem sorted_two {a b : Int} {l : List Int} (p : l.Perm [a, b]) (s : l.Pairwise (· ≤ ·)) : l = [if b > a then a else b, if b > a then b else a] := by
  have hl : l.length = 2 := p.length_eq
  match l, hl, p, s with
  | [x, y], _, p, s =>
    have hxy : x ≤ y := by
      have q := (List.pairwise_cons.mp s).1 y (List.mem_singleton.mpr rfl)
      exact q
    have hx : x = a ∨ x = b := by
      have q := p.mem_iff (a := x)
      simpa using q
    rcases hx with e | e
    · subst e
      have q : [y].Perm [b] := (List.perm_cons x).mp p
      have ey : y = b := by simpa using q.mem_iff (a := y)
      subst ey
      by_cases c : y > x
      · rw [if_pos c, if_pos c]
      · rw [if_neg c, if_neg c]
        have z : x = y := by omega
        rw [z]
    · subst e
      have q : [y].Perm [a] := (List.perm_cons x).mp (p.trans (List.Perm.swap x a []))
      have ey : y = a := by simpa using q.mem_iff (a := y)
      subst ey
      by_cases c : x > y
      · omega
      · rw [if_neg c, if_neg c]
/-- tuples of two ints at the addresses -/
def RowsIn (H : Hp) : List Addr → List (Int × Int) → Prop
  | [], [] => True
  | a :: as, q :: qs => H a = some (.tup [.int q.1, .int q.2]) ∧ RowsIn H as qs
  | _, _ => False
theorem RowsIn.same {H H' : Hp} (s : Same H H') : ∀ {as : List Addr} {qs : List (Int × Int)}, RowsIn H as qs → RowsIn H' as qs
  | [], [], _ => trivial
  | _ :: _, _ :: _, h => ⟨s _ _ h.1, RowsIn.same s h.2⟩
  | [], _ :: _, h => h.elim
  | _ :: _, [], h => h.elim
theorem RowsIn.at_ {H : Hp} : ∀ {as : List Addr} {qs : List (Int × Int)} {i : Nat} {x : V}, RowsIn H as qs → (as.map V.ref)[i]? = some x → ∃ a q, x = .ref a ∧ qs[i]? = some q ∧ H a = some (.tup [.int q.1, .int q.2])
  | [], _, i, x, _, e => by simp at e
  | a :: as, q :: qs, 0, x, h, e => ⟨a, q, by simpa using e.symm, rfl, h.1⟩
  | a :: as, q :: qs, i + 1, x, h, e => by
    obtain ⟨b, r, e1, e2, e3⟩ := RowsIn.at_ (i := i) h.2 (by simpa using e)
    exact ⟨b, r, e1, by simpa using e2, e3⟩
  | _ :: _, [], _, _, h, _ => h.elim
theorem RowsIn.len {H : Hp} : ∀ {as : List Addr} {qs : List (Int × Int)}, RowsIn H as qs → as.length = qs.length
  | [], [], _ => rfl
  | _ :: _, _ :: _, h => congrArg Nat.succ (RowsIn.len h.2)
  | [], _ :: _, h => h.elim
  | _ :: _, [], h => h.elim
theorem bar_ge {s o t : Int} (hs : 0 < s) : 0 ≤ barOf s o t - t ∧ barOf s o t - t < s := by
  unfold barOf
  have h1 := Int.emod_nonneg (o - t) (by omega : s ≠ 0)
  have h2 := Int.emod_lt_of_pos (o - t) hs
  omega
theorem bar_mod {s o o' t : Int} (h : (o - o') % s = 0) : (barOf s o t - o') % s = 0 := by
  unfold barOf
  have e : t + (o - t) % s - o' = (o - o') - s * ((o - t) / s) := by
    have q := Int.emod_add_mul_ediv (o - t) s
    omega
  rw [e, Int.sub_mul_emod_self_left]
  exact h
/-- the first bar is not earlier for a later tick -/
theorem bar_mono {s o t t' : Int} (hs : 0 < s) (h : t ≤ t') : barOf s o t ≤ barOf s o t' := by
  have a := bar_ge (o := o) (t := t) hs
  have b := bar_ge (o := o) (t := t') hs
  have d : (barOf s o t - barOf s o t') % s = 0 := by
    have h1 : (barOf s o t - o) % s = 0 := bar_mod (by simp)
    have h2 : (barOf s o t' - o) % s = 0 := bar_mod (by simp)
    have e : barOf s o t - barOf s o t' = (barOf s o t - o) - (barOf s o t' - o) := by omega
    rw [e, Int.sub_emod, h1, h2]
    simp
  by_cases c : barOf s o t ≤ barOf s o t'
  · exact c
  · have h3 : 0 < barOf s o t - barOf s o t' := by omega
    have h4 : barOf s o t - barOf s o t' < s := by omega
    rw [Int.emod_eq_of_lt (by omega) h4] at d
    omega
theorem start_mono {m : V} {a b : Int} (h : a ≤ b) : startOf m a ≤ startOf m b := by
  unfold startOf
  split
  · split <;> split <;> omega
  · exact h
theorem off_mod {o s : Int} : (o % s - o) % s = 0 := by
  have e : o % s - o = 0 - s * (o / s) := by
    have q := Int.emod_add_mul_ediv o s
    omega
  rw [e, Int.sub_mul_emod_self_left]
  simp
def spAsked (K : PySem.W.Frag) (st : Stmt) (CG : Addr) : Sp := fun vs H Q _ => ∃ (it g r : Addr) (m : V) (s o : Int) (as : List Addr) (q0 q1 q2 q3 q4 q5 q6 q7 q8 : Int × Int), vs = [.ref it, .int s, .int o, m, .ref r] ∧ ItAt K st H it g m ∧ MinOk m ∧ GridAt CG H g s (o % s) ∧
  H r = some (.lst (as.map V.ref)) ∧ RowsIn H as [q0, q1, q2, q3, q4, q5, q6, q7, q8] ∧
  barOf s (o % s) (startOf m q0.1 + q0.2) ≤ barOf s (o % s) (startOf m q1.1 + q1.2) ∧ barOf s (o % s) (startOf m q1.1 + q1.2) ≤ barOf s (o % s) (startOf m q2.1 + q2.2) ∧
  barOf s (o % s) (startOf m q0.1 + q0.2) ≤ barOf s (o % s) (startOf m q3.1 + q3.2) ∧ barOf s (o % s) (startOf m q3.1 + q3.2) ≤ barOf s (o % s) (startOf m q2.1 + q2.2) ∧ q8 = q0 ∧ ∀ H', Same H H' → Q (.bl true) H'
theorem keepU {H : Hp} {b p : Addr} {o o' u : HO} (hb : H b = some o) (hp : H p = some o') (h : o ≠ o') : L2.upd H p u b = some o := by
  have n : b ≠ p := fun z => by
    rw [z, hp] at hb
    exact h (Option.some.inj hb).symm
  rw [upd_ne n]
  exact hb
theorem RowsIn.keep {H : Hp} {p : Addr} {xs : List V} {u : HO} (hp : H p = some (.lst xs)) : ∀ {as : List Addr} {qs : List (Int × Int)}, RowsIn H as qs → RowsIn (L2.upd H p u) as qs
  | [], [], _ => trivial
  | _ :: _, _ :: _, h => ⟨keepU h.1 hp (by intro z; cases z), RowsIn.keep hp h.2⟩
  | [], _ :: _, h => h.elim
  | _ :: _, [], h => h.elim
theorem ItAt.keep {K : PySem.W.Frag} {st : Stmt} {H : Hp} {a g p : Addr} {m : V} {xs : List V} {u : HO} (h : ItAt K st H a g m) (hp : H p = some (.lst xs)) : ItAt K st (L2.upd H p u) a g m := by
  obtain ⟨C, dx, fs, h1, r⟩ := h
  exact ⟨C, dx, fs, keepU h1 hp (by intro z; cases z), r⟩
theorem GridAt.keep {C : Addr} {H : Hp} {g p : Addr} {s o : Int} {xs : List V} {u : HO} (h : GridAt C H g s o) (hp : H p = some (.lst xs)) : GridAt C (L2.upd H p u) g s o := by
  obtain ⟨a, dx, b⟩ := h
  exact ⟨a, dx, keepU b hp (by intro z; cases z)⟩
theorem look_put {f : Str} {v : V} {fs : List (Str × V)} : (putF f v fs).lookup f = some v := by rw [lookup_putF, if_pos rfl]
theorem look_ne {f g : Str} {v : V} {fs : List (Str × V)} (h : ¬ g = f) : (putF f v fs).lookup g = fs.lookup g := by rw [lookup_putF, if_neg h]
theorem putT_grid {g m d : V} {fs : List (Str × V)} : (putT g m d fs).lookup ("grid" : Str) = some g := by
  unfold putT
  rw [look_ne (by decide +kernel), look_ne (by decide +kernel), look_put]
theorem putT_min {g m d : V} {fs : List (Str × V)} : (putT g m d fs).lookup ("minute" : Str) = some m := by
  unfold putT
  rw [look_ne (by decide +kernel), look_put]
theorem putT_no {g m d : V} {fs : List (Str × V)} (h : fs.lookup ("begin_at" : Str) = none) : (putT g m d fs).lookup ("begin_at" : Str) = none := by
  unfold putT
  rw [look_ne (by decide +kernel), look_ne (by decide +kernel), look_ne (by decide +kernel), h]
theorem putI_no {z : Str} {g m d : V} : (putI z g m d []).lookup ("begin_at" : Str) = none := by
  unfold putI
  refine putT_no ?_
  rw [look_ne (by decide +kernel)]
  rfl
theorem ble_f {a b : V} (h : a = b) : V.bl (!decide (a = b)) = V.bl false := by rw [decide_eq_true h]; rfl
def spClock : Sp := fun vs H Q _ => ∃ (p c : Addr) (ns : List Int) (m : Int), vs = [.ref p, .int m] ∧ Pool ns c H p ∧ ∀ (r : V) (H' : Hp), MinOk r → Pool ns c H' p → Off p H H' → Q r H'
def spLaw (K : PySem.W.Frag) : Sp := fun vs H Q _ => ∃ (a : Addr) (ns : List Int), vs = [.ref a] ∧ SqL K H a (ns.map V.int) ∧ ns.length ≤ 63 ∧ ∀ H', Q (.bl true) H'
end Brk

set_option Elab.async false
set_option linter.all false
set_option maxRecDepth 100000
set_option maxHeartbeats 4000000
/-! Own rules: an exception that an except suite keeps in a name, asked behind the try. -/
namespace Brk
open PySem PySem.Spec PyProof.Rows L2

/-- at a stands a caught exception of the class cls with the dict d -/
def ExH (cls : Value) (d : Option Addr) (a : Addr) : HO := .ext fun g => ∃ (ob : Obj) (ws : Array Value), g.get? a = some ob ∧ Zc cls d ob ∧ ob.data = .fields ws
theorem exH_ok {P : Program} {w : World} {H : Hp} {g : Heap} {a : Addr} {cls : Value} {d : Option Addr} {ob : Obj} {ws : Array Value} (e : g.get? a = some ob) (z : Zc cls d ob) (f : ob.data = .fields ws) : ObjOk P w H g a (ExH cls d a) := by
  refine ⟨⟨ob, ws, e, z, f⟩, ⟨ob, e⟩, ?_⟩
  intro g1 g2 hh keep
  obtain ⟨o1, w1, q1, q2⟩ := hh
  exact ⟨o1, w1, keep o1 q1, q2⟩
theorem exH_at {P : Program} {w : World} {H : Hp} {g : Heap} {a : Addr} {cls : Value} {d : Option Addr} (ok : HOk P w H g) (e : H a = some (ExH cls d a)) : ∃ (ob : Obj) (ws : Array Value), g.get? a = some ob ∧ Zc cls d ob ∧ ob.data = .fields ws :=
  (show ObjOk P w H g a (.ext fun g => ∃ (ob : Obj) (ws : Array Value), g.get? a = some ob ∧ Zc cls d ob ∧ ob.data = .fields ws) from ok a _ e).1
section
variable {X : Cx} {pins : List (Addr × Obj)} {σ : L2.St} {H : Hp} {s : Shared} {a : Addr} {o : HO}
/-- what stands at a, made since the frame began, is tracked from now on -/
theorem inv_hold (I : Inv X pins σ H s) (hx : X.ex = []) (old : X.s_0.heap.get? a = none) (na : H a = none) (nl : a ≠ X.env.locals) (nc : ∀ x c, X.env.cells.lookup x = some c → c ≠ a) (np : ∀ q ∈ X.pn ++ pins, q.1 ≠ a)
    (here : ObjOk X.prog X.w (L2.upd H a o) s.heap a o) : Inv X pins σ (L2.upd H a o) s := by
  have away : ∀ b u, X.s_0.heap.get? b = some u → b ≠ a := by
    intro b u e z
    rw [z, old] at e
    cases e
  refine ⟨I.ok, I.os, I.bare, ⟨I.base.keep, I.base.slot, ?_, I.base.there, ?_, ?_, ?_⟩, I.loc, I.cell, ?_, ?_, ?_, ?_, I.len⟩
  · intro b u e n hn
    rw [upd_ne (away b u e)]
    exact I.base.free b u e n hn
  · intro b xs e
    have q := I.base.tups b xs e
    rw [upd_ne (ne_of_none q na)]
    exact q
  · intro b u v e
    have q := I.base.frzs b u v e
    rw [upd_ne (ne_of_none q na)]
    exact q
  · intro b qs e
    obtain ⟨m, q⟩ := I.base.tbls b qs e
    exact ⟨m, by rw [upd_ne (ne_of_none q na)]; exact q⟩
  · rw [upd_ne nl.symm]
    exact I.free
  · intro x c e
    rw [upd_ne (nc x c e)]
    exact I.freeC x c e
  · intro q hq
    obtain ⟨e1, e2, e3⟩ := I.pin q hq
    exact ⟨e1, by rw [upd_ne (np q hq)]; exact e2, e3⟩
  · intro b u e
    by_cases hb : b = a
    · subst hb
      rw [upd_same] at e
      cases e
      exact here
    · rw [upd_ne hb] at e
      exact (I.hok b u e).stay (fun _ _ _ q => q) (fun c q => by rw [upd_ne (ne_of_none q na)]; exact q) fun c xs q => by rw [upd_ne (ne_of_none q na)]; exact q
end

/-- what such a try wishes of an exception of its body: the clause is its own, and the suite goes through to its end; behind it the exception is tracked -/
def wHold (K : PySem.W.Frag) (c : Value) (i : Nat) (ts : Addr → Value → Option Addr → TS) (D : Ends) : WX := fun cls d σ H =>
  PySem.W.exmOne K cls c = some true ∧ ∀ a, H a = none → ts a cls d { nx := fun σ1 H1 => D.nx (σ1.set i none) (L2.upd H1 a (ExH cls d a)), rt := fun _ _ => False, bk := fun _ _ => False, ct := fun _ _ => False } (σ.set i (some (.ref a))) H
section
variable {X : Cx} {x n : Str} {c : Value} {i : Nat} {body suite : List Stmt} {b0 : Stmt} {np pos pos1 : Pos} {tb : WX → TS} {ts : Addr → Value → Option Addr → TS}
/-- try: body / except x as n: suite, where the suite may hand the exception to a name -/
theorem ps_try_hold (hst : X.stack = X.env :: X.outer) (hfr : X.env.frame = some X.env.locals) (hnd : X.N.Nodup) (hslot : X.N[i]? = some n) (hloc : X.env.kindOf n = some .local) (hnm : Names X x c) (hex : X.ex = [])
    (hbody : ∀ (W : WX) (pn : List (Addr × Obj)) (xe : Value → Shared → Prop), Takes (X.tr pn xe) W → PassesOwn (model X.prog X.w) X.A X.env xe → PSs (X.tr pn xe) body (tb W))
    (hsuite : ∀ (a : Addr) (ob : Obj) (cls : Value) (d : Option Addr) (pn : List (Addr × Obj)), Zc cls d ob → (∃ ws, ob.data = .fields ws) → PSs (X.suite a ((a, ob) :: pn)) (b0 :: suite) (ts a cls d)) :
    PS X (.Try body [.ExceptHandler (some (.Name x np)) (some n) (b0 :: suite) pos1] [] [] pos) (fun D σ H => tb (wHold X.K c i ts D) D σ H) := by
  constructor
  intro pins s σ H D I h
  have good := I.ok
  have frames : X.A.frames = some (X.env :: X.outer) := by rw [good.frames, hst]
  refine wpAny_Try_except (wpAny_mono ((hbody (wHold X.K c i ts D) (X.pn ++ pins) (fun ex sh => wpAny (model X.prog X.w) X.A (noteFrame ex X.env)
    (fun _ sh1 => wpAny (model X.prog X.w) X.A (setFlight ex none) (fun _ sh2 => wpAny (model X.prog X.w) X.A (handleBy ex X.env [.ExceptHandler (some (.Name x np)) (some n) (b0 :: suite) pos1]) (SP X pins D) X.xe sh2) X.xe sh1) X.xe sh) ?_ PassesOwn.looking).run [] s σ H D (I.toTry _) h) ?_ fun _ _ z => z)
  · intro v sh air
    obtain ⟨a, B, sI, pinsI, σI, HI, cls, d, rfl, JI, ground, slots, sky, na, os, bare, caught, then_⟩ := air
    have J : Inv X pins σI HI sI := JI.ofTry good
    have sky2 : Sky B (X.env :: X.outer) a (Zc cls d) X.env.locals sh.heap := hst ▸ sky
    show wpAny _ _ (noteFrame (.ref a) X.env) _ _ _
    refine Sky.land Zc.steady frames hfr sky2 ?_
    intro g3 fly3 slots3
    have J3 : Inv X pins σI HI { sh with heap := g3 } := J.landed ground fly3.1 (slots.trans slots3) os bare
    obtain ⟨ob3, ws3, at3, z3, f3⟩ := fly3.there
    have nofr : a ∉ frs (X.env :: X.outer) := by
      intro hm
      obtain ⟨_, o1, e1, e2⟩ := (fly3.2.2.1).mem hm
      rw [at3] at e1
      cases e1
      exact e2 _ f3
    have nL : a ≠ X.env.locals := by
      intro z
      exact nofr (List.mem_filterMap.mpr ⟨X.env, List.mem_cons_self, by rw [hfr, z]⟩)
    have nF : a ∉ X.fs := by
      intro hm
      obtain ⟨e, he, q⟩ := List.mem_filterMap.mp hm
      exact nofr (List.mem_filterMap.mpr ⟨e, List.mem_cons_of_mem _ he, q⟩)
    have newI : sI.heap.get? a = none := by
      cases q : sI.heap.get? a with
      | none => rfl
      | some u =>
        have z := ground a u q (by rw [hst]; exact nofr)
        rw [fly3.2.1] at z
        cases z
    have new0 : X.s_0.heap.get? a = none := by
      cases q : X.s_0.heap.get? a with
      | none => rfl
      | some u =>
        obtain ⟨u2, q2⟩ := J.base.there a u q (by rw [hex]; exact fun z => nomatch z)
        rw [newI] at q2
        cases q2
    have S3 := J3.suite at3 f3 na nL nF
    refine wpAny_handleBy_cons (codeAny_handlers_test ?_) (by intro q; cases q)
    have kind : PySem.W.Looks (model X.prog X.w) g3 (typeOf (.ref a)) cls := by
      intro A Q E s1 keep q
      exact wpAny_typeOf_ref (keep _ _ at3) (by rw [z3.1]; exact q)
    have match_ := PySem.W.exm_one (M := model X.prog X.w) (J3.kIn) kind caught
    have named : ∀ {Q : Value → Shared → Prop} {E : Value → Shared → Prop}, Q c { sh with heap := g3 } → wpAny (model X.prog X.w) (X.A.mark (some (.ref a))) (eval (.Name x np) X.env) Q E { sh with heap := g3 } := by
      intro Q E q
      obtain ⟨hg, hdbg, hm | ⟨hm, hv, hnn⟩⟩ := hnm
      · exact ld_glob (X := X.suite a ((a, ob3) :: (X.pn ++ pins))) S3 hg hm q hdbg
      · exact ld_blt (X := X.suite a ((a, ob3) :: (X.pn ++ pins))) S3 hg hm hv q hnn hdbg
    refine named (match_.here (codeAny_handlers_suite_as (HandSPX.lands_againZ fly3 ?_)))
    intro g4 fly4 slots4
    have J4 : Inv X pins σI HI { sh with heap := g4 } := J.landed ground fly4.1 ((slots.trans slots3).trans slots4) os bare
    obtain ⟨ob4, ws4, at4, z4, f4⟩ := fly4.there
    have S4 := J4.suite at4 f4 na nL nF
    refine store_ok (X := X.suite a ((a, ob4) :: (X.pn ++ pins))) (v := .ref a) S4 hnd hslot (.inl hloc) rfl (fun s5 S5 => ?_) (.inr hloc)
    refine wpAny_mono ((hsuite a ob4 cls d (X.pn ++ pins) z4 ⟨_, f4⟩).run [] s5 _ HI _ S5 (then_ a na)) ?_ fun _ _ z => False.elim z
    intro fl s6 q6
    cases fl with
    | next =>
      obtain ⟨σ6, H6, S6, q⟩ := q6
      refine gone_ok (X := X.suite a ((a, ob4) :: (X.pn ++ pins))) S6 hnd hslot hloc ?_
      intro s7 S7
      obtain ⟨at7, na7, _⟩ := S7.pin (a, ob4) (List.mem_append_left _ List.mem_cons_self)
      refine ⟨_, _, inv_hold (S7.unsuite good) hex new0 na7 nL ?_ ?_ (exH_ok at7 z4 f4), q⟩
      · intro y cc e z
        obtain ⟨u, o1, e1, e2⟩ := S7.cell y cc e
        rw [z, at7] at e1
        cases e1
        rw [f4] at e2
        cases e2
      · intro p hp z
        have e1 := (J.pin p hp).1
        rw [z, newI] at e1
        cases e1
    | brk =>
      obtain ⟨_, _, _, z⟩ := q6
      exact z.elim
    | cont =>
      obtain ⟨_, _, _, z⟩ := q6
      exact z.elim
    | ret u =>
      obtain ⟨_, _, _, _, _, z⟩ := q6
      exact z.elim
  · intro fl s1 q1
    cases fl with
    | next =>
      obtain ⟨σ1, H1, J1, q⟩ := q1
      exact wpAny_execs_nil ⟨σ1, H1, J1.ofTry good, q⟩
    | brk =>
      obtain ⟨σ1, H1, J1, q⟩ := q1
      exact ⟨σ1, H1, J1.ofTry good, q⟩
    | cont =>
      obtain ⟨σ1, H1, J1, q⟩ := q1
      exact ⟨σ1, H1, J1.ofTry good, q⟩
    | ret u =>
      obtain ⟨v1, σ1, H1, J1, r1, q⟩ := q1
      exact ⟨v1, σ1, H1, J1.ofTry good, r1, q⟩
end
end Brk
namespace Brk
open PySem PySem.Spec PyProof.Rows L2
/-- the object at a, an instance of the exception class at D, its dict (none, or tracked) -/
theorem exH_inst {X : Cx} {pins : List (Addr × Obj)} {σ : L2.St} {H : Hp} {s : Shared} {a D : Addr} {d : Option Addr} (I : Inv X pins σ H s) (e : H a = some (ExH (.ref D) d a)) (hd : d = none ∨ ∃ dd fs, d = some dd ∧ H dd = some (.xd fs)) :
    ∃ (ob : Obj) (od : Option Obj), PySem.W.InstAt s.heap a ob D od := by
  obtain ⟨ob, ws, e1, e2, e3⟩ := exH_at I.hok e
  rcases hd with rfl | ⟨dd, fs, rfl, hdd⟩
  · exact ⟨ob, none, e1, e2.1, by unfold PySem.W.notCls; rw [e3] <;> rfl, by rw [e2.2]; trivial⟩
  · obtain ⟨mA, hns, _⟩ := (show ObjOk X.prog X.w H s.heap dd (.xd fs) from I.hok dd _ hdd)
    obtain ⟨od, ho, _⟩ := lookIn_ns hns
    exact ⟨ob, some od, e1, e2.1, by unfold PySem.W.notCls; rw [e3] <;> rfl, by rw [e2.2]; exact ho⟩
/-- the held exception at a in H -/
def HeldAt (H : Hp) (a D : Addr) : Prop := ∃ d, H a = some (ExH (.ref D) d a) ∧ (d = none ∨ ∃ dd fs, d = some dd ∧ H dd = some (.xd fs))
section
variable {X : Cx}
theorem call_isH : CallR X (.builtin "isinstance") (fun xs H Q => ∃ (a D : Addr) (c : V) (cv : Value) (b : Bool), xs = [.ref a, c] ∧ ClsV c cv ∧ HeldAt H a D ∧ ExcC X.K D ∧ PySem.W.kitOne X.K (.ref D) cv = some b ∧ Q (.bl b) H) := by
  intro pins s σ H xs us Q I r h
  obtain ⟨a, D, c, cv, b, rfl, k, ⟨d, ha, hd⟩, C, e, q⟩ := h
  obtain ⟨u1, u2, rfl, r1, r2⟩ := vals2 r
  have e2 := k.eq r2
  subst e2
  cases r1
  obtain ⟨ob, od, J⟩ := exH_inst I ha hd
  have hcl : (PySem.W.clsIn X.K D).isSome = true := by
    obtain ⟨cd, hc, _⟩ := PySem.W.any_some C.hd
    rw [hc]
    rfl
  exact PySem.W.kia_one (PySem.W.kitx_exc hcl C.hg C.hk C.hs C.ha C.hn C.ht C.hm) I.kIn J e (fun z => nomatch z) fun tk => ⟨.bl b, H, I.tok tk, rfl, q⟩
theorem call_isHT : CallR X (.builtin "isinstance") (fun xs H Q => ∃ (a D tp : Addr) (cs : List V) (ws : List Value) (b : Bool), xs = [.ref a, .ref tp] ∧ H tp = some (.tup cs) ∧ Paired ClsV cs ws ∧ HeldAt H a D ∧ ExcC X.K D ∧ PySem.W.kitAny X.K (.ref D) ws = some b ∧ Q (.bl b) H) := by
  intro pins s σ H xs us Q I r h
  obtain ⟨a, D, tp, cs, ws, b, rfl, hT, k, ⟨d, ha, hd⟩, C, e, q⟩ := h
  obtain ⟨u1, u2, rfl, r1, r2⟩ := vals2 r
  cases (show u2 = Value.ref tp from r2)
  cases (show u1 = Value.ref a from r1)
  obtain ⟨ob, od, J⟩ := exH_inst I ha hd
  obtain ⟨_, its, rv, o, h1, h2, n, h3⟩ := (show ObjOk X.prog X.w H s.heap tp (.tup cs) from I.hok tp _ hT)
  have e3 := ClsV.all k rv
  subst e3
  obtain ⟨oc, od2, dt, sl⟩ := o
  dsimp only at h2 h3
  subst h2 h3
  have hcl : (PySem.W.clsIn X.K D).isSome = true := by
    obtain ⟨cd, hc, _⟩ := PySem.W.any_some C.hd
    rw [hc]
    rfl
  exact PySem.W.kia_tup (PySem.W.kitx_exc hcl C.hg C.hk C.hs C.ha C.hn C.ht C.hm) I.kIn J h1 e (fun z => nomatch z) fun tk => ⟨.bl b, H, I.tok tk, rfl, q⟩
/-- e.n, e a held exception -/
theorem pe_xh {e : Expr} {te : TE} {pos : Pos} {n : Str} (he : PE X e te) (hb : attributeBase e n X.env (eval e X.env) = eval e X.env := by rfl) :
    PE X (.Attribute e n pos) (fun σ H Q => te σ H fun x H1 => ∃ (a C dd : Addr) (fs : List (Str × V)) (v : V), x = .ref a ∧ H1 a = some (ExH (.ref C) (some dd) a) ∧ H1 dd = some (.xd fs) ∧ XfC X.K C ∧ PySem.W.findIn X.K (.ref C) n = some none ∧ fs.lookup n = some v ∧ Q v H1) := by
  constructor
  intro pins s σ H Q I h
  refine attr_of hb (thn (he.run pins s σ H _ I h) ?_)
  intro u s1 hh
  obtain ⟨x, H1, I1, rx, a, C, dd, fs, v, ex, ha, hdd, T, hno, l, q⟩ := hh
  subst ex
  obtain rfl : u = Value.ref a := rx
  obtain ⟨ob, ws, e1, e2, e3⟩ := exH_at I1.hok ha
  obtain ⟨mA, hns, hr⟩ := (show ObjOk X.prog X.w H1 s1.heap dd (.xd fs) from I1.hok dd _ hdd)
  obtain ⟨od, ho, hl⟩ := lookIn_ns hns
  obtain ⟨u, hu, ru⟩ := RelO.some_of (v := v) (o := mA n) (by rw [← l]; exact hr n)
  have J : PySem.W.InstAt s1.heap a ob C (some od) := ⟨e1, e2.1, by unfold PySem.W.notCls; rw [e3] <;> rfl, by rw [e2.2]; exact ho⟩
  exact HandSPX.exc_get I1.kIn J T.ga T.gg T.exC (PySem.W.findObj_own T.hdC hno rfl (by rw [hl, hu])) (handed_of ru) ⟨v, H1, I1.tok _, ru, q⟩
end

/-! ### own error classes with an __init__ of one field, of two -/
def spEr1 (C : Addr) (f : Str) : Sp := fun vs H Q _ => ∃ (a : Addr) (v : V), vs = [.ref a, v] ∧ H a = some (exo a C none) ∧ ∀ dx, H dx = none → dx ≠ a → Q .non (L2.upd (L2.upd H dx (exd dx [(f, v)])) a (exo a C (some dx)))
def spEr2 (C : Addr) (f g : Str) : Sp := fun vs H Q _ => ∃ (a : Addr) (v w : V), vs = [.ref a, v, w] ∧ H a = some (exo a C none) ∧ ∀ dx, H dx = none → dx ≠ a → Q .non (L2.upd (L2.upd (L2.upd H dx (exd dx [(f, v)])) a (exo a C (some dx))) dx (exd dx [(g, w), (f, v)]))
/-- the error class of the name x, at C, whose __init__ keeps sp -/
structure ErC (P : Program) (w : World) (K : PySem.W.Frag) (mg : Str → Option Value) (base : Heap) (x : Str) (C : Addr) (ps : List Str) (sp : Sp) : Prop where
  T : OexC K C
  m : mg x = some (.ref C)
  ex : ∃ (fI : Addr) (fd : FuncData), PySem.W.findIn K (.ref C) "__init__" = some (some (.ref fI)) ∧ PySem.W.typeIn K (.ref fI) = some (.type "function") ∧ Binds K fd ps [] ∧ FnOk P w K mg base CX0 1 fI fd ps sp
/-- .. as the text gives it -/
structure ErF (K : PySem.W.Frag) (mg : Str → Option Value) (x : Str) (C : Addr) (qual : Str) (st : Stmt) (ps : List Str) : Prop where
  T : OexC K C
  m : mg x = some (.ref C)
  ex : ∃ (fI : Addr) (fd : FuncData), PySem.W.findIn K (.ref C) "__init__" = some (some (.ref fI)) ∧ PySem.W.typeIn K (.ref fI) = some (.type "function") ∧ Binds K fd ps [] ∧ Fun K "__init__" qual st fI fd
theorem del_made {H : Hp} {a d : Addr} {o1 o2 o3 o4 : HO} (ha : H a = none) (hd : H d = none) (n : d ≠ a) : L2.upd (del (L2.upd (L2.upd (L2.upd H a o1) d o2) a o3) a) d o4 = L2.upd H d o4 := by
  funext b
  by_cases h1 : b = d
  · rw [h1, upd_same, upd_same]
  · rw [upd_ne h1, upd_ne h1]
    by_cases h2 : b = a
    · rw [h2, del_same, ha]
    · rw [del_ne h2, upd_ne h2, upd_ne h1, upd_ne h2]
theorem del_made2 {H : Hp} {a d : Addr} {o1 o2 o3 o4 o5 : HO} (ha : H a = none) (hd : H d = none) (n : d ≠ a) : L2.upd (del (L2.upd (L2.upd (L2.upd (L2.upd H a o1) d o2) a o3) d o5) a) d o4 = L2.upd H d o4 := by
  funext b
  by_cases h1 : b = d
  · rw [h1, upd_same, upd_same]
  · rw [upd_ne h1, upd_ne h1]
    by_cases h2 : b = a
    · rw [h2, del_same, ha]
    · rw [del_ne h2, upd_ne h1, upd_ne h2, upd_ne h1, upd_ne h2]

section
variable {X : Cx} {x : Str} {C : Addr} {ps : List Str} {sp : Sp} {e : Expr} {es : List Expr} {ta : TA} {p pos : Pos}
theorem pmk_er (R : ErC X.prog X.w X.K X.mg X.base x C ps sp) (hr : Room 2 X.A) (hg : Gl X x) (ha : PA X (e :: es) ta)
    (hdb : (x == ("__debug__" : Str)) = false := by decide) (hs : starEach (e :: es) X.env = (false, eval e X.env) :: starEach es X.env := by rfl) (hpl : (backTo pos (starEach es X.env)).any (·.1) = false := by rfl) :
    PMk X (.Call (.Name x p) (e :: es) [] pos) (tMkO C sp [] ta) := by
  obtain ⟨fI, fd, i1, i2, hb, F⟩ := R.ex
  exact pmk_oex R.T i1 i2 F hr hb .nil (fun _ _ _ _ _ _ _ z => z.elim) hg R.m ha hdb hs hpl
/-- f(e, ..), where what f raises is wished for at the slots -/
theorem pe_dS {k : Nat} {E : L2.St → XK} (D : Dk X.prog X.w X.K X.mg X.base (L2.CX X.prog X.w) k x ps sp) (hr : Room k X.A) (hx : ∀ σ, PassesAt (L2.CX X.prog X.w) X σ (E σ)) (hg : Gl X x) (ha : PA X (e :: es) ta)
    (hdb : (x == ("__debug__" : Str)) = false := by decide) (hs : starEach (e :: es) X.env = (false, eval e X.env) :: starEach es X.env := by rfl) (hpl : (backTo pos (starEach es X.env)).any (·.1) = false := by rfl) :
    PE X (.Call (.Name x p) (e :: es) [] pos) (tCallS sp E ta) := by
  obtain ⟨f, fd, hm, hk, hb, F⟩ := D
  exact pe_callS F hr hg hm hk hb hx ha hdb hs hpl
end
theorem look1 {f : Str} {v : V} : List.lookup f [(f, v)] = some v := by simp [List.lookup]
theorem exc_xf {K : PySem.W.Frag} {D : Addr} (h : ExcC K D) : XfC K D := ⟨h.hg, h.hk, h.hs, h.hd⟩
theorem kitAny_no {K : PySem.W.Frag} {t c : Value} {cs : List Value} (h : PySem.W.kitOne K t c = some false) (r : PySem.W.kitAny K t cs = some false) : PySem.W.kitAny K t (c :: cs) = some false := kitAny_cons h (fun _ => r) fun z => nomatch z
theorem HeldAt.same {H H' : Hp} {a D : Addr} (h : HeldAt H a D) (s : Same H H') : HeldAt H' a D := by
  obtain ⟨d, e, q⟩ := h
  refine ⟨d, s _ _ e, ?_⟩
  rcases q with q | ⟨dd, fs, e1, e2⟩
  · exact .inl q
  · exact .inr ⟨dd, fs, e1, s _ _ e2⟩
theorem kStr {K : PySem.W.Frag} : PySem.W.kitOne K (.type "str") (.type "str") = some true := kit_ty (by decide +kernel)
end Brk

set_option Elab.async false
set_option linter.all false
set_option maxRecDepth 100000
set_option maxHeartbeats 4000000
/-! Own words about texts: written numbers. -/
namespace Brk
open PySem PySem.Spec PyProof.Rows L2
/-! ### written numbers, as lists of signs -/
def digL (l : List Nat) : Bool := l.all fun c => decide (48 ≤ c ∧ c ≤ 57)
theorem digL_all {l : List Nat} : digL l = true ↔ NumText.AllDigits l := by
  unfold digL NumText.AllDigits
  simp
/-- the digits behind a minus -/
def bodyL : List Nat → List Nat
  | 45 :: r => r
  | l => l
def negL : List Nat → Bool
  | 45 :: _ => true
  | _ => false
def valL (l : List Nat) : Option Int :=
  if 1 ≤ (bodyL l).length ∧ (bodyL l).length ≤ 40 then
    if digL (bodyL l) = true then
      if (bodyL l).head? = some 48 ∧ (negL l = true ∨ 1 < (bodyL l).length) then none
      else some (if negL l = true then 0 - (NumText.digitsVal (bodyL l) : Int) else (NumText.digitsVal (bodyL l) : Int))
    else none
  else none
def numberB (l : List Nat) : Bool :=
  if l = [48] then true else decide (1 ≤ (bodyL l).length) && (decide ((bodyL l).length ≤ 40) && (!decide ((bodyL l).head? = some 48) && digL (bodyL l)))
theorem number_val (l : List Nat) : numberB l = (valL l).isSome := by
  unfold numberB valL
  by_cases h0 : l = [48]
  · subst h0
    decide
  · rw [if_neg h0]
    by_cases h1 : 1 ≤ (bodyL l).length ∧ (bodyL l).length ≤ 40
    · rw [if_pos h1, decide_eq_true h1.1, decide_eq_true h1.2]
      by_cases h2 : digL (bodyL l) = true
      · rw [if_pos h2, h2]
        by_cases h3 : (bodyL l).head? = some 48
        · rw [decide_eq_true h3]
          by_cases h4 : negL l = true ∨ 1 < (bodyL l).length
          · rw [if_pos ⟨h3, h4⟩]
            rfl
          · exfalso
            have h5 : ¬ negL l = true := fun z => h4 (.inl z)
            have h6 : ¬ 1 < (bodyL l).length := fun z => h4 (.inr z)
            have e : bodyL l = l := by
              unfold bodyL
              split
              · exact absurd rfl h5
              · rfl
            rw [e] at h3 h6 h1
            match l, h3, h6, h1 with
            | [x], h3, _, _ =>
              have ex : x = 48 := by simpa using h3
              exact h0 (by rw [ex])
            | [], _, _, h1 => simp at h1
            | _ :: _ :: _, _, h6, _ => simp at h6
        · rw [decide_eq_false h3, if_neg (fun z => h3 z.1)]
          rfl
      · rw [if_neg h2, Bool.eq_false_iff.mpr h2]
        simp
    · rw [if_neg h1]
      by_cases h2 : 1 ≤ (bodyL l).length
      · rw [decide_eq_true h2, decide_eq_false (fun z => h1 ⟨h2, z⟩)]
        rfl
      · rw [decide_eq_false h2]
        rfl
/-- digits without a needless zero ahead are the signs of their value -/
theorem num_of_digits : ∀ (n : Nat) (l : List Nat), l.length = n → NumText.AllDigits l → l ≠ [] → (l.head? = some 48 → l.length = 1) → TL.numL (NumText.digitsVal l) = l ∧ (l.head? ≠ some 48 → 1 ≤ NumText.digitsVal l) := by
  intro n
  induction n with
  | zero =>
    intro l h _ hn
    exact absurd (List.length_eq_zero_iff.mp h) hn
  | succ n ih =>
    intro l h hd hn hz
    obtain ⟨r, c, rfl⟩ : ∃ r c, l = r ++ [c] := ⟨l.dropLast, l.getLast hn, (List.dropLast_concat_getLast hn).symm⟩
    have hc : 48 ≤ c ∧ c ≤ 57 := hd c (by simp)
    have hv : NumText.digitsVal (r ++ [c]) = NumText.digitsVal r * 10 + (c - 48) := by
      unfold NumText.digitsVal
      rw [List.foldl_append]
      rfl
    by_cases hr : r = []
    · subst hr
      have e : NumText.digitsVal ([] ++ [c]) = c - 48 := by rw [hv]; show 0 * 10 + (c - 48) = _; omega
      rw [e]
      constructor
      · rw [TL.numL_lt (by omega)]
        show [48 + (c - 48)] = [c]
        congr 1
        omega
      · intro q
        have : c ≠ 48 := fun z => q (by rw [z]; rfl)
        omega
    · have hrl : r.length = n := by
        rw [List.length_append, List.length_singleton] at h
        omega
      have h0 : r.head? ≠ some 48 := by
        intro q
        have q2 : (r ++ [c]).head? = some 48 := by
          rw [List.head?_append, q]
          rfl
        have z := hz q2
        rw [List.length_append, List.length_singleton] at z
        exact hr (List.length_eq_zero_iff.mp (by omega))
      obtain ⟨i1, i2⟩ := ih r hrl (fun x hx => hd x (by simp [hx])) hr (fun q => absurd q h0)
      have p := i2 h0
      rw [hv]
      constructor
      · rw [TL.numL_step (by omega)]
        have e1 : (NumText.digitsVal r * 10 + (c - 48)) / 10 = NumText.digitsVal r := by omega
        have e2 : 48 + (NumText.digitsVal r * 10 + (c - 48)) % 10 = c := by omega
        rw [e1, e2, i1]
      · intro _
        omega

/-! ### texts and their signs -/
theorem str_ext {a b : Str} (h : a.cps.toList = b.cps.toList) : a = b := by
  obtain ⟨x⟩ := a
  obtain ⟨y⟩ := b
  have e : x = y := Array.toList_inj.mp h
  rw [e]
theorem body_neg {l : List Nat} (h : negL l = true) : l = 45 :: bodyL l := by
  unfold negL at h
  split at h
  · rfl
  · exact absurd h Bool.false_ne_true
theorem body_pos {l : List Nat} (h : negL l = false) : bodyL l = l := by
  unfold negL at h
  unfold bodyL
  split at h
  · exact absurd h.symm Bool.false_ne_true
  · rfl
theorem body_len (l : List Nat) : (bodyL l).length ≤ l.length := by
  unfold bodyL
  split <;> simp
theorem val_parts {l : List Nat} {v : Int} (h : valL l = some v) : 1 ≤ (bodyL l).length ∧ (bodyL l).length ≤ 40 ∧ NumText.AllDigits (bodyL l) ∧ ((bodyL l).head? = some 48 → (bodyL l).length = 1 ∧ negL l = false) ∧
    v = (if negL l = true then 0 - (NumText.digitsVal (bodyL l) : Int) else (NumText.digitsVal (bodyL l) : Int)) := by
  unfold valL at h
  split at h
  · rename_i h1
    split at h
    · rename_i h2
      split at h
      · cases h
      · rename_i h3
        refine ⟨h1.1, h1.2, digL_all.mp h2, fun q => ?_, (Option.some.inj h).symm⟩
        constructor
        · have z : ¬ 1 < (bodyL l).length := fun z => h3 ⟨q, .inr z⟩
          have := h1.1
          omega
        · exact Bool.eq_false_iff.mpr fun z => h3 ⟨q, .inl z⟩
    · cases h
  · cases h
theorem int_of_text {z : Str} {v : Int} (h : valL z.cps.toList = some v) : intText? z = some v := by
  obtain ⟨h1, h2, h3, h4, rfl⟩ := val_parts h
  have ne : bodyL z.cps.toList ≠ [] := fun e => by rw [e] at h1; exact absurd h1 (by decide)
  have hl : z.length = z.cps.toList.length := (Array.length_toList).symm
  cases hn : negL z.cps.toList with
  | true =>
    have e := body_neg hn
    have q := intText_neg e h3 ne (by rw [hl, e, List.length_cons]; omega)
    rw [q, if_pos rfl]
    congr 1
    omega
  | false =>
    have e := body_pos hn
    rw [e] at h1 h2 h3 ne ⊢
    have q := intText_digits h3 ne (by rw [hl]; omega)
    rw [q, if_neg Bool.false_ne_true]
theorem text_of_int {z : Str} {v : Int} (h : valL z.cps.toList = some v) : Str.ofString (toString v) = z := by
  obtain ⟨h1, h2, h3, h4, rfl⟩ := val_parts h
  have ne : bodyL z.cps.toList ≠ [] := fun e => by rw [e] at h1; exact absurd h1 (by decide)
  obtain ⟨d1, d2⟩ := num_of_digits _ _ rfl h3 ne (fun q => (h4 q).1)
  refine str_ext ?_
  cases hn : negL z.cps.toList with
  | true =>
    have h0 : (bodyL z.cps.toList).head? ≠ some 48 := fun q => by
      have := (h4 q).2
      rw [hn] at this
      cases this
    have p := d2 h0
    have e := body_neg hn
    rw [if_pos rfl, PyProof.Rows.toString_neg (by omega)]
    have e2 : (0 - (0 - (NumText.digitsVal (bodyL z.cps.toList) : Int))) = ((NumText.digitsVal (bodyL z.cps.toList) : Nat) : Int) := by omega
    rw [e2, signs_ofString, String.toList_append, List.map_append, ← signs_ofString (toString _)]
    have e3 := TL.tl_num (NumText.digitsVal (bodyL z.cps.toList))
    unfold TL.tl at e3
    rw [e3, d1, e]
    rfl
  | false =>
    have e := body_pos hn
    rw [if_neg Bool.false_ne_true]
    have e3 := TL.tl_num (NumText.digitsVal (bodyL z.cps.toList))
    unfold TL.tl at e3
    rw [e3, d1, e]
theorem digits_lt : ∀ {l : List Nat}, NumText.AllDigits l → NumText.digitsVal l < 10 ^ l.length := by
  have key : ∀ (l : List Nat) (a k : Nat), NumText.AllDigits l → a < 10 ^ k → l.foldl (fun acc c => acc * 10 + (c - 48)) a < 10 ^ (k + l.length) := by
    intro l
    induction l with
    | nil => intro a k _ h; exact h
    | cons c r ih =>
      intro a k h ha
      have hc := h c (List.mem_cons_self ..)
      have q := ih (a * 10 + (c - 48)) (k + 1) (fun x hx => h x (List.mem_cons_of_mem _ hx)) (by rw [Nat.pow_succ]; omega)
      rw [List.foldl_cons, List.length_cons]
      have e : k + (r.length + 1) = k + 1 + r.length := by omega
      rw [e]
      exact q
  intro l h
  have q := key l 0 0 h (by decide)
  rw [Nat.zero_add] at q
  exact q
theorem val_small {l : List Nat} {v : Int} (h : valL l = some v) : v.natAbs.log2 < 1920 := by
  obtain ⟨h1, h2, h3, h4, rfl⟩ := val_parts h
  have q := digits_lt h3
  have b : NumText.digitsVal (bodyL l) < 10 ^ 40 := Nat.lt_of_lt_of_le q (Nat.pow_le_pow_right (by decide) h2)
  have e : (if negL l = true then 0 - (NumText.digitsVal (bodyL l) : Int) else (NumText.digitsVal (bodyL l) : Int)).natAbs = NumText.digitsVal (bodyL l) := by
    split <;> omega
  rw [e]
  by_cases z : NumText.digitsVal (bodyL l) = 0
  · rw [z]
    decide
  · exact (Nat.log2_lt z).mpr (Nat.lt_of_lt_of_le (m := 2 ^ 133) (by omega) (Nat.pow_le_pow_right (by decide) (by decide)))
/-- the first sign, the rest -/
theorem cut_first {z : Str} : decide (V.str (cutS z none (some 1)) = V.str "-") = negL z.cps.toList := by
  have e : (cutS z none (some 1)).cps.toList = z.cps.toList.take 1 := by
    unfold cutS
    rw [HT.sIx_none]
    have e1 : HT.sIx z.length z.length (some 1) = min 1 z.length := HT.sIx_nat _ _ 1
    rw [e1]
    show ((z.cps.toList.drop 0).take (min 1 z.length - 0)) = _
    rw [List.drop_zero, Nat.sub_zero]
    have hl : z.length = z.cps.toList.length := (Array.length_toList).symm
    rw [hl, List.take_eq_take_iff]
    omega
  have m : ("-" : Str).cps.toList = [45] := by decide +kernel
  cases hn : negL z.cps.toList with
  | true =>
    refine decide_eq_true ?_
    congr 1
    refine str_ext ?_
    rw [e, m, body_neg hn]
    rfl
  | false =>
    refine decide_eq_false fun q => ?_
    have q2 := congrArg (fun s : Str => s.cps.toList) (V.str.inj q)
    simp only [e, m] at q2
    cases hz : z.cps.toList with
    | nil => rw [hz] at q2; cases q2
    | cons c r =>
      rw [hz] at q2 hn
      have ec : c = 45 := by simpa using q2
      rw [ec] at hn
      cases hn
theorem cut_rest {z : Str} (h : negL z.cps.toList = true) : (cutS z (some 1) none).cps.toList = bodyL z.cps.toList := by
  have e := body_neg h
  have hl : z.length = z.cps.toList.length := (Array.length_toList).symm
  unfold cutS
  have e1 : HT.sIx z.length 0 (some 1) = min 1 z.length := HT.sIx_nat _ _ 1
  rw [e1, HT.sIx_none]
  have e2 : min 1 z.length = 1 := by rw [hl, e, List.length_cons]; omega
  rw [e2]
  show (z.cps.toList.drop 1).take (z.length - 1) = _
  rw [List.take_of_length_le (by rw [List.length_drop, ← hl]; exact Nat.le_refl _)]
  rw [e]
  rfl

theorem cut_prefix {z : Str} : (Txt.removeprefix z "-").cps.toList = bodyL z.cps.toList := by
  have hl : z.length = z.cps.toList.length := (Array.length_toList).symm
  have em : ("-" : Str) = ⟨#[45]⟩ := by decide +kernel
  unfold Txt.removeprefix
  rw [em]
  cases hn : negL z.cps.toList with
  | true =>
    have e := body_neg hn
    have h1 : Builtin.Str.subAt z ⟨#[45]⟩ 0 = true := ((StrLaws.subAt_one z 45 0).mpr (by rw [e]; rfl)).2
    rw [h1, if_pos rfl]
    have h2 : 1 ≤ z.length := by rw [hl, e, List.length_cons]; omega
    show (Txt.affix z (some (1, z.length))).cps.toList = _
    unfold Txt.affix
    have h3 : (z.length - 1 == z.length) = false := by
      rw [beq_eq_false_iff_ne]
      omega
    dsimp only
    rw [h3, if_neg Bool.false_ne_true]
    show (z.cps.extract 1 z.length).toList = _
    rw [Array.toList_extract, List.extract_eq_drop_take]
    rw [List.take_of_length_le (by rw [List.length_drop, hl]; exact Nat.le_refl _)]
    rw [e]
    rfl
  | false =>
    have h1 : Builtin.Str.subAt z ⟨#[45]⟩ 0 = false := by
      refine Bool.eq_false_iff.mpr fun q => ?_
      cases hz : z.cps.toList with
      | nil =>
        have ez : z = ⟨#[]⟩ := str_ext hz
        rw [ez] at q
        exact absurd q (by decide +kernel)
      | cons c r =>
        have q2 := (StrLaws.subAt_one z 45 0).mp ⟨by rw [hl, hz]; show 0 + 1 ≤ r.length + 1; omega, q⟩
        rw [hz] at q2 hn
        have ec : c = 45 := by simpa using q2
        rw [ec] at hn
        cases hn
    rw [h1, if_neg Bool.false_ne_true, body_pos hn]
    rfl
theorem find_dig {c : Nat} (h : 48 ≤ c ∧ c ≤ 57) : Txt.find "0123456789" ⟨#[c]⟩ = (c : Int) - 48 := by
  have q : c = 48 ∨ c = 49 ∨ c = 50 ∨ c = 51 ∨ c = 52 ∨ c = 53 ∨ c = 54 ∨ c = 55 ∨ c = 56 ∨ c = 57 := by omega
  rcases q with rfl | rfl | rfl | rfl | rfl | rfl | rfl | rfl | rfl | rfl <;> decide +kernel
theorem dig_mem {c : Nat} : c ∈ ("0123456789" : Str).cps.toList ↔ 48 ≤ c ∧ c ≤ 57 := by
  have e : ("0123456789" : Str).cps.toList = [48, 49, 50, 51, 52, 53, 54, 55, 56, 57] := by decide +kernel
  rw [e]
  simp only [List.mem_cons, List.not_mem_nil, or_false]
  omega
theorem find_no {c : Nat} (h : ¬ (48 ≤ c ∧ c ≤ 57)) : Txt.find "0123456789" ⟨#[c]⟩ = -1 := by
  have q := StrLaws.found_one "0123456789" c
  rw [decide_eq_false (fun z => h (dig_mem.mp z))] at q
  unfold Txt.find
  cases e : Builtin.Str.occurrences "0123456789" ⟨#[c]⟩ 0 ("0123456789" : Str).length 1 with
  | nil => rfl
  | cons x r =>
    rw [e] at q
    cases q
/-- a for over a text's signs -/
theorem for_text {x : Str} {g : TG} {tb : TS} {D : Ends} {σ : L2.St} {H : Hp} (Pv : Nat → L2.St → Hp → Prop) (h0 : Pv 0 σ H)
    (hs : ∀ (i c : Nat) (σ : L2.St) (H : Hp), x.cps[i]? = some c → Pv i σ H → g (.str ⟨#[c]⟩) σ H fun σ2 H2 => tb { D with nx := Pv (i + 1), ct := Pv (i + 1), bk := D.nx } σ2 H2) (hd : ∀ σ H, Pv x.cps.size σ H → D.nx σ H) :
    ∃ W : Nat → Nat → L2.St → Hp → Prop, (∃ m, W 0 m σ H) ∧ ∀ i m σ H, W i m σ H →
      ((Its x).stop i H ∧ D.nx σ H) ∨ ((Its x).go i H ∧ ∃ N : L2.St → Hp → Prop, (∀ σ' H', N σ' H' → ∃ m', m' < m ∧ W (i + 1) m' σ' H') ∧ ∀ y H', (Its x).yld i H y H' → g y σ H' fun σ2 H2 => tb { D with nx := N, ct := N, bk := D.nx } σ2 H2) := by
  refine ⟨fun i m σ H => m + i = x.cps.size ∧ Pv i σ H, ⟨x.cps.size, rfl, h0⟩, ?_⟩
  intro i m σ H hh
  obtain ⟨hm, p⟩ := hh
  by_cases z : m = 0
  · subst z
    have e : i = x.cps.size := by omega
    subst e
    exact Or.inl ⟨Nat.le_refl _, hd σ H p⟩
  · refine Or.inr ⟨by show i < x.cps.size; omega, Pv (i + 1), fun _ _ p' => ⟨m - 1, by omega, by omega, p'⟩, ?_⟩
    intro y H' yy
    obtain ⟨e, c, hc, ey⟩ := yy
    subst e ey
    exact hs i c σ _ hc p
section
variable {X : Cx}
/-- text * number: some text, of so many signs -/
theorem op_mulS : OpR X (binaryOp .Mult) (fun x y H Q => ∃ (z : Str) (i : Int), x = .str z ∧ y = .int i ∧ z.length ≤ 16 ∧ 0 ≤ i ∧ i ≤ 1000000 ∧ ∀ r : Str, (r.length : Int) = (z.length : Int) * i → Q (.str r) H) := by
  intro pins s σ H x y v u Q I rx ry h
  obtain ⟨z, i, rfl, rfl, h1, h2, h3, q⟩ := h
  obtain ⟨t, rfl⟩ := rx
  obtain ⟨t', rfl⟩ := ry
  refine PySem.W.KXi.mul rfl h1 (by omega) (by omega) fun t2 k _ e => ?_
  exact ⟨.str _, H, I.tok _, ⟨_, rfl⟩, q _ (e h2)⟩
end

def spIsNumber : Sp := fun vs H Q _ => ∃ (z : Str), vs = [.str z] ∧ z.length ≤ 100000 ∧ ∀ H', Same H H' → Q (.bl (numberB z.cps.toList)) H'

def vOpt : Option Int → V
  | some v => .int v
  | none => .non
def spValue : Sp := fun vs H Q _ => ∃ (z : Str), vs = [.str z] ∧ z.length ≤ 600 ∧ Q (vOpt (valL z.cps.toList)) H
def spReadNumber (C : Addr) : Sp := fun vs H Q E => ∃ (z : Str), vs = [.str z] ∧ z.length ≤ 600 ∧ (∀ v, valL z.cps.toList = some v → ∀ H', Same H H' → Q (.int v) H') ∧
  (valL z.cps.toList = none → ∀ H' d, Same H H' → H' d = none → E (.ref C) (some d) (L2.upd H' d (.xd [("text", .str z)])))
def spWriteNumber : Sp := fun vs H Q _ => ∃ (v : Int), vs = [.int v] ∧ v.natAbs.log2 < 1920 ∧ Q (.str (Str.ofString (toString v))) H
def spReadT : Sp := fun vs H Q _ => ∃ (z : Str), vs = [.str z] ∧ z.length ≤ 600 ∧ ∀ H', Same H H' → Q (.bl true) H'

theorem catL {a b : Str} (ha : a.length ≤ 1000) (hb : b.length ≤ 1000) : a.length + b.length ≤ sizeLine := Nat.le_trans (Nat.add_le_add ha hb) (by decide)
theorem cutS_len {z : Str} {lo hi : Option Int} : (cutS z lo hi).length ≤ z.length := by
  have h1 : (cutS z lo hi).length = ((z.cps.toList.drop (HT.sIx z.length 0 lo)).take (HT.sIx z.length z.length hi - HT.sIx z.length 0 lo)).length := by
    unfold cutS
    exact (Array.length_toList).symm
  have h2 : z.length = z.cps.toList.length := (Array.length_toList).symm
  rw [h1, h2, List.length_take, List.length_drop]
  omega
theorem str_at {z : Str} {i : Int} (h0 : 0 ≤ i) (h1 : i < z.length) : ∃ c, z.cps[i.toNat]? = some c := by
  have h : z.length = z.cps.size := rfl
  exact ⟨_, Array.getElem?_eq_getElem (by omega)⟩
theorem one_len {c : Nat} : (⟨#[c]⟩ : Str).length = 1 := rfl
theorem join_small {y : Str} (hy : y.length = 0) : ∀ {ys : List Str}, (∀ x ∈ ys, x.length ≤ 1) → (Txt.join y ys).length ≤ ys.length := by
  have key : ∀ (ys : List Str), (∀ x ∈ ys, x.length ≤ 1) → (Str.join y ys).length ≤ ys.length := by
    intro ys
    induction ys with
    | nil => intro _; exact Nat.le_refl _
    | cons a r ih =>
      intro h
      cases r with
      | nil =>
        have := h a (List.mem_singleton.mpr rfl)
        exact this
      | cons b q =>
        have i1 := ih fun x hx => h x (List.mem_cons_of_mem _ hx)
        have i2 := h a (List.mem_cons_self ..)
        show (a ++ y ++ Str.join y (b :: q)).length ≤ _
        rw [Str.length_append, Str.length_append, List.length_cons]
        omega
  intro ys h
  rw [TL.join_eq]
  exact key ys h
def spNear : Sp := fun vs H Q _ => ∃ (z : Str), vs = [.str z] ∧ z.length ≤ 100 ∧ ∀ (p : Addr) (ys : List Str) (H' : Hp), Same H H' → H' p = some (.lst (ys.map V.str)) → (∀ y ∈ ys, y.length ≤ 600) → Q (.ref p) H'
def spWritten : Sp := fun vs H Q _ => ∃ (p c : Addr) (ns : List Int), vs = [.ref p] ∧ Pool ns c H p ∧ ∀ (y : Str) (H' : Hp), y.length ≤ 60 → Pool ns c H' p → Q (.str y) H'
def spOther : Sp := fun vs H Q _ => ∃ (p c : Addr) (ns : List Int) (z : Str), vs = [.ref p, .str z] ∧ Pool ns c H p ∧ z.length ≤ 60 ∧ ∀ (y : Str) (H' : Hp), y.length ≤ 300 → Pool ns c H' p → Q (.str y) H'
end Brk

set_option Elab.async false
set_option linter.all false
set_option maxRecDepth 100000
set_option maxHeartbeats 4000000
/-! Own words: things that are made under a name, or refused for it. -/
namespace Brk
open PySem PySem.Spec PyProof.Rows L2
/-- a refused name: the new exception's dict has it -/
def RefN (CB : Addr) (z : Str) (H : Hp) (E : XK) : Prop := ∀ (H' : Hp) (d : Addr), Same H H' → H' d = some (.xd [("name", .str z)]) → E (.ref CB) (some d) H'
theorem RefN.from {CB : Addr} {z : Str} {H H1 : Hp} {E : XK} (r : RefN CB z H E) (s : Same H H1) : RefN CB z H1 E := fun H' d s' e => r H' d (s.trans s') e
def spNamedX (K : PySem.W.Frag) (CB : Addr) : Sp := fun vs H Q E => ∃ (p C dx : Addr) (fs : List (Str × V)) (z : Str), vs = [.ref p, .str z] ∧ H p = some (.ins C dx fs) ∧ Cls K C ∧ NoAttr K C "name" ∧ z.length ≤ 1000 ∧ fs.length < 100 ∧
  (nameB z = true → ∀ H', H' p = some (.ins C dx (putF "name" (.str z) fs)) → But p H H' → Q .non H') ∧ (nameB z = false → RefN CB z H E)
def spItemX (K : PySem.W.Frag) (CB : Addr) : Sp := fun vs H Q E => ∃ (p C dx : Addr) (fs : List (Str × V)) (z : Str) (g m : V) (d : Int), vs = [.ref p, .str z, g, m, .int d] ∧ H p = some (.ins C dx fs) ∧ ItemC K C ∧ z.length ≤ 1000 ∧ 0 ≤ d ∧ d ≤ 8 ∧ fs.length < 90 ∧
  (nameB z = true → ∀ H', H' p = some (.ins C dx (putI z g m (.int d) fs)) → But p H H' → Q .non H') ∧ (nameB z = false → RefN CB z H E)
/-- an instance of C at p with the name z -/
def NameAt (C p : Addr) (z : Str) (H : Hp) : Prop := ∃ (dx : Addr) (fs : List (Str × V)), H p = some (.ins C dx fs) ∧ fs.lookup ("name" : Str) = some (.str z)
theorem putI_name {z : Str} {g m d : V} {fs : List (Str × V)} : (putI z g m d fs).lookup ("name" : Str) = some (.str z) := by
  unfold putI putT
  rw [look_ne (by decide +kernel), look_ne (by decide +kernel), look_ne (by decide +kernel), look_put]
def spPieceX (K : PySem.W.Frag) (CB : Addr) : Sp := fun vs H Q E => ∃ (p C dx : Addr) (z : Str) (g m : V) (l t d : Int), vs = [.ref p, .str z, g, .int l, .int t, m, .int d] ∧ H p = some (.ins C dx []) ∧ ItemC K C ∧ NoAttr K C "least" ∧ NoAttr K C "most" ∧ z.length ≤ 1000 ∧
  0 ≤ d ∧ d ≤ 8 ∧ 1 ≤ l ∧ l ≤ t ∧ t ≤ l + 8 ∧ (nameB z = true → ∀ H', NameAt C p z H' → But p H H' → Q .non H') ∧ (nameB z = false → RefN CB z H E)
def spBreakX (K : PySem.W.Frag) (CB : Addr) : Sp := fun vs H Q E => ∃ (p C dx : Addr) (z : Str) (g m : V) (n u d y : Int), vs = [.ref p, .str z, g, m, .int n, .int u, .int d, .int y] ∧ H p = some (.ins C dx []) ∧ ItemC K C ∧ NoAttr K C "places" ∧ NoAttr K C "unit" ∧ NoAttr K C "patience" ∧ z.length ≤ 1000 ∧
  0 ≤ d ∧ d ≤ 8 ∧ 1 ≤ n ∧ n ≤ 12 ∧ 1 ≤ u ∧ 1 ≤ y ∧ y ≤ 64 ∧ (nameB z = true → ∀ H', NameAt C p z H' → But p H H' → Q .non H') ∧ (nameB z = false → RefN CB z H E)
/-! ### a house of one kind -/
def spFromOne : Sp := fun vs H Q _ => ∃ n m : Int, vs = [.int n, .int m] ∧ 1 ≤ n ∧ n ≤ m ∧ Q .non H
def spApart1 : Sp := fun vs H Q _ => ∃ n : Int, vs = [.int n] ∧ 1 ≤ n ∧ Q .non H
def spKind1 (CB : Addr) : Sp := fun vs H Q E => ∃ (l : Addr) (z : Str), vs = [.ref l] ∧ H l = some (.lst [.str z]) ∧ z.length ≤ 1000 ∧ (nameB z = true → ∀ H', Same H H' → Q .non H') ∧ (nameB z = false → RefN CB z H E)
def spSpan0 (C : Addr) : Sp := fun vs H Q _ => ∃ (p dx : Addr) (lo hi : Int), vs = [.ref p, .int lo, .int hi] ∧ H p = some (.ins C dx []) ∧ lo ≤ hi ∧ ∀ H', Off p H H' → Q .non H'
def spWays0 (K : PySem.W.Frag) : Sp := fun vs H Q _ => ∃ a : Addr, vs = [.ref a] ∧ SqT K H a [.int 0, .int 0] ∧ ∀ x H', Same H H' → Q (.ref x) H'
structure HouseC (K : PySem.W.Frag) (C : Addr) : Prop where
  c : Cls K C
  n1 : NoAttr K C "studios"
  n2 : NoAttr K C "crews"
  n3 : NoAttr K C "kinds"
  n4 : NoAttr K C "walk"
  n5 : NoAttr K C "pack"
  n6 : NoAttr K C "ahead"
  n7 : NoAttr K C "apart"
/-- a house at p whose kinds are the one text -/
def KindAt (C p : Addr) (z : Str) (H : Hp) : Prop := ∃ (dx t : Addr) (fs : List (Str × V)), H p = some (.ins C dx fs) ∧ fs.lookup ("kinds" : Str) = some (.ref t) ∧ H t = some (.tup [.str z])
def spHouseX (K : PySem.W.Frag) (C CB W1 W2 : Addr) : Sp := fun vs H Q E => ∃ (p dx l : Addr) (z : Str), vs = [.ref p, .int 1, .int 1, .ref l, .ref W1, .ref W2, .int 1, .int 1] ∧ H p = some (.ins C dx []) ∧ H l = some (.lst [.str z]) ∧ HouseC K C ∧ z.length ≤ 1000 ∧
  (nameB z = true → ∀ H', KindAt C p z H' → But p H H' → Q .non H') ∧ (nameB z = false → RefN CB z H E)
/-- what isinstance asks of an own class -/
structure OwnI (K : PySem.W.Frag) (C : Addr) : Prop where
  ha : PySem.W.findIn K (.ref C) "__class__" = some (some (.builtin "object.__class__"))
  hn : PySem.W.specialIn K (.builtin "object.__class__") "__get__" = some (some (.builtin "getset_descriptor.__get__"))
  ht : PySem.W.takesIn K (.builtin "object.__class__") = some true
  hm : PySem.W.mroIn K C (.type "object") = some true
theorem tyx_own {K : PySem.W.Frag} {H : Hp} {a C dx : Addr} {fs : List (Str × V)} (e : H a = some (.ins C dx fs)) (c : Cls K C) (o : OwnI K C) : TyX K H (.ref a) (.ref C) := .base (.ins e c o.ha o.hn o.ht o.hm)
structure NmC (K : PySem.W.Frag) (C CN : Addr) : Prop where
  c : Cls K C
  o : OwnI K C
  n : NoAttr K C "name"
  k : PySem.W.kitOne K (.ref C) (.ref CN) = some true
def spMadeX (K : PySem.W.Frag) (CN CH CB : Addr) : Sp := fun vs H Q E => ∃ (n : Int) (z : Str), vs = [.int n, .str z] ∧ 0 ≤ n ∧ n ≤ 4 ∧ z.length ≤ 1000 ∧
  (nameB z = true → ∀ x H', Same H H' → ((n ≤ 3 ∧ ∃ C, NmC K C CN ∧ NameAt C x z H') ∨ (n = 4 ∧ KindAt CH x z H')) → Q (.ref x) H') ∧ (nameB z = false → RefN CB z H E)
def spDoorX : Sp := fun vs H Q _ => ∃ (n : Int) (z : Str), vs = [.int n, .str z, .bl (nameB z)] ∧ 0 ≤ n ∧ n ≤ 4 ∧ z.length ≤ 1000 ∧ ∀ H', Same H H' → Q (.bl true) H'
def spLName : Sp := fun vs H Q _ => ∃ (z : Str), vs = [.str z] ∧ z.length ≤ 1000 ∧ Q (.bl (nameB z)) H
theorem NameAt.same {C p : Addr} {z : Str} {H H' : Hp} (h : NameAt C p z H) (s : Same H H') : NameAt C p z H' := by
  obtain ⟨dx, fs, a, b⟩ := h
  exact ⟨dx, fs, s _ _ a, b⟩
/-! ### names by place -/
theorem name_yes {z : Str} (h1 : 1 ≤ z.cps.size) (h2 : z.cps.size ≤ 12) (h : ∀ j c, z.cps[j]? = some c → signB c = true ∧ (j = 0 → c ∈ letS.cps.toList)) : nameB z = true := by
  unfold nameB
  have h0 : z.cps.getD 0 0 ∈ letS.cps.toList := by
    have e : z.cps[0]? = some (z.cps.getD 0 0) := by
      rw [Array.getElem?_eq_getElem (by omega)]
      simp [Array.getD, (by omega : 0 < z.cps.size)]
    exact (h 0 _ e).2 rfl
  rw [decide_eq_true h1, decide_eq_true h2, decide_eq_true h0]
  refine List.all_eq_true.mpr fun c hc => ?_
  obtain ⟨j, hj, e⟩ := List.getElem_of_mem hc
  rw [Array.length_toList] at hj
  exact (h j c (by rw [Array.getElem?_eq_getElem hj, ← e]; simp)).1
theorem name_no {z : Str} {j c : Nat} (hc : z.cps[j]? = some c) (h : ¬ (signB c = true ∧ (j = 0 → c ∈ letS.cps.toList))) : nameB z = false := by
  cases e : nameB z with
  | false => rfl
  | true =>
    exfalso
    unfold nameB at e
    rw [Bool.and_eq_true, Bool.and_eq_true, Bool.and_eq_true] at e
    obtain ⟨_, _, e3, e4⟩ := e
    refine h ⟨?_, fun j0 => ?_⟩
    · refine List.all_eq_true.mp e4 c ?_
      rw [← Array.getElem?_toList] at hc
      exact List.mem_of_getElem? hc
    · subst j0
      have q : z.cps.getD 0 0 = c := by
        obtain ⟨hlt, e5⟩ := Array.getElem?_eq_some_iff.mp hc
        simp [Array.getD, hlt, e5]
      rw [← q]
      exact of_decide_eq_true e3
theorem name_len {z : Str} (h : ¬ (1 ≤ z.cps.size ∧ z.cps.size ≤ 12)) : nameB z = false := by
  unfold nameB
  by_cases h1 : 1 ≤ z.cps.size
  · rw [decide_eq_false (fun h2 => h ⟨h1, h2⟩)]
    simp
  · rw [decide_eq_false h1]
    rfl
theorem find_neg {z : Str} {c : Nat} : decide (Txt.find z ⟨#[c]⟩ < 0) = !decide (c ∈ z.cps.toList) := by
  have q := StrLaws.found_one z c
  unfold Txt.find
  cases e : Builtin.Str.occurrences z ⟨#[c]⟩ 0 z.length 1 with
  | nil =>
    rw [e] at q
    rw [← q]
    rfl
  | cons x r =>
    rw [e] at q
    rw [← q]
    exact decide_eq_false (by show ¬ ((x : Nat) : Int) < 0; omega)
/-! ### a op1 b op2 c op3 d, as a test -/
def tChain3 (r r' r'' : R2) (ta tb tc td : TE) : TE := fun σ H Q => ta σ H fun x H1 => tb σ H1 fun y H2 => r x y H2 fun z H3 => ∃ k, z = .bl k ∧
  (if k = true then tc σ H3 fun w H4 => r' y w H4 fun z2 H5 => ∃ k2, z2 = .bl k2 ∧ (if k2 = true then td σ H5 fun w2 H6 => r'' w w2 H6 Q else Q (.bl false) H5) else Q (.bl false) H3)
theorem pt_chain3 {X : Cx} {a b c d : Expr} {ta tb tc td : TE} {pos : Pos} {op op' op'' : CmpOp} {r r' r'' : R2} (ho : OpR X (compareOp op) r) (ho' : OpR X (compareOp op') r') (ho'' : OpR X (compareOp op'') r'') (ha : PE X a ta) (hb : PE X b tb) (hc : PE X c tc) (hd : PE X d td)
    (hm : lastMarks [op, op', op''] [b, c, d] = false := by with_unfolding_all rfl) : PT X (.Compare a [op, op', op''] [b, c, d] pos) (tTest (tChain3 r r' r'' ta tb tc td)) := by
  refine ⟨fun pins s σ H Q I h => ?_⟩
  refine isTrue_chain (thn (ha.run pins s σ H _ I h) fun v s1 ⟨x, H1, I1, r1, q1⟩ => test_link (thn (hb.run pins s1 σ H1 _ I1 q1) fun u s2 ⟨y, H2, I2, r2, q2⟩ =>
    thn (ho pins s2 σ H2 x y v u _ I2 r1 r2 q2) fun e s3 ⟨z, H3, I3, r3, k, e0, q3⟩ => ?_)) hm
  subst e0
  cases r3
  refine wpAny_truthy_bool ?_
  cases k with
  | false =>
    obtain ⟨k', e', q'⟩ := q3
    cases e'
    exact ite_ff ⟨H3, I3, q'⟩
  | true =>
    refine ite_tt (test_link (thn (hc.run pins s3 σ H3 _ I3 q3) fun w' s4 ⟨z', H4, I4, r4, q4⟩ => thn (ho' pins s4 σ H4 y z' u w' _ I4 r2 r4 q4) fun d' s5 ⟨z2, H5, I5, r5, k2, e2, q5⟩ => ?_))
    subst e2
    cases r5
    refine wpAny_truthy_bool ?_
    cases k2 with
    | false =>
      obtain ⟨k', e', q'⟩ := q5
      cases e'
      exact ite_ff ⟨H5, I5, q'⟩
    | true =>
      refine ite_tt (test_last (thn (hd.run pins s5 σ H5 _ I5 q5) fun w2 s6 ⟨z3, H6, I6, r6, q6⟩ => thn (ho'' pins s6 σ H6 z' z3 w' w2 _ I6 r4 r6 q6) fun d2 s7 ⟨z4, H7, I7, r7, k3, e3, q7⟩ => ?_))
      subst e3
      cases r7
      exact wpAny_truthy_bool ⟨H7, I7, q7⟩
/-! ### an __init__ with keyword-only defaults -/
/-- n values and the keywords ks are written, the keyword-only defaults ms fill up -/
def IfG (K : PySem.W.Frag) (C : Addr) (qual : Str) (st : Stmt) (ps : List Str) (n : Nat) (ks : List Str) (ms : List V) : Prop := ∃ (f : Addr) (fd : FuncData) (gU : List Value → List Value → List Value), Mk K C f ∧ Fun K "__init__" qual st f fd ∧ KBn K fd ps n ks gU (fun vs zs => vs ++ (zs ++ ms))
def MkG (P : Program) (w : World) (K : PySem.W.Frag) (mg : Str → Option Value) (base : Heap) (CX : CXT) (k : Nat) (x : Str) (C : Addr) (ps : List Str) (n : Nat) (ks : List Str) (ms : List V) (sp : Sp) : Prop :=
  ∃ (f : Addr) (fd : FuncData) (gU : List Value → List Value → List Value), mg x = some (.ref C) ∧ Mk K C f ∧ KBn K fd ps n ks gU (fun vs zs => vs ++ (zs ++ ms)) ∧ FnOk P w K mg base CX k f fd ps sp
theorem ifG_mk {K : PySem.W.Frag} {C f D : Addr} {qual : Str} {st : Stmt} {ps ks : List Str} {oc doc pm cdv ct : Value} {od an : Option Addr} {osl : Array (Option Value)} (kws : List (Str × V)) (M : Mk K C f)
    (l : K.lookup f = some ⟨oc, od, .func (PySem.W.fnOf "__init__" qual (defArgs st) (defBody st) (defScope st) .none (.ref D) doc pm an cdv ct), osl⟩) (c : PySem.W.codeIn K cdv qual = true) (k : PySem.W.keepIn K (.ref f) = true)
    (hq : ∀ q ∈ kws, ∃ u, PySem.W.nsIn K D q.1 = some (some u) ∧ RelV q.2 u) (n : Nat) (hk : kws ≠ [])
    (h : ∀ (D : Addr) (doc pm : Value) (an : Option Addr) (cdv ct : Value) (us mv ws : List Value), us.length = n → mv.length = kws.length → ws.length = ks.length →
      KwChain D ((kws.map (·.1)).zip mv) (bindArgs (PySem.W.fnOf "__init__" qual (defArgs st) (defBody st) (defScope st) .none (.ref D) doc pm an cdv ct) ⟨us, ks.zip ws⟩) (ps.zip (us ++ (ws ++ mv)))) : IfG K C qual st ps n ks (kws.map (·.2)) := by
  have F : FunD K "__init__" qual (defArgs st) (defBody st) (defScope st) [] kws f (PySem.W.fnOf "__init__" qual (defArgs st) (defBody st) (defScope st) .none (.ref D) doc pm an cdv ct) :=
    ⟨⟨oc, od, _, _, doc, pm, an, cdv, ct, osl, rfl, l, c, .inl ⟨rfl, rfl⟩, .inr ⟨D, rfl, hq⟩⟩, k⟩
  obtain ⟨mv, b⟩ := F.kbinds0 n ks kws (fun us mv ws => us ++ (ws ++ mv)) hk (fun _ z => z) (fun r1 r2 r3 => r1.append (r3.append r2)) h
  exact ⟨f, _, _, M, fun_mk l c k, b⟩
section
variable {X : Cx} {CX : CXT} {k n : Nat} {ps ks : List Str} {ms : List V} {sp : Sp} {E : XK} {x : Str} {C : Addr} {p pos : Pos} {e : Expr} {es : List Expr} {kws : List Keyword} {t tk : TA}
theorem pe_mkG (M : MkG X.prog X.w X.K X.mg X.base CX k x C ps (n + 1) ks ms sp) (hr : Room (k + 1) X.A) (hx : Passes CX X E) (hg : Gl X x) (ha : PA X (e :: es) t) (hkw : PK X kws tk)
    (hall : (backToKw pos (keywordEach kws X.env)).all (·.1.isSome) = true := by rfl) (hks : (backToKw pos (keywordEach kws X.env)).filterMap (·.1) = ks := by rfl)
    (hdb : (x == ("__debug__" : Str)) = false := by decide) (he : starEach (e :: es) X.env = (false, eval e X.env) :: starEach es X.env := by rfl)
    (hpl : ((backTo pos (starEach (e :: es) X.env)).any (·.1) || (backToKw pos (keywordEach kws X.env)).any (·.1.isNone)) = false := by rfl) :
    PE X (.Call (.Name x p) (e :: es) kws pos) (tMakeK C n ks.length sp (fun vs zs => vs ++ (zs ++ ms)) E t tk) := by
  obtain ⟨f, fd, gU, hm, M, hb, F⟩ := M
  exact pe_makeK M F hr hg hm hb hx ha hkw hall hks hdb he hpl
end
theorem sqT_of {K : PySem.W.Frag} {W : Addr} {d : Option Addr} {i : Array Value} {n : Nat} {sl : Array (Option Value)} {xs : List V} (l : K.lookup W = some ⟨.type "tuple", d, .seq i n, sl⟩) (z : i.size ≤ sizeLine) (v : Vals xs i.toList) : ∀ H, SqT K H W xs := fun _ => .inr ⟨_, i, n, l, rfl, rfl, z, v⟩
/-- the __init__ of a class with one written default (a reference) and four keyword-only ones, called with four values -/
def IfW (K : PySem.W.Frag) (C : Addr) (qual : Str) (st : Stmt) (ps : List Str) (kws : List (Str × V)) (e : Addr) : Prop := ∃ (f : Addr) (fd : FuncData) (ds : List Value), Mk K C f ∧ FunD K "__init__" qual (defArgs st) (defBody st) (defScope st) [.ref e] kws f fd ∧ Vals (kws.map (·.2)) ds ∧ Binds K fd ps ds
theorem ifW_mk {K : PySem.W.Frag} {C f D T e : Addr} {qual : Str} {st : Stmt} {ps : List Str} {oc doc pm cdv ct oT : Value} {od an dT : Option Addr} {osl sT : Array (Option Value)} {iT : Array Value} {nT : Nat} (kws : List (Str × V)) (M : Mk K C f)
    (l : K.lookup f = some ⟨oc, od, .func (PySem.W.fnOf "__init__" qual (defArgs st) (defBody st) (defScope st) (.ref T) (.ref D) doc pm an cdv ct), osl⟩) (c : PySem.W.codeIn K cdv qual = true) (k : PySem.W.keepIn K (.ref f) = true)
    (lT : K.lookup T = some ⟨oT, dT, .seq iT nT, sT⟩) (vT : Vals [.ref e] iT.toList) (hq : ∀ q ∈ kws, ∃ u, PySem.W.nsIn K D q.1 = some (some u) ∧ RelV q.2 u) (n : Nat) (hk : kws ≠ []) (hn : n + kws.length = ps.length)
    (h : ∀ (T D : Addr) (doc pm : Value) (an : Option Addr) (cdv ct : Value) (us its ks : List Value), us.length = n → its.length = 1 → ks.length = kws.length →
      ∃ k, bindArgs (PySem.W.fnOf "__init__" qual (defArgs st) (defBody st) (defScope st) (.ref T) (.ref D) doc pm an cdv ct) ⟨us, []⟩ = seqItems? (.ref T) >>= k ∧ KwChain D ((kws.map (·.1)).zip ks) (k (some its.toArray)) (ps.zip (us ++ (its.drop 1 ++ ks)))) : IfW K C qual st ps kws e := by
  have F : FunD K "__init__" qual (defArgs st) (defBody st) (defScope st) [.ref e] kws f (PySem.W.fnOf "__init__" qual (defArgs st) (defBody st) (defScope st) (.ref T) (.ref D) doc pm an cdv ct) :=
    ⟨⟨oc, od, _, _, doc, pm, an, cdv, ct, osl, rfl, l, c, .inr ⟨by simp, T, _, iT.toList, nT, rfl, lT, rfl, vT⟩, .inr ⟨D, rfl, hq⟩⟩, k⟩
  obtain ⟨ds, a, b⟩ := F.binds n 1 (by simp) (by simpa using hn) (fun T D doc pm an cdv ct us its ks h1 h2 h3 => h T D doc pm an cdv ct us its ks h1 h2 h3) hk
  exact ⟨f, _, ds, M, F, by simpa using a, b⟩
theorem un_of {A : Around} {k : Nat} (hr : Room k A) : A.units + 64 < cLine := by
  have q := hr.un
  omega
theorem kBool {K : PySem.W.Frag} : PySem.W.kitOne K (.type "bool") (.type "bool") = some true := kit_ty (by decide +kernel)
theorem kTup {K : PySem.W.Frag} : PySem.W.kitOne K (.type "tuple") (.type "tuple") = some true := kit_ty (by decide +kernel)
theorem eqv_one {z : Str} : PyData.eqv (.tuple [.str z]) (.tuple [.str z]) = true := by simp [PyData.eqv, PyData.eqvAll]
/-- == of any texts, numbers, tuples and lists of such -/
def rEqP (K : PySem.W.Frag) : R2 := fun x y H Q => ∃ d e, Dp K H x d ∧ Dp K H y e ∧ d.plain = true ∧ e.plain = true ∧ d.depth + e.depth ≤ 60 ∧ Q (.bl (PyData.eqv d e)) H
theorem op_eqP {X : Cx} (hu : X.A.units + 64 < cLine) : OpR X (compareOp .Eq) (rEqP X.K) := by
  intro pins s σ H x y v u Q I rx ry h
  obtain ⟨d, e, hd, he, sd, se, hde, q⟩ := h
  obtain ⟨as, r1⟩ := Dp.reads I d x v hd rx
  obtain ⟨bs, r2⟩ := Dp.reads I e y u he ry
  exact SeqAt.eq_plain r1 r2 sd se (by omega) ⟨.bl _, H, I, rfl, q⟩
theorem pl_one {z : Str} : (PyData.tuple [.str z]).plain = true := by simp [PyData.plain, PyData.plainAll]
theorem dp_one {z : Str} : (PyData.tuple [.str z]).depth + (PyData.tuple [.str z]).depth ≤ 60 := by simp [PyData.depth, PyData.depthAll]
end Brk

set_option Elab.async false
set_option linter.all false
set_option maxRecDepth 100000
set_option maxHeartbeats 4000000
/-! Own words: drawn names (small letters and digits, a letter first, 1 to 12 of them, no two alike). -/
namespace Brk
open PySem PySem.Spec PyProof.Rows L2
theorem tl_app {a b : Str} : (a ++ b).cps.toList = a.cps.toList ++ b.cps.toList := by
  show (a.cps ++ b.cps).toList = _
  exact Array.toList_append
theorem tl_len {z : Str} : z.length = z.cps.toList.length := (Array.length_toList).symm
theorem cut_lo {z : Str} {k : Nat} : (cutS z none (some (k : Int))).cps.toList = z.cps.toList.take k := by
  unfold cutS
  rw [HT.sIx_none]
  have e1 : HT.sIx z.length z.length (some (k : Int)) = min k z.length := HT.sIx_nat _ _ k
  rw [e1]
  show ((z.cps.toList.drop 0).take (min k z.length - 0)) = _
  rw [List.drop_zero, Nat.sub_zero, tl_len, List.take_eq_take_iff]
  omega
theorem cut_hi {z : Str} {k : Nat} : (cutS z (some (k : Int)) none).cps.toList = z.cps.toList.drop k := by
  unfold cutS
  have e1 : HT.sIx z.length 0 (some (k : Int)) = min k z.length := HT.sIx_nat _ _ k
  rw [e1, HT.sIx_none]
  show (z.cps.toList.drop (min k z.length)).take (z.length - min k z.length) = _
  rw [List.take_of_length_le (by rw [List.length_drop, ← tl_len]; exact Nat.le_refl _)]
  by_cases h : k ≤ z.length
  · rw [Nat.min_eq_left h]
  · rw [Nat.min_eq_right (by omega), List.drop_eq_nil_of_le (by rw [← tl_len]; exact Nat.le_refl _), List.drop_eq_nil_of_le (by rw [← tl_len]; omega)]
/-- signs of a right name -/
def okL (cs : List Nat) : Prop := 1 ≤ cs.length ∧ cs.length ≤ 12 ∧ (∀ c ∈ cs, signB c = true) ∧ ∀ c, cs.head? = some c → c ∈ letS.cps.toList
theorem name_ok {z : Str} (h : okL z.cps.toList) : nameB z = true := by
  obtain ⟨h1, h2, h3, h4⟩ := h
  rw [Array.length_toList] at h1 h2
  refine name_yes h1 h2 fun j c hc => ?_
  have hl : z.cps.toList[j]? = some c := by rw [← hc]; exact Array.getElem?_toList.symm ▸ rfl
  refine ⟨h3 c (List.mem_of_getElem? hl), fun j0 => h4 c ?_⟩
  subst j0
  rw [List.head?_eq_getElem?]
  exact hl
theorem let_sign {c : Nat} (h : c ∈ letS.cps.toList) : signB c = true := by
  unfold signB
  rw [decide_eq_true h]
  rfl
theorem dig_sign {c : Nat} (h : c ∈ (letS ++ "0123456789").cps.toList) : signB c = true := by
  rw [tl_app] at h
  rcases List.mem_append.mp h with h | h
  · exact let_sign h
  · unfold signB
    rw [show decide (c ∈ digS.cps.toList) = true from decide_eq_true h, Bool.or_true]
theorem ok_let {cs : List Nat} (h1 : 1 ≤ cs.length) (h2 : cs.length ≤ 12) (h : ∀ c ∈ cs, c ∈ letS.cps.toList) : okL cs :=
  ⟨h1, h2, fun c hc => let_sign (h c hc), fun c hc => h c (List.mem_of_mem_head? hc)⟩
theorem ok_cons {c : Nat} {r : List Nat} (hc : c ∈ letS.cps.toList) (hr : r.length ≤ 11) (h : ∀ x ∈ r, signB x = true) : okL (c :: r) := by
  refine ⟨by rw [List.length_cons]; omega, by rw [List.length_cons]; omega, fun x hx => ?_, fun x hx => ?_⟩
  · rcases List.mem_cons.mp hx with rfl | hx
    · exact let_sign hc
    · exact h x hx
  · cases hx
    exact hc
theorem ok_first {cs : List Nat} {c : Nat} (h : okL cs) (hc : c ∈ letS.cps.toList) : okL (c :: cs.drop 1) :=
  ok_cons hc (by have := h.2.1; rw [List.length_drop]; omega) fun x hx => h.2.2.1 x (List.mem_of_mem_drop hx)
theorem ok_put {cs : List Nat} {c k : Nat} (h2 : cs.length ≤ 12) (hk : k < cs.length) (h : ∀ x ∈ cs, x ∈ letS.cps.toList) (hc : c ∈ letS.cps.toList) : okL (cs.take k ++ [c] ++ cs.drop (k + 1)) := by
  have e : (cs.take k ++ [c] ++ cs.drop (k + 1)).length = cs.length := by
    rw [List.length_append, List.length_append, List.length_take, List.length_drop, List.length_singleton]
    omega
  refine ok_let (by rw [e]; omega) (by rw [e]; exact h2) fun x hx => ?_
  rcases List.mem_append.mp hx with hx | hx
  · rcases List.mem_append.mp hx with hx | hx
    · exact h x (List.mem_of_mem_take hx)
    · rw [List.mem_singleton.mp hx]
      exact hc
  · exact h x (List.mem_of_mem_drop hx)
/-- a text of these signs, one by one -/
theorem join_chars {cs : List Nat} : (Txt.join "" (cs.map fun c => (⟨#[c]⟩ : Str))).cps.toList = cs := by
  rw [TL.join_eq]
  have e0 : ("" : Str).cps.toList = [] := by decide +kernel
  induction cs with
  | nil => exact e0
  | cons a r ih =>
    cases r with
    | nil => rfl
    | cons b q =>
      have ih' : (Str.join "" ((b :: q).map fun c => (⟨#[c]⟩ : Str))).cps.toList = b :: q := ih
      show ((⟨#[a]⟩ : Str) ++ ("" : Str) ++ Str.join "" ((b :: q).map fun c => (⟨#[c]⟩ : Str))).cps.toList = _
      rw [tl_app, tl_app, e0, ih']
      rfl
theorem let_at {k : Nat} (h : k < 26) : letS.cps[k]? = some (97 + k) := by
  have q : ∀ k : Fin 26, letS.cps[k.1]? = some (97 + k.1) := by decide +kernel
  exact q ⟨k, h⟩
theorem let_ix (v : Int) : ∃ ch, letS.cps[(v % 26).toNat]? = some ch ∧ ch ∈ letS.cps.toList ∧ ch = 97 + (v % 26).toNat := by
  have h1 := Int.emod_nonneg v (by decide : (26 : Int) ≠ 0)
  have h2 := Int.emod_lt_of_pos v (by decide : (0 : Int) < 26)
  have e := let_at (k := (v % 26).toNat) (by omega)
  refine ⟨_, e, ?_, rfl⟩
  rw [← Array.getElem?_toList] at e
  exact List.mem_of_getElem? e
theorem sg_ix (v : Int) : ∃ ch, (letS ++ "0123456789").cps[(v % 36).toNat]? = some ch ∧ ch ∈ (letS ++ "0123456789").cps.toList := by
  have h1 := Int.emod_nonneg v (by decide : (36 : Int) ≠ 0)
  have h2 := Int.emod_lt_of_pos v (by decide : (0 : Int) < 36)
  have hl : (letS ++ "0123456789").length = 36 := by decide +kernel
  obtain ⟨ch, e⟩ := str_at (z := letS ++ "0123456789") h1 (by omega)
  refine ⟨ch, e, ?_⟩
  rw [← Array.getElem?_toList] at e
  exact List.mem_of_getElem? e
theorem inV_str {z : Str} {xs : List Str} : inV (.str z) (xs.map V.str) = decide (z ∈ xs) := by
  rw [Bool.eq_iff_iff, decide_eq_true_iff]
  unfold inV
  rw [List.any_map, List.any_eq_true]
  constructor
  · rintro ⟨y, hy, e⟩
    have e' : (y == z) = true := e
    rw [← eq_of_beq e']
    exact hy
  · intro h
    exact ⟨z, h, beq_self_eq_true z⟩
theorem flat_strs {xs : List Str} : (xs.map V.str).all flatV = true := by
  rw [List.all_map]
  exact List.all_eq_true.mpr fun _ _ => rfl
/-- the t-th text that is tried in another's place -/
def cnd (tu : Int) (r : List Nat) (t : Nat) : Str := ⟨((97 + ((tu + (t : Int)) % 26).toNat) :: r).toArray⟩
theorem cnd_inj {tu : Int} {r : List Nat} {a b : Nat} (ha : a < 26) (hb : b < 26) (h : cnd tu r a = cnd tu r b) : a = b := by
  have e := congrArg (fun s : Str => s.cps.toList) h
  have e1 := (List.cons.inj (show (97 + ((tu + (a : Int)) % 26).toNat) :: r = (97 + ((tu + (b : Int)) % 26).toNat) :: r from e)).1
  omega
theorem cnd_all {tu : Int} {r : List Nat} {xs : List Str} (hx : xs.length ≤ 25) (h : ∀ t, t < 26 → cnd tu r t ∈ xs) : False := by
  have nd : ((List.range 26).map (cnd tu r)).Nodup := by
    rw [List.nodup_iff_pairwise_ne, List.pairwise_map]
    have q := (List.nodup_iff_pairwise_ne.mp (List.nodup_range (n := 26)))
    refine List.Pairwise.imp_of_mem (fun {a b} ha hb hab e => hab (cnd_inj (List.mem_range.mp ha) (List.mem_range.mp hb) e)) q
  have sb : ((List.range 26).map (cnd tu r)) ⊆ xs := fun y hy => by
    obtain ⟨t, ht, rfl⟩ := List.mem_map.mp hy
    exact h t (List.mem_range.mp ht)
  have l := List.Nodup.length_le_of_subset nd sb
  rw [List.length_map, List.length_range] at l
  omega
theorem But.updN {p l : Addr} {H H1 : Hp} {o : HO} (h : But p H H1) (nl : H l = none) : But p H (L2.upd H1 l o) := fun b u e hb => by
  rw [upd_ne (ne_of_none e nl)]
  exact h b u e hb
theorem sum_one : ∀ cs : List Nat, ((cs.map fun c => (⟨#[c]⟩ : Str)).map (·.length)).sum = cs.length
  | [] => rfl
  | c :: r => by
    have ih := sum_one r
    have e : (⟨#[c]⟩ : Str).length = 1 := rfl
    rw [List.map_cons, List.map_cons, List.sum_cons, ih, List.length_cons, e]
    omega
theorem p26 : (0 : Int) < 26 := by decide
theorem p36 : (0 : Int) < 36 := by decide
theorem p12 : (0 : Int) < 12 := by decide
def spNames : Sp := fun vs H Q _ => ∃ (p c : Addr) (ns : List Int) (m : Int), vs = [.ref p, .int m] ∧ Pool ns c H p ∧ 0 ≤ m ∧ m ≤ 25 ∧
  ∀ (l : Addr) (xs : List Str) (H' : Hp), H l = none → H' l = some (.lst (xs.map V.str)) → (xs.length : Int) = m → (∀ x ∈ xs, nameB x = true) → xs.Nodup → Pool ns c H' p → But p H H' → Q (.ref l) H'
end Brk

set_option Elab.async false
set_option linter.all false
set_option maxRecDepth 100000
set_option maxHeartbeats 4000000
/-! Own words: the first refusal that is due. -/
namespace Brk
open PySem PySem.Spec PyProof.Rows L2
/-- what is refused: the error's class, its field, the value; none: nothing -/
abbrev Du := Option (Addr × Str × V)
def duN (CB : Addr) (z : Str) : Du := if nameB z = true then none else some (CB, "name", .str z)
def duI (CN : Addr) (ok : Bool) (n : Int) : Du := if ok = true then none else some (CN, "number", .int n)
def dor : Du → Du → Du
  | none, b => b
  | some x, _ => some x
theorem dor_none {a b : Du} : dor a b = none ↔ a = none ∧ b = none := by
  cases a <;> simp [dor]
/-- a call that is through (ok), or lets the error o out; what stands at p may have been changed -/
def Out (o : Du) (p : Addr) (H : Hp) (E : XK) (ok : Prop) : Prop := (o = none → ok) ∧ ∀ D f v, o = some (D, f, v) → ∀ (H' : Hp) (d : Addr), But p H H' → H' d = some (.xd [(f, v)]) → E (.ref D) (some d) H'
theorem Out.fst {a b : Du} {p : Addr} {H : Hp} {E : XK} {ok ok' : Prop} (h : Out (dor a b) p H E ok) (k : Out b p H E ok → ok') : Out a p H E ok' := by
  refine ⟨fun e => k ?_, fun D f v e => h.2 D f v (by rw [e]; rfl)⟩
  subst e
  exact h
theorem Out.from {o : Du} {p : Addr} {H H1 : Hp} {E : XK} {ok : Prop} (h : Out o p H E ok) (b : But p H H1) : Out o p H1 E ok := ⟨h.1, fun D f v e H' d b' => h.2 D f v e H' d (b.trans b')⟩
theorem Out.imp {o : Du} {p : Addr} {H : Hp} {E : XK} {ok ok' : Prop} (h : Out o p H E ok) (k : ok → ok') : Out o p H E ok' := ⟨fun e => k (h.1 e), h.2⟩
theorem Out.num {CN : Addr} {b : Bool} {n : Int} {p : Addr} {H : Hp} {E : XK} {ok : Prop} (h : Out (duI CN b n) p H E ok) (hb : b = false) : ∀ (H' : Hp) (d : Addr), But p H H' → H' d = some (.xd [("number", .int n)]) → E (.ref CN) (some d) H' := h.2 _ _ _ (by rw [hb]; rfl)
theorem Out.yes {CN : Addr} {b : Bool} {n : Int} {p : Addr} {H : Hp} {E : XK} {ok : Prop} (h : Out (duI CN b n) p H E ok) (hb : b = true) : ok := h.1 (by rw [hb]; rfl)
theorem Out.noname {CB : Addr} {z : Str} {p : Addr} {H : Hp} {E : XK} {ok : Prop} (h : Out (duN CB z) p H E ok) (hb : nameB z = false) : RefN CB z H E := fun H' d s e => h.2 CB "name" (.str z) (by unfold duN; rw [hb]; rfl) H' d (But.of_same s) e
theorem Out.name {CB : Addr} {z : Str} {p : Addr} {H : Hp} {E : XK} {ok : Prop} (h : Out (duN CB z) p H E ok) (hb : nameB z = true) : ok := h.1 (by unfold duN; rw [hb]; rfl)
/-- lo ≤ n ≤ hi -/
def inB (lo n hi : Int) : Bool := decide (lo ≤ n) && decide (n ≤ hi)
theorem inB_t {lo n hi : Int} (a : lo ≤ n) (b : n ≤ hi) : inB lo n hi = true := by unfold inB; rw [decide_eq_true a, decide_eq_true b]; rfl
theorem inB_l {lo n hi : Int} (a : ¬ lo ≤ n) : inB lo n hi = false := by unfold inB; rw [decide_eq_false a]; rfl
theorem inB_r {lo n hi : Int} (b : ¬ n ≤ hi) : inB lo n hi = false := by unfold inB; rw [decide_eq_false b, Bool.and_false]
def dueT (CN : Addr) (d : Int) : Du := duI CN (inB 0 d 8) d
def dueI (CB CN : Addr) (z : Str) (d : Int) : Du := dor (duN CB z) (dueT CN d)
def dueP (CB CN : Addr) (z : Str) (d l t : Int) : Du := dor (dueI CB CN z d) (dor (duI CN (decide (1 ≤ l)) l) (duI CN (inB l t (l + 8)) t))
def dueB (CB CN : Addr) (z : Str) (d n u y : Int) : Du := dor (dueI CB CN z d) (dor (duI CN (inB 1 n 12) n) (dor (duI CN (decide (1 ≤ u)) u) (duI CN (inB 1 y 64) y)))
def spTimedG (K : PySem.W.Frag) (CN : Addr) : Sp := fun vs H Q E => ∃ (p C dx : Addr) (fs : List (Str × V)) (g m : V) (d : Int), vs = [.ref p, g, m, .int d] ∧ H p = some (.ins C dx fs) ∧ Cls K C ∧ NoAttr K C "grid" ∧ NoAttr K C "minute" ∧ NoAttr K C "delay" ∧ fs.length < 100 ∧
  Out (dueT CN d) p H E (∀ H', H' p = some (.ins C dx (putT g m (.int d) fs)) → But p H H' → Q .non H')
def spItemG (K : PySem.W.Frag) (CB CN : Addr) : Sp := fun vs H Q E => ∃ (p C dx : Addr) (fs : List (Str × V)) (z : Str) (g m : V) (d : Int), vs = [.ref p, .str z, g, m, .int d] ∧ H p = some (.ins C dx fs) ∧ ItemC K C ∧ z.length ≤ 1000 ∧ fs.length < 90 ∧
  Out (dueI CB CN z d) p H E (∀ H', H' p = some (.ins C dx (putI z g m (.int d) fs)) → But p H H' → Q .non H')
def putP (z : Str) (g m : V) (l t d : Int) : List (Str × V) := putF "most" (.int t) (putF "least" (.int l) (putI z g m (.int d) []))
def spPieceG (K : PySem.W.Frag) (CB CN : Addr) : Sp := fun vs H Q E => ∃ (p C dx : Addr) (z : Str) (g m : V) (l t d : Int), vs = [.ref p, .str z, g, .int l, .int t, m, .int d] ∧ H p = some (.ins C dx []) ∧ ItemC K C ∧ NoAttr K C "least" ∧ NoAttr K C "most" ∧ z.length ≤ 1000 ∧
  Out (dueP CB CN z d l t) p H E (∀ H', H' p = some (.ins C dx (putP z g m l t d)) → But p H H' → Q .non H')
def putB (z : Str) (g m : V) (n u d y : Int) : List (Str × V) := putF "patience" (.int y) (putF "unit" (.int u) (putF "places" (.int n) (putI z g m (.int d) [])))
def spBreakG (K : PySem.W.Frag) (CB CN : Addr) : Sp := fun vs H Q E => ∃ (p C dx : Addr) (z : Str) (g m : V) (n u d y : Int), vs = [.ref p, .str z, g, m, .int n, .int u, .int d, .int y] ∧ H p = some (.ins C dx []) ∧ ItemC K C ∧ NoAttr K C "places" ∧ NoAttr K C "unit" ∧ NoAttr K C "patience" ∧ z.length ≤ 1000 ∧
  Out (dueB CB CN z d n u y) p H E (∀ H', H' p = some (.ins C dx (putB z g m n u d y)) → But p H H' → Q .non H')
theorem But.made {H H1 : Hp} {a d p : Addr} (nd : H d = none) (b : But p H H1) (e : H1 d = none) {o : HO} : But p H (L2.upd H1 d o) := b.updN nd
/-! ### what a law reckons as due -/
def spEdge : Sp := fun vs H Q _ => ∃ (p c : Addr) (ns : List Int) (lo hi : Int), vs = [.ref p, .int lo, .int hi] ∧ Pool ns c H p ∧ lo ≤ hi ∧ hi - lo < 10 ^ 27 ∧ ∀ (r : Int) (H' : Hp), Pool ns c H' p → But p H H' → Q (.int r) H'
/-- a number, its least and its greatest value (none: no greatest) -/
abbrev QRow := Int × Int × Option Int
def badQ (q : QRow) : Bool := decide (q.1 < q.2.1) || (match q.2.2 with | none => false | some h => decide (q.1 > h))
def fstBad : List QRow → Option Int
  | [] => none
  | q :: r => if badQ q = true then some q.1 else fstBad r
def RowsQ (H : Hp) : List Addr → List QRow → Prop
  | [], [] => True
  | a :: as, q :: qs => H a = some (.tup [.int q.1, .int q.2.1, vOpt q.2.2]) ∧ RowsQ H as qs
  | _, _ => False
theorem RowsQ.same {H H' : Hp} (s : Same H H') : ∀ {as : List Addr} {qs : List QRow}, RowsQ H as qs → RowsQ H' as qs
  | [], [], _ => trivial
  | _ :: _, _ :: _, h => ⟨s _ _ h.1, RowsQ.same s h.2⟩
  | [], _ :: _, h => h.elim
  | _ :: _, [], h => h.elim
theorem RowsQ.len {H : Hp} : ∀ {as : List Addr} {qs : List QRow}, RowsQ H as qs → as.length = qs.length
  | [], [], _ => rfl
  | _ :: _, _ :: _, h => congrArg Nat.succ (RowsQ.len h.2)
  | [], _ :: _, h => h.elim
  | _ :: _, [], h => h.elim
theorem RowsQ.at_ {H : Hp} : ∀ {as : List Addr} {qs : List QRow} {i : Nat} {x : V}, RowsQ H as qs → (as.map V.ref)[i]? = some x → ∃ a q, x = .ref a ∧ qs[i]? = some q ∧ H a = some (.tup [.int q.1, .int q.2.1, vOpt q.2.2])
  | [], _, i, x, _, e => by simp at e
  | a :: as, q :: qs, 0, x, h, e => ⟨a, q, by simpa using e.symm, rfl, h.1⟩
  | a :: as, q :: qs, i + 1, x, h, e => by
    obtain ⟨b, r, e1, e2, e3⟩ := RowsQ.at_ (i := i) h.2 (by simpa using e)
    exact ⟨b, r, e1, by simpa using e2, e3⟩
  | _ :: _, [], _, _, h, _ => h.elim
theorem drop_at {α : Type} {l : List α} {i : Nat} {x : α} (h : l[i]? = some x) : l.drop i = x :: l.drop (i + 1) := by
  obtain ⟨h1, h2⟩ := List.getElem?_eq_some_iff.mp h
  rw [List.drop_eq_getElem_cons h1, h2]
def spDueL : Sp := fun vs H Q _ => ∃ (z : Str) (r : Addr) (as : List Addr) (qs : List QRow), vs = [.str z, .ref r] ∧ z.length ≤ 1000 ∧ H r = some (.lst (as.map V.ref)) ∧ RowsQ H as qs ∧
  (nameB z = false → ∀ t, H t = none → Q (.ref t) (L2.upd H t (.tup [.str "name", .str z]))) ∧
  (nameB z = true → ∀ n, fstBad qs = some n → ∀ t, H t = none → Q (.ref t) (L2.upd H t (.tup [.str "number", .int n]))) ∧ (nameB z = true → fstBad qs = none → Q .non H)
/-- lists of n ints at the addresses -/
def RowsL (H : Hp) (n : Nat) (as : List Addr) : Prop := ∀ a ∈ as, ∃ ys : List Int, H a = some (.lst (ys.map V.int)) ∧ ys.length = n
theorem RowsL.same {H H' : Hp} {n : Nat} {as : List Addr} (h : RowsL H n as) (s : Same H H') : RowsL H' n as := fun a ha => by
  obtain ⟨ys, e, l⟩ := h a ha
  exact ⟨ys, s _ _ e, l⟩
theorem RowsL.off {H H' : Hp} {n : Nat} {as : List Addr} {p : Addr} (h : RowsL H n as) (s : Off p H H') (hp : ∀ a ∈ as, a ≠ p) : RowsL H' n as := fun a ha => by
  obtain ⟨ys, e, l⟩ := h a ha
  exact ⟨ys, (s a (hp a ha)).trans e, l⟩
def spTurned : Sp := fun vs H Q _ => ∃ (r e : Addr) (xs : List Int) (es : List Addr), vs = [.ref r, .ref e] ∧ H r = some (.lst (xs.map V.int)) ∧ H e = some (.lst (es.map V.ref)) ∧ es.length = xs.length ∧ xs.length ≤ 10 ∧
  (∀ a ∈ es, ∃ ys : List Int, H a = some (.lst (ys.map V.int)) ∧ ys.length ≤ 10) ∧
  ∀ (l : Addr) (rows : List Addr) (H' : Hp), Same H H' → H' l = some (.lst (rows.map V.ref)) → RowsL H' xs.length rows → rows.length ≤ 100 → (∀ a ∈ rows, a ≠ l) → Q (.ref l) H'
theorem ix_of {n j : Nat} (h : j < n) : ixN n (j : Int) = some j := by
  have h1 : (0 : Int) ≤ (j : Int) := Int.natCast_nonneg j
  have h2 : (j : Int) < (n : Int) := Int.ofNat_lt.mpr h
  simp [ixN, h1, h2]
/-- the bounds of the numbers of an item: door 0 Timed, 1 Item, 2 Piece, 3 Break -/
def bQ (n a b c e : Int) : List QRow := (a, 0, some 8) :: (if n = 2 then [(b, 1, none), (c, b, some (b + 8))] else if n = 3 then [(b, 1, some 12), (c, 1, none), (e, 1, some 64)] else [])
def spBounds : Sp := fun vs H Q _ => ∃ (n : Int) (l : Addr) (a b c : Int) (rest : List Int), vs = [.int n, .ref l] ∧ H l = some (.lst ((a :: b :: c :: rest).map V.int)) ∧ (n = 3 → ∃ e, rest = [e]) ∧
  ∀ (r : Addr) (as : List Addr) (H' : Hp), Same H H' → H' r = some (.lst (as.map V.ref)) → RowsQ H' as (bQ n a b c (rest.headD 0)) → Q (.ref r) H'
theorem bad_in {lo n hi : Int} : badQ (n, lo, some hi) = !inB lo n hi := by
  unfold badQ inB
  by_cases h1 : lo ≤ n
  · by_cases h2 : n ≤ hi
    · simp [h1, h2]
    · have h3 : hi < n := by omega
      simp [h1, h2, h3]
  · have h3 : n < lo := by omega
    simp [h1, h3]
theorem bad_lo {lo n : Int} : badQ (n, lo, none) = !decide (lo ≤ n) := by
  unfold badQ
  by_cases h1 : lo ≤ n
  · simp [h1]
  · have h3 : n < lo := by omega
    simp [h1, h3]
/-- the first refusal, as the law tells it -/
def toDu (CB CN : Addr) (z : Str) (qs : List QRow) : Du := if nameB z = true then (match fstBad qs with | none => none | some n => some (CN, "number", .int n)) else some (CB, "name", .str z)
def numDu (CN : Addr) (qs : List QRow) : Du := match fstBad qs with | none => none | some n => some (CN, "number", .int n)
theorem numDu_cons {CN : Addr} {q : QRow} {r : List QRow} : numDu CN (q :: r) = dor (duI CN (!badQ q) q.1) (numDu CN r) := by
  unfold numDu duI
  cases h : badQ q <;> simp [fstBad, h, dor]
theorem dor_assoc {a b c : Du} : dor (dor a b) c = dor a (dor b c) := by
  cases a <;> rfl
theorem dor_nil {a : Du} : dor a none = a := by
  cases a <;> rfl
theorem toDu_eq {CB CN : Addr} {z : Str} {qs : List QRow} : toDu CB CN z qs = dor (duN CB z) (numDu CN qs) := by
  unfold toDu duN numDu
  cases nameB z <;> rfl
theorem dueT_eq {CN : Addr} {a b c e : Int} : dueT CN a = numDu CN (bQ 0 a b c e) := by
  show _ = numDu CN [(a, 0, some 8)]
  rw [numDu_cons, bad_in, Bool.not_not]
  exact dor_nil.symm
theorem dueI_eq {CB CN : Addr} {z : Str} {a b c e : Int} : dueI CB CN z a = toDu CB CN z (bQ 1 a b c e) := by
  rw [toDu_eq]
  show _ = dor (duN CB z) (numDu CN [(a, 0, some 8)])
  rw [numDu_cons, bad_in, Bool.not_not]
  show dor (duN CB z) (dueT CN a) = _
  rw [show numDu CN [] = none from rfl, dor_nil]
  rfl
theorem dueP_eq {CB CN : Addr} {z : Str} {a b c e : Int} : dueP CB CN z a b c = toDu CB CN z (bQ 2 a b c e) := by
  rw [toDu_eq]
  show _ = dor (duN CB z) (numDu CN [(a, 0, some 8), (b, 1, none), (c, b, some (b + 8))])
  rw [numDu_cons, numDu_cons, numDu_cons, bad_in, bad_in, bad_lo, Bool.not_not, Bool.not_not, Bool.not_not, show numDu CN [] = none from rfl, dor_nil]
  unfold dueP dueI dueT
  rw [dor_assoc]
theorem dueB_eq {CB CN : Addr} {z : Str} {a b c e : Int} : dueB CB CN z a b c e = toDu CB CN z (bQ 3 a b c e) := by
  rw [toDu_eq]
  show _ = dor (duN CB z) (numDu CN [(a, 0, some 8), (b, 1, some 12), (c, 1, none), (e, 1, some 64)])
  rw [numDu_cons, numDu_cons, numDu_cons, numDu_cons, bad_in, bad_in, bad_in, bad_lo, Bool.not_not, Bool.not_not, Bool.not_not, Bool.not_not, show numDu CN [] = none from rfl, dor_nil]
  unfold dueB dueI dueT
  rw [dor_assoc]
/-! ### keywords in another order -/
def pm {α : Type} (is : List Nat) (ws : List α) : List α := is.filterMap fun i => ws[i]?
theorem Vals.pm {vs : List V} {us : List Value} (r : Vals vs us) : ∀ is : List Nat, Vals (Brk.pm is vs) (Brk.pm is us)
  | [] => .nil
  | i :: is => by
    have ih := Vals.pm r is
    unfold Brk.pm at ih ⊢
    cases h : vs[i]? with
    | none =>
      have l := r.length
      have h2 : us[i]? = none := List.getElem?_eq_none_iff.mpr (by rw [← l]; exact List.getElem?_eq_none_iff.mp h)
      rw [List.filterMap_cons_none h, List.filterMap_cons_none h2]
      exact ih
    | some x =>
      obtain ⟨u, h2, r2⟩ := r.get h
      rw [List.filterMap_cons_some h, List.filterMap_cons_some h2]
      exact .cons r2 ih
def IfP (K : PySem.W.Frag) (C : Addr) (qual : Str) (st : Stmt) (ps : List Str) (n : Nat) (ks : List Str) (is : List Nat) : Prop := ∃ (f : Addr) (fd : FuncData), Mk K C f ∧ Fun K "__init__" qual st f fd ∧ KBn K fd ps n ks (fun us ws => us ++ pm is ws) (fun vs zs => vs ++ pm is zs)
def MkP (P : Program) (w : World) (K : PySem.W.Frag) (mg : Str → Option Value) (base : Heap) (CX : CXT) (k : Nat) (x : Str) (C : Addr) (ps : List Str) (n : Nat) (ks : List Str) (is : List Nat) (sp : Sp) : Prop :=
  ∃ (f : Addr) (fd : FuncData), mg x = some (.ref C) ∧ Mk K C f ∧ KBn K fd ps n ks (fun us ws => us ++ pm is ws) (fun vs zs => vs ++ pm is zs) ∧ FnOk P w K mg base CX k f fd ps sp
section
variable {X : Cx} {CX : CXT} {k n : Nat} {ps ks : List Str} {is : List Nat} {sp : Sp} {E : XK} {x : Str} {C : Addr} {p pos : Pos} {e : Expr} {es : List Expr} {kws : List Keyword} {t tk : TA}
theorem pe_mkP (M : MkP X.prog X.w X.K X.mg X.base CX k x C ps (n + 1) ks is sp) (hr : Room (k + 1) X.A) (hx : Passes CX X E) (hg : Gl X x) (ha : PA X (e :: es) t) (hkw : PK X kws tk)
    (hall : (backToKw pos (keywordEach kws X.env)).all (·.1.isSome) = true := by rfl) (hks : (backToKw pos (keywordEach kws X.env)).filterMap (·.1) = ks := by rfl)
    (hdb : (x == ("__debug__" : Str)) = false := by decide) (he : starEach (e :: es) X.env = (false, eval e X.env) :: starEach es X.env := by rfl)
    (hpl : ((backTo pos (starEach (e :: es) X.env)).any (·.1) || (backToKw pos (keywordEach kws X.env)).any (·.1.isNone)) = false := by rfl) :
    PE X (.Call (.Name x p) (e :: es) kws pos) (tMakeN C n ks.length sp (fun vs zs => vs ++ pm is zs) E t tk) := by
  obtain ⟨f, fd, hm, M, hb, F⟩ := M
  exact pe_makeN M F hr hg hm hb hx ha hkw hall hks hdb he hpl
end
/-! ### an item made, or the first refusal -/
def OutS (o : Du) (H : Hp) (E : XK) (ok : Prop) : Prop := (o = none → ok) ∧ ∀ D f v, o = some (D, f, v) → ∀ (H' : Hp) (d : Addr), Same H H' → H' d = some (.xd [(f, v)]) → E (.ref D) (some d) H'
theorem OutS.to {o : Du} {H : Hp} {E : XK} {ok ok' : Prop} {x dx C : Addr} (h : OutS o H E ok) (nx : H x = none) (nd : H dx = none) (k : ok → ok') : Out o x (L2.upd (L2.upd H dx (.own x)) x (.ins C dx [])) E ok' :=
  ⟨fun e => k (h.1 e), fun D f v e H' d b e2 => h.2 D f v e H' d (Same.inst nx nd b) e2⟩
/-- the refusal that is due at a door -/
def dueD (CB CN : Addr) (z : Str) (n a b c e : Int) : Du := if n = 0 then numDu CN (bQ 0 a b c e) else toDu CB CN z (bQ n a b c e)
structure TmC (K : PySem.W.Frag) (C CT : Addr) : Prop where
  c : Cls K C
  o : OwnI K C
  k : PySem.W.kitOne K (.ref C) (.ref CT) = some true
def spMade9 (K : PySem.W.Frag) (CB CN CT CK : Addr) : Sp := fun vs H Q E => ∃ (n : Int) (z : Str) (g m : V) (l : Addr) (a b c : Int) (rest : List Int), vs = [.int n, .str z, g, m, .ref l] ∧ 0 ≤ n ∧ n ≤ 3 ∧ z.length ≤ 1000 ∧ H l = some (.lst ((a :: b :: c :: rest).map V.int)) ∧ (n = 3 → ∃ e, rest = [e]) ∧
  OutS (dueD CB CN z n a b c (rest.headD 0)) H E (∀ x H', Same H H' → ((n ≤ 2 ∧ ∃ C dx fs, H' x = some (.ins C dx fs) ∧ TmC K C CT) ∨ (n = 3 ∧ ∃ dx, H' x = some (.ins CK dx (putB z g m b c a (rest.headD 0))))) → Q (.ref x) H')
def spRefd (CB CN : Addr) : Sp := fun vs H Q _ => ∃ (ex t D d : Addr) (f : Str) (v : V), vs = [.ref ex, .ref t] ∧ H ex = some (ExH (.ref D) (some d) ex) ∧ H d = some (.xd [(f, v)]) ∧ H t = some (.tup [.str f, v]) ∧
  ((D = CB ∧ f = "name" ∧ ∃ z, v = .str z) ∨ (D = CN ∧ f = "number" ∧ ∃ n, v = .int n)) ∧ ∀ H', Same H H' → Q (.bl true) H'
/-! ### properties -/
def Pf (K : PySem.W.Frag) (C : Addr) (f qual : Str) (st : Stmt) : Prop := ∃ (p g : Addr) (fd : FuncData), PropOf K C f p g ∧ Fun K f qual st g fd ∧ Binds K fd ["self"] []
def Pe (P : Program) (w : World) (K : PySem.W.Frag) (mg : Str → Option Value) (base : Heap) (CX : CXT) (k : Nat) (C : Addr) (f : Str) (sp : Sp) : Prop := ∃ (p g : Addr) (fd : FuncData), PropOf K C f p g ∧ Binds K fd ["self"] [] ∧ FnOk P w K mg base CX k g fd ["self"] sp
theorem pe_pr {X : Cx} {CX : CXT} {k : Nat} {C : Addr} {f : Str} {sp : Sp} {E : XK} {e : Expr} {pos : Pos} {ta : TE} (M : Pe X.prog X.w X.K X.mg X.base CX k C f sp) (c : Cls X.K C) (hr : Room (k + 1) X.A) (hx : Passes CX X.nox E) (he : PE X e ta)
    (hab : attributeBase e f X.env (eval e X.env) = eval e X.env := by rfl) : PE X (.Attribute e f pos) (tProp C sp [] E ta) := by
  obtain ⟨p, g, fd, hp, hb, F⟩ := M
  exact pe_prop he c hp F hr hb .nil hx hab
def spLength (C : Addr) : Sp := fun vs H Q _ => ∃ (a dx : Addr) (fs : List (Str × V)) (n u : Int), vs = [.ref a] ∧ H a = some (.ins C dx fs) ∧ fs.lookup ("places" : Str) = some (.int n) ∧ fs.lookup ("unit" : Str) = some (.int u) ∧ 1 ≤ n ∧ n ≤ 12 ∧ Q (.int (n * u)) H
def spLimit (C CG : Addr) : Sp := fun vs H Q _ => ∃ (a dx g : Addr) (fs : List (Str × V)) (y pt s o : Int), vs = [.ref a] ∧ H a = some (.ins C dx fs) ∧ fs.lookup ("grid" : Str) = some (.ref g) ∧ fs.lookup ("minute" : Str) = some (.int y) ∧ fs.lookup ("patience" : Str) = some (.int pt) ∧
  GridAt CG H g s o ∧ 1 ≤ pt ∧ pt ≤ 64 ∧ Q (.int (barOf s o y + (pt - 1) * s)) H
theorem putB_grid {z : Str} {g m : V} {n u d y : Int} : (putB z g m n u d y).lookup ("grid" : Str) = some g := by
  unfold putB putI
  rw [look_ne (by decide +kernel), look_ne (by decide +kernel), look_ne (by decide +kernel), putT_grid]
theorem putB_min {z : Str} {g m : V} {n u d y : Int} : (putB z g m n u d y).lookup ("minute" : Str) = some m := by
  unfold putB putI
  rw [look_ne (by decide +kernel), look_ne (by decide +kernel), look_ne (by decide +kernel), putT_min]
theorem putB_pat {z : Str} {g m : V} {n u d y : Int} : (putB z g m n u d y).lookup ("patience" : Str) = some (.int y) := by
  unfold putB
  rw [look_put]
theorem putB_unit {z : Str} {g m : V} {n u d y : Int} : (putB z g m n u d y).lookup ("unit" : Str) = some (.int u) := by
  unfold putB
  rw [look_ne (by decide +kernel), look_put]
theorem putB_places {z : Str} {g m : V} {n u d y : Int} : (putB z g m n u d y).lookup ("places" : Str) = some (.int n) := by
  unfold putB
  rw [look_ne (by decide +kernel), look_ne (by decide +kernel), look_put]
theorem numDu_some {CN D : Addr} {f : Str} {v : V} {qs : List QRow} (h : numDu CN qs = some (D, f, v)) : D = CN ∧ f = "number" ∧ ∃ n, v = .int n ∧ fstBad qs = some n := by
  unfold numDu at h
  cases e : fstBad qs with
  | none => rw [e] at h; cases h
  | some n =>
    rw [e] at h
    cases h
    exact ⟨rfl, rfl, n, rfl, rfl⟩
theorem toDu_some {CB CN D : Addr} {z f : Str} {v : V} {qs : List QRow} (h : toDu CB CN z qs = some (D, f, v)) : (D = CB ∧ f = "name" ∧ v = .str z ∧ nameB z = false) ∨ (D = CN ∧ f = "number" ∧ (∃ n, v = .int n ∧ fstBad qs = some n) ∧ nameB z = true) := by
  unfold toDu at h
  cases hz : nameB z with
  | false =>
    rw [hz] at h
    cases h
    exact .inl ⟨rfl, rfl, rfl, rfl⟩
  | true =>
    rw [hz, if_pos rfl] at h
    obtain ⟨a, b, c⟩ := numDu_some (CN := CN) h
    exact .inr ⟨a, b, c, rfl⟩
theorem dueD_some {CB CN D : Addr} {z f : Str} {v : V} {n a b c e : Int} (h : dueD CB CN z n a b c e = some (D, f, v)) : (D = CB ∧ f = "name" ∧ ∃ z, v = .str z) ∨ (D = CN ∧ f = "number" ∧ ∃ n, v = .int n) := by
  unfold dueD at h
  split at h
  · obtain ⟨x, y, n, q, _⟩ := numDu_some h
    exact .inr ⟨x, y, n, q⟩
  · rcases toDu_some h with ⟨x, y, q, _⟩ | ⟨x, y, ⟨n, q, _⟩, _⟩
    · exact .inl ⟨x, y, _, q⟩
    · exact .inr ⟨x, y, n, q⟩
/-- what the law reckons, as a value -/
def DueV (o : Du) (H : Hp) (dv : V) : Prop := (o = none ∧ dv = .non) ∨ ∃ D f v t, o = some (D, f, v) ∧ dv = .ref t ∧ H t = some (.tup [.str f, v])
theorem DueV.same {o : Du} {H H' : Hp} {dv : V} (h : DueV o H dv) (s : Same H H') : DueV o H' dv := by
  rcases h with h | ⟨D, f, v, t, a, b, c⟩
  · exact .inl h
  · exact .inr ⟨D, f, v, t, a, b, s _ _ c⟩
def spAsked9 : Sp := fun vs H Q _ => ∃ (n : Int) (z : Str) (gr l : Addr) (st off y a b c : Int) (rest : List Int), vs = [.int n, .str z, .ref gr, .int y, .ref l] ∧ 0 ≤ n ∧ n ≤ 3 ∧ z.length ≤ 1000 ∧ H gr = some (.tup [.int st, .int off]) ∧ 1 ≤ st ∧ H l = some (.lst ((a :: b :: c :: rest).map V.int)) ∧ (n = 3 → ∃ e, rest = [e]) ∧
  ∀ H', Same H H' → Q (.bl true) H'
theorem bQ_good {a b c e : Int} (h : fstBad (bQ 3 a b c e) = none) : (1 ≤ b ∧ b ≤ 12) ∧ 1 ≤ c ∧ 1 ≤ e ∧ e ≤ 64 := by
  have h' : fstBad [(a, 0, some 8), (b, 1, some 12), (c, 1, none), (e, 1, some 64)] = none := h
  simp only [fstBad, bad_in, bad_lo] at h'
  unfold inB at h'
  by_cases h1 : 1 ≤ b <;> by_cases h2 : b ≤ 12 <;> by_cases h3 : 1 ≤ c <;> by_cases h4 : 1 ≤ e <;> by_cases h5 : e ≤ 64 <;> by_cases h6 : 0 ≤ a <;> by_cases h7 : a ≤ 8 <;> simp [h1, h2, h3, h4, h5, h6, h7] at h' ⊢
/-- what stands behind the try -/
def TryV (K : PySem.W.Frag) (CT CK : Addr) (n : Int) (z : Str) (g m : V) (a b c e : Int) (o : Du) (H : Hp) (fv vv : V) : Prop :=
  (o = none ∧ fv = .non ∧ ∃ x, vv = .ref x ∧ ((n ≤ 2 ∧ ∃ C dx fs, H x = some (.ins C dx fs) ∧ TmC K C CT) ∨ (n = 3 ∧ ∃ dx, H x = some (.ins CK dx (putB z g m b c a e))))) ∨
  ∃ D f v ex d, o = some (D, f, v) ∧ fv = .ref ex ∧ H ex = some (ExH (.ref D) (some d) ex) ∧ H d = some (.xd [(f, v)])
theorem TryV.same {K : PySem.W.Frag} {CT CK : Addr} {n : Int} {z : Str} {g m : V} {a b c e : Int} {o : Du} {H H' : Hp} {fv vv : V} (h : TryV K CT CK n z g m a b c e o H fv vv) (s : Same H H') : TryV K CT CK n z g m a b c e o H' fv vv := by
  rcases h with ⟨h1, h2, x, h3, h⟩ | ⟨D, f, v, ex, d, h1, h2, h3, h4⟩
  · refine .inl ⟨h1, h2, x, h3, ?_⟩
    rcases h with ⟨q, C, dx, fs, e, t⟩ | ⟨q, dx, e⟩
    · exact .inl ⟨q, C, dx, fs, s _ _ e, t⟩
    · exact .inr ⟨q, dx, s _ _ e⟩
  · exact .inr ⟨D, f, v, ex, d, h1, h2, s _ _ h3, s _ _ h4⟩
theorem toDu_f {CB CN : Addr} {z : Str} {qs : List QRow} (h : nameB z = false) : toDu CB CN z qs = (some (CB, "name", .str z) : Du) := by unfold toDu; rw [h]; rfl
theorem toDu_n {CB CN : Addr} {z : Str} {qs : List QRow} {m : Int} (h : nameB z = true) (h2 : fstBad qs = some m) : toDu CB CN z qs = (some (CN, "number", .int m) : Du) := by unfold toDu; rw [h, h2]; rfl
theorem toDu_0 {CB CN : Addr} {z : Str} {qs : List QRow} (h : nameB z = true) (h2 : fstBad qs = none) : toDu CB CN z qs = none := by unfold toDu; rw [h, h2]; rfl
theorem name_le {z : Str} (h : nameB z = true) : z.length ≤ 12 := by
  by_cases q : 1 ≤ z.cps.size ∧ z.cps.size ≤ 12
  · exact q.2
  · rw [name_len q] at h
    cases h
theorem rowsL_one {H : Hp} {n : Nat} {a : Addr} {ys : List Int} (e : H a = some (.lst (ys.map V.int))) (l : ys.length = n) : ∃ ys : List Int, H a = some (.lst (ys.map V.int)) ∧ ys.length = n := ⟨ys, e, l⟩
/-- what the drawing of k09 leaves -/
structure Drawn9 (H : Hp) (gr r mx lg : Addr) (st off : Int) : Prop where
  g : H gr = some (.tup [.int st, .int off])
  r : ∃ ys : List Int, H r = some (.lst (ys.map V.int)) ∧ ys.length = 4
  m : ∃ ys : List Int, H mx = some (.lst (ys.map V.int)) ∧ ys.length = 4
  l : ∃ ys : List Int, H lg = some (.lst (ys.map V.int)) ∧ ys.length = 3
theorem Drawn9.same {H H' : Hp} {gr r mx lg : Addr} {st off : Int} (h : Drawn9 H gr r mx lg st off) (s : Same H H') : Drawn9 H' gr r mx lg st off := by
  obtain ⟨a, ⟨y1, b, b2⟩, ⟨y2, c, c2⟩, ⟨y3, d, d2⟩⟩ := h
  exact ⟨s _ _ a, ⟨y1, s _ _ b, b2⟩, ⟨y2, s _ _ c, c2⟩, ⟨y3, s _ _ d, d2⟩⟩
theorem ref_int {H : Hp} {as : List Addr} {i : Nat} {x : V} (h : (as.map V.ref)[i]? = some x) : ∃ a, a ∈ as ∧ x = .ref a := by
  rw [List.getElem?_map] at h
  cases e : as[i]? with
  | none => rw [e] at h; cases h
  | some a => rw [e] at h; exact ⟨a, List.mem_of_getElem? e, (Option.some.inj h).symm⟩
theorem three_of {ys : List Int} (h : ys.length = 3) : ∃ a b c, ys = a :: b :: c :: [] := by
  match ys, h with
  | [a, b, c], _ => exact ⟨a, b, c, rfl⟩
theorem four_of {ys : List Int} (h : ys.length = 4) : ∃ a b c d, ys = a :: b :: c :: [d] := by
  match ys, h with
  | [a, b, c, d], _ => exact ⟨a, b, c, d, rfl⟩
end Brk

set_option Elab.async false
set_option linter.all false
set_option maxRecDepth 100000
set_option maxHeartbeats 4000000
namespace Brk.K09
open PySem L2 Brk
def top (i : Nat) : Stmt := PySem.Challenge.pw_barbreaks_k09_break_limits.main.body.getD i (.Pass ⟨0, 0, 0, 0⟩)
abbrev s_is_name : Stmt := top 16
theorem sc_is_name : FnScope ["text", "sign"] ["text"] (defScope s_is_name) := ⟨rfl, rfl, rfl, by decide +kernel, rfl, by decide +kernel, by decide +kernel⟩
abbrev s_BadName_init : Stmt := inClass (top 3) 0
theorem sc_BadName_init : FnScope ["self", "name"] ["self", "name"] (defScope s_BadName_init) := ⟨rfl, rfl, rfl, by decide +kernel, rfl, by decide +kernel, by decide +kernel⟩
abbrev s_BadNumber_init : Stmt := inClass (top 4) 0
theorem sc_BadNumber_init : FnScope ["self", "number"] ["self", "number"] (defScope s_BadNumber_init) := ⟨rfl, rfl, rfl, by decide +kernel, rfl, by decide +kernel, by decide +kernel⟩
abbrev s_l_take : Stmt := top 31
theorem sc_l_take : FnScope ["_law_pool_here", "_law_size_here", "_law_cells", "_law_mixed", "_law_cell", "_law_digit"] ["_law_pool_here", "_law_size_here"] (defScope s_l_take) := ⟨rfl, rfl, rfl, by decide +kernel, rfl, by decide +kernel, by decide +kernel⟩
abbrev s_l_big : Stmt := top 32
theorem sc_l_big : FnScope ["_law_pool_here", "_law_value", "_law_k"] ["_law_pool_here"] (defScope s_l_big) := ⟨rfl, rfl, rfl, by decide +kernel, rfl, by decide +kernel, by decide +kernel⟩
abbrev s_l_pool : Stmt := top 30
theorem sc_l_pool : FnScope ["_law_script", "_law_seed", "_law_cell"] ["_law_script"] (defScope s_l_pool) := ⟨rfl, rfl, rfl, by decide +kernel, rfl, by decide +kernel, by decide +kernel⟩
abbrev s_l_is_int : Stmt := top 29
theorem sc_l_is_int : FnScope ["_law_x"] ["_law_x"] (defScope s_l_is_int) := ⟨rfl, rfl, rfl, by decide +kernel, rfl, by decide +kernel, by decide +kernel⟩
abbrev s_l_free : Stmt := top 34
theorem sc_l_free : FnScope ["_law_pool_here", "_law_value", "_law_way"] ["_law_pool_here"] (defScope s_l_free) := ⟨rfl, rfl, rfl, by decide +kernel, rfl, by decide +kernel, by decide +kernel⟩
abbrev s_l_step : Stmt := top 35
theorem sc_l_step : FnScope ["_law_pool_here", "_law_way"] ["_law_pool_here"] (defScope s_l_step) := ⟨rfl, rfl, rfl, by decide +kernel, rfl, by decide +kernel, by decide +kernel⟩
abbrev s_l_shift : Stmt := top 36
theorem sc_l_shift : FnScope ["_law_pool_here", "_law_step_here", "_law_way"] ["_law_pool_here", "_law_step_here"] (defScope s_l_shift) := ⟨rfl, rfl, rfl, by decide +kernel, rfl, by decide +kernel, by decide +kernel⟩
abbrev s_l_size : Stmt := top 37
theorem sc_l_size : FnScope ["_law_pool_here", "_law_size_here"] ["_law_pool_here"] (defScope s_l_size) := ⟨rfl, rfl, rfl, by decide +kernel, rfl, by decide +kernel, by decide +kernel⟩
abbrev s_l_edge : Stmt := top 38
theorem sc_l_edge : FnScope ["_law_pool_here", "_law_low", "_law_high", "_law_way", "_law_far"] ["_law_pool_here", "_law_low", "_law_high"] (defScope s_l_edge) := ⟨rfl, rfl, rfl, by decide +kernel, rfl, by decide +kernel, by decide +kernel⟩
abbrev s_l_turned : Stmt := top 45
theorem sc_l_turned : FnScope ["_law_right", "_law_edges", "_law_rows", "_law_k", "_law_number", "_law_row"] ["_law_right", "_law_edges"] (defScope s_l_turned) := ⟨rfl, rfl, rfl, by decide +kernel, rfl, by decide +kernel, by decide +kernel⟩
abbrev s_l_names : Stmt := top 33
theorem sc_l_names : FnScope ["_law_pool_here", "_law_many", "_law_letters", "_law_signs", "_law_alike", "_law_size_here", "_law_at", "_law_turn", "_law_names_here", "_law_k", "_law_text", "_law_word", "_law_t", "_law_j"] ["_law_pool_here", "_law_many"] (defScope s_l_names) := ⟨rfl, rfl, rfl, by decide +kernel, rfl, by decide +kernel, by decide +kernel⟩
abbrev s_Grid_first_bar : Stmt := inClass (top 27) 2
theorem sc_Grid_first_bar : FnScope ["self", "tick"] ["self", "tick"] (defScope s_Grid_first_bar) := ⟨rfl, rfl, rfl, by decide +kernel, rfl, by decide +kernel, by decide +kernel⟩
abbrev s_Grid_init : Stmt := inClass (top 27) 0
theorem sc_Grid_init : FnScope ["self", "step", "offset"] ["self", "step", "offset"] (defScope s_Grid_init) := ⟨rfl, rfl, rfl, by decide +kernel, rfl, by decide +kernel, by decide +kernel⟩
abbrev s_Named_init : Stmt := inClass (top 20) 0
theorem sc_Named_init : FnScope ["self", "name"] ["self", "name"] (defScope s_Named_init) := ⟨rfl, rfl, rfl, by decide +kernel, rfl, by decide +kernel, by decide +kernel⟩
abbrev s_Timed_init : Stmt := inClass (top 21) 1
theorem sc_Timed_init : FnScope ["self", "grid", "minute", "delay"] ["self", "grid", "minute", "delay"] (defScope s_Timed_init) := ⟨rfl, rfl, rfl, by decide +kernel, rfl, by decide +kernel, by decide +kernel⟩
abbrev s_Item_init : Stmt := inClass (top 22) 0
theorem sc_Item_init : FnScope ["self", "name", "grid", "minute", "delay"] ["self", "name", "grid", "minute", "delay"] (defScope s_Item_init) := ⟨rfl, rfl, rfl, by decide +kernel, rfl, by decide +kernel, by decide +kernel⟩
abbrev s_Piece_init : Stmt := inClass (top 23) 1
theorem sc_Piece_init : FnScope ["self", "name", "grid", "least", "most", "minute", "delay"] ["self", "name", "grid", "least", "most", "minute", "delay"] (defScope s_Piece_init) := ⟨rfl, rfl, rfl, by decide +kernel, rfl, by decide +kernel, by decide +kernel⟩
abbrev s_Break_init : Stmt := inClass (top 24) 2
theorem sc_Break_init : FnScope ["self", "name", "grid", "minute", "places", "unit", "delay", "patience"] ["self", "name", "grid", "minute", "places", "unit", "delay", "patience"] (defScope s_Break_init) := ⟨rfl, rfl, rfl, by decide +kernel, rfl, by decide +kernel, by decide +kernel⟩
abbrev s_Break_length : Stmt := inClass (top 24) 3
theorem sc_Break_length : FnScope ["self"] ["self"] (defScope s_Break_length) := ⟨rfl, rfl, rfl, by decide +kernel, rfl, by decide +kernel, by decide +kernel⟩
abbrev s_Break_limit : Stmt := inClass (top 24) 4
theorem sc_Break_limit : FnScope ["self"] ["self"] (defScope s_Break_limit) := ⟨rfl, rfl, rfl, by decide +kernel, rfl, by decide +kernel, by decide +kernel⟩
abbrev s_l_name : Stmt := top 39
theorem sc_l_name : FnScope ["_law_text", "_law_letters", "_law_k"] ["_law_text"] (defScope s_l_name) := ⟨rfl, rfl, rfl, by decide +kernel, rfl, by decide +kernel, by decide +kernel⟩
abbrev s_l_due : Stmt := top 40
theorem sc_l_due : FnScope ["_law_text", "_law_rows", "_law_number", "_law_low", "_law_high"] ["_law_text", "_law_rows"] (defScope s_l_due) := ⟨rfl, rfl, rfl, by decide +kernel, rfl, by decide +kernel, by decide +kernel⟩
abbrev s_l_bounds : Stmt := top 42
theorem sc_l_bounds : FnScope ["_law_door", "_law_numbers", "_law_rows"] ["_law_door", "_law_numbers"] (defScope s_l_bounds) := ⟨rfl, rfl, rfl, by decide +kernel, rfl, by decide +kernel, by decide +kernel⟩
abbrev s_l_made : Stmt := top 41
theorem sc_l_made : FnScope ["_law_door", "_law_text", "_law_bars", "_law_clock", "_law_numbers"] ["_law_door", "_law_text", "_law_bars", "_law_clock", "_law_numbers"] (defScope s_l_made) := ⟨rfl, rfl, rfl, by decide +kernel, rfl, by decide +kernel, by decide +kernel⟩
abbrev s_l_refused : Stmt := top 43
theorem sc_l_refused : FnScope ["_law_found", "_law_due_here"] ["_law_found", "_law_due_here"] (defScope s_l_refused) := ⟨rfl, rfl, rfl, by decide +kernel, rfl, by decide +kernel, by decide +kernel⟩
abbrev s_l_asked : Stmt := top 44
theorem sc_l_asked : FnScope ["_law_door", "_law_text", "_law_grid_row", "_law_clock", "_law_numbers", "_law_bars", "_law_found", "_law_made_here", "e", "_law_due_here", "_law_first"] ["_law_door", "_law_text", "_law_grid_row", "_law_clock", "_law_numbers"] (defScope s_l_asked) := ⟨rfl, rfl, rfl, by decide +kernel, rfl, by decide +kernel, by decide +kernel⟩
abbrev s_law : Stmt := top 46
theorem sc_law : FnScope ["_law_script", "_law_pool_here", "_law_text", "_law_wrong", "_law_step_here", "_law_grid_row", "_law_clock", "_law_late", "_law_right", "_law_low", "_law_high", "_law_mixed", "_law_lags", "_law_slots", "_law_pieces", "_law_one", "_law_numbers", "_law_door"] ["_law_script"] (defScope s_law) := ⟨rfl, rfl, rfl, by decide +kernel, rfl, by decide +kernel, by decide +kernel⟩
structure Txt (K : PySem.W.Frag) (mg : Str → Option Value) (C_BadName : Addr) (C_BarbreaksError : Addr) (C_BadNumber : Addr) (C_Grid : Addr) (C_Named : Addr) (C_Timed : Addr) (C_Item : Addr) (C_Piece : Addr) (C_Break : Addr) (C_BadSpan : Addr) (C_BadText : Addr) (C_Refused : Addr) (C_TooMany : Addr) (C_Twice : Addr) : Prop where
  is_name : Df K mg "is_name" s_is_name ["text"]
  b_len : mg "len" = none
  b_all : mg "all" = none
  v_MOST_SIGNS : ∃ u, mg "MOST_SIGNS" = some u ∧ RelV (.int 12) u
  v_LETTERS : ∃ u, mg "LETTERS" = some u ∧ RelV (.str "abcdefghijklmnopqrstuvwxyz") u
  v_DIGITS : ∃ u, mg "DIGITS" = some u ∧ RelV (.str "0123456789") u
  er_BadName : ErF K mg "BadName" C_BadName "BadName.__init__" s_BadName_init ["self", "name"]
  g_BadName : mg "BadName" = some (.ref C_BadName)
  xn_BadName_name : PySem.W.findIn K (.ref C_BadName) "name" = some none
  er_BadNumber : ErF K mg "BadNumber" C_BadNumber "BadNumber.__init__" s_BadNumber_init ["self", "number"]
  g_BadNumber : mg "BadNumber" = some (.ref C_BadNumber)
  xn_BadNumber_number : PySem.W.findIn K (.ref C_BadNumber) "number" = some none
  l_take : Df K mg "_law_take" s_l_take ["_law_pool_here", "_law_size_here"]
  b_int : mg "int" = none
  l_big : Df K mg "_law_big" s_l_big ["_law_pool_here"]
  b_range : mg "range" = none
  l_pool : Df K mg "_law_pool" s_l_pool ["_law_script"]
  b_list : mg "list" = none
  l_is_int : Df K mg "_law_is_int" s_l_is_int ["_law_x"]
  b_isinstance : mg "isinstance" = none
  b_bool : mg "bool" = none
  l_free : Df K mg "_law_free" s_l_free ["_law_pool_here"]
  l_step : Df K mg "_law_step" s_l_step ["_law_pool_here"]
  l_shift : Df K mg "_law_shift" s_l_shift ["_law_pool_here", "_law_step_here"]
  l_size : Df K mg "_law_size" s_l_size ["_law_pool_here"]
  l_edge : Df K mg "_law_edge" s_l_edge ["_law_pool_here", "_law_low", "_law_high"]
  l_turned : Df K mg "_law_turned" s_l_turned ["_law_right", "_law_edges"]
  l_names : Df K mg "_law_names" s_l_names ["_law_pool_here", "_law_many"]
  g_Grid : mg "Grid" = some (.ref C_Grid)
  c_Grid : Cls K C_Grid
  n_Grid_step : NoAttr K C_Grid "step"
  n_Grid_offset : NoAttr K C_Grid "offset"
  m_Grid_first_bar : Mf K C_Grid "first_bar" "Grid.first_bar" s_Grid_first_bar ["self", "tick"]
  i3_Grid : IfD K C_Grid "Grid.__init__" s_Grid_init ["self", "step", "offset"] [.int 0] 1
  g_Named : mg "Named" = some (.ref C_Named)
  c_Named : Cls K C_Named
  q_Named_init : Sf K C_Named "__init__" "Named.__init__" s_Named_init ["self", "name"]
  i_Named : If0 K C_Named "Named.__init__" s_Named_init ["self", "name"]
  g_Timed : mg "Timed" = some (.ref C_Timed)
  c_Timed : Cls K C_Timed
  k_Timed_MOST_DELAY : Kc K C_Timed "MOST_DELAY" (.int 8)
  q4_Timed : SfD K C_Timed "Timed.__init__" s_Timed_init ["self", "grid", "minute", "delay"] [.non, .int 0] 2
  i4_Timed : IfD K C_Timed "Timed.__init__" s_Timed_init ["self", "grid", "minute", "delay"] [.non, .int 0] 2
  g_Item : mg "Item" = some (.ref C_Item)
  c_Item : Cls K C_Item
  q_Item_init : SfK K C_Item "__init__" "Item.__init__" s_Item_init ["self", "name", "grid", "minute", "delay"] 2 ["grid", "minute", "delay"]
  g_Piece : mg "Piece" = some (.ref C_Piece)
  c_Piece : Cls K C_Piece
  k_Piece_MOST_SPREAD : Kc K C_Piece "MOST_SPREAD" (.int 8)
  g_Break : mg "Break" = some (.ref C_Break)
  c_Break : Cls K C_Break
  k_Break_MOST_PLACES : Kc K C_Break "MOST_PLACES" (.int 12)
  k_Break_MOST_PATIENCE : Kc K C_Break "MOST_PATIENCE" (.int 64)
  n_Break_places : NoAttr K C_Break "places"
  n_Break_unit : NoAttr K C_Break "unit"
  pr_Break_length : Pf K C_Break "length" "Break.length" s_Break_length
  n_Break_grid : NoAttr K C_Break "grid"
  n_Break_minute : NoAttr K C_Break "minute"
  n_Break_patience : NoAttr K C_Break "patience"
  pr_Break_limit : Pf K C_Break "limit" "Break.limit" s_Break_limit
  l_name : Df K mg "_law_name" s_l_name ["_law_text"]
  l_due : Df K mg "_law_due" s_l_due ["_law_text", "_law_rows"]
  l_bounds : Df K mg "_law_bounds" s_l_bounds ["_law_door", "_law_numbers"]
  l_made : Df K mg "_law_made" s_l_made ["_law_door", "_law_text", "_law_bars", "_law_clock", "_law_numbers"]
  n_Item_name : NoAttr K C_Item "name"
  n_Item_grid : NoAttr K C_Item "grid"
  n_Item_minute : NoAttr K C_Item "minute"
  n_Item_delay : NoAttr K C_Item "delay"
  n_Piece_name : NoAttr K C_Piece "name"
  n_Piece_grid : NoAttr K C_Piece "grid"
  n_Piece_minute : NoAttr K C_Piece "minute"
  n_Piece_delay : NoAttr K C_Piece "delay"
  n_Break_name : NoAttr K C_Break "name"
  n_Break_delay : NoAttr K C_Break "delay"
  n_Timed_grid : NoAttr K C_Timed "grid"
  n_Timed_minute : NoAttr K C_Timed "minute"
  n_Timed_delay : NoAttr K C_Timed "delay"
  n_Piece_least : NoAttr K C_Piece "least"
  n_Piece_most : NoAttr K C_Piece "most"
  o_Timed : OwnI K C_Timed
  o_Item : OwnI K C_Item
  o_Piece : OwnI K C_Piece
  o_Break : OwnI K C_Break
  ko_Timed_Timed : PySem.W.kitOne K (.ref C_Timed) (.ref C_Timed) = some true
  ko_Item_Timed : PySem.W.kitOne K (.ref C_Item) (.ref C_Timed) = some true
  ko_Piece_Timed : PySem.W.kitOne K (.ref C_Piece) (.ref C_Timed) = some true
  ko_Break_Timed : PySem.W.kitOne K (.ref C_Break) (.ref C_Timed) = some true
  i_Item : IfK K C_Item "Item.__init__" s_Item_init ["self", "name", "grid", "minute", "delay"] 2 ["grid", "minute", "delay"]
  p_Piece : IfP K C_Piece "Piece.__init__" s_Piece_init ["self", "name", "grid", "least", "most", "minute", "delay"] 2 ["grid", "minute", "delay", "least", "most"] [0, 3, 4, 1, 2]
  p_Break : IfP K C_Break "Break.__init__" s_Break_init ["self", "name", "grid", "minute", "places", "unit", "delay", "patience"] 2 ["grid", "minute", "delay", "places", "unit", "patience"] [0, 1, 3, 4, 2, 5]
  l_refused : Df K mg "_law_refused" s_l_refused ["_law_found", "_law_due_here"]
  b_str : mg "str" = none
  b_ValueError : mg "ValueError" = none
  g_BarbreaksError : mg "BarbreaksError" = some (.ref C_BarbreaksError)
  ec_BadName : ExcC K C_BadName
  ec_BadNumber : ExcC K C_BadNumber
  g_BadSpan : mg "BadSpan" = some (.ref C_BadSpan)
  g_BadText : mg "BadText" = some (.ref C_BadText)
  g_Refused : mg "Refused" = some (.ref C_Refused)
  g_TooMany : mg "TooMany" = some (.ref C_TooMany)
  g_Twice : mg "Twice" = some (.ref C_Twice)
  ko_BadName_BadSpan : PySem.W.kitOne K (.ref C_BadName) (.ref C_BadSpan) = some false
  ko_BadName_BadText : PySem.W.kitOne K (.ref C_BadName) (.ref C_BadText) = some false
  ko_BadName_Refused : PySem.W.kitOne K (.ref C_BadName) (.ref C_Refused) = some false
  ko_BadName_TooMany : PySem.W.kitOne K (.ref C_BadName) (.ref C_TooMany) = some false
  ko_BadName_Twice : PySem.W.kitOne K (.ref C_BadName) (.ref C_Twice) = some false
  ko_BadNumber_BadSpan : PySem.W.kitOne K (.ref C_BadNumber) (.ref C_BadSpan) = some false
  ko_BadNumber_BadText : PySem.W.kitOne K (.ref C_BadNumber) (.ref C_BadText) = some false
  ko_BadNumber_Refused : PySem.W.kitOne K (.ref C_BadNumber) (.ref C_Refused) = some false
  ko_BadNumber_TooMany : PySem.W.kitOne K (.ref C_BadNumber) (.ref C_TooMany) = some false
  ko_BadNumber_Twice : PySem.W.kitOne K (.ref C_BadNumber) (.ref C_Twice) = some false
  ko_BadName_BarbreaksError : PySem.W.kitOne K (.ref C_BadName) (.ref C_BarbreaksError) = some true
  ko_BadNumber_BarbreaksError : PySem.W.kitOne K (.ref C_BadNumber) (.ref C_BarbreaksError) = some true
  ko_BadName_ValueError : PySem.W.kitOne K (.ref C_BadName) (.type "ValueError") = some true
  ko_BadNumber_ValueError : PySem.W.kitOne K (.ref C_BadNumber) (.type "ValueError") = some true
  ko_BadName_BadName : PySem.W.kitOne K (.ref C_BadName) (.ref C_BadName) = some true
  ko_BadName_BadNumber : PySem.W.kitOne K (.ref C_BadName) (.ref C_BadNumber) = some false
  ko_BadNumber_BadName : PySem.W.kitOne K (.ref C_BadNumber) (.ref C_BadName) = some false
  ko_BadNumber_BadNumber : PySem.W.kitOne K (.ref C_BadNumber) (.ref C_BadNumber) = some true
  l_asked : Df K mg "_law_asked" s_l_asked ["_law_door", "_law_text", "_law_grid_row", "_law_clock", "_law_numbers"]
  xm_BadName_BarbreaksError : PySem.W.exmOne K (.ref C_BadName) (.ref C_BarbreaksError) = some true
  xm_BadNumber_BarbreaksError : PySem.W.exmOne K (.ref C_BadNumber) (.ref C_BarbreaksError) = some true
  ko_Break_Break : PySem.W.kitOne K (.ref C_Break) (.ref C_Break) = some true
  law : Df K mg "law" s_law ["_law_script"]
section
variable {P : Program} {w : World} {K : PySem.W.Frag} {mg : Str → Option Value} {base : Heap} {C_BadName : Addr} {C_BarbreaksError : Addr} {C_BadNumber : Addr} {C_Grid : Addr} {C_Named : Addr} {C_Timed : Addr} {C_Item : Addr} {C_Piece : Addr} {C_Break : Addr} {C_BadSpan : Addr} {C_BadText : Addr} {C_Refused : Addr} {C_TooMany : Addr} {C_Twice : Addr}
theorem ok_is_name (T : Txt K mg C_BadName C_BarbreaksError C_BadNumber C_Grid C_Named C_Timed C_Item C_Piece C_Break C_BadSpan C_BadText C_Refused C_TooMany C_Twice) : Dk P w K mg base CX0 1 "is_name" ["text"] spIsName := by
  obtain ⟨f, fd, g, F, b⟩ := T.is_name
  refine ⟨f, fd, g, F.kp, b, F.ok sc_is_name (fun vs H Q E h => ?_) (fun cdv A outer s H vs Q E hr h => ?_)⟩
  · obtain ⟨z, rfl, _⟩ := h
    rfl
  · obtain ⟨z, rfl, hz, k⟩ := h
    refine ⟨_, (pss_cons (ps_if (PW.pt (pw_or (pt_not (pt_chain op_le op_le pe_int (pe_callB call_len_str (by rfl) T.b_len (by decide +kernel) (pa_cons (pv 0) pa_nil)) (C8.pe_gc (by rfl) T.v_MOST_SIGNS))) (pw_or1 (pt_cmpR op_notIn_sign (pe_item_str (pv 0) pe_int (fun _ _ => rfl)) (C8.pe_gc (by rfl) T.v_LETTERS) (by rfl)))))
  (pss_one (ps_ret pe_bl))
  pss_nil)
  (pss_one (ps_ret (pe_callB (cr_all rfl) (by rfl) T.b_all (by decide +kernel) (pa_cons (pe_lc (own := [("sign", 1)]) (g := gName 1) (tt := tYes) (by rfl) sc_is_name.nd (pi_str (pv 0)) (blkOk_by (own := [("sign", 1)]) (N := ["text", "sign"]) (sc := defScope s_is_name) (by decide +kernel)) (fun _ _ _ _ _ => pg_name (i := 1) sc_is_name.nd rfl (Or.inl rfl)) (fun _ _ _ _ _ => pts_nil) (fun _ _ _ _ _ => (pe_or (pe_cmpR op_in_sign (pv 1) (C8.pe_gc (by rfl) T.v_LETTERS) (by rfl)) (pe_one (pe_cmpR op_in_sign (pv 1) (C8.pe_gc (by rfl) T.v_DIGITS) (by rfl)))))) pa_nil))))), ?_⟩
    have hsz : z.length ≤ sizeLine := Nat.le_trans hz (by decide)
    have hnB : nameB z = (decide (1 ≤ z.cps.size) && (decide (z.cps.size ≤ 12) && (decide (z.cps.getD 0 0 ∈ letS.cps.toList) && z.cps.toList.all signB))) := rfl
    have no : nameB z = false → Q (.bl false) H := fun e => by have q := k H (Same.refl H); rw [e] at q; exact q
    have hl : z.length = z.cps.size := rfl
    -- if not 1 <= len(text) <= MOST_SIGNS or text[0] not in LETTERS: return False
    refine ⟨_, rfl, z, rfl, hsz, _, _, rfl, rfl, _, rfl, ?_⟩
    refine ite2 (fun h1 => ?_) (fun h1 => ?_)
    · refine ⟨_, _, rfl, rfl, _, rfl, ?_⟩
      have h1' : (1 : Int) ≤ (z.length : Int) := of_decide_eq_true h1
      by_cases h2 : (z.length : Int) ≤ 12
      · rw [decide_eq_true h2]
        refine iteF ?_
        have hs1 : 0 < z.cps.size := by omega
        have hc : z.cps[(0 : Int).toNat]? = some (z.cps.getD 0 0) := by
          show z.cps[0]? = _
          rw [Array.getElem?_eq_getElem hs1]
          simp [Array.getD, hs1]
        refine ⟨_, rfl, z, 0, _, rfl, rfl, by decide, by decide, by omega, hc, _, _, rfl, rfl, _, rfl, ?_⟩
        by_cases h3 : z.cps.getD 0 0 ∈ letS.cps.toList
        · have e3 : decide (z.cps.getD 0 0 ∈ ("abcdefghijklmnopqrstuvwxyz" : Str).cps.toList) = true := decide_eq_true h3
          rw [e3]
          refine iteF ?_
          -- return all([sign in LETTERS or sign in DIGITS for sign in text])
          refine ⟨_, rfl, z, rfl, fun D hD => ?_⟩
          refine lc_text (fun i H' => H' = upd H D (.lst ((z.cps.toList.take i).map fun c => .bl (signB c)))) (by simp) ?_ ?_
          · rintro i c H' hc rfl
            refine ⟨rfl, ?_⟩
            have hi : i < z.cps.size := (Array.getElem?_eq_some_iff.mp hc).1
            have hcl : z.cps.toList[i]? = some c := by rw [← hc]; exact Array.getElem?_toList.symm ▸ rfl
            have ht : (z.cps.toList.take (i + 1)).map (fun c => V.bl (signB c)) = (z.cps.toList.take i).map (fun c => V.bl (signB c)) ++ [.bl (signB c)] := by
              rw [List.take_succ, hcl]
              simp
            have fin : ∀ b : Bool, b = signB c → ∃ acc, upd H D (.lst ((z.cps.toList.take i).map fun c => .bl (signB c))) D = some (.lst acc) ∧ acc.length < sizeLine ∧
                upd (upd H D (.lst ((z.cps.toList.take i).map fun c => .bl (signB c)))) D (.lst (acc ++ [.bl b])) = upd H D (.lst ((z.cps.toList.take (i + 1)).map fun c => .bl (signB c))) := fun b e => by
              refine ⟨_, upd_same, ?_, ?_⟩
              · rw [List.length_map, List.length_take]
                exact Nat.lt_of_le_of_lt (Nat.min_le_left _ _) (by omega)
              · rw [e, ht, upd_upd]
            refine ⟨_, rfl, c, _, rfl, rfl, _, rfl, ?_⟩
            refine ite2 (fun q => ?_) (fun q => ?_)
            · exact fin _ (by unfold signB; rw [show decide (c ∈ letS.cps.toList) = true from q]; rfl)
            · refine ⟨_, rfl, c, _, rfl, rfl, ?_⟩
              have q' : decide (c ∈ letS.cps.toList) = false := Bool.eq_false_iff.mpr q
              exact fin _ (by unfold signB; rw [q', Bool.false_or]; rfl)
          · rintro H' rfl
            refine ⟨D, z.cps.toList.map signB, rfl, SqL.of (xs := (z.cps.toList.map signB).map V.bl) ?_, ?_⟩
            · rw [upd_same, List.map_map, List.take_of_length_le (by rw [Array.length_toList]; exact Nat.le_refl _)]
              rfl
            · have e : nameB z = (z.cps.toList.map signB).all id := by
                rw [hnB, decide_eq_true (by omega : 1 ≤ z.cps.size), decide_eq_true (by omega : z.cps.size ≤ 12), decide_eq_true h3, List.all_map]
                rfl
              rw [← e]
              exact k _ (Same.new hD)
        · have e3 : decide (z.cps.getD 0 0 ∈ ("abcdefghijklmnopqrstuvwxyz" : Str).cps.toList) = false := decide_eq_false h3
          rw [e3]
          refine iteT (no ?_)
          rw [hnB, decide_eq_false h3]
          simp
      · rw [decide_eq_false h2]
        refine iteT (no ?_)
        rw [hnB, decide_eq_false (by omega : ¬ z.cps.size ≤ 12)]
        simp
    · refine ⟨_, rfl, ?_⟩
      refine iteT (no ?_)
      have h1' : ¬ (1 : Int) ≤ (z.length : Int) := fun e => h1 (decide_eq_true e)
      rw [hnB, decide_eq_false (by omega : ¬ 1 ≤ z.cps.size)]
      rfl

theorem er_BadName (T : Txt K mg C_BadName C_BarbreaksError C_BadNumber C_Grid C_Named C_Timed C_Item C_Piece C_Break C_BadSpan C_BadText C_Refused C_TooMany C_Twice) : ErC P w K mg base "BadName" C_BadName ["self", "name"] (spEr1 C_BadName "name") := by
  obtain ⟨R, m, fI, fd, a, t, b, F⟩ := T.er_BadName
  refine ⟨R, m, fI, fd, a, t, b, F.ok sc_BadName_init (fun vs H Q E h => ?_) (fun cdv A outer s H vs Q E hr h => ?_)⟩
  · obtain ⟨a, v, rfl, _⟩ := h
    rfl
  · obtain ⟨a, v, rfl, ha, k⟩ := h
    refine ⟨_, (pss_one (ps_ost (pv 0) (pv 1))), ?_⟩
    exact ⟨_, rfl, _, rfl, a, C_BadName, rfl, R, T.xn_BadName_name, .inl ⟨ha, fun dx n ne => k dx n ne⟩⟩

theorem er_BadNumber (T : Txt K mg C_BadName C_BarbreaksError C_BadNumber C_Grid C_Named C_Timed C_Item C_Piece C_Break C_BadSpan C_BadText C_Refused C_TooMany C_Twice) : ErC P w K mg base "BadNumber" C_BadNumber ["self", "number"] (spEr1 C_BadNumber "number") := by
  obtain ⟨R, m, fI, fd, a, t, b, F⟩ := T.er_BadNumber
  refine ⟨R, m, fI, fd, a, t, b, F.ok sc_BadNumber_init (fun vs H Q E h => ?_) (fun cdv A outer s H vs Q E hr h => ?_)⟩
  · obtain ⟨a, v, rfl, _⟩ := h
    rfl
  · obtain ⟨a, v, rfl, ha, k⟩ := h
    refine ⟨_, (pss_one (ps_ost (pv 0) (pv 1))), ?_⟩
    exact ⟨_, rfl, _, rfl, a, C_BadNumber, rfl, R, T.xn_BadNumber_number, .inl ⟨ha, fun dx n ne => k dx n ne⟩⟩

theorem ok_l_take (T : Txt K mg C_BadName C_BarbreaksError C_BadNumber C_Grid C_Named C_Timed C_Item C_Piece C_Break C_BadSpan C_BadText C_Refused C_TooMany C_Twice) : Dk P w K mg base CX0 1 "_law_take" ["_law_pool_here", "_law_size_here"] spTake := by
  obtain ⟨f, fd, g, F, b⟩ := T.l_take
  refine ⟨f, fd, g, F.kp, b, F.ok sc_l_take (fun vs H Q E h => ?_) (fun cdv A outer s H vs Q E hr h => ?_)⟩
  · obtain ⟨p, c, ns, n, rfl, _⟩ := h
    rfl
  · obtain ⟨p, c, ns, n, rfl, hp, hn, hn9, k⟩ := h
    obtain ⟨⟨l, hl, z, i, t, d, hi, rfl⟩, hc⟩ := id hp
    refine ⟨_, (pss_cons (ps_set (i := 2) sc_l_take.nd rfl (Or.inl rfl) (pe_ix ix_list (pv 0) pe_int (fun _ _ => rfl)))
  (pss_cons (ps_asg (pe_op op_add (pe_ix ix_list (pv 0) pe_int (fun _ _ => rfl)) pe_int) (pg_sub (pv 0) pe_int set_list))
  (pss_cons (ps_set (i := 3) sc_l_take.nd rfl (Or.inl rfl) (pe_op op_mod (pe_callTy call_int1 (by rfl) T.b_int (by decide +kernel) (pa_cons (pe_op op_add (pe_op op_add (pe_op op_mul (pe_ix ix_list (pv 0) pe_int (fun _ _ => rfl)) pe_int) (pe_op op_mul (pe_ix ix_list (pv 0) pe_int (fun _ _ => rfl)) pe_int)) pe_int) pa_nil)) pe_int))
  (C8.pss_cut (ps_if (PW.pt (pw_and (pt_cmpR op_eq (pe_ix ix_list (pv 0) pe_int (fun _ _ => rfl)) pe_int (nomark _)) (pw_and1 (pt_cmpR op_lt (pe_ix ix_list (pv 0) pe_int (fun _ _ => rfl)) (pe_callB call_len_seq (by rfl) T.b_len (by decide +kernel) (pa_cons (pv 2) pa_nil)) (nomark _)))))
  (pss_cons (ps_set (i := 4) sc_l_take.nd rfl (Or.inl rfl) (pe_callTy call_int1 (by rfl) T.b_int (by decide +kernel) (pa_cons (pe_ix ix_list (pv 2) (pe_ix ix_list (pv 0) pe_int (fun _ _ => rfl)) (fun _ _ => rfl)) pa_nil)))
  (pss_cons (ps_asg (pe_op op_add (pe_ix ix_list (pv 0) pe_int (fun _ _ => rfl)) pe_int) (pg_sub (pv 0) pe_int set_list))
  (pss_cons (ps_set (i := 3) sc_l_take.nd rfl (Or.inl rfl) (pe_op op_mod (pe_callTy call_int1 (by rfl) T.b_int (by decide +kernel) (pa_cons (pe_op op_add (pe_op op_add (pe_op op_mul (pv 4) pe_int) (pe_ix ix_list (pv 0) pe_int (fun _ _ => rfl))) (pe_op op_mul (pe_ix ix_list (pv 0) pe_int (fun _ _ => rfl)) pe_int)) pa_nil)) pe_int))
  (pss_one (ps_if (pt_cmpR op_ge (pv 4) (pe_op op_pow pe_int pe_int) (nomark _))
  (pss_one (ps_asg (pv 4) (pg_sub (pv 0) pe_int set_list)))
  pss_nil)))))
  pss_nil)
  (pss_cons (ps_if (pt_cmpR op_gt (pe_ix ix_list (pv 0) pe_int (fun _ _ => rfl)) pe_int (nomark _))
  (pss_cons (ps_set (i := 5) sc_l_take.nd rfl (Or.inl rfl) (pe_op op_mod (pe_callTy call_int1 (by rfl) T.b_int (by decide +kernel) (pa_cons (pe_ix ix_list (pv 0) pe_int (fun _ _ => rfl)) pa_nil)) (pv 1)))
  (pss_cons (ps_asg (pe_op op_fdivW (pe_ix ix_list (pv 0) pe_int (fun _ _ => rfl)) (pv 1)) (pg_sub (pv 0) pe_int set_list))
  (pss_one (ps_ret (pv 5)))))
  pss_nil)
  (pss_cons (ps_set (i := 3) sc_l_take.nd rfl (Or.inl rfl) (pe_op op_mod (pe_callTy call_int1 (by rfl) T.b_int (by decide +kernel) (pa_cons (pe_op op_add (pe_op op_mul (pv 3) pe_int) (pe_op op_fdivW (pv 3) pe_int)) pa_nil)) pe_int))
  (pss_one (ps_ret (pe_op op_mod (pe_callTy call_int1 (by rfl) T.b_int (by decide +kernel) (pa_cons (pv 3) pa_nil)) (pv 1)))))))))), ?_⟩
    -- cells = pool[4]; pool[2] = pool[2] + 1
    refine ⟨_, rfl, _, _, _, _, rfl, rfl, SqL.of hl, rfl, ?_⟩
    refine ⟨_, rfl, _, _, _, _, rfl, rfl, SqL.of hl, rfl, _, _, rfl, rfl, _, rfl, _, _, _, _, rfl, rfl, hl, rfl, ?_⟩
    have hp1 : Pool ns c (upd H p (.lst [.int z, .int i, .int (t + 1), .int d, .ref c])) p := hp.upd ⟨_, _, _, _, hi, rfl⟩
    have o1 : Off p H (upd H p (.lst [.int z, .int i, .int (t + 1), .int d, .ref c])) := Off.upd
    have hl1 : upd H p (.lst [.int z, .int i, .int (t + 1), .int d, .ref c]) p = some (.lst [.int z, .int i, .int (t + 1), .int d, .ref c]) := upd_same
    -- mixed = int(pool[3] * 48271 + pool[2] * 69621 + 19) % 2147483647
    refine ⟨_, rfl, _, _, _, _, rfl, rfl, SqL.of hl1, rfl, _, _, rfl, rfl, (.inr ⟨by decide, by decide⟩), _, rfl, _, _, _, _, rfl, rfl, SqL.of hl1, rfl, _, _, rfl, rfl, (.inr ⟨by decide, by decide⟩), _, _, rfl, rfl, _, _, rfl, rfl, .inl ⟨_, rfl, _, _, rfl, rfl, pos_m7, ?_⟩⟩
    generalize (d * 48271 + (t + 1) * 69621 + 19) % 2147483647 = mx
    -- the first if, joined
    refine ⟨fun σ H' => ∃ (m1 : Int) (c1 : Option V) (z1 i1 t1 d1 : Int), σ = [some (.ref p), some (.int n), some (.ref c), some (.int m1), c1, none] ∧ 0 ≤ i1 ∧ H' p = some (.lst [.int z1, .int i1, .int t1, .int d1, .ref c]) ∧ Off p H H', ?_, ?_⟩
    · refine ⟨_, rfl, _, _, _, _, rfl, rfl, SqL.of hl1, rfl, rfl, _, rfl, ?_⟩
      refine ite2 (fun hz => ?_) (fun _ => iteF ⟨_, _, _, _, _, _, rfl, hi, hl1, o1⟩)
      have hc1 : upd H p (.lst [.int z, .int i, .int (t + 1), .int d, .ref c]) c = some (.lst (ns.map V.int)) := hp1.cells
      refine ⟨_, rfl, _, _, _, _, rfl, rfl, SqL.of hl1, rfl, _, rfl, c, _, rfl, .inl (SqL.of hc1), _, _, rfl, rfl, _, rfl, ?_⟩
      refine ite2 (fun hlt => ?_) (fun _ => ⟨_, _, _, _, _, _, rfl, hi, hl1, o1⟩)
      have hlt' : i < ((ns.map V.int).length : Int) := of_decide_eq_true hlt
      rw [List.length_map] at hlt'
      obtain ⟨v, hv⟩ : ∃ v, ns[i.toNat]? = some v := ⟨_, List.getElem?_eq_getElem (by omega)⟩
      -- cell = int(cells[pool[1]])
      refine ⟨_, rfl, _, rfl, _, _, _, _, rfl, rfl, SqL.of hl1, rfl, c, _, i, V.int v, rfl, rfl, SqL.of hc1, atI_ge hi (by rw [List.getElem?_map, hv]; rfl), .inl ⟨_, rfl, ?_⟩⟩
      -- pool[1] = pool[1] + 1
      refine ⟨_, rfl, _, _, _, _, rfl, rfl, SqL.of hl1, rfl, _, _, rfl, rfl, _, rfl, _, _, _, _, rfl, rfl, hl1, rfl, ?_⟩
      have hl2 : upd (upd H p (.lst [.int z, .int i, .int (t + 1), .int d, .ref c])) p (.lst [.int z, .int (i + 1), .int (t + 1), .int d, .ref c]) p = some (.lst [.int z, .int (i + 1), .int (t + 1), .int d, .ref c]) := upd_same
      have o2 : Off p H (upd (upd H p (.lst [.int z, .int i, .int (t + 1), .int d, .ref c])) p (.lst [.int z, .int (i + 1), .int (t + 1), .int d, .ref c])) := o1.trans Off.upd
      refine ⟨_, rfl, _, _, rfl, rfl, (.inr ⟨by decide, by decide⟩), _, rfl, _, _, _, _, rfl, rfl, SqL.of hl2, rfl, _, _, rfl, rfl, _, rfl, _, _, _, _, rfl, rfl, SqL.of hl2, rfl, _, _, rfl, rfl, (.inr ⟨by decide, by decide⟩), _, _, rfl, rfl, .inl ⟨_, rfl, _, _, rfl, rfl, pos_m7, ?_⟩⟩
      refine ⟨_, rfl, _, _, rfl, rfl, ⟨by decide, by decide, by decide⟩, _, _, rfl, rfl, _, rfl, ?_⟩
      refine ite2 (fun _ => ?_) (fun _ => ⟨_, _, _, _, _, _, rfl, by omega, hl2, o2⟩)
      refine ⟨_, rfl, _, rfl, _, _, _, _, rfl, rfl, hl2, rfl, ?_⟩
      exact ⟨_, _, v, i + 1, t + 1, d, rfl, by omega, upd_same, o2.trans Off.upd⟩
    · rintro σ H2 ⟨m1, c1, z1, i1, t1, d1, rfl, hi1, hl2, o2⟩
      have hp2 : Pool ns c H2 p := ⟨⟨_, hl2, _, _, _, _, hi1, rfl⟩, (o2 c hp.ne).trans hc⟩
      -- if pool[0] > 0: digit = int(pool[0]) % size; pool[0] = pool[0] // size; return digit
      refine ⟨_, rfl, _, _, _, _, rfl, rfl, SqL.of hl2, rfl, _, _, rfl, rfl, _, rfl, ?_⟩
      refine ite2 (fun _ => ?_) (fun _ => ?_)
      · refine ⟨_, rfl, _, _, _, _, rfl, rfl, SqL.of hl2, rfl, .inl ⟨_, rfl, _, rfl, _, _, rfl, rfl, hn, ?_⟩⟩
        refine ⟨_, rfl, _, _, _, _, rfl, rfl, SqL.of hl2, rfl, _, rfl, _, _, rfl, rfl, ⟨hn, hn9⟩, _, rfl, _, _, _, _, rfl, rfl, hl2, rfl, ?_⟩
        refine ⟨_, rfl, ?_⟩
        exact k _ _ (Int.emod_nonneg _ (by omega)) (Int.emod_lt_of_pos _ hn) (hp2.upd ⟨_, _, _, _, hi1, rfl⟩) (o2.trans Off.upd)
      · refine ⟨_, rfl, _, _, rfl, rfl, (.inr ⟨by decide, by decide⟩), _, rfl, _, _, rfl, rfl, ⟨by decide, by decide +kernel⟩, _, _, rfl, rfl, .inl ⟨_, rfl, _, _, rfl, rfl, pos_m9, ?_⟩⟩
        refine ⟨_, rfl, .inl ⟨_, rfl, _, rfl, _, _, rfl, rfl, hn, ?_⟩⟩
        exact k _ _ (Int.emod_nonneg _ (by omega)) (Int.emod_lt_of_pos _ hn) hp2 o2

theorem ok_l_big (T : Txt K mg C_BadName C_BarbreaksError C_BadNumber C_Grid C_Named C_Timed C_Item C_Piece C_Break C_BadSpan C_BadText C_Refused C_TooMany C_Twice) : Dk P w K mg base CX0 2 "_law_big" ["_law_pool_here"] spBig := by
  have D_l_take := ok_l_take (P := P) (w := w) (base := base) T
  obtain ⟨f, fd, g, F, b⟩ := T.l_big
  refine ⟨f, fd, g, F.kp, b, F.ok sc_l_big (fun vs H Q E h => ?_) (fun cdv A outer s H vs Q E hr h => ?_)⟩
  · obtain ⟨p, c, ns, rfl, _⟩ := h
    rfl
  · obtain ⟨p, c, ns, rfl, hp, k⟩ := h
    refine ⟨_, (pss_cons (ps_set (i := 1) sc_l_big.nd rfl (Or.inl rfl) pe_int)
  (pss_cons (ps_for PassesOwn.never rfl (pi_range1 rfl T.b_range (pa_cons pe_int pa_nil)) (pg_name (i := 2) sc_l_big.nd rfl (Or.inl rfl))
  (pss_one (ps_set (i := 1) sc_l_big.nd rfl (Or.inl rfl) (pe_op op_add (pe_op op_mul (pv 1) (pe_op op_pow pe_int pe_int)) (pe_d D_l_take (hr.mono (by decide)) pass0 (by rfl) (pa_cons (pv 0) (pa_cons (pe_op op_pow pe_int pe_int) pa_nil)))))))
  (pss_one (ps_ret (pv 1))))), ?_⟩
    refine ⟨3, rfl, by decide, by decide, for_range (n := 3) (fun i σ H' => ∃ (v : Int) (kv : Option V), σ = [some (.ref p), some (.int v), kv] ∧ 0 ≤ v ∧ v < 10 ^ (9 * i) ∧ Pool ns c H' p ∧ Off p H H') ⟨0, none, rfl, by decide, by decide, hp, Off.refl⟩ ?_ ?_⟩
    · rintro i σ H1 hi ⟨v, kv, rfl, h0, h1, hp1, o1⟩
      refine ⟨_, rfl, _, _, rfl, rfl, ⟨by decide, by decide, by decide⟩, _, _, rfl, rfl, (.inr ⟨by decide, by decide⟩), _, rfl, _, _, rfl, rfl, ⟨by decide, by decide, by decide⟩, p, c, ns, _, rfl, hp1, by decide, by decide +kernel, fun r H2 r0 r1 hp2 o2 => ?_⟩
      refine ⟨_, _, rfl, rfl, _, _, rfl, ?_, ?_, hp2, o1.trans o2⟩
      · have e : (10 : Int) ^ (9 : Int).toNat = 1000000000 := by decide
        show 0 ≤ v * (10 : Int) ^ (9 : Int).toNat + r
        rw [e]
        omega
      · have e : (10 : Int) ^ (9 : Int).toNat = 1000000000 := by decide
        have r1' : r < (10 : Int) ^ (9 : Int).toNat := r1
        show v * (10 : Int) ^ (9 : Int).toNat + r < 10 ^ (9 * (i + 1))
        rw [Nat.mul_add, Int.pow_add, e]
        rw [e] at r1'
        have e2 : (10 : Int) ^ (9 * 1) = 1000000000 := by decide
        rw [e2]
        omega
    · rintro σ H1 ⟨v, kv, rfl, h0, h1, hp1, o1⟩
      exact ⟨_, rfl, k _ _ h0 h1 hp1 o1⟩

theorem ok_l_pool (T : Txt K mg C_BadName C_BarbreaksError C_BadNumber C_Grid C_Named C_Timed C_Item C_Piece C_Break C_BadSpan C_BadText C_Refused C_TooMany C_Twice) : Dk P w K mg base CX0 1 "_law_pool" ["_law_script"] (spPool K) := by
  obtain ⟨f, fd, g, F, b⟩ := T.l_pool
  refine ⟨f, fd, g, F.kp, b, F.ok sc_l_pool (fun vs H Q E h => ?_) (fun cdv A outer s H vs Q E hr h => ?_)⟩
  · obtain ⟨a, ns, rfl, _⟩ := h
    rfl
  · obtain ⟨a, ns, rfl, hS, hlen, k⟩ := h
    refine ⟨_, (pss_cons (ps_set (i := 1) sc_l_pool.nd rfl (Or.inl rfl) pe_int)
  (pss_cons (ps_for PassesOwn.never rfl (pi_list (pv 0)) (pg_name (i := 2) sc_l_pool.nd rfl (Or.inl rfl))
  (pss_one (ps_set (i := 1) sc_l_pool.nd rfl (Or.inl rfl) (pe_op op_mod (pe_callTy call_int1 (by rfl) T.b_int (by decide +kernel) (pa_cons (pe_op op_add (pe_op op_add (pe_op op_mul (pv 1) pe_int) (pe_op op_mul (pe_callTy call_int1 (by rfl) T.b_int (by decide +kernel) (pa_cons (pv 2) pa_nil)) pe_int)) pe_int) pa_nil)) pe_int))))
  (pss_one (ps_ret (pe_lst (pa_cons pe_int (pa_cons pe_int (pa_cons pe_int (pa_cons (pv 1) (pa_cons (pe_callTy call_list_of (by rfl) T.b_list (by decide +kernel) (pa_cons (pv 0) pa_nil)) pa_nil)))))))))), ?_⟩
    refine ⟨_, rfl, a, rfl, ⟨_, hS⟩, for_list (K := K) (a := a) (xs := ns.map V.int) (fun i σ H' => ∃ (d : Int) (v : Option V), σ = [some (.ref a), some (.int d), v] ∧ H' = H) ⟨7, none, rfl, rfl⟩ (fun i σ H' _ ⟨_, _, _, e⟩ => by rw [e]; exact hS) ?_ ?_⟩
    · rintro i y σ H' hi ⟨d, v, rfl, rfl⟩
      obtain ⟨z, _, rfl⟩ := ints_at hi
      refine ⟨_, rfl, _, _, rfl, rfl, (.inr ⟨by decide, by decide⟩), _, rfl, .inl ⟨_, rfl, _, _, rfl, rfl, (.inr ⟨by decide, by decide⟩), _, _, rfl, rfl, _, _, rfl, rfl, .inl ⟨_, rfl, _, _, rfl, rfl, pos_m7, ?_⟩⟩⟩
      exact ⟨_, _, rfl, rfl⟩
    · rintro σ H' ⟨d, v, rfl, rfl⟩
      refine ⟨_, rfl, _, rfl, a, _, rfl, .inl hS, fun c hc => ⟨(by show 5 ≤ sizeLine; decide), fun p hp => ?_⟩⟩
      have npc : c ≠ p := fun e => by
        rw [← e, upd_same] at hp
        cases hp
      have hp0 : H' p = none := by
        rw [upd_ne npc.symm] at hp
        exact hp
      refine k p c _ ⟨⟨_, upd_same, 0, 0, 0, d, by decide, rfl⟩, (upd_ne npc).trans upd_same⟩ hp0 hc fun b o e => ?_
      rw [upd_ne (ne_of_none e hp0), upd_ne (ne_of_none e hc)]
      exact e

theorem ok_l_is_int (T : Txt K mg C_BadName C_BarbreaksError C_BadNumber C_Grid C_Named C_Timed C_Item C_Piece C_Break C_BadSpan C_BadText C_Refused C_TooMany C_Twice) : Dk P w K mg base CX0 1 "_law_is_int" ["_law_x"] (spIsInt K) := by
  obtain ⟨f, fd, g, F, b⟩ := T.l_is_int
  refine ⟨f, fd, g, F.kp, b, F.ok sc_l_is_int (fun vs H Q E h => ?_) (fun cdv A outer s H vs Q E hr h => ?_)⟩
  · obtain ⟨x, t, b1, b2, rfl, _⟩ := h
    rfl
  · obtain ⟨x, t, b1, b2, rfl, ty, k1, k2, k⟩ := h
    refine ⟨_, (pss_one (ps_ret (pe_and (pe_callB call_isi (by rfl) T.b_isinstance (by decide +kernel) (pa_cons (pv 0) (pa_cons (pe_bltn (v := .ty "int") (by rfl) T.b_int (by decide +kernel) rfl) pa_nil))) (pe_one (pe_not (pe_callB call_isi (by rfl) T.b_isinstance (by decide +kernel) (pa_cons (pv 0) (pa_cons (pe_bltn (v := .ty "bool") (by rfl) T.b_bool (by decide +kernel) rfl) pa_nil)))))))), ?_⟩
    refine ⟨_, rfl, x, _, t, _, b1, rfl, .ty _, ty, k1, b1, rfl, ?_⟩
    cases b1 with
    | false => exact iteF k
    | true => exact iteT ⟨_, rfl, x, _, t, _, b2, rfl, .ty _, ty, k2, b2, rfl, k⟩

theorem ok_l_free (T : Txt K mg C_BadName C_BarbreaksError C_BadNumber C_Grid C_Named C_Timed C_Item C_Piece C_Break C_BadSpan C_BadText C_Refused C_TooMany C_Twice) : Dk P w K mg base CX0 3 "_law_free" ["_law_pool_here"] (spDraw GFree) := by
  have D_l_take := ok_l_take (P := P) (w := w) (base := base) T
  have D_l_big := ok_l_big (P := P) (w := w) (base := base) T
  obtain ⟨f, fd, g, F, b⟩ := T.l_free
  refine ⟨f, fd, g, F.kp, b, F.ok sc_l_free (fun vs H Q E h => ?_) (fun cdv A outer s H vs Q E hr h => ?_)⟩
  · obtain ⟨p, c, ns, rfl, _⟩ := h
    rfl
  · obtain ⟨p, c, ns, rfl, hp, k⟩ := h
    refine ⟨_, (pss_cons (ps_set (i := 1) sc_l_free.nd rfl (Or.inl rfl) (pe_op op_sub (pe_d D_l_take (hr.mono (by decide)) pass0 (by rfl) (pa_cons (pv 0) (pa_cons pe_int pa_nil))) pe_int))
  (pss_cons (ps_set (i := 2) sc_l_free.nd rfl (Or.inl rfl) (pe_d D_l_take (hr.mono (by decide)) pass0 (by rfl) (pa_cons (pv 0) (pa_cons pe_int pa_nil))))
  (pss_cons (ps_if (pt_cmpR op_eq (pv 2) pe_int (nomark _))
  (pss_one (ps_set (i := 1) sc_l_free.nd rfl (Or.inl rfl) (pe_d D_l_big (hr.mono (by decide)) pass0 (by rfl) (pa_cons (pv 0) pa_nil))))
  pss_nil)
  (pss_cons (ps_if (pt_cmpR op_eq (pv 2) pe_int (nomark _))
  (pss_one (ps_set (i := 1) sc_l_free.nd rfl (Or.inl rfl) (pe_op op_sub pe_int (pe_d D_l_big (hr.mono (by decide)) pass0 (by rfl) (pa_cons (pv 0) pa_nil)))))
  pss_nil)
  (pss_one (ps_ret (pv 1))))))), ?_⟩
    refine ⟨_, rfl, p, c, ns, _, rfl, hp, by decide, by decide +kernel, fun r H1 r0 r1 hp1 o1 => ?_⟩
    refine ⟨_, _, rfl, rfl, _, rfl, p, c, ns, _, rfl, hp1, by decide, by decide +kernel, fun q H2 q0 q1 hp2 o2 => ?_⟩
    have o02 := o1.trans o2
    refine ⟨_, rfl, rfl, _, rfl, ?_⟩
    refine ite2 (fun h2 => ?_) (fun h2 => ?_)
    · refine ⟨_, rfl, p, c, ns, rfl, hp2, fun y H3 y0 y1 hp3 o3 => ?_⟩
      refine ⟨_, rfl, rfl, _, rfl, ?_⟩
      refine ite2 (fun h3 => ?_) (fun h3 => ?_)
      · have e2 := of_decide_eq_true h2
        have e3 := of_decide_eq_true h3
        rw [e2] at e3
        cases e3
      · exact ⟨_, rfl, k _ _ ⟨by omega, by omega⟩ hp3 (o02.trans o3)⟩
    · refine ⟨_, rfl, rfl, _, rfl, ?_⟩
      refine ite2 (fun h3 => ?_) (fun h3 => ?_)
      · refine ⟨_, rfl, p, c, ns, rfl, hp2, fun y H3 y0 y1 hp3 o3 => ?_⟩
        exact ⟨_, _, rfl, rfl, _, rfl, k _ _ ⟨by omega, by omega⟩ hp3 (o02.trans o3)⟩
      · exact ⟨_, rfl, k _ _ ⟨by show -10 ^ 27 < r - 50; omega, by show r - 50 < 10 ^ 27; omega⟩ hp2 o02⟩

theorem ok_l_step (T : Txt K mg C_BadName C_BarbreaksError C_BadNumber C_Grid C_Named C_Timed C_Item C_Piece C_Break C_BadSpan C_BadText C_Refused C_TooMany C_Twice) : Dk P w K mg base CX0 3 "_law_step" ["_law_pool_here"] (spDraw GStep) := by
  have D_l_take := ok_l_take (P := P) (w := w) (base := base) T
  have D_l_big := ok_l_big (P := P) (w := w) (base := base) T
  obtain ⟨f, fd, g, F, b⟩ := T.l_step
  refine ⟨f, fd, g, F.kp, b, F.ok sc_l_step (fun vs H Q E h => ?_) (fun cdv A outer s H vs Q E hr h => ?_)⟩
  · obtain ⟨p, c, ns, rfl, _⟩ := h
    rfl
  · obtain ⟨p, c, ns, rfl, hp, k⟩ := h
    refine ⟨_, (pss_cons (ps_set (i := 1) sc_l_step.nd rfl (Or.inl rfl) (pe_d D_l_take (hr.mono (by decide)) pass0 (by rfl) (pa_cons (pv 0) (pa_cons pe_int pa_nil))))
  (pss_cons (ps_if (pt_cmpR op_eq (pv 1) pe_int (nomark _))
  (pss_one (ps_ret (pe_op op_add pe_int (pe_d D_l_take (hr.mono (by decide)) pass0 (by rfl) (pa_cons (pv 0) (pa_cons pe_int pa_nil))))))
  pss_nil)
  (pss_cons (ps_if (pt_cmpR op_eq (pv 1) pe_int (nomark _))
  (pss_one (ps_ret (pe_op op_add pe_int (pe_d D_l_big (hr.mono (by decide)) pass0 (by rfl) (pa_cons (pv 0) pa_nil)))))
  pss_nil)
  (pss_one (ps_ret (pe_op op_add pe_int (pe_d D_l_take (hr.mono (by decide)) pass0 (by rfl) (pa_cons (pv 0) (pa_cons pe_int pa_nil))))))))), ?_⟩
    refine ⟨_, rfl, p, c, ns, _, rfl, hp, by decide, by decide +kernel, fun r H1 r0 r1 hp1 o1 => ?_⟩
    refine ⟨_, rfl, rfl, _, rfl, ?_⟩
    refine ite2 (fun h2 => ?_) (fun h2 => ?_)
    · refine ⟨_, rfl, p, c, ns, _, rfl, hp1, by decide, by decide +kernel, fun q H2 q0 q1 hp2 o2 => ?_⟩
      exact ⟨_, _, rfl, rfl, k _ _ ⟨by omega, by omega⟩ hp2 (o1.trans o2)⟩
    · refine ⟨_, rfl, rfl, _, rfl, ?_⟩
      refine ite2 (fun h3 => ?_) (fun h3 => ?_)
      · refine ⟨_, rfl, p, c, ns, rfl, hp1, fun q H2 q0 q1 hp2 o2 => ?_⟩
        exact ⟨_, _, rfl, rfl, k _ _ ⟨by omega, by omega⟩ hp2 (o1.trans o2)⟩
      · refine ⟨_, rfl, p, c, ns, _, rfl, hp1, by decide, by decide +kernel, fun q H2 q0 q1 hp2 o2 => ?_⟩
        exact ⟨_, _, rfl, rfl, k _ _ ⟨by omega, by omega⟩ hp2 (o1.trans o2)⟩

theorem ok_l_shift (T : Txt K mg C_BadName C_BarbreaksError C_BadNumber C_Grid C_Named C_Timed C_Item C_Piece C_Break C_BadSpan C_BadText C_Refused C_TooMany C_Twice) : Dk P w K mg base CX0 3 "_law_shift" ["_law_pool_here", "_law_step_here"] (spDraw2 GStep fun _ => GFree) := by
  have D_l_take := ok_l_take (P := P) (w := w) (base := base) T
  have D_l_big := ok_l_big (P := P) (w := w) (base := base) T
  obtain ⟨f, fd, g, F, b⟩ := T.l_shift
  refine ⟨f, fd, g, F.kp, b, F.ok sc_l_shift (fun vs H Q E h => ?_) (fun cdv A outer s H vs Q E hr h => ?_)⟩
  · obtain ⟨p, c, ns, s, rfl, _⟩ := h
    rfl
  · obtain ⟨p, c, ns, st, rfl, hp, hs, k⟩ := h
    refine ⟨_, (pss_cons (ps_set (i := 2) sc_l_shift.nd rfl (Or.inl rfl) (pe_d D_l_take (hr.mono (by decide)) pass0 (by rfl) (pa_cons (pv 0) (pa_cons pe_int pa_nil))))
  (pss_cons (ps_if (pt_cmpR op_eq (pv 2) pe_int (nomark _))
  (pss_one (ps_ret pe_int))
  pss_nil)
  (pss_cons (ps_if (pt_cmpR op_eq (pv 2) pe_int (nomark _))
  (pss_one (ps_ret (pe_d D_l_take (hr.mono (by decide)) pass0 (by rfl) (pa_cons (pv 0) (pa_cons (pv 1) pa_nil)))))
  pss_nil)
  (pss_cons (ps_if (pt_cmpR op_eq (pv 2) pe_int (nomark _))
  (pss_one (ps_ret (pe_op op_sub (pe_op op_sub pe_int pe_int) (pe_d D_l_take (hr.mono (by decide)) pass0 (by rfl) (pa_cons (pv 0) (pa_cons pe_int pa_nil))))))
  pss_nil)
  (pss_cons (ps_if (pt_cmpR op_eq (pe_d D_l_take (hr.mono (by decide)) pass0 (by rfl) (pa_cons (pv 0) (pa_cons pe_int pa_nil))) pe_int (nomark _))
  (pss_one (ps_ret (pe_op op_sub pe_int (pe_d D_l_big (hr.mono (by decide)) pass0 (by rfl) (pa_cons (pv 0) pa_nil)))))
  pss_nil)
  (pss_one (ps_ret (pe_d D_l_big (hr.mono (by decide)) pass0 (by rfl) (pa_cons (pv 0) pa_nil))))))))), ?_⟩
    have hs0 : 1 ≤ st := hs.1
    have hs1 : st ≤ 10 ^ 27 := hs.2
    refine ⟨_, rfl, p, c, ns, _, rfl, hp, by decide, by decide +kernel, fun r H1 r0 r1 hp1 o1 => ?_⟩
    refine ⟨_, rfl, rfl, _, rfl, ?_⟩
    refine ite2 (fun h2 => ?_) (fun h2 => ?_)
    · exact k _ _ ⟨by decide, by decide⟩ hp1 o1
    · refine ⟨_, rfl, rfl, _, rfl, ?_⟩
      refine ite2 (fun h3 => ?_) (fun h3 => ?_)
      · refine ⟨_, rfl, _, rfl, p, c, ns, st, rfl, hp1, by omega, log2_27 hs0 hs1, fun q H2 q0 q1 hp2 o2 => ?_⟩
        exact k _ _ ⟨by omega, by omega⟩ hp2 (o1.trans o2)
      · refine ⟨_, rfl, rfl, _, rfl, ?_⟩
        refine ite2 (fun h4 => ?_) (fun h4 => ?_)
        · refine ⟨_, _, rfl, rfl, _, rfl, p, c, ns, _, rfl, hp1, by decide, by decide +kernel, fun q H2 q0 q1 hp2 o2 => ?_⟩
          exact ⟨_, _, rfl, rfl, k _ _ ⟨by show -10 ^ 27 < 0 - 1 - q; omega, by show 0 - 1 - q < 10 ^ 27; omega⟩ hp2 (o1.trans o2)⟩
        · refine ⟨_, rfl, p, c, ns, _, rfl, hp1, by decide, by decide +kernel, fun q H2 q0 q1 hp2 o2 => ?_⟩
          refine ⟨rfl, _, rfl, ?_⟩
          refine ite2 (fun h5 => ?_) (fun h5 => ?_)
          · refine ⟨_, rfl, p, c, ns, rfl, hp2, fun y H3 y0 y1 hp3 o3 => ?_⟩
            exact ⟨_, _, rfl, rfl, k _ _ ⟨by omega, by omega⟩ hp3 ((o1.trans o2).trans o3)⟩
          · refine ⟨_, rfl, p, c, ns, rfl, hp2, fun y H3 y0 y1 hp3 o3 => ?_⟩
            exact k _ _ ⟨by omega, by omega⟩ hp3 ((o1.trans o2).trans o3)

theorem ok_l_size (T : Txt K mg C_BadName C_BarbreaksError C_BadNumber C_Grid C_Named C_Timed C_Item C_Piece C_Break C_BadSpan C_BadText C_Refused C_TooMany C_Twice) : Dk P w K mg base CX0 3 "_law_size" ["_law_pool_here"] (spDraw GStep) := by
  have D_l_take := ok_l_take (P := P) (w := w) (base := base) T
  have D_l_big := ok_l_big (P := P) (w := w) (base := base) T
  obtain ⟨f, fd, g, F, b⟩ := T.l_size
  refine ⟨f, fd, g, F.kp, b, F.ok sc_l_size (fun vs H Q E h => ?_) (fun cdv A outer s H vs Q E hr h => ?_)⟩
  · obtain ⟨p, c, ns, rfl, _⟩ := h
    rfl
  · obtain ⟨p, c, ns, rfl, hp, k⟩ := h
    refine ⟨_, (pss_cons (ps_set (i := 1) sc_l_size.nd rfl (Or.inl rfl) (pe_op op_add pe_int (pe_d D_l_take (hr.mono (by decide)) pass0 (by rfl) (pa_cons (pv 0) (pa_cons pe_int pa_nil)))))
  (pss_cons (ps_if (pt_cmpR op_eq (pe_d D_l_take (hr.mono (by decide)) pass0 (by rfl) (pa_cons (pv 0) (pa_cons pe_int pa_nil))) pe_int (nomark _))
  (pss_one (ps_set (i := 1) sc_l_size.nd rfl (Or.inl rfl) (pe_op op_add pe_int (pe_d D_l_big (hr.mono (by decide)) pass0 (by rfl) (pa_cons (pv 0) pa_nil)))))
  pss_nil)
  (pss_one (ps_ret (pv 1))))), ?_⟩
    refine ⟨_, rfl, p, c, ns, _, rfl, hp, by decide, by decide +kernel, fun r H1 r0 r1 hp1 o1 => ⟨_, _, rfl, rfl, ?_⟩⟩
    refine ⟨_, rfl, p, c, ns, _, rfl, hp1, by decide, by decide +kernel, fun q H2 q0 q1 hp2 o2 => ?_⟩
    refine ⟨rfl, _, rfl, ite2 (fun _ => ?_) (fun _ => ⟨_, rfl, k _ _ ⟨by omega, by omega⟩ hp2 (o1.trans o2)⟩)⟩
    refine ⟨_, rfl, p, c, ns, rfl, hp2, fun y H3 y0 y1 hp3 o3 => ?_⟩
    exact ⟨_, _, rfl, rfl, _, rfl, k _ _ ⟨by omega, by omega⟩ hp3 ((o1.trans o2).trans o3)⟩

theorem ok_l_edge (T : Txt K mg C_BadName C_BarbreaksError C_BadNumber C_Grid C_Named C_Timed C_Item C_Piece C_Break C_BadSpan C_BadText C_Refused C_TooMany C_Twice) : Dk P w K mg base CX0 3 "_law_edge" ["_law_pool_here", "_law_low", "_law_high"] spEdge := by
  have D_l_take := ok_l_take (P := P) (w := w) (base := base) T
  have D_l_big := ok_l_big (P := P) (w := w) (base := base) T
  obtain ⟨f, fd, g, F, b⟩ := T.l_edge
  refine ⟨f, fd, g, F.kp, b, F.ok sc_l_edge (fun vs H Q E h => ?_) (fun cdv A outer s H vs Q E hr h => ?_)⟩
  · obtain ⟨p, c, ns, lo, hi, rfl, _⟩ := h
    rfl
  · obtain ⟨p, c, ns, lo, hi, rfl, hp, h1, h2, k⟩ := h
    refine ⟨_, (pss_cons (ps_set (i := 3) sc_l_edge.nd rfl (Or.inl rfl) (pe_d D_l_take (hr.mono (by decide)) pass0 (by rfl) (pa_cons (pv 0) (pa_cons pe_int pa_nil))))
  (pss_cons (ps_if (pt_cmpR op_eq (pv 3) pe_int (nomark _))
  (pss_one (ps_ret (pe_op op_sub (pv 1) pe_int)))
  pss_nil)
  (pss_cons (ps_if (pt_cmpR op_eq (pv 3) pe_int (nomark _))
  (pss_one (ps_ret (pe_op op_add (pv 2) pe_int)))
  pss_nil)
  (pss_cons (ps_if (pt_cmpR op_eq (pv 3) pe_int (nomark _))
  (pss_cons (ps_set (i := 4) sc_l_edge.nd rfl (Or.inl rfl) (pe_op op_add pe_int (pe_d D_l_big (hr.mono (by decide)) pass0 (by rfl) (pa_cons (pv 0) pa_nil))))
  (pss_one (ps_ret (pe_ix ix_list (pe_lst (pa_cons (pe_op op_sub (pv 1) (pv 4)) (pa_cons (pe_op op_add (pv 2) (pv 4)) pa_nil))) (pe_d D_l_take (hr.mono (by decide)) pass0 (by rfl) (pa_cons (pv 0) (pa_cons pe_int pa_nil))) (fun _ _ => rfl)))))
  pss_nil)
  (pss_cons (ps_if (pt_cmpR op_lt (pv 3) pe_int (nomark _))
  (pss_one (ps_ret (pv 1)))
  pss_nil)
  (pss_cons (ps_if (pt_cmpR op_lt (pv 3) pe_int (nomark _))
  (pss_one (ps_ret (pv 2)))
  pss_nil)
  (pss_one (ps_ret (pe_op op_add (pv 1) (pe_d D_l_take (hr.mono (by decide)) pass0 (by rfl) (pa_cons (pv 0) (pa_cons (pe_op op_add (pe_op op_sub (pv 2) (pv 1)) pe_int) pa_nil)))))))))))), ?_⟩
    refine ⟨_, rfl, p, c, ns, _, rfl, hp, by decide, by decide +kernel, fun w H1 w0 w1 hp1 o1 => ?_⟩
    refine ⟨_, rfl, rfl, _, rfl, ite2 (fun _ => ⟨_, rfl, _, _, rfl, rfl, k _ _ hp1 (But.of_off o1)⟩) (fun _ => ?_)⟩
    refine ⟨_, rfl, rfl, _, rfl, ite2 (fun _ => ⟨_, rfl, _, _, rfl, rfl, k _ _ hp1 (But.of_off o1)⟩) (fun _ => ?_)⟩
    refine ⟨_, rfl, rfl, _, rfl, ite2 (fun _ => ?_) (fun _ => ?_)⟩
    · refine ⟨_, rfl, p, c, ns, rfl, hp1, fun y H2 y0 y1 hp2 o2 => ⟨_, _, rfl, rfl, ?_⟩⟩
      refine ⟨_, rfl, _, rfl, _, _, rfl, rfl, _, rfl, _, rfl, _, _, rfl, rfl, (by show 2 ≤ sizeLine; decide), fun l nl => ?_⟩
      refine ⟨_, rfl, p, c, ns, _, rfl, hp2.same (Same.new nl), by decide, by decide +kernel, fun x H3 x0 x1 hp3 o3 => ?_⟩
      have npl : l ≠ p := by
        obtain ⟨lp, e, _⟩ := hp2.at_
        exact (ne_of_none e nl).symm
      obtain ⟨v, hv⟩ : ∃ v : Int, atI [V.int (lo - (1 + y)), .int (hi + (1 + y))] x = some (.int v) := by
        have q : x = 0 ∨ x = 1 := by omega
        rcases q with rfl | rfl
        · exact ⟨_, rfl⟩
        · exact ⟨_, rfl⟩
      exact ⟨l, _, x, _, rfl, rfl, SqL.of ((o3 l npl).trans upd_same), hv, k v _ hp3 ((But.of_off (o1.trans o2)).trans ((But.of_same (Same.new nl)).trans (But.of_off o3)))⟩
    refine ⟨_, rfl, _, _, rfl, rfl, _, rfl, ite2 (fun _ => ⟨_, rfl, k _ _ hp1 (But.of_off o1)⟩) (fun _ => ?_)⟩
    refine ⟨_, rfl, _, _, rfl, rfl, _, rfl, ite2 (fun _ => ⟨_, rfl, k _ _ hp1 (But.of_off o1)⟩) (fun _ => ?_)⟩
    refine ⟨_, rfl, _, rfl, _, rfl, _, rfl, _, _, rfl, rfl, _, _, rfl, rfl, p, c, ns, _, rfl, hp1, (by show (0 : Int) < hi - lo + 1; omega), log2_27 (by show (1 : Int) ≤ hi - lo + 1; omega) (by show hi - lo + 1 ≤ 10 ^ 27; omega), fun x H2 x0 x1 hp2 o2 => ?_⟩
    exact ⟨_, _, rfl, rfl, k _ _ hp2 (But.of_off (o1.trans o2))⟩

theorem ok_l_turned (T : Txt K mg C_BadName C_BarbreaksError C_BadNumber C_Grid C_Named C_Timed C_Item C_Piece C_Break C_BadSpan C_BadText C_Refused C_TooMany C_Twice) : Dk P w K mg base CX0 1 "_law_turned" ["_law_right", "_law_edges"] spTurned := by
  obtain ⟨f, fd, g, F, b⟩ := T.l_turned
  refine ⟨f, fd, g, F.kp, b, F.ok sc_l_turned (fun vs H Q E h => ?_) (fun cdv A outer s H vs Q E hr h => ?_)⟩
  · obtain ⟨r, e, xs, es, rfl, _⟩ := h
    rfl
  · obtain ⟨r, e, xs, es, rfl, hr0, he, hl, h10, hes, k⟩ := h
    refine ⟨_, (pss_cons (ps_set (i := 2) sc_l_turned.nd rfl (Or.inl rfl) (pe_lst pa_nil))
  (pss_cons (ps_for PassesOwn.never rfl (pi_range1 rfl T.b_range (pa_cons (pe_callB call_len_seq (by rfl) T.b_len (by decide +kernel) (pa_cons (pv 0) pa_nil)) pa_nil)) (pg_name (i := 3) sc_l_turned.nd rfl (Or.inl rfl))
  (pss_one (ps_for PassesOwn.never rfl (pi_list (pe_ix ix_list (pv 1) (pv 3) (fun _ _ => rfl))) (pg_name (i := 4) sc_l_turned.nd rfl (Or.inl rfl))
  (pss_cons (ps_set (i := 5) sc_l_turned.nd rfl (Or.inl rfl) (pe_callTy call_list_of (by rfl) T.b_list (by decide +kernel) (pa_cons (pv 0) pa_nil)))
  (pss_cons (ps_asg (pv 4) (pg_sub (pv 5) (pv 3) set_list))
  (pss_one (ps_expr (pe_bm PySem.F.plainAttrs_list PySem.F.slot_list_append PySem.F.type_list_append mt_append (pv 2) (pa_cons (pv 5) pa_nil)))))))))
  (pss_one (ps_ret (pv 2))))), ?_⟩
    refine ⟨(by show 0 ≤ sizeLine; decide), fun l nl => ?_⟩
    have s1 := Same.new (o := .lst []) nl
    refine ⟨_, rfl, r, _, rfl, .inl (SqL.of (s1 _ _ hr0)), _, rfl, by omega, (by rw [List.length_map]; omega), for_range (n := (xs.map V.int).length) (fun i σ H' => ∃ (rows : List Addr) (x3 x4 x5 : Option V), σ = [some (.ref r), some (.ref e), some (.ref l), x3, x4, x5] ∧ H' l = some (.lst (rows.map V.ref)) ∧ RowsL H' xs.length rows ∧ rows.length ≤ 10 * i ∧ (∀ a ∈ rows, a ≠ l) ∧ Same H H') ⟨[], _, _, _, rfl, upd_same, (fun a h => by cases h), Nat.zero_le _, (fun a h => by cases h), s1⟩ ?_ ?_⟩
    · rintro i σ H1 hi ⟨rows, x3, x4, x5, rfl, hl1, hrows, hlen, hne, s2⟩
      rw [Int.zero_add]
      have hi' : i < xs.length := by rw [List.length_map] at hi; exact hi
      obtain ⟨b, hb⟩ : ∃ b, es[i]? = some b := ⟨_, List.getElem?_eq_getElem (by omega)⟩
      obtain ⟨ys, hy, hyl⟩ := hes b (List.mem_of_getElem? hb)
      refine ⟨_, rfl, _, rfl, e, _, (i : Int), V.ref b, rfl, rfl, SqL.of (s2 _ _ he), atI_nat (by rw [List.getElem?_map, hb]; rfl), b, rfl, ⟨_, SqL.of (s2 _ _ hy)⟩, for_list (K := K) (a := b) (xs := ys.map V.int) (fun j σ H' => ∃ (rows2 : List Addr) (x4 x5 : Option V), σ = [some (.ref r), some (.ref e), some (.ref l), some (.int (i : Int)), x4, x5] ∧ H' l = some (.lst (rows2.map V.ref)) ∧ RowsL H' xs.length rows2 ∧ rows2.length ≤ rows.length + j ∧ (∀ a ∈ rows2, a ≠ l) ∧ Same H H') ⟨rows, _, _, rfl, hl1, hrows, by omega, hne, s2⟩ (fun j σ H' _ ⟨_, _, _, _, _, _, _, _, s3⟩ => SqL.of (s3 _ _ hy)) ?_ ?_⟩
      · rintro j x σ H2 hx ⟨rows2, x4, x5, rfl, hl2, hrows2, hlen2, hne2, s3⟩
        obtain ⟨v, hv, rfl⟩ := ints_at hx
        have hj : j < ys.length := (List.getElem?_eq_some_iff.mp hv).1
        refine ⟨_, rfl, r, _, rfl, .inl (SqL.of (s3 _ _ hr0)), fun q nq => ?_⟩
        have s4 := Same.new (o := .lst (xs.map V.int)) nq
        have nlq : l ≠ q := ne_of_none hl2 nq
        refine ⟨_, rfl, _, rfl, _, rfl, q, _, _, i, rfl, rfl, upd_same, (by rw [List.length_map]; exact ix_of hi'), ?_⟩
        rw [upd_upd]
        have e1 : (xs.map V.int).set i (.int v) = (xs.set i v).map V.int := by rw [List.map_set]
        rw [e1]
        have s5 := Same.new (o := .lst ((xs.set i v).map V.int)) nq
        have hl5 := s5 _ _ hl2
        refine ⟨_, rfl, .inl ⟨rfl, _, SqL.of hl5⟩, _, rfl, l, _, _, rfl, rfl, hl5, (by rw [List.length_map]; exact Nat.lt_of_lt_of_le (by omega : rows2.length < 1000) (by decide)), ?_⟩
        refine ⟨rows2 ++ [q], _, _, rfl, ?_, ?_, ?_, ?_, ?_⟩
        · rw [upd_same, List.map_append]
          rfl
        · refine RowsL.off (p := l) (H := L2.upd H2 q (.lst ((xs.set i v).map V.int))) ?_ Off.upd ?_
          · intro a ha
            rcases List.mem_append.mp ha with ha | ha
            · exact (hrows2.same s5) a ha
            · rw [List.mem_singleton.mp ha]
              exact ⟨_, upd_same, List.length_set⟩
          · intro a ha
            rcases List.mem_append.mp ha with ha | ha
            · exact hne2 a ha
            · rw [List.mem_singleton.mp ha]
              exact nlq.symm
        · rw [List.length_append, List.length_singleton]
          omega
        · intro a ha
          rcases List.mem_append.mp ha with ha | ha
          · exact hne2 a ha
          · rw [List.mem_singleton.mp ha]
            exact nlq.symm
        · intro a o ea
          have na : a ≠ l := ne_of_none ea nl
          rw [upd_ne na]
          exact s5 _ _ (s3 _ _ ea)
      · rintro σ H2 ⟨rows2, x4, x5, rfl, hl2, hrows2, hlen2, hne2, s3⟩
        rw [List.length_map] at hlen2
        exact ⟨rows2, _, _, _, rfl, hl2, hrows2, by omega, hne2, s3⟩
    · rintro σ H1 ⟨rows, x3, x4, x5, rfl, hl1, hrows, hlen, hne, s2⟩
      rw [List.length_map] at hlen
      exact ⟨_, rfl, k l rows _ s2 hl1 hrows (by omega) hne⟩

theorem ok_l_names (T : Txt K mg C_BadName C_BarbreaksError C_BadNumber C_Grid C_Named C_Timed C_Item C_Piece C_Break C_BadSpan C_BadText C_Refused C_TooMany C_Twice) : Dk P w K mg base CX0 2 "_law_names" ["_law_pool_here", "_law_many"] spNames := by
  have D_l_take := ok_l_take (P := P) (w := w) (base := base) T
  obtain ⟨f, fd, g, F, b⟩ := T.l_names
  refine ⟨f, fd, g, F.kp, b, F.ok sc_l_names (fun vs H Q E h => ?_) (fun cdv A outer s H vs Q E hr h => ?_)⟩
  · obtain ⟨p, c, ns, m, rfl, _⟩ := h
    rfl
  · obtain ⟨p, c, ns, m, rfl, hp, m0, m9, k⟩ := h
    refine ⟨_, (pss_cons (ps_set (i := 2) sc_l_names.nd rfl (Or.inr rfl) pe_str)
  (pss_cons (ps_set (i := 3) sc_l_names.nd rfl (Or.inr rfl) (pe_op op_add_str (pv 2) pe_str))
  (pss_cons (ps_set (i := 4) sc_l_names.nd rfl (Or.inl rfl) (pe_d D_l_take (hr.mono (by decide)) pass0 (by rfl) (pa_cons (pv 0) (pa_cons pe_int pa_nil))))
  (C8.pss_cut (ps_set (i := 5) sc_l_names.nd rfl (Or.inl rfl) (pe_op op_add pe_int (pe_d D_l_take (hr.mono (by decide)) pass0 (by rfl) (pa_cons (pv 0) (pa_cons pe_int pa_nil)))))
  (pss_cons (ps_set (i := 6) sc_l_names.nd rfl (Or.inl rfl) (pe_d D_l_take (hr.mono (by decide)) pass0 (by rfl) (pa_cons (pv 0) (pa_cons (pv 5) pa_nil))))
  (pss_cons (ps_set (i := 7) sc_l_names.nd rfl (Or.inr rfl) (pe_d D_l_take (hr.mono (by decide)) pass0 (by rfl) (pa_cons (pv 0) (pa_cons pe_int pa_nil))))
  (pss_cons (ps_set (i := 8) sc_l_names.nd rfl (Or.inl rfl) (pe_lst pa_nil))
  (pss_cons (ps_for PassesOwn.never rfl (pi_range1 rfl T.b_range (pa_cons (pv 1) pa_nil)) (pg_name (i := 9) sc_l_names.nd rfl (Or.inl rfl))
  (pss_cons (ps_set (i := 10) sc_l_names.nd rfl (Or.inl rfl) (pe_join pe_str (pe_lc (own := [("_law_j", 13)]) (g := gName 13) (tt := tYes) (by rfl) sc_l_names.nd (pi_range1 rfl T.b_range (pa_cons (pv 5) pa_nil)) (blkOk_by (own := [("_law_j", 13)]) (N := ["_law_pool_here", "_law_many", "_law_letters", "_law_signs", "_law_alike", "_law_size_here", "_law_at", "_law_turn", "_law_names_here", "_law_k", "_law_text", "_law_word", "_law_t", "_law_j"]) (sc := defScope s_l_names) (by decide +kernel)) (fun _ _ _ _ _ => pg_name (i := 13) sc_l_names.nd rfl (Or.inl rfl)) (fun _ _ _ _ _ => pts_nil) (fun _ _ _ _ _ => (pe_item_str (pv 2) (pe_op op_mod (pe_callTy call_int1 (by rfl) T.b_int (by decide +kernel) (pa_cons (pe_op op_add (pv 7) (pe_op op_mul pe_int (pv 13))) pa_nil)) pe_int) (fun _ _ => rfl))))))
  (pss_cons (ps_set (i := 10) sc_l_names.nd rfl (Or.inl rfl) (pe_op op_add_str (pe_op op_add_str (pe_slice sl_str (pv 10) po_none (po_some (pv 6))) (pe_item_str (pv 2) (pe_op op_mod (pe_callTy call_int1 (by rfl) T.b_int (by decide +kernel) (pa_cons (pe_op op_add (pe_op op_add (pv 7) (pe_op op_mul pe_int (pv 9))) pe_int) pa_nil)) pe_int) (fun _ _ => rfl))) (pe_slice sl_str (pv 10) (po_some (pe_op op_add (pv 6) pe_int)) po_none)))
  (C8.pss_cut (ps_if (pt_cmpR op_eq (pv 4) pe_int (nomark _))
  (pss_cons (ps_set (i := 11) sc_l_names.nd rfl (Or.inr rfl) (pe_d D_l_take (hr.mono (by decide)) pass0 (by rfl) (pa_cons (pv 0) (pa_cons pe_int pa_nil))))
  (pss_cons (ps_set (i := 10) sc_l_names.nd rfl (Or.inl rfl) (pe_item_str (pv 2) (pe_op op_mod (pe_callTy call_int1 (by rfl) T.b_int (by decide +kernel) (pa_cons (pe_op op_add (pv 7) (pv 11)) pa_nil)) pe_int) (fun _ _ => rfl)))
  (pss_one (ps_set (i := 10) sc_l_names.nd rfl (Or.inl rfl) (pe_op op_add_str (pv 10) (pe_join pe_str (pe_lc (own := [("_law_j", 13)]) (g := gName 13) (tt := tYes) (by rfl) sc_l_names.nd (pi_range1 rfl T.b_range (pa_cons (pe_op op_mod (pe_callTy call_int1 (by rfl) T.b_int (by decide +kernel) (pa_cons (pv 11) pa_nil)) pe_int) pa_nil)) (blkOk_by (own := [("_law_j", 13)]) (N := ["_law_pool_here", "_law_many", "_law_letters", "_law_signs", "_law_alike", "_law_size_here", "_law_at", "_law_turn", "_law_names_here", "_law_k", "_law_text", "_law_word", "_law_t", "_law_j"]) (sc := defScope s_l_names) (by decide +kernel)) (fun _ _ _ _ _ => pg_name (i := 13) sc_l_names.nd rfl (Or.inl rfl)) (fun _ _ _ _ _ => pts_nil) (fun _ _ _ _ _ => (pe_item_str (pv 3) (pe_op op_mod (pe_callTy call_int1 (by rfl) T.b_int (by decide +kernel) (pa_cons (pe_op op_add (pe_op op_mul (pv 11) pe_int) (pe_op op_mul pe_int (pv 13))) pa_nil)) pe_int) (fun _ _ => rfl))))))))))
  pss_nil)
  (pss_cons (ps_for PassesOwn.never rfl (pi_range1 rfl T.b_range (pa_cons pe_int pa_nil)) (pg_name (i := 12) sc_l_names.nd rfl (Or.inl rfl))
  (pss_one (ps_if (pt_cmpR op_in_seq (pv 10) (pv 8) (by rfl))
  (pss_one (ps_set (i := 10) sc_l_names.nd rfl (Or.inl rfl) (pe_op op_add_str (pe_item_str (pv 2) (pe_op op_mod (pe_callTy call_int1 (by rfl) T.b_int (by decide +kernel) (pa_cons (pe_op op_add (pv 7) (pv 12)) pa_nil)) pe_int) (fun _ _ => rfl)) (pe_slice sl_str (pv 10) (po_some pe_int) po_none))))
  pss_nil)))
  (pss_one (ps_expr (pe_bm PySem.F.plainAttrs_list PySem.F.slot_list_append PySem.F.type_list_append mt_append (pv 8) (pa_cons (pv 10) pa_nil)))))))))
  (pss_one (ps_ret (pv 8))))))))))), ?_⟩
    have ll : (letS : Str).length = 26 := by decide +kernel
    have lg : (letS ++ "0123456789").length = 36 := by decide +kernel
    have l0 : ("" : Str).length = 0 := by decide +kernel
    refine ⟨_, rfl, _, _, rfl, rfl, catL (by decide +kernel) (by decide +kernel), ?_⟩
    refine ⟨_, rfl, p, c, ns, _, rfl, hp, by decide, by decide +kernel, fun al H1 al0 al1 hp1 o1 => ?_⟩
    refine ⟨fun σ H' => ∃ sz : Int, σ = [some (.ref p), some (.int m), some (.str letS), some (.str (letS ++ "0123456789")), some (.int al), some (.int sz), none, none, none, none, none, none, none, none] ∧ 1 ≤ sz ∧ sz ≤ 12 ∧ Pool ns c H' p ∧ Off p H1 H', ?_, ?_⟩
    · refine ⟨_, rfl, p, c, ns, _, rfl, hp1, by decide, by decide +kernel, fun w H2 w0 w1 hp2 o2 => ⟨_, _, rfl, rfl, ?_⟩⟩
      exact ⟨1 + w, rfl, by omega, by omega, hp2, o2⟩
    rintro σ H2 ⟨sz, rfl, z1, z2, hp2, o2⟩
    refine ⟨_, rfl, _, rfl, p, c, ns, _, rfl, hp2, (by omega), log2_27 z1 (by omega), fun at_ H3 a0 a1 hp3 o3 => ?_⟩
    obtain ⟨an, rfl⟩ : ∃ an : Nat, at_ = (an : Int) := ⟨at_.toNat, by omega⟩
    refine ⟨_, rfl, p, c, ns, _, rfl, hp3, by decide, by decide +kernel, fun tu H4 tu0 tu1 hp4 o4 => ?_⟩
    refine ⟨(by show 0 ≤ sizeLine; decide), fun l nl => ?_⟩
    have b4 : But p H H4 := But.of_off (((o1.trans o2).trans o3).trans o4)
    have npl : p ≠ l := by
      obtain ⟨lp, e, _⟩ := hp4.at_
      exact ne_of_none e nl
    have ncl : c ≠ l := ne_of_none hp4.cells nl
    have nlH : H l = none := by
      cases e : H l with
      | none => rfl
      | some o =>
        have q := b4 l o e npl.symm
        rw [nl] at q
        cases q
    refine ⟨_, rfl, m, rfl, by omega, by omega, for_range (n := m.toNat) (fun i σ H' => ∃ (xs : List Str) (x9 x10 x11 x12 : Option V), σ = [some (.ref p), some (.int m), some (.str letS), some (.str (letS ++ "0123456789")), some (.int al), some (.int sz), some (.int (an : Int)), some (.int tu), some (.ref l), x9, x10, x11, x12, none] ∧ H' l = some (.lst (xs.map V.str)) ∧ xs.length = i ∧ (∀ x ∈ xs, nameB x = true) ∧ xs.Nodup ∧ Pool ns c H' p ∧ But p H H')
      ⟨[], _, _, _, _, rfl, upd_same, rfl, (fun x hx => by cases hx), List.nodup_nil, hp4.same (Same.new nl), b4.updN nlH⟩ ?_ ?_⟩
    · rintro i σ H5 hi ⟨xs, x9, x10, x11, x12, rfl, hl5, hlen, hok, hnd, hp5, b5⟩
      rw [Int.zero_add]
      refine ⟨⟨_, rfl⟩, _, rfl, sz, rfl, by omega, by omega, fun D hD => ?_⟩
      refine lc_range (lo := 0) (n := sz.toNat) (fun j H' => ∃ cs : List Nat, H' D = some (.lst ((cs.map fun c => (⟨#[c]⟩ : Str)).map V.str)) ∧ cs.length = j ∧ (∀ y ∈ cs, y ∈ letS.cps.toList) ∧ Off D H5 H') ⟨[], upd_same, rfl, (fun x hx => by cases hx), Off.upd⟩ ?_ ?_
      · rintro j H6 hj ⟨cs, e, hcl, hcs, hof⟩
        refine ⟨rfl, ?_⟩
        obtain ⟨ch, hch, hm, _⟩ := let_ix (tu + 7 * (0 + (j : Int)))
        refine ⟨_, rfl, _, rfl, _, rfl, _, _, rfl, rfl, .inl ⟨by decide, by decide⟩, _, _, rfl, rfl, .inl ⟨_, rfl, _, _, rfl, rfl, p26, letS, _, ch, rfl, rfl, Int.emod_nonneg _ (by decide), (by have q := Int.emod_lt_of_pos (tu + 7 * (0 + (j : Int))) (by decide : (0 : Int) < 26); omega), (by have q := Int.emod_lt_of_pos (tu + 7 * (0 + (j : Int))) (by decide : (0 : Int) < 26); omega), hch, _, e, ?_, cs ++ [ch], ?_, ?_, ?_, hof.trans Off.upd⟩⟩
        · rw [List.length_map, List.length_map, hcl]
          exact Nat.lt_of_lt_of_le (by omega : j < 100) (by decide)
        · rw [upd_same, List.map_append, List.map_append]
          rfl
        · rw [List.length_append, hcl]
          rfl
        · intro y hy
          rcases List.mem_append.mp hy with hy | hy
          · exact hcs y hy
          · rw [List.mem_singleton.mp hy]
            exact hm
      rintro H6 ⟨cs, e, hcl, hcs, hof⟩
      have npD : p ≠ D := by
        obtain ⟨lp, q, _⟩ := hp5.at_
        exact ne_of_none q hD
      have ncD : c ≠ D := ne_of_none hp5.cells hD
      have nlD : l ≠ D := ne_of_none hl5 hD
      have hp6 := hp5.off hof npD ncD
      have hl6 := (hof l nlD).trans hl5
      have b6 : But p H H6 := fun b o q hb => by
        have q2 := b5 b o q hb
        rw [hof b (ne_of_none q2 hD)]
        exact q2
      refine ⟨_, D, cs.map fun c => (⟨#[c]⟩ : Str), rfl, rfl, .inl (SqL.of e), (by rw [sum_one, l0]; omega), ?_⟩
      have hz := join_chars (cs := cs)
      generalize Txt.join "" (cs.map fun c => (⟨#[c]⟩ : Str)) = z at hz
      have hzl : z.length ≤ 12 := by
        rw [tl_len, hz, hcl]
        omega
      have hzs : z.length ≤ sizeLine := Nat.le_trans hzl (by decide)
      have cz : ∀ lo hi, (cutS z lo hi).length ≤ 12 := fun lo hi => Nat.le_trans cutS_len hzl
      obtain ⟨ch, hch, hm, _⟩ := let_ix (tu + 3 * (i : Int) + 1)
      refine ⟨_, rfl, _, rfl, _, rfl, z, rfl, hzs, _, rfl, _, rfl, _, rfl, _, _, rfl, rfl, .inl ⟨by decide, by decide⟩, _, _, rfl, rfl, _, _, rfl, rfl, .inl ⟨_, rfl, _, _, rfl, rfl, p26, letS, _, ch, rfl, rfl, Int.emod_nonneg _ (by decide), (by have q := Int.emod_lt_of_pos (tu + 3 * (i : Int) + 1) (by decide : (0 : Int) < 26); omega), (by have q := Int.emod_lt_of_pos (tu + 3 * (i : Int) + 1) (by decide : (0 : Int) < 26); omega), hch, _, _, rfl, rfl, catL (by have := cz none (some (an : Int)); omega) (by rw [one_len]; decide), _, rfl, _, rfl, _, _, rfl, rfl, _, rfl, z, rfl, hzs, _, _, rfl, rfl, catL (by rw [Str.length_append, one_len]; have := cz none (some (an : Int)); omega) (by have := cz (some ((an : Int) + 1)) none; omega), ?_⟩⟩
      have ok1 : okL (cutS z none (some (an : Int)) ++ ⟨#[ch]⟩ ++ cutS z (some ((an : Int) + 1)) none).cps.toList := by
        rw [tl_app, tl_app, cut_lo, show (cutS z (some ((an : Int) + 1)) none).cps.toList = z.cps.toList.drop (an + 1) from cut_hi, hz]
        exact ok_put (by omega) (by omega) hcs hm
      generalize cutS z none (some (an : Int)) ++ ⟨#[ch]⟩ ++ cutS z (some ((an : Int) + 1)) none = y1 at ok1
      refine ⟨fun σ H' => ∃ (z : Str) (x11 : Option V), σ = [some (.ref p), some (.int m), some (.str letS), some (.str (letS ++ "0123456789")), some (.int al), some (.int sz), some (.int (an : Int)), some (.int tu), some (.ref l), some (.int (i : Int)), some (.str z), x11, x12, none] ∧ okL z.cps.toList ∧ H' l = some (.lst (xs.map V.str)) ∧ Pool ns c H' p ∧ But p H H', ?_, ?_⟩
      · refine ⟨_, rfl, rfl, _, rfl, ite2 (fun _ => ?_) (fun _ => ⟨_, _, rfl, ok1, hl6, hp6, b6⟩)⟩
        refine ⟨_, rfl, p, c, ns, _, rfl, hp6, by decide, by decide +kernel, fun wd H7 wd0 wd1 hp7 o7 => ?_⟩
        have hl7 := (o7 l npl.symm).trans hl6
        have b7 : But p H H7 := b6.trans (But.of_off o7)
        obtain ⟨ch2, hch2, hm2, _⟩ := let_ix (tu + wd)
        refine ⟨_, rfl, _, rfl, _, rfl, _, _, rfl, rfl, .inl ⟨_, rfl, _, _, rfl, rfl, p26, letS, _, ch2, rfl, rfl, Int.emod_nonneg _ (by decide), (by have q := Int.emod_lt_of_pos (tu + wd) (by decide : (0 : Int) < 26); omega), (by have q := Int.emod_lt_of_pos (tu + wd) (by decide : (0 : Int) < 26); omega), hch2, ?_⟩⟩
        have w0 := Int.emod_nonneg wd (by decide : (12 : Int) ≠ 0)
        have w1 := Int.emod_lt_of_pos wd (by decide : (0 : Int) < 12)
        refine ⟨_, rfl, ⟨_, rfl⟩, _, rfl, .inl ⟨_, rfl, _, _, rfl, rfl, p12, _, rfl, by omega, by omega, fun D2 hD2 => ?_⟩⟩
        refine lc_range (lo := 0) (n := (wd % 12).toNat) (fun j H' => ∃ cs : List Nat, H' D2 = some (.lst ((cs.map fun c => (⟨#[c]⟩ : Str)).map V.str)) ∧ cs.length = j ∧ (∀ y ∈ cs, signB y = true) ∧ Off D2 H7 H') ⟨[], upd_same, rfl, (fun x hx => by cases hx), Off.upd⟩ ?_ ?_
        · rintro j H8 hj ⟨cs, e, hcl, hcs, hof⟩
          refine ⟨rfl, ?_⟩
          obtain ⟨ch, hch, hm⟩ := sg_ix (wd * 5 + 11 * (0 + (j : Int)))
          refine ⟨_, rfl, _, rfl, _, _, rfl, rfl, .inr ⟨by decide, by decide⟩, _, rfl, _, _, rfl, rfl, .inl ⟨by decide, by decide⟩, _, _, rfl, rfl, .inl ⟨_, rfl, _, _, rfl, rfl, p36, letS ++ "0123456789", _, ch, rfl, rfl, Int.emod_nonneg _ (by decide), (by have q := Int.emod_lt_of_pos (wd * 5 + 11 * (0 + (j : Int))) (by decide : (0 : Int) < 36); omega), (by have q := Int.emod_lt_of_pos (wd * 5 + 11 * (0 + (j : Int))) (by decide : (0 : Int) < 36); omega), hch, _, e, ?_, cs ++ [ch], ?_, ?_, ?_, hof.trans Off.upd⟩⟩
          · rw [List.length_map, List.length_map, hcl]
            exact Nat.lt_of_lt_of_le (by omega : j < 100) (by decide)
          · rw [upd_same, List.map_append, List.map_append]
            rfl
          · rw [List.length_append, hcl]
            rfl
          · intro y hy
            rcases List.mem_append.mp hy with hy | hy
            · exact hcs y hy
            · rw [List.mem_singleton.mp hy]
              exact dig_sign hm
        rintro H8 ⟨cs, e, hcl, hcs, hof⟩
        have npD : p ≠ D2 := by
          obtain ⟨lp, q, _⟩ := hp7.at_
          exact ne_of_none q hD2
        refine ⟨_, D2, cs.map fun c => (⟨#[c]⟩ : Str), rfl, rfl, .inl (SqL.of e), (by rw [sum_one, l0]; omega), ?_⟩
        have hz2 := join_chars (cs := cs)
        generalize Txt.join "" (cs.map fun c => (⟨#[c]⟩ : Str)) = y2 at hz2
        have hy2 : y2.length ≤ 11 := by
          rw [tl_len, hz2, hcl]
          omega
        refine ⟨_, _, rfl, rfl, catL (by rw [one_len]; decide) (by omega), _, _, rfl, ?_, (hof l (ne_of_none hl7 hD2)).trans hl7, hp7.off hof npD (ne_of_none hp7.cells hD2), fun b o q hb => ?_⟩
        · rw [tl_app, hz2]
          show okL (ch2 :: cs)
          exact ok_cons hm2 (by omega) hcs
        · have q2 := b7 b o q hb
          rw [hof b (ne_of_none q2 hD2)]
          exact q2
      rintro σ H8 ⟨y3, x11, rfl, ok3, hl8, hp8, b8⟩
      refine ⟨26, rfl, by decide, by decide, for_range (n := 26) (fun t σ H' => ∃ (z : Str) (x12 : Option V), σ = [some (.ref p), some (.int m), some (.str letS), some (.str (letS ++ "0123456789")), some (.int al), some (.int sz), some (.int (an : Int)), some (.int tu), some (.ref l), some (.int (i : Int)), some (.str z), x11, x12, none] ∧ okL z.cps.toList ∧ (z ∉ xs ∨ ∀ t', t' < t → cnd tu (z.cps.toList.drop 1) t' ∈ xs) ∧ H' = H8) ⟨y3, _, rfl, ok3, .inr fun t' h => absurd h (Nat.not_lt_zero _), rfl⟩ ?_ ?_⟩
      · rintro t σ H9 ht ⟨z, x12, rfl, okz, hin, rfl⟩
        rw [Int.zero_add]
        have hzl : z.length ≤ 12 := by
          rw [tl_len]
          exact okz.2.1
        have hzs : z.length ≤ sizeLine := Nat.le_trans hzl (by decide)
        refine ⟨_, rfl, _, rfl, l, _, rfl, .inl (SqL.of hl8), rfl, flat_strs, _, rfl, ?_⟩
        rw [show (if false = true then !inV (V.str z) (xs.map V.str) else inV (V.str z) (xs.map V.str)) = decide (z ∈ xs) from inV_str]
        refine ite2 (fun q => ?_) (fun q => ⟨z, _, rfl, okz, .inl (fun h => q (decide_eq_true h)), rfl⟩)
        have zin : z ∈ xs := of_decide_eq_true q
        have all_ : ∀ t', t' < t → cnd tu (z.cps.toList.drop 1) t' ∈ xs := by
          rcases hin with h | h
          · exact absurd zin h
          · exact h
        obtain ⟨ch, hch, hm, hv⟩ := let_ix (tu + (t : Int))
        refine ⟨_, rfl, _, rfl, _, rfl, _, _, rfl, rfl, .inl ⟨_, rfl, _, _, rfl, rfl, p26, letS, _, ch, rfl, rfl, Int.emod_nonneg _ (by decide), (by have q := Int.emod_lt_of_pos (tu + (t : Int)) (by decide : (0 : Int) < 26); omega), (by have q := Int.emod_lt_of_pos (tu + (t : Int)) (by decide : (0 : Int) < 26); omega), hch, _, rfl, _, rfl, z, rfl, hzs, _, _, rfl, rfl, catL (by rw [one_len]; decide) (Nat.le_trans cutS_len (by omega)), ?_⟩⟩
        have et : ((⟨#[ch]⟩ : Str) ++ cutS z (some (1 : Int)) none).cps.toList = ch :: z.cps.toList.drop 1 := by
          rw [tl_app, show (cutS z (some (1 : Int)) none).cps.toList = z.cps.toList.drop 1 from cut_hi (k := 1)]
          rfl
        refine ⟨_, _, rfl, (by rw [et]; exact ok_first okz hm), ?_, rfl⟩
        by_cases hx : ((⟨#[ch]⟩ : Str) ++ cutS z (some (1 : Int)) none) ∈ xs
        · refine .inr fun t' h => ?_
          rw [et]
          show cnd tu (z.cps.toList.drop 1) t' ∈ xs
          by_cases h2 : t' = t
          · subst h2
            have e : cnd tu (z.cps.toList.drop 1) t' = (⟨#[ch]⟩ : Str) ++ cutS z (some (1 : Int)) none := by
              refine str_ext ?_
              rw [et, hv]
              rfl
            rw [e]
            exact hx
          · exact all_ t' (by omega)
        · exact .inl hx
      · rintro σ H9 ⟨z, x12, rfl, okz, hin, rfl⟩
        have hx : z ∉ xs := by
          rcases hin with h | h
          · exact h
          · exact (cnd_all (by omega) h).elim
        refine ⟨_, rfl, .inl ⟨rfl, _, SqL.of hl8⟩, _, rfl, l, _, _, rfl, rfl, hl8, (by rw [List.length_map, hlen]; exact Nat.lt_of_lt_of_le (by omega : i < 100) (by decide)), ?_⟩
        refine ⟨xs ++ [z], _, _, _, _, rfl, ?_, ?_, fun x h => ?_, ?_, hp8.off Off.upd npl ncl, b8.updN nlH⟩
        · rw [upd_same, List.map_append]
          rfl
        · rw [List.length_append, hlen]
          rfl
        · rcases List.mem_append.mp h with h | h
          · exact hok x h
          · rw [List.mem_singleton.mp h]
            exact name_ok okz
        · refine List.nodup_append.mpr ⟨hnd, by simp, fun a ha b hb => ?_⟩
          rw [List.mem_singleton.mp hb]
          intro e
          rw [e] at ha
          exact hx ha
    · rintro σ H5 ⟨xs, x9, x10, x11, x12, rfl, hl5, hlen, hok, hnd, hp5, b5⟩
      exact ⟨_, rfl, k l xs _ nlH hl5 (by omega) hok hnd hp5 b5⟩

theorem ok_Grid_first_bar (T : Txt K mg C_BadName C_BarbreaksError C_BadNumber C_Grid C_Named C_Timed C_Item C_Piece C_Break C_BadSpan C_BadText C_Refused C_TooMany C_Twice) : Me P w K mg base CX0 1 C_Grid "first_bar" ["self", "tick"] (spFirstBar C_Grid) := by
  obtain ⟨f, fd, M, F, b⟩ := T.m_Grid_first_bar
  refine ⟨f, fd, M, b, F.ok sc_Grid_first_bar (fun vs H Q E h => ?_) (fun cdv A outer s H vs Q E hr h => ?_)⟩
  · obtain ⟨g, s, o, t, rfl, _⟩ := h
    rfl
  · obtain ⟨g, s, o, t, rfl, ⟨hs, dx, hg⟩, k⟩ := h
    refine ⟨_, (pss_one (ps_ret (pe_op op_add (pv 1) (pe_op op_mod (pe_op op_sub (pe_fld (pv 0) rfl) (pv 1)) (pe_fld (pv 0) rfl))))), ?_⟩
    exact ⟨_, rfl, _, rfl, g, C_Grid, dx, _, _, rfl, hg, T.c_Grid, T.n_Grid_offset, rfl, _, rfl, _, _, rfl, rfl, _, rfl, g, C_Grid, dx, _, _, rfl, hg, T.c_Grid, T.n_Grid_step, rfl, _, _, rfl, rfl, hs, _, _, rfl, rfl, k⟩

theorem ok_Grid_init0 (T : Txt K mg C_BadName C_BarbreaksError C_BadNumber C_Grid C_Named C_Timed C_Item C_Piece C_Break C_BadSpan C_BadText C_Refused C_TooMany C_Twice) : MkD P w K mg base CX0 1 "Grid" C_Grid ["self", "step", "offset"] [] (spGrid0 C_Grid) := by
  obtain ⟨f, fd, ds, M, F, vd, b⟩ := T.i3_Grid
  refine ⟨f, fd, ds, T.g_Grid, M, b, vd, F.ok sc_Grid_init (fun vs H Q E h => ?_) (fun cdv A outer s H vs Q E hr h => ?_)⟩
  · obtain ⟨p, dx, s, o, rfl, _⟩ := h
    rfl
  · obtain ⟨p, dx, st, o, rfl, hp, hs, k⟩ := h
    refine ⟨_, (pss_cons (ps_if (pt_cmpR op_lt (pv 1) pe_int (nomark _))
  (pss_one ps_never)
  pss_nil)
  (pss_cons (ps_fld (pv 0) (pv 1) rfl)
  (pss_one (ps_fld (pv 0) (pe_op op_mod (pv 2) (pv 1)) rfl)))), ?_⟩
    refine ⟨_, rfl, _, _, rfl, rfl, _, rfl, ?_⟩
    refine ite2 (fun q => ?_) (fun _ => ?_)
    · have q' : st < 1 := of_decide_eq_true q
      omega
    refine ⟨_, rfl, _, rfl, p, C_Grid, dx, _, rfl, hp, T.c_Grid, T.n_Grid_step, (by show 0 < 1000; decide), ?_⟩
    refine ⟨_, rfl, _, rfl, _, _, rfl, rfl, (by show 0 < st; omega), _, rfl, p, C_Grid, dx, _, rfl, upd_same, T.c_Grid, T.n_Grid_offset, (by show 1 < 1000; decide), ?_⟩
    exact k _ ⟨by omega, dx, upd_same⟩ (Off.upd.trans Off.upd)

theorem fn_Named_initX (T : Txt K mg C_BadName C_BarbreaksError C_BadNumber C_Grid C_Named C_Timed C_Item C_Piece C_Break C_BadSpan C_BadText C_Refused C_TooMany C_Twice) {f : Addr} {fd : FuncData} (F : Fun K "__init__" "Named.__init__" s_Named_init f fd) : FnOk P w K mg base (L2.CX P w) 3 f fd ["self", "name"] (spNamedX K C_BadName) := by
  have D_is_name := ok_is_name (P := P) (w := w) (base := base) T
  have ER_BadName := er_BadName (P := P) (w := w) (base := base) T
  refine F.okX sc_Named_init (fun vs H Q E h => ?_) (fun cdv A outer s H vs Q E hr h => ?_)
  · obtain ⟨p, C, dx, fs, z, rfl, _⟩ := h
    rfl
  · obtain ⟨p, C, dx, fs, z, rfl, hp, hC, hn, hzl, hfs, k1, k2⟩ := h
    refine ⟨_, (pss_cons (ps_if (pt_not (pt_val (pe_d D_is_name (hr.mono (by decide)) pass0 (by rfl) (pa_cons (pv 1) pa_nil))))
  (pss_one (ps_raise rfl (takes_of rfl rfl rfl rfl) (pmk_er ER_BadName (hr.mono (by decide)) (by rfl) (pa_cons (pv 1) pa_nil))))
  pss_nil)
  (pss_one (ps_fld (pv 0) (pv 1) rfl))), ?_⟩
    refine ⟨_, rfl, z, rfl, by omega, fun H1 s1 => ⟨_, rfl, ?_⟩⟩
    cases hz : nameB z with
    | true =>
      refine iteF ⟨_, rfl, _, rfl, p, C, dx, fs, rfl, s1 _ _ hp, hC, hn, by omega, ?_⟩
      exact k1 hz _ upd_same ((But.of_same s1).trans But.upd)
    | false =>
      refine iteT ⟨_, rfl, (by show 1 ≤ 1000; decide), fun a ha => ⟨a, _, rfl, upd_same, fun d hd hda => ⟨rfl, d, _, upd_same, (upd_ne hda).trans upd_same, (upd_ne hda).symm.trans hd, ?_⟩⟩⟩
      rw [del_made ha ((upd_ne hda).symm.trans hd) hda]
      exact k2 hz _ _ (s1.trans (Same.new ((upd_ne hda).symm.trans hd))) upd_same
theorem ok_Named_initX (T : Txt K mg C_BadName C_BarbreaksError C_BadNumber C_Grid C_Named C_Timed C_Item C_Piece C_Break C_BadSpan C_BadText C_Refused C_TooMany C_Twice) : Cf P w K mg base (L2.CX P w) 3 C_Named "__init__" ["self", "name"] (spNamedX K C_BadName) := by
  obtain ⟨mc, f, fd, r, a, F, b⟩ := T.q_Named_init
  exact ⟨mc, f, fd, r, a, F.kp, b, fn_Named_initX T F⟩
theorem mk_Named_initX (T : Txt K mg C_BadName C_BarbreaksError C_BadNumber C_Grid C_Named C_Timed C_Item C_Piece C_Break C_BadSpan C_BadText C_Refused C_TooMany C_Twice) : MkD P w K mg base (L2.CX P w) 3 "Named" C_Named ["self", "name"] [] (spNamedX K C_BadName) := by
  obtain ⟨f, fd, M, F, b⟩ := T.i_Named
  exact ⟨f, fd, [], T.g_Named, M, b, .nil, fn_Named_initX T F⟩

theorem fn_Timed_initG (T : Txt K mg C_BadName C_BarbreaksError C_BadNumber C_Grid C_Named C_Timed C_Item C_Piece C_Break C_BadSpan C_BadText C_Refused C_TooMany C_Twice) {f : Addr} {fd : FuncData} (F : FunD K "__init__" "Timed.__init__" (defArgs s_Timed_init) (defBody s_Timed_init) (defScope s_Timed_init) [.non, .int 0] [] f fd) : FnOk P w K mg base (L2.CX P w) 3 f fd ["self", "grid", "minute", "delay"] (spTimedG K C_BadNumber) := by
  have ER_BadNumber := er_BadNumber (P := P) (w := w) (base := base) T
  refine F.ok sc_Timed_init (fun vs H Q E h => ?_) (fun cdv A outer s H vs Q E hr h => ?_)
  · obtain ⟨p, C, dx, fs, g, m, d, rfl, _⟩ := h
    rfl
  · obtain ⟨p, C, dx, fs, g, m, d, rfl, hp, hC, n1, n2, n3, hfs, k⟩ := h
    obtain ⟨mc, u, r1, r2⟩ := T.k_Timed_MOST_DELAY
    refine ⟨_, (pss_cons (ps_if (pt_not (pt_chain op_le op_le pe_int (pv 3) (ClX.pe_cval (C8.pe_gc (v := .ref C_Timed) (by rfl) ⟨_, T.g_Timed, rfl⟩))))
  (pss_one (ps_raise rfl (takes_of rfl rfl rfl rfl) (pmk_er ER_BadNumber (hr.mono (by decide)) (by rfl) (pa_cons (pv 3) pa_nil))))
  pss_nil)
  (pss_cons (ps_fld (pv 0) (pv 1) rfl)
  (pss_cons (ps_fld (pv 0) (pv 2) rfl)
  (pss_one (ps_fld (pv 0) (pv 3) rfl))))), ?_⟩
    by_cases d0 : 0 ≤ d
    · by_cases d8 : d ≤ 8
      · refine ⟨_, rfl, _, _, rfl, rfl, true, bl_t d0, iteT ⟨C_Timed, mc, _, u, rfl, r1, r2, _, _, rfl, rfl, true, bl_t d8, iteF ?_⟩⟩
        have l1 := @putF_length "grid" g fs
        have l2 := @putF_length "minute" m (putF "grid" g fs)
        refine ⟨_, rfl, _, rfl, p, C, dx, fs, rfl, hp, hC, n1, by omega, ?_⟩
        refine ⟨_, rfl, _, rfl, p, C, dx, _, rfl, upd_same, hC, n2, by omega, ?_⟩
        refine ⟨_, rfl, _, rfl, p, C, dx, _, rfl, upd_same, hC, n3, by omega, ?_⟩
        exact k.yes (inB_t d0 d8) _ upd_same ((But.upd.trans But.upd).trans But.upd)
      · refine ⟨_, rfl, _, _, rfl, rfl, true, bl_t d0, iteT ⟨C_Timed, mc, _, u, rfl, r1, r2, _, _, rfl, rfl, false, bl_f d8, iteT ⟨_, rfl, (by show 1 ≤ 1000; decide), fun a ha => ⟨a, _, rfl, upd_same, fun dz hd hda => ⟨rfl, dz, _, upd_same, (upd_ne hda).trans upd_same, (upd_ne hda).symm.trans hd, (by rw [del_made ha ((upd_ne hda).symm.trans hd) hda]; exact (k.num (inB_r d8)) _ _ ((But.of_same (Same.refl _)).trans (But.of_same (Same.new ((upd_ne hda).symm.trans hd)))) upd_same)⟩⟩⟩⟩⟩
    · refine ⟨_, rfl, _, _, rfl, rfl, false, bl_f d0, iteF ⟨false, rfl, iteT ⟨_, rfl, (by show 1 ≤ 1000; decide), fun a ha => ⟨a, _, rfl, upd_same, fun dz hd hda => ⟨rfl, dz, _, upd_same, (upd_ne hda).trans upd_same, (upd_ne hda).symm.trans hd, (by rw [del_made ha ((upd_ne hda).symm.trans hd) hda]; exact (k.num (inB_l d0)) _ _ ((But.of_same (Same.refl _)).trans (But.of_same (Same.new ((upd_ne hda).symm.trans hd)))) upd_same)⟩⟩⟩⟩⟩
theorem ok_Timed_initG (T : Txt K mg C_BadName C_BarbreaksError C_BadNumber C_Grid C_Named C_Timed C_Item C_Piece C_Break C_BadSpan C_BadText C_Refused C_TooMany C_Twice) : Cf P w K mg base (L2.CX P w) 3 C_Timed "__init__" ["self", "grid", "minute", "delay"] (spTimedG K C_BadNumber) := by
  obtain ⟨mc, f, fd, ds, r, a, F, vd, b⟩ := T.q4_Timed
  cases vd
  exact ⟨mc, f, fd, r, a, F.kp, b, fn_Timed_initG T F⟩
theorem mk_Timed_initG (T : Txt K mg C_BadName C_BarbreaksError C_BadNumber C_Grid C_Named C_Timed C_Item C_Piece C_Break C_BadSpan C_BadText C_Refused C_TooMany C_Twice) : MkD P w K mg base (L2.CX P w) 3 "Timed" C_Timed ["self", "grid", "minute", "delay"] [] (spTimedG K C_BadNumber) := by
  obtain ⟨f, fd, ds, M, F, vd, b⟩ := T.i4_Timed
  exact ⟨f, fd, ds, T.g_Timed, M, b, vd, fn_Timed_initG T F⟩

theorem fn_Item_initG (T : Txt K mg C_BadName C_BarbreaksError C_BadNumber C_Grid C_Named C_Timed C_Item C_Piece C_Break C_BadSpan C_BadText C_Refused C_TooMany C_Twice) {f : Addr} {fd : FuncData} (F : Fun K "__init__" "Item.__init__" s_Item_init f fd) : FnOk P w K mg base (L2.CX P w) 4 f fd ["self", "name", "grid", "minute", "delay"] (spItemG K C_BadName C_BadNumber) := by
  have S_Named_init := ok_Named_initX (P := P) (w := w) (base := base) T
  have S_Timed_init := ok_Timed_initG (P := P) (w := w) (base := base) T
  refine F.okX sc_Item_init (fun vs H Q E h => ?_) (fun cdv A outer s H vs Q E hr h => ?_)
  · obtain ⟨p, C, dx, fs, z, g, m, d, rfl, _⟩ := h
    rfl
  · obtain ⟨p, C, dx, fs, z, g, m, d, rfl, hp, hC, hzl, hfs, k⟩ := h
    refine ⟨_, (pss_cons (ps_expr (pe_cf S_Named_init (hr.mono (by decide)) (passes_call (takes_of rfl rfl rfl rfl) (fun _ _ _ _ z => z)) (C8.pe_gc (v := .ref C_Named) (by rfl) ⟨_, T.g_Named, rfl⟩) (pa_cons (pv 0) (pa_cons (pv 1) pa_nil))))
  (pss_one (ps_expr (pe_cf S_Timed_init (hr.mono (by decide)) (passes_call (takes_of rfl rfl rfl rfl) (fun _ _ _ _ z => z)) (C8.pe_gc (v := .ref C_Timed) (by rfl) ⟨_, T.g_Timed, rfl⟩) (pa_cons (pv 0) (pa_cons (pv 2) (pa_cons (pv 3) (pa_cons (pv 4) pa_nil)))))))), ?_⟩
    have l1 := @putF_length "name" (.str z) fs
    have kN := Out.fst k fun q => q
    refine ⟨rfl, _, rfl, _, rfl, p, C, dx, fs, z, rfl, hp, hC.c, hC.n, hzl, by omega, fun hz H1 h1 b1 => ?_, fun hz => kN.noname hz⟩
    refine ⟨rfl, _, rfl, _, rfl, _, rfl, _, rfl, p, C, dx, _, g, m, d, rfl, h1, hC.c, hC.g, hC.m, hC.d, by omega, ?_⟩
    exact ((kN.name hz).from b1).imp fun q H2 h2 b2 => q H2 h2 (b1.trans b2)
theorem ok_Item_initG (T : Txt K mg C_BadName C_BarbreaksError C_BadNumber C_Grid C_Named C_Timed C_Item C_Piece C_Break C_BadSpan C_BadText C_Refused C_TooMany C_Twice) : CfK P w K mg base (L2.CX P w) 4 C_Item "__init__" ["self", "name", "grid", "minute", "delay"] 2 ["grid", "minute", "delay"] (spItemG K C_BadName C_BadNumber) := by
  obtain ⟨mc, f, fd, r, a, F, b⟩ := T.q_Item_init
  exact ⟨mc, f, fd, r, a, F.kp, b, fn_Item_initG T F⟩

theorem fn_Piece_initG (T : Txt K mg C_BadName C_BarbreaksError C_BadNumber C_Grid C_Named C_Timed C_Item C_Piece C_Break C_BadSpan C_BadText C_Refused C_TooMany C_Twice) {f : Addr} {fd : FuncData} (F : Fun K "__init__" "Piece.__init__" s_Piece_init f fd) : FnOk P w K mg base (L2.CX P w) 5 f fd ["self", "name", "grid", "least", "most", "minute", "delay"] (spPieceG K C_BadName C_BadNumber) := by
  have S_Item_init := ok_Item_initG (P := P) (w := w) (base := base) T
  have ER_BadNumber := er_BadNumber (P := P) (w := w) (base := base) T
  refine F.okX sc_Piece_init (fun vs H Q E h => ?_) (fun cdv A outer s H vs Q E hr h => ?_)
  · obtain ⟨p, C, dx, z, g, m, l, t, d, rfl, _⟩ := h
    rfl
  · obtain ⟨p, C, dx, z, g, m, l, t, d, rfl, hp, hC, n1, n2, hzl, k⟩ := h
    obtain ⟨mc, u, r1, r2⟩ := T.k_Piece_MOST_SPREAD
    refine ⟨_, (pss_cons (ps_expr (pe_cfK S_Item_init (hr.mono (by decide)) (passes_call (takes_of rfl rfl rfl rfl) (fun _ _ _ _ z => z)) (C8.pe_gc (v := .ref C_Item) (by rfl) ⟨_, T.g_Item, rfl⟩) (pa_cons (pv 0) (pa_cons (pv 1) pa_nil)) (pk_cons (pv 2) (pk_cons (pv 5) (pk_cons (pv 6) pk_nil)))))
  (pss_cons (ps_if (pt_cmpR op_lt (pv 3) pe_int (nomark _))
  (pss_one (ps_raise rfl (takes_of rfl rfl rfl rfl) (pmk_er ER_BadNumber (hr.mono (by decide)) (by rfl) (pa_cons (pv 3) pa_nil))))
  pss_nil)
  (pss_cons (ps_if (pt_not (pt_chain op_le op_le (pv 3) (pv 4) (pe_op op_add (pv 3) (ClX.pe_cval (C8.pe_gc (v := .ref C_Piece) (by rfl) ⟨_, T.g_Piece, rfl⟩)))))
  (pss_one (ps_raise rfl (takes_of rfl rfl rfl rfl) (pmk_er ER_BadNumber (hr.mono (by decide)) (by rfl) (pa_cons (pv 4) pa_nil))))
  pss_nil)
  (pss_cons (ps_fld (pv 0) (pv 3) rfl)
  (pss_one (ps_fld (pv 0) (pv 4) rfl)))))), ?_⟩
    refine ⟨rfl, _, rfl, _, rfl, _, rfl, _, rfl, _, rfl, rfl, rfl, p, C, dx, [], z, g, m, d, rfl, hp, hC, hzl, by decide, Out.fst k fun k1 H1 h1 b1 => ?_⟩
    have kL := Out.fst k1 fun q => q
    by_cases l1 : 1 ≤ l
    · have k2 := kL.yes (decide_eq_true l1)
      refine ⟨_, rfl, _, _, rfl, rfl, false, bl_f (by omega), iteF ?_⟩
      by_cases lt : l ≤ t
      · by_cases t8 : t ≤ l + 8
        · refine ⟨_, rfl, _, rfl, _, _, rfl, rfl, true, bl_t lt, iteT ⟨_, rfl, C_Piece, mc, _, u, rfl, r1, r2, _, _, rfl, rfl, _, _, rfl, rfl, true, bl_t t8, iteF ?_⟩⟩
          refine ⟨_, rfl, _, rfl, p, C, dx, _, rfl, h1, hC.c, n1, (by exact Nat.lt_of_le_of_lt (putI_length z g m d) (by decide)), ?_⟩
          refine ⟨_, rfl, _, rfl, p, C, dx, _, rfl, upd_same, hC.c, n2, (by exact Nat.lt_of_le_of_lt (Nat.le_trans putF_length (Nat.succ_le_succ (putI_length z g m d))) (by decide)), ?_⟩
          exact k2.yes (inB_t lt t8) _ upd_same (b1.trans (But.upd.trans But.upd))
        · refine ⟨_, rfl, _, rfl, _, _, rfl, rfl, true, bl_t lt, iteT ⟨_, rfl, C_Piece, mc, _, u, rfl, r1, r2, _, _, rfl, rfl, _, _, rfl, rfl, false, bl_f t8, iteT ⟨_, rfl, (by show 1 ≤ 1000; decide), fun a ha => ⟨a, _, rfl, upd_same, fun dz hd hda => ⟨rfl, dz, _, upd_same, (upd_ne hda).trans upd_same, (upd_ne hda).symm.trans hd, (by rw [del_made ha ((upd_ne hda).symm.trans hd) hda]; exact (k2.num (inB_r t8)) _ _ (b1.trans (But.of_same (Same.new ((upd_ne hda).symm.trans hd)))) upd_same)⟩⟩⟩⟩⟩
      · refine ⟨_, rfl, _, rfl, _, _, rfl, rfl, false, bl_f lt, iteF ⟨false, rfl, iteT ⟨_, rfl, (by show 1 ≤ 1000; decide), fun a ha => ⟨a, _, rfl, upd_same, fun dz hd hda => ⟨rfl, dz, _, upd_same, (upd_ne hda).trans upd_same, (upd_ne hda).symm.trans hd, (by rw [del_made ha ((upd_ne hda).symm.trans hd) hda]; exact (k2.num (inB_l lt)) _ _ (b1.trans (But.of_same (Same.new ((upd_ne hda).symm.trans hd)))) upd_same)⟩⟩⟩⟩⟩
    · refine ⟨_, rfl, _, _, rfl, rfl, true, bl_t (by omega), iteT ⟨_, rfl, (by show 1 ≤ 1000; decide), fun a ha => ⟨a, _, rfl, upd_same, fun dz hd hda => ⟨rfl, dz, _, upd_same, (upd_ne hda).trans upd_same, (upd_ne hda).symm.trans hd, (by rw [del_made ha ((upd_ne hda).symm.trans hd) hda]; exact (kL.num (decide_eq_false l1)) _ _ (b1.trans (But.of_same (Same.new ((upd_ne hda).symm.trans hd)))) upd_same)⟩⟩⟩⟩

theorem fn_Break_initG (T : Txt K mg C_BadName C_BarbreaksError C_BadNumber C_Grid C_Named C_Timed C_Item C_Piece C_Break C_BadSpan C_BadText C_Refused C_TooMany C_Twice) {f : Addr} {fd : FuncData} (F : Fun K "__init__" "Break.__init__" s_Break_init f fd) : FnOk P w K mg base (L2.CX P w) 5 f fd ["self", "name", "grid", "minute", "places", "unit", "delay", "patience"] (spBreakG K C_BadName C_BadNumber) := by
  have S_Item_init := ok_Item_initG (P := P) (w := w) (base := base) T
  have ER_BadNumber := er_BadNumber (P := P) (w := w) (base := base) T
  refine F.okX sc_Break_init (fun vs H Q E h => ?_) (fun cdv A outer s H vs Q E hr h => ?_)
  · obtain ⟨p, C, dx, z, g, m, n, u, d, y, rfl, _⟩ := h
    rfl
  · obtain ⟨p, C, dx, z, g, m, n, u, d, y, rfl, hp, hC, n1, n2, n3, hzl, k⟩ := h
    obtain ⟨mc, c1, r1, r2⟩ := T.k_Break_MOST_PLACES
    obtain ⟨mc2, c2, r3, r4⟩ := T.k_Break_MOST_PATIENCE
    refine ⟨_, (pss_cons (ps_expr (pe_cfK S_Item_init (hr.mono (by decide)) (passes_call (takes_of rfl rfl rfl rfl) (fun _ _ _ _ z => z)) (C8.pe_gc (v := .ref C_Item) (by rfl) ⟨_, T.g_Item, rfl⟩) (pa_cons (pv 0) (pa_cons (pv 1) pa_nil)) (pk_cons (pv 2) (pk_cons (pv 3) (pk_cons (pv 6) pk_nil)))))
  (pss_cons (ps_if (pt_not (pt_chain op_le op_le pe_int (pv 4) (ClX.pe_cval (C8.pe_gc (v := .ref C_Break) (by rfl) ⟨_, T.g_Break, rfl⟩))))
  (pss_one (ps_raise rfl (takes_of rfl rfl rfl rfl) (pmk_er ER_BadNumber (hr.mono (by decide)) (by rfl) (pa_cons (pv 4) pa_nil))))
  pss_nil)
  (pss_cons (ps_if (pt_cmpR op_lt (pv 5) pe_int (nomark _))
  (pss_one (ps_raise rfl (takes_of rfl rfl rfl rfl) (pmk_er ER_BadNumber (hr.mono (by decide)) (by rfl) (pa_cons (pv 5) pa_nil))))
  pss_nil)
  (pss_cons (ps_if (pt_not (pt_chain op_le op_le pe_int (pv 7) (ClX.pe_cval (C8.pe_gc (v := .ref C_Break) (by rfl) ⟨_, T.g_Break, rfl⟩))))
  (pss_one (ps_raise rfl (takes_of rfl rfl rfl rfl) (pmk_er ER_BadNumber (hr.mono (by decide)) (by rfl) (pa_cons (pv 7) pa_nil))))
  pss_nil)
  (pss_cons (ps_fld (pv 0) (pv 4) rfl)
  (pss_cons (ps_fld (pv 0) (pv 5) rfl)
  (pss_one (ps_fld (pv 0) (pv 7) rfl)))))))), ?_⟩
    refine ⟨rfl, _, rfl, _, rfl, _, rfl, _, rfl, _, rfl, rfl, rfl, p, C, dx, [], z, g, m, d, rfl, hp, hC, hzl, by decide, Out.fst k fun k1 H1 h1 b1 => ?_⟩
    have kP := Out.fst k1 fun q => q
    by_cases a1 : 1 ≤ n
    · by_cases a2 : n ≤ 12
      · have k2 := kP.yes (inB_t a1 a2)
        refine ⟨_, rfl, _, _, rfl, rfl, true, bl_t a1, iteT ⟨C_Break, mc, _, c1, rfl, r1, r2, _, _, rfl, rfl, true, bl_t a2, iteF ?_⟩⟩
        have kU := Out.fst k2 fun q => q
        by_cases a3 : 1 ≤ u
        · have k3 := kU.yes (decide_eq_true a3)
          refine ⟨_, rfl, _, _, rfl, rfl, false, bl_f (by omega), iteF ?_⟩
          by_cases a4 : 1 ≤ y
          · by_cases a5 : y ≤ 64
            · refine ⟨_, rfl, _, _, rfl, rfl, true, bl_t a4, iteT ⟨C_Break, mc2, _, c2, rfl, r3, r4, _, _, rfl, rfl, true, bl_t a5, iteF ?_⟩⟩
              refine ⟨_, rfl, _, rfl, p, C, dx, _, rfl, h1, hC.c, n1, (by exact Nat.lt_of_le_of_lt (putI_length z g m d) (by decide)), ?_⟩
              refine ⟨_, rfl, _, rfl, p, C, dx, _, rfl, upd_same, hC.c, n2, (by exact Nat.lt_of_le_of_lt (Nat.le_trans putF_length (Nat.succ_le_succ (putI_length z g m d))) (by decide)), ?_⟩
              refine ⟨_, rfl, _, rfl, p, C, dx, _, rfl, upd_same, hC.c, n3, (by exact Nat.lt_of_le_of_lt (Nat.le_trans putF_length (Nat.succ_le_succ (Nat.le_trans putF_length (Nat.succ_le_succ (putI_length z g m d))))) (by decide)), ?_⟩
              exact k3.yes (inB_t a4 a5) _ upd_same (b1.trans (But.upd.trans (But.upd.trans But.upd)))
            · refine ⟨_, rfl, _, _, rfl, rfl, true, bl_t a4, iteT ⟨C_Break, mc2, _, c2, rfl, r3, r4, _, _, rfl, rfl, false, bl_f a5, iteT ⟨_, rfl, (by show 1 ≤ 1000; decide), fun a ha => ⟨a, _, rfl, upd_same, fun dz hd hda => ⟨rfl, dz, _, upd_same, (upd_ne hda).trans upd_same, (upd_ne hda).symm.trans hd, (by rw [del_made ha ((upd_ne hda).symm.trans hd) hda]; exact (k3.num (inB_r a5)) _ _ (b1.trans (But.of_same (Same.new ((upd_ne hda).symm.trans hd)))) upd_same)⟩⟩⟩⟩⟩
          · refine ⟨_, rfl, _, _, rfl, rfl, false, bl_f a4, iteF ⟨false, rfl, iteT ⟨_, rfl, (by show 1 ≤ 1000; decide), fun a ha => ⟨a, _, rfl, upd_same, fun dz hd hda => ⟨rfl, dz, _, upd_same, (upd_ne hda).trans upd_same, (upd_ne hda).symm.trans hd, (by rw [del_made ha ((upd_ne hda).symm.trans hd) hda]; exact (k3.num (inB_l a4)) _ _ (b1.trans (But.of_same (Same.new ((upd_ne hda).symm.trans hd)))) upd_same)⟩⟩⟩⟩⟩
        · refine ⟨_, rfl, _, _, rfl, rfl, true, bl_t (by omega), iteT ⟨_, rfl, (by show 1 ≤ 1000; decide), fun a ha => ⟨a, _, rfl, upd_same, fun dz hd hda => ⟨rfl, dz, _, upd_same, (upd_ne hda).trans upd_same, (upd_ne hda).symm.trans hd, (by rw [del_made ha ((upd_ne hda).symm.trans hd) hda]; exact (kU.num (decide_eq_false a3)) _ _ (b1.trans (But.of_same (Same.new ((upd_ne hda).symm.trans hd)))) upd_same)⟩⟩⟩⟩
      · refine ⟨_, rfl, _, _, rfl, rfl, true, bl_t a1, iteT ⟨C_Break, mc, _, c1, rfl, r1, r2, _, _, rfl, rfl, false, bl_f a2, iteT ⟨_, rfl, (by show 1 ≤ 1000; decide), fun a ha => ⟨a, _, rfl, upd_same, fun dz hd hda => ⟨rfl, dz, _, upd_same, (upd_ne hda).trans upd_same, (upd_ne hda).symm.trans hd, (by rw [del_made ha ((upd_ne hda).symm.trans hd) hda]; exact (kP.num (inB_r a2)) _ _ (b1.trans (But.of_same (Same.new ((upd_ne hda).symm.trans hd)))) upd_same)⟩⟩⟩⟩⟩
    · refine ⟨_, rfl, _, _, rfl, rfl, false, bl_f a1, iteF ⟨false, rfl, iteT ⟨_, rfl, (by show 1 ≤ 1000; decide), fun a ha => ⟨a, _, rfl, upd_same, fun dz hd hda => ⟨rfl, dz, _, upd_same, (upd_ne hda).trans upd_same, (upd_ne hda).symm.trans hd, (by rw [del_made ha ((upd_ne hda).symm.trans hd) hda]; exact (kP.num (inB_l a1)) _ _ (b1.trans (But.of_same (Same.new ((upd_ne hda).symm.trans hd)))) upd_same)⟩⟩⟩⟩⟩

theorem ok_Break_length (T : Txt K mg C_BadName C_BarbreaksError C_BadNumber C_Grid C_Named C_Timed C_Item C_Piece C_Break C_BadSpan C_BadText C_Refused C_TooMany C_Twice) : Pe P w K mg base CX0 1 C_Break "length" (spLength C_Break) := by
  obtain ⟨p, g, fd, hp, F, b⟩ := T.pr_Break_length
  refine ⟨p, g, fd, hp, b, F.ok sc_Break_length (fun vs H Q E h => ?_) (fun cdv A outer s H vs Q E hr h => ?_)⟩
  · obtain ⟨a, dx, fs, n, u, rfl, _⟩ := h
    rfl
  · obtain ⟨a, dx, fs, n, u, rfl, ha, l1, l2, n1, n2, k⟩ := h
    refine ⟨_, (pss_one (ps_ret (pe_op op_mul (pe_fld (pv 0) rfl) (pe_fld (pv 0) rfl)))), ?_⟩
    exact ⟨_, rfl, a, C_Break, dx, fs, _, rfl, ha, T.c_Break, T.n_Break_places, l1, _, rfl, a, C_Break, dx, fs, _, rfl, ha, T.c_Break, T.n_Break_unit, l2, _, _, rfl, rfl, .inl ⟨by omega, by omega⟩, k⟩

theorem ok_Break_limit (T : Txt K mg C_BadName C_BarbreaksError C_BadNumber C_Grid C_Named C_Timed C_Item C_Piece C_Break C_BadSpan C_BadText C_Refused C_TooMany C_Twice) : Pe P w K mg base CX0 2 C_Break "limit" (spLimit C_Break C_Grid) := by
  have M_Grid_first_bar := ok_Grid_first_bar (P := P) (w := w) (base := base) T
  obtain ⟨p, g, fd, hp, F, b⟩ := T.pr_Break_limit
  refine ⟨p, g, fd, hp, b, F.ok sc_Break_limit (fun vs H Q E h => ?_) (fun cdv A outer s H vs Q E hr h => ?_)⟩
  · obtain ⟨a, dx, g, fs, y, pt, st, o, rfl, _⟩ := h
    rfl
  · obtain ⟨a, dx, g, fs, y, pt, st, o, rfl, ha, l1, l2, l3, hg, p1, p2, k⟩ := h
    refine ⟨_, (pss_one (ps_ret (pe_op op_add (pe_me M_Grid_first_bar T.c_Grid (hr.mono (by decide)) pass0 (pe_fld (pv 0) rfl) (pa_cons (pe_fld (pv 0) rfl) pa_nil)) (pe_op op_mul (pe_op op_sub (pe_fld (pv 0) rfl) pe_int) (pe_fld (pe_fld (pv 0) rfl) rfl))))), ?_⟩
    obtain ⟨hs, dg, hgg⟩ := id hg
    exact ⟨_, rfl, a, C_Break, dx, fs, _, rfl, ha, T.c_Break, T.n_Break_grid, l1, g, dg, _, rfl, hgg, rfl, _, rfl, a, C_Break, dx, fs, _, rfl, ha, T.c_Break, T.n_Break_minute, l2, g, st, o, _, rfl, hg,
      _, rfl, a, C_Break, dx, fs, _, rfl, ha, T.c_Break, T.n_Break_patience, l3, _, _, rfl, rfl, _, rfl, a, C_Break, dx, fs, _, rfl, ha, T.c_Break, T.n_Break_grid, l1, g, C_Grid, dg, _, _, rfl, hgg, T.c_Grid, T.n_Grid_step, rfl, _, _, rfl, rfl, .inl ⟨by omega, by omega⟩, _, _, rfl, rfl, k⟩

theorem ok_l_name (T : Txt K mg C_BadName C_BarbreaksError C_BadNumber C_Grid C_Named C_Timed C_Item C_Piece C_Break C_BadSpan C_BadText C_Refused C_TooMany C_Twice) : Dk P w K mg base CX0 1 "_law_name" ["_law_text"] spLName := by
  obtain ⟨f, fd, g, F, b⟩ := T.l_name
  refine ⟨f, fd, g, F.kp, b, F.ok sc_l_name (fun vs H Q E h => ?_) (fun cdv A outer s H vs Q E hr h => ?_)⟩
  · obtain ⟨z, rfl, _⟩ := h
    rfl
  · obtain ⟨z, rfl, hz, k⟩ := h
    refine ⟨_, (pss_cons (ps_set (i := 1) sc_l_name.nd rfl (Or.inl rfl) pe_str)
  (pss_cons (ps_if (PW.pt (pw_or (pt_cmpR op_eq (pe_callB call_len_str (by rfl) T.b_len (by decide +kernel) (pa_cons (pv 0) pa_nil)) pe_int (nomark _)) (pw_or1 (pt_cmpR op_gt (pe_callB call_len_str (by rfl) T.b_len (by decide +kernel) (pa_cons (pv 0) pa_nil)) pe_int (nomark _)))))
  (pss_one (ps_ret pe_bl))
  pss_nil)
  (pss_cons (ps_for PassesOwn.never rfl (pi_range1 rfl T.b_range (pa_cons (pe_callB call_len_str (by rfl) T.b_len (by decide +kernel) (pa_cons (pv 0) pa_nil)) pa_nil)) (pg_name (i := 2) sc_l_name.nd rfl (Or.inl rfl))
  (pss_one (ps_if (PW.pt (pw_and (pt_cmpR op_lt (pe_m1 PySem.F.slot_str_find PySem.F.type_str_find mt_find (pv 1) (pe_item_str (pv 0) (pv 2) (fun _ _ => rfl))) pe_int (nomark _)) (pw_and1 (PW.pt (pw_or (pt_cmpR op_eq (pv 2) pe_int (nomark _)) (pw_or1 (pt_cmpR op_lt (pe_m1 PySem.F.slot_str_find PySem.F.type_str_find mt_find pe_str (pe_item_str (pv 0) (pv 2) (fun _ _ => rfl))) pe_int (nomark _))))))))
  (pss_one (ps_ret pe_bl))
  pss_nil)))
  (pss_one (ps_ret pe_bl))))), ?_⟩
    have hsz : z.length ≤ sizeLine := Nat.le_trans hz (by decide)
    have hl : z.length = z.cps.size := rfl
    have no : nameB z = false → Q (.bl false) H := fun e => by rw [e] at k; exact k
    refine ⟨_, rfl, z, rfl, hsz, rfl, _, rfl, ?_⟩
    refine ite2 (fun q => iteT (no (name_len ?_))) (fun q1 => ?_)
    · have q2 := V.int.inj (of_decide_eq_true q)
      omega
    have q1' : ¬ (z.length : Int) = 0 := fun e => q1 (decide_eq_true (congrArg V.int e))
    refine ⟨_, rfl, z, rfl, hsz, _, _, rfl, rfl, _, rfl, ?_⟩
    refine ite2 (fun q => no (name_len ?_)) (fun q2 => ?_)
    · have q2 : (12 : Int) < (z.length : Int) := of_decide_eq_true q
      omega
    have q2' : ¬ (12 : Int) < (z.length : Int) := fun e => q2 (decide_eq_true e)
    refine ⟨_, rfl, z, rfl, hsz, _, rfl, by omega, by omega, for_range (n := z.length) (fun i σ H' => ∃ (x2 : Option V), σ = [some (.str z), some (.str letS), x2] ∧ H' = H ∧ ∀ j c, j < i → z.cps[j]? = some c → signB c = true ∧ (j = 0 → c ∈ letS.cps.toList)) ⟨_, rfl, rfl, fun j c hj => absurd hj (Nat.not_lt_zero j)⟩ ?_ ?_⟩
    · rintro j σ H1 hj ⟨x2, rfl, rfl, ih⟩
      rw [Int.zero_add]
      obtain ⟨ch, hc⟩ : ∃ ch, z.cps[j]? = some ch := ⟨_, Array.getElem?_eq_getElem (by omega)⟩
      have step : (signB ch = true ∧ (j = 0 → ch ∈ letS.cps.toList)) → ∀ i c, i < j + 1 → z.cps[i]? = some c → signB c = true ∧ (i = 0 → c ∈ letS.cps.toList) := fun hs i c hi hci => by
        by_cases e : i = j
        · subst e
          rw [hc] at hci
          cases hci
          exact hs
        · exact ih i c (by omega) hci
      refine ⟨_, rfl, ⟨_, rfl⟩, _, rfl, _, rfl, z, (j : Int), ch, rfl, rfl, by omega, by omega, by omega, hc, _, _, rfl, rfl, _, _, rfl, rfl, _, rfl, ?_⟩
      rw [find_neg]
      refine ite2 (fun q => ?_) (fun q => iteF ⟨_, rfl, rfl, step ?_⟩)
      · have nl : ¬ ch ∈ letS.cps.toList := fun e => by
          rw [show decide (ch ∈ letS.cps.toList) = true from decide_eq_true e] at q
          cases q
        refine ⟨_, rfl, rfl, _, rfl, ?_⟩
        refine ite2 (fun q0 => ?_) (fun q0 => ?_)
        · have j0 : j = 0 := by
            have := V.int.inj (of_decide_eq_true q0)
            omega
          exact no (name_no hc fun e => nl (e.2 j0))
        · have j0 : ¬ j = 0 := fun e => q0 (decide_eq_true (by rw [e]; rfl))
          refine ⟨⟨_, rfl⟩, _, rfl, _, rfl, z, (j : Int), ch, rfl, rfl, by omega, by omega, by omega, hc, _, _, rfl, rfl, _, _, rfl, rfl, _, rfl, ?_⟩
          rw [find_neg]
          refine ite2 (fun q => ?_) (fun q => ⟨_, rfl, rfl, step ⟨?_, fun e => absurd e j0⟩⟩)
          · refine no (name_no hc fun e => ?_)
            have e1 := e.1
            unfold signB at e1
            rw [decide_eq_false nl, Bool.false_or] at e1
            rw [show decide (ch ∈ ("0123456789" : Str).cps.toList) = true from e1] at q
            cases q
          · unfold signB
            have e1 : decide (ch ∈ digS.cps.toList) = true := by
              cases e : decide (ch ∈ digS.cps.toList) with
              | true => rfl
              | false => exact absurd (by rw [show decide (ch ∈ ("0123456789" : Str).cps.toList) = false from e]; rfl) q
            rw [e1, Bool.or_true]
      · have e1 : decide (ch ∈ letS.cps.toList) = true := by
          cases e : decide (ch ∈ letS.cps.toList) with
          | true => rfl
          | false => exact absurd (by rw [show decide (ch ∈ letS.cps.toList) = false from e]; rfl) q
        refine ⟨?_, fun _ => of_decide_eq_true e1⟩
        unfold signB
        rw [e1, Bool.true_or]
    · rintro σ H1 ⟨x2, rfl, rfl, ih⟩
      have e : nameB z = true := name_yes (by omega) (by omega) fun j c hc => ih j c (by
        obtain ⟨h1, _⟩ := Array.getElem?_eq_some_iff.mp hc
        exact h1) hc
      rw [e] at k
      exact k

theorem ok_l_due (T : Txt K mg C_BadName C_BarbreaksError C_BadNumber C_Grid C_Named C_Timed C_Item C_Piece C_Break C_BadSpan C_BadText C_Refused C_TooMany C_Twice) : Dk P w K mg base CX0 2 "_law_due" ["_law_text", "_law_rows"] spDueL := by
  have D_l_name := ok_l_name (P := P) (w := w) (base := base) T
  obtain ⟨f, fd, g, F, b⟩ := T.l_due
  refine ⟨f, fd, g, F.kp, b, F.ok sc_l_due (fun vs H Q E h => ?_) (fun cdv A outer s H vs Q E hr h => ?_)⟩
  · obtain ⟨z, r, as, qs, rfl, _⟩ := h
    rfl
  · obtain ⟨z, r, as, qs, rfl, hz, hr0, hq, k1, k2, k3⟩ := h
    refine ⟨_, (pss_cons (ps_if (pt_not (pt_val (pe_d D_l_name (hr.mono (by decide)) pass0 (by rfl) (pa_cons (pv 0) pa_nil))))
  (pss_one (ps_ret (pe_tup (pa_cons pe_str (pa_cons (pv 0) pa_nil)))))
  pss_nil)
  (pss_cons (ps_for PassesOwn.never rfl (pi_list (pv 1)) (pg_tup (by rfl) (pgs_cons (pg_name (i := 2) sc_l_due.nd rfl (Or.inl rfl)) (pgs_cons (pg_name (i := 3) sc_l_due.nd rfl (Or.inl rfl)) (pgs_cons (pg_name (i := 4) sc_l_due.nd rfl (Or.inl rfl)) pgs_nil))))
  (pss_one (ps_if (PW.pt (pw_or (pt_cmpR op_lt (pv 2) (pv 3) (nomark _)) (pw_or1 (PW.pt (pw_and (pt_cmpR op_notN (pv 4) pe_non (nomark _)) (pw_and1 (pt_cmpR op_gt (pv 2) (pv 4) (nomark _))))))))
  (pss_one (ps_ret (pe_tup (pa_cons pe_str (pa_cons (pv 2) pa_nil)))))
  pss_nil)))
  (pss_one (ps_ret pe_non)))), ?_⟩
    refine ⟨_, rfl, z, rfl, hz, _, rfl, ?_⟩
    cases hn : nameB z with
    | false => exact iteT ⟨_, rfl, (by show 2 ≤ sizeLine; decide), fun t nt => k1 hn t nt⟩
    | true =>
      refine iteF ?_
      refine ⟨_, rfl, r, rfl, ⟨_, SqL.of hr0⟩, for_list (K := K) (a := r) (xs := as.map V.ref) (fun i σ H' => ∃ x2 x3 x4 : Option V, σ = [some (.str z), some (.ref r), x2, x3, x4] ∧ H' = H ∧ fstBad qs = fstBad (qs.drop i)) ⟨_, _, _, rfl, rfl, rfl⟩ (fun i σ H' _ ⟨_, _, _, _, e, _⟩ => by rw [e]; exact SqL.of hr0) ?_ ?_⟩
      · rintro i x σ H' hx ⟨x2, x3, x4, rfl, rfl, hb⟩
        obtain ⟨a, ⟨n, lo, ho⟩, rfl, hqi, ha⟩ := hq.at_ hx
        rw [drop_at hqi] at hb
        refine ⟨a, _, rfl, SqT.of ha, rfl, _, _, rfl, _, _, rfl, _, _, rfl, rfl, ?_⟩
        have bad : badQ (n, lo, ho) = true → ∀ t, H' t = none → Q (.ref t) (L2.upd H' t (.tup [.str "number", .int n])) := fun e => k2 hn n (by rw [hb]; unfold fstBad; rw [if_pos e])
        have good : badQ (n, lo, ho) = false → fstBad qs = fstBad (qs.drop (i + 1)) := fun e => by
          rw [hb]
          show (if badQ (n, lo, ho) = true then some n else fstBad (qs.drop (i + 1))) = _
          rw [if_neg (by rw [e]; exact Bool.false_ne_true)]
        refine ⟨_, rfl, _, rfl, _, _, rfl, rfl, _, rfl, ite2 (fun q => ?_) (fun q => ?_)⟩
        · exact iteT ⟨_, rfl, (by show 2 ≤ sizeLine; decide), fun t nt => bad (by unfold badQ; rw [show decide ((n, lo, ho).1 < (n, lo, ho).2.1) = true from q]; rfl) t nt⟩
        · have q' : decide ((n, lo, ho).1 < (n, lo, ho).2.1) = false := Bool.eq_false_iff.mpr q
          cases ho with
          | none => exact ⟨_, rfl, rfl, _, rfl, iteF ⟨_, _, _, rfl, rfl, good (by unfold badQ; rw [q']; rfl)⟩⟩
          | some h =>
            refine ⟨_, rfl, rfl, _, rfl, iteT ⟨_, rfl, _, rfl, _, _, rfl, rfl, _, rfl, ite2 (fun g => ?_) (fun g => ?_)⟩⟩
            · exact ⟨_, rfl, (by show 2 ≤ sizeLine; decide), fun t nt => bad (by unfold badQ; rw [q']; exact g) t nt⟩
            · exact ⟨_, _, _, rfl, rfl, good (by unfold badQ; rw [q']; exact Bool.eq_false_iff.mpr g)⟩
      · rintro σ H' ⟨x2, x3, x4, rfl, rfl, hb⟩
        refine k3 hn ?_
        rw [hb, List.drop_eq_nil_of_le (by rw [List.length_map, hq.len]; exact Nat.le_refl _)]
        rfl

theorem ok_l_bounds (T : Txt K mg C_BadName C_BarbreaksError C_BadNumber C_Grid C_Named C_Timed C_Item C_Piece C_Break C_BadSpan C_BadText C_Refused C_TooMany C_Twice) : Dk P w K mg base CX0 1 "_law_bounds" ["_law_door", "_law_numbers"] spBounds := by
  obtain ⟨f, fd, g, F, b⟩ := T.l_bounds
  refine ⟨f, fd, g, F.kp, b, F.ok sc_l_bounds (fun vs H Q E h => ?_) (fun cdv A outer s H vs Q E hr h => ?_)⟩
  · obtain ⟨n, l, a, b, c, rest, rfl, _⟩ := h
    rfl
  · obtain ⟨n, l, a, b, c, rest, rfl, hl, h3, k⟩ := h
    refine ⟨_, (pss_cons (ps_set (i := 2) sc_l_bounds.nd rfl (Or.inl rfl) (pe_lst (pa_cons (pe_tup (pa_cons (pe_ix ix_list (pv 1) pe_int (fun _ _ => rfl)) (pa_cons pe_int (pa_cons pe_int pa_nil)))) pa_nil)))
  (pss_cons (ps_if (pt_cmpR op_eq (pv 0) pe_int (nomark _))
  (pss_one (ps_set (i := 2) sc_l_bounds.nd rfl (Or.inl rfl) (pe_op op_cat (pv 2) (pe_lst (pa_cons (pe_tup (pa_cons (pe_ix ix_list (pv 1) pe_int (fun _ _ => rfl)) (pa_cons pe_int (pa_cons pe_non pa_nil)))) (pa_cons (pe_tup (pa_cons (pe_ix ix_list (pv 1) pe_int (fun _ _ => rfl)) (pa_cons (pe_ix ix_list (pv 1) pe_int (fun _ _ => rfl)) (pa_cons (pe_op op_add (pe_ix ix_list (pv 1) pe_int (fun _ _ => rfl)) pe_int) pa_nil)))) pa_nil))))))
  pss_nil)
  (pss_cons (ps_if (pt_cmpR op_eq (pv 0) pe_int (nomark _))
  (pss_one (ps_set (i := 2) sc_l_bounds.nd rfl (Or.inl rfl) (pe_op op_cat (pv 2) (pe_lst (pa_cons (pe_tup (pa_cons (pe_ix ix_list (pv 1) pe_int (fun _ _ => rfl)) (pa_cons pe_int (pa_cons pe_int pa_nil)))) (pa_cons (pe_tup (pa_cons (pe_ix ix_list (pv 1) pe_int (fun _ _ => rfl)) (pa_cons pe_int (pa_cons pe_non pa_nil)))) (pa_cons (pe_tup (pa_cons (pe_ix ix_list (pv 1) pe_int (fun _ _ => rfl)) (pa_cons pe_int (pa_cons pe_int pa_nil)))) pa_nil)))))))
  pss_nil)
  (pss_one (ps_ret (pv 2)))))), ?_⟩
    refine ⟨_, rfl, _, _, _, _, rfl, rfl, SqL.of hl, atI_ge (by decide) rfl, (by show 3 ≤ sizeLine; decide), fun t0 n0 => ⟨(by show 1 ≤ sizeLine; decide), fun r1 m1 => ?_⟩⟩
    have s0 := Same.new (o := .tup [.int a, .int 0, .int 8]) n0
    have s1 := s0.trans (Same.new (o := .lst [.ref t0]) m1)
    have f0 := (Same.new (o := .lst [.ref t0]) m1) _ _ (upd_same (H := H) (a := t0) (o := .tup [.int a, .int 0, .int 8]))
    have fr : (L2.upd (L2.upd H t0 (.tup [.int a, .int 0, .int 8])) r1 (.lst [.ref t0])) r1 = some (.lst [.ref t0]) := upd_same
    generalize L2.upd (L2.upd H t0 (.tup [.int a, .int 0, .int 8])) r1 (.lst [.ref t0]) = H1 at s1 f0 fr
    refine ⟨_, rfl, rfl, _, rfl, ite2 (fun q => ?_) (fun q => ?_)⟩
    · have e2 : n = 2 := V.int.inj (of_decide_eq_true q)
      subst e2
      have hl1 := s1 _ _ hl
      refine ⟨_, rfl, _, rfl, _, _, _, _, rfl, rfl, SqL.of hl1, atI_ge (by decide) rfl, (by show 3 ≤ sizeLine; decide), fun t1 n1 => ?_⟩
      have u1 := Same.new (o := .tup [.int b, .int 1, .non]) n1
      have hl2 := u1 _ _ hl1
      refine ⟨_, rfl, _, _, _, _, rfl, rfl, SqL.of hl2, atI_ge (by decide) rfl, _, rfl, _, _, _, _, rfl, rfl, SqL.of hl2, atI_ge (by decide) rfl, _, rfl, _, _, _, _, rfl, rfl, SqL.of hl2, atI_ge (by decide) rfl, _, _, rfl, rfl, (by show 3 ≤ sizeLine; decide), fun t2 n2 => ⟨(by show 2 ≤ sizeLine; decide), fun r2 m2 => ?_⟩⟩
      have u2 := Same.new (o := .tup [.int c, .int b, .int (b + 8)]) n2
      have u3 := Same.new (o := .lst [.ref t1, .ref t2]) m2
      refine ⟨r1, r2, _, _, rfl, rfl, u3 _ _ (u2 _ _ (u1 _ _ fr)), upd_same, (by show 3 ≤ sizeLine; decide), fun r3 m3 => ?_⟩
      have u4 := Same.new (o := .lst [.ref t0, .ref t1, .ref t2]) m3
      have s5 := (((u1.trans u2).trans u3).trans u4)
      refine ⟨_, rfl, rfl, false, rfl, iteF ⟨_, rfl, k r3 [t0, t1, t2] _ (s1.trans s5) upd_same ⟨s5 _ _ f0, u4 _ _ (u3 _ _ (u2 _ _ upd_same)), u4 _ _ (u3 _ _ upd_same), trivial⟩⟩⟩
    · have e2 : n ≠ 2 := fun e => q (decide_eq_true (congrArg V.int e))
      refine ⟨_, rfl, rfl, _, rfl, ite2 (fun q3 => ?_) (fun q3 => ?_)⟩
      · have e3 : n = 3 := V.int.inj (of_decide_eq_true q3)
        subst e3
        obtain ⟨e, rfl⟩ := h3 rfl
        have hl1 := s1 _ _ hl
        refine ⟨_, rfl, _, rfl, _, _, _, _, rfl, rfl, SqL.of hl1, atI_ge (by decide) rfl, (by show 3 ≤ sizeLine; decide), fun t1 n1 => ?_⟩
        have u1 := Same.new (o := .tup [.int b, .int 1, .int 12]) n1
        have hl2 := u1 _ _ hl1
        refine ⟨_, rfl, _, _, _, _, rfl, rfl, SqL.of hl2, atI_ge (by decide) rfl, (by show 3 ≤ sizeLine; decide), fun t2 n2 => ?_⟩
        have u2 := Same.new (o := .tup [.int c, .int 1, .non]) n2
        have hl3 := u2 _ _ hl2
        refine ⟨_, rfl, _, _, _, _, rfl, rfl, SqL.of hl3, atI_ge (by decide) rfl, (by show 3 ≤ sizeLine; decide), fun t3 n3 => ⟨(by show 3 ≤ sizeLine; decide), fun r2 m2 => ?_⟩⟩
        have u3 := Same.new (o := .tup [.int e, .int 1, .int 64]) n3
        have u4 := Same.new (o := .lst [.ref t1, .ref t2, .ref t3]) m2
        refine ⟨r1, r2, _, _, rfl, rfl, u4 _ _ (u3 _ _ (u2 _ _ (u1 _ _ fr))), upd_same, (by show 4 ≤ sizeLine; decide), fun r3 m3 => ?_⟩
        have u5 := Same.new (o := .lst [.ref t0, .ref t1, .ref t2, .ref t3]) m3
        have s5 := ((((u1.trans u2).trans u3).trans u4).trans u5)
        refine ⟨_, rfl, k r3 [t0, t1, t2, t3] _ (s1.trans s5) upd_same ⟨s5 _ _ f0, u5 _ _ (u4 _ _ (u3 _ _ (u2 _ _ upd_same))), u5 _ _ (u4 _ _ (u3 _ _ upd_same)), u5 _ _ (u4 _ _ upd_same), trivial⟩⟩
      · have e3 : n ≠ 3 := fun e => q3 (decide_eq_true (congrArg V.int e))
        refine ⟨_, rfl, k r1 [t0] _ s1 fr ?_⟩
        unfold bQ
        rw [if_neg e2, if_neg e3]
        exact ⟨f0, trivial⟩

theorem ok_l_made (T : Txt K mg C_BadName C_BarbreaksError C_BadNumber C_Grid C_Named C_Timed C_Item C_Piece C_Break C_BadSpan C_BadText C_Refused C_TooMany C_Twice) : Dk P w K mg base (L2.CX P w) 7 "_law_made" ["_law_door", "_law_text", "_law_bars", "_law_clock", "_law_numbers"] (spMade9 K C_BadName C_BadNumber C_Timed C_Break) := by
  have D_Timed := mk_Timed_initG (P := P) (w := w) (base := base) T
  have D_Item : MkK P w K mg base (L2.CX P w) 4 "Item" C_Item ["self", "name", "grid", "minute", "delay"] 2 ["grid", "minute", "delay"] (spItemG K C_BadName C_BadNumber) := by
    obtain ⟨f, fd, M, F, b⟩ := T.i_Item
    exact ⟨f, fd, T.g_Item, M, b, fn_Item_initG T F⟩
  have D_Piece : MkP P w K mg base (L2.CX P w) 5 "Piece" C_Piece ["self", "name", "grid", "least", "most", "minute", "delay"] 2 ["grid", "minute", "delay", "least", "most"] [0, 3, 4, 1, 2] (spPieceG K C_BadName C_BadNumber) := by
    obtain ⟨f, fd, M, F, b⟩ := T.p_Piece
    exact ⟨f, fd, T.g_Piece, M, b, fn_Piece_initG T F⟩
  have D_Break : MkP P w K mg base (L2.CX P w) 5 "Break" C_Break ["self", "name", "grid", "minute", "places", "unit", "delay", "patience"] 2 ["grid", "minute", "delay", "places", "unit", "patience"] [0, 1, 3, 4, 2, 5] (spBreakG K C_BadName C_BadNumber) := by
    obtain ⟨f, fd, M, F, b⟩ := T.p_Break
    exact ⟨f, fd, T.g_Break, M, b, fn_Break_initG T F⟩
  obtain ⟨f, fd, g, F, b⟩ := T.l_made
  refine ⟨f, fd, g, F.kp, b, F.okX sc_l_made (fun vs H Q E h => ?_) (fun cdv A outer s H vs Q E hr h => ?_)⟩
  · obtain ⟨n, z, g, m, l, a, b, c, rest, rfl, _⟩ := h
    rfl
  · obtain ⟨n, z, g, m, l, a, b, c, rest, rfl, n0, n3, hzl, hl, h3, k⟩ := h
    refine ⟨_, (pss_cons (ps_if (pt_cmpR op_eq (pv 0) pe_int (nomark _))
  (pss_one (ps_ret (pe_mkd D_Timed (hr.mono (by decide)) (passes_call (takes_of rfl rfl rfl rfl) (fun _ _ _ _ z => z)) (by rfl) (pa_cons (pv 2) (pa_cons (pv 3) (pa_cons (pe_ix ix_list (pv 4) pe_int (fun _ _ => rfl)) pa_nil))))))
  pss_nil)
  (pss_cons (ps_if (pt_cmpR op_eq (pv 0) pe_int (nomark _))
  (pss_one (ps_ret (pe_mkK D_Item (hr.mono (by decide)) (passes_call (takes_of rfl rfl rfl rfl) (fun _ _ _ _ z => z)) (by rfl) (pa_cons (pv 1) pa_nil) (pk_cons (pv 2) (pk_cons (pv 3) (pk_cons (pe_ix ix_list (pv 4) pe_int (fun _ _ => rfl)) pk_nil))))))
  pss_nil)
  (pss_cons (ps_if (pt_cmpR op_eq (pv 0) pe_int (nomark _))
  (pss_one (ps_ret (pe_mkP D_Piece (hr.mono (by decide)) (passes_call (takes_of rfl rfl rfl rfl) (fun _ _ _ _ z => z)) (by rfl) (pa_cons (pv 1) pa_nil) (pk_cons (pv 2) (pk_cons (pv 3) (pk_cons (pe_ix ix_list (pv 4) pe_int (fun _ _ => rfl)) (pk_cons (pe_ix ix_list (pv 4) pe_int (fun _ _ => rfl)) (pk_cons (pe_ix ix_list (pv 4) pe_int (fun _ _ => rfl)) pk_nil))))))))
  pss_nil)
  (pss_one (ps_ret (pe_mkP D_Break (hr.mono (by decide)) (passes_call (takes_of rfl rfl rfl rfl) (fun _ _ _ _ z => z)) (by rfl) (pa_cons (pv 1) pa_nil) (pk_cons (pv 2) (pk_cons (pv 3) (pk_cons (pe_ix ix_list (pv 4) pe_int (fun _ _ => rfl)) (pk_cons (pe_ix ix_list (pv 4) pe_int (fun _ _ => rfl)) (pk_cons (pe_ix ix_list (pv 4) pe_int (fun _ _ => rfl)) (pk_cons (pe_ix ix_list (pv 4) pe_int (fun _ _ => rfl)) pk_nil)))))))))))), ?_⟩
    have II : ItemC K C_Item := ⟨T.c_Item, T.n_Item_name, T.n_Item_grid, T.n_Item_minute, T.n_Item_delay⟩
    have IP : ItemC K C_Piece := ⟨T.c_Piece, T.n_Piece_name, T.n_Piece_grid, T.n_Piece_minute, T.n_Piece_delay⟩
    have IB : ItemC K C_Break := ⟨T.c_Break, T.n_Break_name, T.n_Break_grid, T.n_Break_minute, T.n_Break_delay⟩
    have ne : ∀ {i : Int}, ¬ decide (V.int n = V.int i) = true → n ≠ i := fun h e => h (decide_eq_true (congrArg V.int e))
    refine ⟨_, rfl, rfl, _, rfl, ite2 (fun h0 => ?_) (fun h0 => ?_)⟩
    · have e0 : n = 0 := V.int.inj (of_decide_eq_true h0)
      subst e0
      unfold dueD at k
      rw [if_pos rfl, ← dueT_eq] at k
      refine ⟨_, rfl, _, rfl, _, rfl, _, _, _, _, rfl, rfl, SqL.of hl, atI_ge (by decide) rfl, fun x dx nx nd nn => ⟨x, C_Timed, dx, [], g, m, a, rfl, upd_same, T.c_Timed, T.n_Timed_grid, T.n_Timed_minute, T.n_Timed_delay, by decide, k.to nx nd fun q H1 h1 b1 => ⟨rfl, ?_⟩⟩⟩
      exact q x _ (Same.inst nx nd b1) (.inl ⟨by decide, C_Timed, dx, _, h1, T.c_Timed, T.o_Timed, T.ko_Timed_Timed⟩)
    refine ⟨_, rfl, rfl, _, rfl, ite2 (fun h1 => ?_) (fun h1 => ?_)⟩
    · have e1 : n = 1 := V.int.inj (of_decide_eq_true h1)
      subst e1
      unfold dueD at k
      rw [if_neg (by decide), ← dueI_eq] at k
      refine ⟨_, rfl, _, rfl, _, rfl, _, rfl, _, _, _, _, rfl, rfl, SqL.of hl, atI_ge (by decide) rfl, rfl, rfl, fun x dx nx nd nn => ⟨x, C_Item, dx, [], z, g, m, a, rfl, upd_same, II, hzl, by decide, k.to nx nd fun q H1 h1 b1 => ⟨rfl, ?_⟩⟩⟩
      exact q x _ (Same.inst nx nd b1) (.inl ⟨by decide, C_Item, dx, _, h1, T.c_Item, T.o_Item, T.ko_Item_Timed⟩)
    refine ⟨_, rfl, rfl, _, rfl, ite2 (fun h2 => ?_) (fun h2 => ?_)⟩
    · have e2 : n = 2 := V.int.inj (of_decide_eq_true h2)
      subst e2
      unfold dueD at k
      rw [if_neg (by decide), ← dueP_eq] at k
      refine ⟨_, rfl, _, rfl, _, rfl, _, rfl, _, _, _, _, rfl, rfl, SqL.of hl, atI_ge (by decide) rfl, _, rfl, _, _, _, _, rfl, rfl, SqL.of hl, atI_ge (by decide) rfl, _, rfl, _, _, _, _, rfl, rfl, SqL.of hl, atI_ge (by decide) rfl, rfl, rfl, fun x dx nx nd nn => ⟨x, C_Piece, dx, z, g, m, b, c, a, rfl, upd_same, IP, T.n_Piece_least, T.n_Piece_most, hzl, k.to nx nd fun q H1 h1 b1 => ⟨rfl, ?_⟩⟩⟩
      exact q x _ (Same.inst nx nd b1) (.inl ⟨by decide, C_Piece, dx, _, h1, T.c_Piece, T.o_Piece, T.ko_Piece_Timed⟩)
    · have e3 : n = 3 := by
        have := ne h0
        have := ne h1
        have := ne h2
        omega
      subst e3
      obtain ⟨e, rfl⟩ := h3 rfl
      unfold dueD at k
      rw [if_neg (by decide), ← dueB_eq] at k
      refine ⟨_, rfl, _, rfl, _, rfl, _, rfl, _, _, _, _, rfl, rfl, SqL.of hl, atI_ge (by decide) rfl, _, rfl, _, _, _, _, rfl, rfl, SqL.of hl, atI_ge (by decide) rfl, _, rfl, _, _, _, _, rfl, rfl, SqL.of hl, atI_ge (by decide) rfl, _, rfl, _, _, _, _, rfl, rfl, SqL.of hl, atI_ge (by decide) rfl, rfl, rfl, fun x dx nx nd nn => ⟨x, C_Break, dx, z, g, m, b, c, a, e, rfl, upd_same, IB, T.n_Break_places, T.n_Break_unit, T.n_Break_patience, hzl, k.to nx nd fun q H1 h1 b1 => ⟨rfl, ?_⟩⟩⟩
      exact q x _ (Same.inst nx nd b1) (.inr ⟨rfl, dx, h1⟩)

theorem ok_l_refused (T : Txt K mg C_BadName C_BarbreaksError C_BadNumber C_Grid C_Named C_Timed C_Item C_Piece C_Break C_BadSpan C_BadText C_Refused C_TooMany C_Twice) : Dk P w K mg base CX0 2 "_law_refused" ["_law_found", "_law_due_here"] (spRefd C_BadName C_BadNumber) := by
  have D_l_is_int := ok_l_is_int (P := P) (w := w) (base := base) T
  obtain ⟨f, fd, g, F, b⟩ := T.l_refused
  refine ⟨f, fd, g, F.kp, b, F.ok sc_l_refused (fun vs H Q E h => ?_) (fun cdv A outer s H vs Q E hr h => ?_)⟩
  · obtain ⟨ex, t, D, d, f, v, rfl, _⟩ := h
    rfl
  · obtain ⟨ex, t, D, d, f, v, rfl, hx, hd, ht, hc, k⟩ := h
    refine ⟨_, (pss_cons (ps_if (PW.pt (pw_or (pt_not (pt_val (pe_callB call_isH (by rfl) T.b_isinstance (by decide +kernel) (pa_cons (pv 0) (pa_cons (C8.pe_gc (v := .ref C_BarbreaksError) (by rfl) ⟨_, T.g_BarbreaksError, rfl⟩) pa_nil))))) (pw_or1 (pt_not (pt_val (pe_callB call_isH (by rfl) T.b_isinstance (by decide +kernel) (pa_cons (pv 0) (pa_cons (pe_bltn (v := .ty "ValueError") (by rfl) T.b_ValueError (by decide +kernel) rfl) pa_nil))))))))
  (pss_one (ps_ret pe_bl))
  pss_nil)
  (pss_cons (ps_if (pt_val (pe_callB call_isHT (by rfl) T.b_isinstance (by decide +kernel) (pa_cons (pv 0) (pa_cons (pe_tup (pa_cons (C8.pe_gc (v := .ref C_BadSpan) (by rfl) ⟨_, T.g_BadSpan, rfl⟩) (pa_cons (C8.pe_gc (v := .ref C_BadText) (by rfl) ⟨_, T.g_BadText, rfl⟩) (pa_cons (C8.pe_gc (v := .ref C_Refused) (by rfl) ⟨_, T.g_Refused, rfl⟩) (pa_cons (C8.pe_gc (v := .ref C_TooMany) (by rfl) ⟨_, T.g_TooMany, rfl⟩) (pa_cons (C8.pe_gc (v := .ref C_Twice) (by rfl) ⟨_, T.g_Twice, rfl⟩) pa_nil)))))) pa_nil))))
  (pss_one (ps_ret pe_bl))
  pss_nil)
  (pss_cons (ps_if (pt_cmpR op_eq (pe_ix ix_tup (pv 1) pe_int (fun _ _ => rfl)) pe_str (nomark _))
  (pss_cons (ps_if (PW.pt (pw_or (pt_not (pt_val (pe_callB call_isH (by rfl) T.b_isinstance (by decide +kernel) (pa_cons (pv 0) (pa_cons (C8.pe_gc (v := .ref C_BadName) (by rfl) ⟨_, T.g_BadName, rfl⟩) pa_nil))))) (pw_or1 (pt_val (pe_callB call_isH (by rfl) T.b_isinstance (by decide +kernel) (pa_cons (pv 0) (pa_cons (C8.pe_gc (v := .ref C_BadNumber) (by rfl) ⟨_, T.g_BadNumber, rfl⟩) pa_nil)))))))
  (pss_one (ps_ret pe_bl))
  pss_nil)
  (pss_one (ps_ret (pe_and (pe_callB call_isi (by rfl) T.b_isinstance (by decide +kernel) (pa_cons (pe_xh (pv 0)) (pa_cons (pe_bltn (v := .ty "str") (by rfl) T.b_str (by decide +kernel) rfl) pa_nil))) (pe_one (pe_cmpR op_eq (pe_xh (pv 0)) (pe_ix ix_tup (pv 1) pe_int (fun _ _ => rfl)) (nomark _)))))))
  pss_nil)
  (pss_cons (ps_if (PW.pt (pw_or (pt_not (pt_val (pe_callB call_isH (by rfl) T.b_isinstance (by decide +kernel) (pa_cons (pv 0) (pa_cons (C8.pe_gc (v := .ref C_BadNumber) (by rfl) ⟨_, T.g_BadNumber, rfl⟩) pa_nil))))) (pw_or1 (pt_val (pe_callB call_isH (by rfl) T.b_isinstance (by decide +kernel) (pa_cons (pv 0) (pa_cons (C8.pe_gc (v := .ref C_BadName) (by rfl) ⟨_, T.g_BadName, rfl⟩) pa_nil)))))))
  (pss_one (ps_ret pe_bl))
  pss_nil)
  (pss_one (ps_ret (pe_and (pe_d D_l_is_int (hr.mono (by decide)) pass0 (by rfl) (pa_cons (pe_xh (pv 0)) pa_nil)) (pe_one (pe_cmpR op_eq (pe_xh (pv 0)) (pe_ix ix_tup (pv 1) pe_int (fun _ _ => rfl)) (nomark _)))))))))), ?_⟩
    have hH : HeldAt H ex D := ⟨some d, hx, .inr ⟨d, _, rfl, hd⟩⟩
    rcases hc with ⟨eD, rfl, z, rfl⟩ | ⟨eD, rfl, n, rfl⟩
    · obtain rfl := eD.symm
      refine ⟨_, rfl, ex, C_BadName, _, _, true, rfl, .own _, hH, T.ec_BadName, T.ko_BadName_BarbreaksError, true, rfl, iteF ⟨_, rfl, ex, C_BadName, _, _, true, rfl, .ty _, hH, T.ec_BadName, T.ko_BadName_ValueError, true, rfl, iteF ?_⟩⟩
      refine ⟨_, rfl, (by show 5 ≤ sizeLine; decide), fun tp ntp => ⟨ex, C_BadName, tp, _, _, false, rfl, upd_same, (.cons (.own _) (.cons (.own _) (.cons (.own _) (.cons (.own _) (.cons (.own _) .nil))))), hH.same (Same.new ntp), T.ec_BadName, (kitAny_no T.ko_BadName_BadSpan (kitAny_no T.ko_BadName_BadText (kitAny_no T.ko_BadName_Refused (kitAny_no T.ko_BadName_TooMany (kitAny_no T.ko_BadName_Twice kitAny_nil))))), false, rfl, iteF ?_⟩⟩
      have s2 := Same.new (o := .tup [.ref C_BadSpan, .ref C_BadText, .ref C_Refused, .ref C_TooMany, .ref C_Twice]) ntp
      have hx2 := s2 _ _ hx
      have hd2 := s2 _ _ hd
      have ht2 := s2 _ _ ht
      have hH2 := hH.same s2
      refine ⟨_, rfl, t, _, _, _, rfl, rfl, SqT.of ht2, rfl, rfl, _, rfl, ite2 (fun _ => ?_) (fun q => absurd (decide_eq_true rfl) q)⟩
      refine ⟨_, rfl, ex, C_BadName, _, _, true, rfl, .own _, hH2, T.ec_BadName, T.ko_BadName_BadName, true, rfl, iteF ⟨_, rfl, ex, C_BadName, _, _, false, rfl, .own _, hH2, T.ec_BadName, T.ko_BadName_BadNumber, false, rfl, iteF ?_⟩⟩
      refine ⟨_, rfl, ex, C_BadName, d, _, _, rfl, hx2, hd2, (exc_xf T.ec_BadName), T.xn_BadName_name, look1, .str _, _, _, _, true, rfl, .ty _, .base (.str _), kStr, true, rfl, iteT ⟨_, rfl, ex, C_BadName, d, _, _, rfl, hx2, hd2, (exc_xf T.ec_BadName), T.xn_BadName_name, look1, _, rfl, t, _, _, _, rfl, rfl, SqT.of ht2, rfl, rfl, ?_⟩⟩
      have e : V.bl (decide (V.str z = V.str z)) = V.bl true := bl_t rfl
      rw [e]
      exact k _ s2
    · obtain rfl := eD.symm
      refine ⟨_, rfl, ex, C_BadNumber, _, _, true, rfl, .own _, hH, T.ec_BadNumber, T.ko_BadNumber_BarbreaksError, true, rfl, iteF ⟨_, rfl, ex, C_BadNumber, _, _, true, rfl, .ty _, hH, T.ec_BadNumber, T.ko_BadNumber_ValueError, true, rfl, iteF ?_⟩⟩
      refine ⟨_, rfl, (by show 5 ≤ sizeLine; decide), fun tp ntp => ⟨ex, C_BadNumber, tp, _, _, false, rfl, upd_same, (.cons (.own _) (.cons (.own _) (.cons (.own _) (.cons (.own _) (.cons (.own _) .nil))))), hH.same (Same.new ntp), T.ec_BadNumber, (kitAny_no T.ko_BadNumber_BadSpan (kitAny_no T.ko_BadNumber_BadText (kitAny_no T.ko_BadNumber_Refused (kitAny_no T.ko_BadNumber_TooMany (kitAny_no T.ko_BadNumber_Twice kitAny_nil))))), false, rfl, iteF ?_⟩⟩
      have s2 := Same.new (o := .tup [.ref C_BadSpan, .ref C_BadText, .ref C_Refused, .ref C_TooMany, .ref C_Twice]) ntp
      have hx2 := s2 _ _ hx
      have hd2 := s2 _ _ hd
      have ht2 := s2 _ _ ht
      have hH2 := hH.same s2
      refine ⟨_, rfl, t, _, _, _, rfl, rfl, SqT.of ht2, rfl, rfl, _, rfl, ite2 (fun q => absurd (V.str.inj (of_decide_eq_true q)) (by decide +kernel)) (fun _ => ?_)⟩
      refine ⟨_, rfl, ex, C_BadNumber, _, _, true, rfl, .own _, hH2, T.ec_BadNumber, T.ko_BadNumber_BadNumber, true, rfl, iteF ⟨_, rfl, ex, C_BadNumber, _, _, false, rfl, .own _, hH2, T.ec_BadNumber, T.ko_BadNumber_BadName, false, rfl, iteF ?_⟩⟩
      refine ⟨_, rfl, ex, C_BadNumber, d, _, _, rfl, hx2, hd2, (exc_xf T.ec_BadNumber), T.xn_BadNumber_number, look1, .int _, _, true, false, rfl, .base (.int _), kInt, kIntB, true, rfl, iteT ⟨_, rfl, ex, C_BadNumber, d, _, _, rfl, hx2, hd2, (exc_xf T.ec_BadNumber), T.xn_BadNumber_number, look1, _, rfl, t, _, _, _, rfl, rfl, SqT.of ht2, rfl, rfl, ?_⟩⟩
      have e : V.bl (decide (V.int n = V.int n)) = V.bl true := bl_t rfl
      rw [e]
      exact k _ s2

theorem ok_l_asked (T : Txt K mg C_BadName C_BarbreaksError C_BadNumber C_Grid C_Named C_Timed C_Item C_Piece C_Break C_BadSpan C_BadText C_Refused C_TooMany C_Twice) : Dk P w K mg base CX0 8 "_law_asked" ["_law_door", "_law_text", "_law_grid_row", "_law_clock", "_law_numbers"] spAsked9 := by
  have D_l_made := ok_l_made (P := P) (w := w) (base := base) T
  have D_l_due := ok_l_due (P := P) (w := w) (base := base) T
  have D_l_bounds := ok_l_bounds (P := P) (w := w) (base := base) T
  have D_l_refused := ok_l_refused (P := P) (w := w) (base := base) T
  have D_l_is_int := ok_l_is_int (P := P) (w := w) (base := base) T
  have D_Grid := ok_Grid_init0 (P := P) (w := w) (base := base) T
  have P_Break_length := ok_Break_length (P := P) (w := w) (base := base) T
  have P_Break_limit := ok_Break_limit (P := P) (w := w) (base := base) T
  obtain ⟨f, fd, g, F, b⟩ := T.l_asked
  refine ⟨f, fd, g, F.kp, b, F.ok sc_l_asked (fun vs H Q E h => ?_) (fun cdv A outer s H vs Q E hr h => ?_)⟩
  · obtain ⟨n, z, gr, l, st, off, y, a, b, c, rest, rfl, _⟩ := h
    rfl
  · obtain ⟨n, z, gr, l, st, off, y, a, b, c, rest, rfl, n0, n3, hzl, hgr, hst, hl, h3, k⟩ := h
    refine ⟨_, (pss_cons (ps_set (i := 5) sc_l_asked.nd rfl (Or.inl rfl) (pe_mkd D_Grid (hr.mono (by decide)) pass0 (by rfl) (pa_cons (pe_ix ix_tup (pv 2) pe_int (fun _ _ => rfl)) (pa_cons (pe_ix ix_tup (pv 2) pe_int (fun _ _ => rfl)) pa_nil))))
  (pss_cons (ps_set (i := 6) sc_l_asked.nd rfl (Or.inl rfl) pe_non)
  (pss_cons (ps_set (i := 7) sc_l_asked.nd rfl (Or.inl rfl) pe_non)
  (C8.pss_cut (ps_try_hold (i := 8) rfl rfl sc_l_asked.nd rfl rfl ⟨rfl, by decide, Or.inl T.g_BarbreaksError⟩ rfl (fun W pn xe tk _ => (pss_one (ps_set (i := 7) sc_l_asked.nd rfl (Or.inl rfl) (pe_dS D_l_made (hr.mono (by decide)) (fun σ => passAt tk σ) (by rfl) (pa_cons (pv 0) (pa_cons (pv 1) (pa_cons (pv 5) (pa_cons (pv 3) (pa_cons (pv 4) pa_nil))))))))) (fun a ob cls d pn hz hf => (pss_one (ps_set (i := 6) sc_l_asked.nd rfl (Or.inl rfl) (pv 8)))))
  (C8.pss_cut (ps_set (i := 9) sc_l_asked.nd rfl (Or.inl rfl) (pe_d D_l_due (hr.mono (by decide)) pass0 (by rfl) (pa_cons (pv 1) (pa_cons (pe_d D_l_bounds (hr.mono (by decide)) pass0 (by rfl) (pa_cons (pv 0) (pa_cons (pv 4) pa_nil))) pa_nil))))
  (C8.pss_cut (ps_if (pt_cmpR op_eq (pv 0) pe_int (nomark _))
  (pss_one (ps_set (i := 9) sc_l_asked.nd rfl (Or.inl rfl) (pe_d D_l_due (hr.mono (by decide)) pass0 (by rfl) (pa_cons pe_str (pa_cons (pe_d D_l_bounds (hr.mono (by decide)) pass0 (by rfl) (pa_cons (pv 0) (pa_cons (pv 4) pa_nil))) pa_nil)))))
  pss_nil)
  (pss_cons (ps_if (pt_cmpR op_notN (pv 9) pe_non (nomark _))
  (pss_one (ps_ret (pe_d D_l_refused (hr.mono (by decide)) pass0 (by rfl) (pa_cons (pv 6) (pa_cons (pv 9) pa_nil)))))
  pss_nil)
  (pss_cons (ps_if (PW.pt (pw_or (pt_cmpR op_notN (pv 6) pe_non (nomark _)) (pw_or1 (pt_not (pt_val (pe_callB call_isi (by rfl) T.b_isinstance (by decide +kernel) (pa_cons (pv 7) (pa_cons (C8.pe_gc (v := .ref C_Timed) (by rfl) ⟨_, T.g_Timed, rfl⟩) pa_nil))))))))
  (pss_one (ps_ret pe_bl))
  pss_nil)
  (pss_cons (ps_if (pt_cmpR op_lt (pv 0) pe_int (nomark _))
  (pss_one (ps_ret pe_bl))
  pss_nil)
  (pss_cons (ps_if (PW.pt (pw_or (pt_not (pt_val (pe_callB call_isi (by rfl) T.b_isinstance (by decide +kernel) (pa_cons (pv 7) (pa_cons (C8.pe_gc (v := .ref C_Break) (by rfl) ⟨_, T.g_Break, rfl⟩) pa_nil))))) (pw_or (pt_not (pt_val (pe_d D_l_is_int (hr.mono (by decide)) pass0 (by rfl) (pa_cons (pe_pr P_Break_length T.c_Break (hr.mono (by decide)) pass0 (pv 7)) pa_nil)))) (pw_or1 (pt_not (pt_val (pe_d D_l_is_int (hr.mono (by decide)) pass0 (by rfl) (pa_cons (pe_pr P_Break_limit T.c_Break (hr.mono (by decide)) pass0 (pv 7)) pa_nil))))))))
  (pss_one (ps_ret pe_bl))
  pss_nil)
  (pss_cons (ps_set (i := 10) sc_l_asked.nd rfl (Or.inl rfl) (pe_op op_sub (pe_pr P_Break_limit T.c_Break (hr.mono (by decide)) pass0 (pv 7)) (pe_op op_mul (pe_op op_sub (pe_ix ix_list (pv 4) pe_int (fun _ _ => rfl)) pe_int) (pe_ix ix_tup (pv 2) pe_int (fun _ _ => rfl)))))
  (pss_cons (ps_if (PW.pt (pw_or (pt_not (pt_chain op_le op_lt pe_int (pe_op op_sub (pv 10) (pv 3)) (pe_ix ix_tup (pv 2) pe_int (fun _ _ => rfl)))) (pw_or1 (pt_cmpR op_ne (pe_op op_mod (pe_callTy call_int1 (by rfl) T.b_int (by decide +kernel) (pa_cons (pe_op op_sub (pv 10) (pe_ix ix_tup (pv 2) pe_int (fun _ _ => rfl))) pa_nil)) (pe_ix ix_tup (pv 2) pe_int (fun _ _ => rfl))) pe_int (nomark _)))))
  (pss_one (ps_ret pe_bl))
  pss_nil)
  (pss_one (ps_ret (pe_cmpR op_eq (pe_pr P_Break_length T.c_Break (hr.mono (by decide)) pass0 (pv 7)) (pe_op op_mul (pe_ix ix_list (pv 4) pe_int (fun _ _ => rfl)) (pe_ix ix_list (pv 4) pe_int (fun _ _ => rfl))) (nomark _)))))))))))))))), ?_⟩
    refine ⟨_, rfl, gr, _, _, _, rfl, rfl, SqT.of hgr, rfl, _, rfl, gr, _, _, _, rfl, rfl, SqT.of hgr, rfl, fun g dg ng ndg neg => ⟨g, dg, st, off, rfl, upd_same, hst, fun HG hG oG => ⟨rfl, ?_⟩⟩⟩
    have sG := Same.inst (C := C_Grid) ng ndg (But.of_off oG)
    refine ⟨fun σ H' => ∃ (fv vv : V), σ = [some (.int n), some (.str z), some (.ref gr), some (.int y), some (.ref l), some (.ref g), some fv, some vv, none, none, none] ∧ Same HG H' ∧ TryV K C_Timed C_Break n z (.ref g) (.int y) a b c (rest.headD 0) (dueD C_BadName C_BadNumber z n a b c (rest.headD 0)) H' fv vv, ?_, ?_⟩
    · refine ⟨_, rfl, _, rfl, _, rfl, _, rfl, _, rfl, n, z, .ref g, .int y, l, a, b, c, rest, rfl, n0, n3, hzl, sG _ _ hl, h3, fun e x H1 s1 hx => ?_, fun D f v e H1 d s1 hd => ?_⟩
      · exact ⟨.non, .ref x, rfl, s1, .inl ⟨e, rfl, x, rfl, hx⟩⟩
      · have hex : PySem.W.exmOne K (.ref D) (.ref C_BarbreaksError) = some true := by
          rcases dueD_some e with ⟨q, _⟩ | ⟨q, _⟩
          · rw [q]
            exact T.xm_BadName_BarbreaksError
          · rw [q]
            exact T.xm_BadNumber_BarbreaksError
        refine ⟨hex, fun ex nex => ⟨_, rfl, .ref ex, .non, rfl, s1.trans (Same.new nex), .inr ⟨D, f, v, ex, d, e, rfl, upd_same, (upd_ne (ne_of_none hd nex)).trans hd⟩⟩⟩
    rintro σ H1 ⟨fv, vv, rfl, s1, tv⟩
    have s01 := sG.trans s1
    refine ⟨fun σ H' => ∃ dv : V, σ = [some (.int n), some (.str z), some (.ref gr), some (.int y), some (.ref l), some (.ref g), some fv, some vv, none, some dv, none] ∧ Same HG H' ∧ TryV K C_Timed C_Break n z (.ref g) (.int y) a b c (rest.headD 0) (dueD C_BadName C_BadNumber z n a b c (rest.headD 0)) H' fv vv ∧ (n ≠ 0 → DueV (toDu C_BadName C_BadNumber z (bQ n a b c (rest.headD 0))) H' dv), ?_, ?_⟩
    · refine ⟨_, rfl, _, rfl, _, rfl, n, l, a, b, c, rest, rfl, s01 _ _ hl, h3, fun r as H2 s2 hr hq => ?_⟩
      refine ⟨z, r, as, _, rfl, hzl, hr, hq, fun hn t nt => ?_, fun hn m hm t nt => ?_, fun hn hm => ?_⟩
      · exact ⟨_, rfl, s1.trans (s2.trans (Same.new nt)), tv.same (s2.trans (Same.new nt)), fun _ => .inr ⟨_, _, _, t, toDu_f hn, rfl, upd_same⟩⟩
      · exact ⟨_, rfl, s1.trans (s2.trans (Same.new nt)), tv.same (s2.trans (Same.new nt)), fun _ => .inr ⟨_, _, _, t, toDu_n hn hm, rfl, upd_same⟩⟩
      · exact ⟨_, rfl, s1.trans s2, tv.same s2, fun _ => .inl ⟨toDu_0 hn hm, rfl⟩⟩
    rintro σ H2 ⟨dv, rfl, s2, tv2, hdv⟩
    have s02 := sG.trans s2
    refine ⟨fun σ H' => ∃ dv : V, σ = [some (.int n), some (.str z), some (.ref gr), some (.int y), some (.ref l), some (.ref g), some fv, some vv, none, some dv, none] ∧ Same HG H' ∧ TryV K C_Timed C_Break n z (.ref g) (.int y) a b c (rest.headD 0) (dueD C_BadName C_BadNumber z n a b c (rest.headD 0)) H' fv vv ∧ DueV (dueD C_BadName C_BadNumber z n a b c (rest.headD 0)) H' dv, ?_, ?_⟩
    · refine ⟨_, rfl, rfl, _, rfl, ite2 (fun q => ?_) (fun q => ?_)⟩
      · have e0 : n = 0 := V.int.inj (of_decide_eq_true q)
        subst e0
        have ha : nameB "a" = true := by decide +kernel
        refine ⟨_, rfl, _, rfl, 0, l, a, b, c, rest, rfl, s02 _ _ hl, h3, fun r as H3 s3 hr hq => ?_⟩
        refine ⟨"a", r, as, _, rfl, by decide +kernel, hr, hq, fun hn t nt => ?_, fun hn m hm t nt => ?_, fun hn hm => ?_⟩
        · rw [ha] at hn
          cases hn
        · refine ⟨_, rfl, s2.trans (s3.trans (Same.new nt)), tv2.same (s3.trans (Same.new nt)), .inr ⟨C_BadNumber, "number", .int m, t, ?_, rfl, upd_same⟩⟩
          unfold dueD numDu
          rw [if_pos rfl, hm]
        · refine ⟨_, rfl, s2.trans s3, tv2.same s3, .inl ⟨?_, rfl⟩⟩
          unfold dueD numDu
          rw [if_pos rfl, hm]
      · have e0 : n ≠ 0 := fun e => q (decide_eq_true (congrArg V.int e))
        refine ⟨dv, rfl, s2, tv2, ?_⟩
        unfold dueD
        rw [if_neg e0]
        exact hdv e0
    rintro σ H4 ⟨dv, rfl, s24, tv4, hd4⟩
    have s4 := sG.trans s24
    rcases tv4 with ⟨e1, rfl, x, rfl, hx⟩ | ⟨D, f, v, ex, d, e1, rfl, hex, hd⟩
    · rcases hd4 with ⟨_, rfl⟩ | ⟨D, f, v, t, e2, _⟩
      · refine ⟨_, rfl, rfl, _, rfl, iteF ?_⟩
        rcases hx with ⟨q, C, dx, fs, e, tc⟩ | ⟨q, dx, e⟩
        · refine ⟨_, rfl, rfl, _, rfl, iteF ⟨_, rfl, .ref x, _, _, _, true, rfl, .own _, tyx_own e tc.c tc.o, tc.k, true, rfl, iteF ?_⟩⟩
          exact ⟨_, rfl, _, _, rfl, rfl, true, bl_t (by omega), iteT (k _ s4)⟩
        · refine ⟨_, rfl, rfl, _, rfl, iteF ⟨_, rfl, .ref x, _, _, _, true, rfl, .own _, tyx_own e T.c_Break T.o_Break, T.ko_Break_Timed, true, rfl, iteF ?_⟩⟩
          refine ⟨_, rfl, _, _, rfl, rfl, false, bl_f (by omega), iteF ?_⟩
          obtain ⟨e5, rfl⟩ := h3 q
          subst q
          unfold dueD at e1
          rw [if_neg (by decide)] at e1
          have hg0 : fstBad (bQ 3 a b c e5) = none := by
            cases hf : fstBad (bQ 3 a b c e5) with
            | none => rfl
            | some m =>
              have e1' : toDu C_BadName C_BadNumber z (bQ 3 a b c e5) = none := e1
              unfold toDu at e1'
              rw [hf] at e1'
              cases hz : nameB z with
              | true => rw [hz] at e1'; cases e1'
              | false => rw [hz] at e1'; cases e1'
          obtain ⟨⟨b1, b2⟩, c1, y1, y2⟩ := bQ_good hg0
          have hG4 := hG.same s24
          have L : ∀ {Q' : VK}, Q' (.int (b * c)) H4 → spLength C_Break [.ref x] H4 Q' E0 := fun q => ⟨x, dx, _, b, c, rfl, e, putB_places, putB_unit, b1, b2, q⟩
          have M : ∀ {Q' : VK}, Q' (.int (barOf st (off % st) y + (e5 - 1) * st)) H4 → spLimit C_Break C_Grid [.ref x] H4 Q' E0 := fun q => ⟨x, dx, g, _, y, e5, st, off % st, rfl, e, putB_grid, putB_min, putB_pat, hG4, y1, y2, q⟩
          refine ⟨_, rfl, .ref x, _, _, _, true, rfl, .own _, tyx_own e T.c_Break T.o_Break, T.ko_Break_Break, true, rfl, iteF ?_⟩
          refine ⟨_, rfl, x, dx, _, rfl, e, L ⟨.int _, _, true, false, rfl, .base (.int _), kInt, kIntB, true, rfl, iteF ?_⟩⟩
          refine ⟨_, rfl, x, dx, _, rfl, e, M ⟨.int _, _, true, false, rfl, .base (.int _), kInt, kIntB, true, rfl, iteF ?_⟩⟩
          refine ⟨_, rfl, x, dx, _, rfl, e, M ⟨_, rfl, _, _, _, _, rfl, rfl, SqL.of (s4 _ _ hl), atI_ge (by decide) rfl, _, _, rfl, rfl, _, rfl, gr, _, _, _, rfl, rfl, SqT.of (s4 _ _ hgr), rfl, _, _, rfl, rfl, .inl ⟨by omega, by omega⟩, _, _, rfl, rfl, ?_⟩⟩
          have hb := bar_ge (o := off % st) (t := y) (by omega : 0 < st)
          have hm : (barOf st (off % st) y - off) % st = 0 := bar_mod off_mod
          have ef : barOf st (off % st) y + (e5 - 1) * st - (e5 - 1) * st = barOf st (off % st) y := Int.add_sub_cancel _ _
          refine ⟨_, rfl, _, rfl, _, _, rfl, rfl, _, _, rfl, rfl, true, bl_t (by rw [ef]; exact hb.1), iteT ⟨_, rfl, gr, _, _, _, rfl, rfl, SqT.of (s4 _ _ hgr), rfl, _, _, rfl, rfl, true, bl_t (by rw [ef]; exact hb.2), iteF ?_⟩⟩
          refine ⟨_, rfl, _, rfl, gr, _, _, _, rfl, rfl, SqT.of (s4 _ _ hgr), rfl, _, _, rfl, rfl, .inl ⟨_, rfl, _, rfl, gr, _, _, _, rfl, rfl, SqT.of (s4 _ _ hgr), rfl, _, _, rfl, rfl, (by omega), rfl, false, ble_f (by rw [ef]; exact congrArg V.int hm), iteF ?_⟩⟩
          refine ⟨_, rfl, x, dx, _, rfl, e, L ⟨_, rfl, _, _, _, _, rfl, rfl, SqL.of (s4 _ _ hl), atI_ge (by decide) rfl, _, rfl, _, _, _, _, rfl, rfl, SqL.of (s4 _ _ hl), atI_ge (by decide) rfl, _, _, rfl, rfl, .inl ⟨by omega, by omega⟩, rfl, ?_⟩⟩
          have ee : V.bl (decide (V.int (b * c) = V.int (b * c))) = V.bl true := bl_t rfl
          rw [ee]
          exact k _ s4
      · rw [e1] at e2
        cases e2
    · rcases hd4 with ⟨e2, _⟩ | ⟨D2, f2, v2, t, e2, rfl, ht⟩
      · rw [e1] at e2
        cases e2
      · rw [e1] at e2
        cases e2
        refine ⟨_, rfl, rfl, _, rfl, iteT ?_⟩
        exact ⟨_, rfl, _, rfl, ex, t, D, d, f, v, rfl, hex, hd, ht, dueD_some e1, fun H5 s5 => k _ (s4.trans s5)⟩

theorem ok_law (T : Txt K mg C_BadName C_BarbreaksError C_BadNumber C_Grid C_Named C_Timed C_Item C_Piece C_Break C_BadSpan C_BadText C_Refused C_TooMany C_Twice) : ∀ (f : Addr) (fd : FuncData), Fun K "law" "law" s_law f fd → FnOk P w K mg base CX0 9 f fd ["_law_script"] (spLaw K) := by
  intro f fd F
  have D_l_pool := ok_l_pool (P := P) (w := w) (base := base) T
  have D_l_take := ok_l_take (P := P) (w := w) (base := base) T
  have D_l_names := ok_l_names (P := P) (w := w) (base := base) T
  have D_l_step := ok_l_step (P := P) (w := w) (base := base) T
  have D_l_shift := ok_l_shift (P := P) (w := w) (base := base) T
  have D_l_free := ok_l_free (P := P) (w := w) (base := base) T
  have D_l_size := ok_l_size (P := P) (w := w) (base := base) T
  have D_l_edge := ok_l_edge (P := P) (w := w) (base := base) T
  have D_l_turned := ok_l_turned (P := P) (w := w) (base := base) T
  have D_l_asked := ok_l_asked (P := P) (w := w) (base := base) T
  refine F.ok sc_law (fun vs H Q E h => ?_) (fun cdv A outer s H vs Q E hr h => ?_)
  · obtain ⟨a, ns, rfl, _⟩ := h
    rfl
  · obtain ⟨a, ns, rfl, hS, hlen, k⟩ := h
    refine ⟨_, (pss_cons (ps_set (i := 1) sc_law.nd rfl (Or.inl rfl) (pe_d D_l_pool (hr.mono (by decide)) pass0 (by rfl) (pa_cons (pv 0) pa_nil)))
  (pss_cons (ps_set (i := 2) sc_law.nd rfl (Or.inl rfl) (pe_ix ix_list (pe_d D_l_names (hr.mono (by decide)) pass0 (by rfl) (pa_cons (pv 1) (pa_cons pe_int pa_nil))) pe_int (fun _ _ => rfl)))
  (C8.pss_cut (ps_set (i := 3) sc_law.nd rfl (Or.inl rfl) (pe_ix ix_list (pe_lst (pa_cons pe_str (pa_cons (pe_op op_add_str (pv 2) pe_str) (pa_cons (pe_upper (pv 2)) (pa_cons (pe_op op_add_str pe_str (pv 2)) (pa_cons (pe_op op_add_str pe_str (pv 2)) pa_nil)))))) (pe_d D_l_take (hr.mono (by decide)) pass0 (by rfl) (pa_cons (pv 1) (pa_cons pe_int pa_nil))) (fun _ _ => rfl)))
  (pss_cons (ps_set (i := 4) sc_law.nd rfl (Or.inl rfl) (pe_d D_l_step (hr.mono (by decide)) pass0 (by rfl) (pa_cons (pv 1) pa_nil)))
  (pss_cons (ps_set (i := 5) sc_law.nd rfl (Or.inl rfl) (pe_tup (pa_cons (pv 4) (pa_cons (pe_d D_l_shift (hr.mono (by decide)) pass0 (by rfl) (pa_cons (pv 1) (pa_cons (pv 4) pa_nil))) pa_nil))))
  (pss_cons (ps_set (i := 6) sc_law.nd rfl (Or.inl rfl) (pe_d D_l_free (hr.mono (by decide)) pass0 (by rfl) (pa_cons (pv 1) pa_nil)))
  (pss_cons (ps_set (i := 7) sc_law.nd rfl (Or.inl rfl) (pe_d D_l_take (hr.mono (by decide)) pass0 (by rfl) (pa_cons (pv 1) (pa_cons pe_int pa_nil))))
  (pss_cons (ps_set (i := 8) sc_law.nd rfl (Or.inl rfl) (pe_lst (pa_cons (pv 7) (pa_cons (pe_op op_add pe_int (pe_d D_l_take (hr.mono (by decide)) pass0 (by rfl) (pa_cons (pv 1) (pa_cons pe_int pa_nil)))) (pa_cons (pe_d D_l_size (hr.mono (by decide)) pass0 (by rfl) (pa_cons (pv 1) pa_nil)) (pa_cons (pe_op op_add pe_int (pe_d D_l_take (hr.mono (by decide)) pass0 (by rfl) (pa_cons (pv 1) (pa_cons pe_int pa_nil)))) pa_nil))))))
  (pss_cons (ps_set (i := 9) sc_law.nd rfl (Or.inl rfl) (pe_d D_l_size (hr.mono (by decide)) pass0 (by rfl) (pa_cons (pv 1) pa_nil)))
  (pss_cons (ps_set (i := 10) sc_law.nd rfl (Or.inl rfl) (pe_op op_add (pv 9) (pe_d D_l_take (hr.mono (by decide)) pass0 (by rfl) (pa_cons (pv 1) (pa_cons pe_int pa_nil)))))
  (pss_cons (ps_set (i := 11) sc_law.nd rfl (Or.inl rfl) (pe_lst (pa_cons (pe_d D_l_edge (hr.mono (by decide)) pass0 (by rfl) (pa_cons (pv 1) (pa_cons pe_int (pa_cons pe_int pa_nil)))) (pa_cons (pe_d D_l_edge (hr.mono (by decide)) pass0 (by rfl) (pa_cons (pv 1) (pa_cons pe_int (pa_cons pe_int pa_nil)))) (pa_cons (pe_d D_l_edge (hr.mono (by decide)) pass0 (by rfl) (pa_cons (pv 1) (pa_cons pe_int (pa_cons (pe_op op_pow pe_int pe_int) pa_nil)))) (pa_cons (pe_d D_l_edge (hr.mono (by decide)) pass0 (by rfl) (pa_cons (pv 1) (pa_cons pe_int (pa_cons pe_int pa_nil)))) pa_nil))))))
  (pss_cons (ps_set (i := 12) sc_law.nd rfl (Or.inl rfl) (pe_lst (pa_cons (pe_d D_l_edge (hr.mono (by decide)) pass0 (by rfl) (pa_cons (pv 1) (pa_cons pe_int (pa_cons pe_int pa_nil)))) (pa_cons (pe_d D_l_edge (hr.mono (by decide)) pass0 (by rfl) (pa_cons (pv 1) (pa_cons pe_int (pa_cons pe_int pa_nil)))) pa_nil))))
  (pss_cons (ps_expr (pe_bm PySem.F.plainAttrs_list PySem.F.slot_list_append PySem.F.type_list_append mt_append (pv 12) (pa_cons (pe_op op_add (pe_ix ix_list (pv 12) pe_int (fun _ _ => rfl)) (pe_d D_l_edge (hr.mono (by decide)) pass0 (by rfl) (pa_cons (pv 1) (pa_cons pe_int (pa_cons pe_int pa_nil))))) pa_nil)))
  (C8.pss_cut (ps_set (i := 13) sc_law.nd rfl (Or.inl rfl) (pe_d D_l_turned (hr.mono (by decide)) pass0 (by rfl) (pa_cons (pv 8) (pa_cons (pe_lst (pa_cons (pe_lst (pa_cons (pe_un un_neg pe_int) (pa_cons pe_int (pa_cons pe_int (pa_cons pe_int pa_nil))))) (pa_cons (pe_lst (pa_cons pe_int (pa_cons pe_int (pa_cons pe_int (pa_cons pe_int pa_nil))))) (pa_cons (pe_lst (pa_cons (pe_un un_neg pe_int) (pa_cons pe_int (pa_cons pe_int (pa_cons pe_int pa_nil))))) (pa_cons (pe_lst (pa_cons pe_int (pa_cons pe_int (pa_cons pe_int (pa_cons pe_int pa_nil))))) pa_nil))))) pa_nil))))
  (C8.pss_cut (ps_set (i := 13) sc_law.nd rfl (Or.inl rfl) (pe_op op_cat (pv 13) (pe_lst (pa_cons (pv 8) (pa_cons (pv 11) (pa_cons (pe_lst (pa_cons pe_int (pa_cons pe_int (pa_cons (pe_un un_neg pe_int) (pa_cons pe_int pa_nil))))) (pa_cons (pe_lst (pa_cons pe_int (pa_cons pe_int (pa_cons (pe_un un_neg pe_int) (pa_cons pe_int pa_nil))))) (pa_cons (pe_lst (pa_cons pe_int (pa_cons pe_int (pa_cons (pe_un un_neg pe_int) (pa_cons pe_int pa_nil))))) (pa_cons (pe_lst (pa_cons pe_int (pa_cons pe_int (pa_cons pe_int (pa_cons pe_int pa_nil))))) pa_nil)))))))))
  (C8.pss_cut (ps_set (i := 14) sc_law.nd rfl (Or.inl rfl) (pe_d D_l_turned (hr.mono (by decide)) pass0 (by rfl) (pa_cons (pe_lst (pa_cons (pv 7) (pa_cons (pv 9) (pa_cons (pv 10) pa_nil)))) (pa_cons (pe_lst (pa_cons (pe_lst (pa_cons (pe_un un_neg pe_int) (pa_cons pe_int (pa_cons pe_int (pa_cons pe_int pa_nil))))) (pa_cons (pe_lst pa_nil) (pa_cons (pe_lst (pa_cons (pe_op op_sub (pv 9) pe_int) (pa_cons (pv 9) (pa_cons (pe_op op_add (pv 9) pe_int) (pa_cons (pe_op op_add (pv 9) pe_int) pa_nil))))) pa_nil)))) pa_nil))))
  (C8.pss_cut (ps_set (i := 14) sc_law.nd rfl (Or.inl rfl) (pe_op op_cat (pv 14) (pe_lst (pa_cons (pe_lst (pa_cons (pv 7) (pa_cons pe_int (pa_cons pe_int pa_nil)))) (pa_cons (pe_lst (pa_cons (pv 7) (pa_cons pe_int (pa_cons pe_int pa_nil)))) (pa_cons (pe_lst (pa_cons (pv 7) (pa_cons pe_int (pa_cons pe_int pa_nil)))) (pa_cons (pe_lst (pa_cons (pv 7) (pa_cons pe_int (pa_cons pe_int pa_nil)))) (pa_cons (pe_lst (pa_cons (pv 7) (pa_cons pe_int (pa_cons pe_int pa_nil)))) (pa_cons (pe_lst (pa_cons (pv 7) (pa_cons (pe_un un_neg pe_int) (pa_cons (pv 9) pa_nil)))) (pa_cons (pv 12) pa_nil))))))))))
  (C8.pss_cut (ps_set (i := 14) sc_law.nd rfl (Or.inl rfl) (pe_op op_cat (pv 14) (pe_lst (pa_cons (pe_lst (pa_cons (pv 7) (pa_cons (pv 9) (pa_cons (pv 10) pa_nil)))) (pa_cons (pe_lst (pa_cons pe_int (pa_cons pe_int (pa_cons (pe_un un_neg pe_int) pa_nil)))) (pa_cons (pe_lst (pa_cons pe_int (pa_cons pe_int (pa_cons (pe_un un_neg pe_int) pa_nil)))) (pa_cons (pe_lst (pa_cons pe_int (pa_cons pe_int (pa_cons pe_int pa_nil)))) pa_nil)))))))
  (pss_cons (ps_for PassesOwn.never rfl (pi_list (pe_lst (pa_cons (pv 2) (pa_cons (pv 3) pa_nil)))) (pg_name (i := 15) sc_law.nd rfl (Or.inl rfl))
  (pss_cons (ps_for PassesOwn.never rfl (pi_list (pv 13)) (pg_name (i := 16) sc_law.nd rfl (Or.inl rfl))
  (pss_one (ps_if (pt_not (pt_val (pe_d D_l_asked (hr.mono (by decide)) pass0 (by rfl) (pa_cons pe_int (pa_cons (pv 15) (pa_cons (pv 5) (pa_cons (pv 6) (pa_cons (pv 16) pa_nil))))))))
  (pss_one (ps_ret pe_bl))
  pss_nil)))
  (pss_one (ps_for PassesOwn.never rfl (pi_list (pv 14)) (pg_name (i := 16) sc_law.nd rfl (Or.inl rfl))
  (pss_one (ps_for PassesOwn.never rfl (pi_range1 rfl T.b_range (pa_cons pe_int pa_nil)) (pg_name (i := 17) sc_law.nd rfl (Or.inl rfl))
  (pss_one (ps_if (pt_not (pt_val (pe_d D_l_asked (hr.mono (by decide)) pass0 (by rfl) (pa_cons (pv 17) (pa_cons (pv 15) (pa_cons (pv 5) (pa_cons (pv 6) (pa_cons (pv 16) pa_nil))))))))
  (pss_one (ps_ret pe_bl))
  pss_nil))))))))
  (pss_one (ps_ret pe_bl))))))))))))))))))))), ?_⟩
    refine ⟨_, rfl, a, ns, rfl, hS, hlen, fun p c H0 hp0 _ _ _ => ?_⟩
    refine ⟨_, rfl, p, c, ns, 1, rfl, hp0, by decide, by decide, fun nl xs H1 nlH hnl hxs hok hnd hp1 b1 => ?_⟩
    obtain ⟨t, rfl⟩ : ∃ t, xs = [t] := by
      match xs, hxs with
      | [t], _ => exact ⟨t, rfl⟩
      | [], h => exact absurd h (by decide)
      | _ :: _ :: _, h =>
        simp at h
        omega
    have ht := name_le (hok t (List.mem_singleton.mpr rfl))
    have t1 : t.length ≤ 1000 := by omega
    refine ⟨nl, _, _, _, rfl, rfl, SqL.of hnl, rfl, ?_⟩
    -- a text that is no name
    refine ⟨fun σ H' => ∃ wr : Str, σ = [some (.ref a), some (.ref p), some (.str t), some (.str wr), none, none, none, none, none, none, none, none, none, none, none, none, none, none] ∧ wr.length ≤ 1000 ∧ Pool ns c H' p, ?_, ?_⟩
    · refine ⟨_, rfl, _, _, rfl, rfl, catL t1 (by decide +kernel), _, rfl, ⟨t, rfl⟩, t, rfl, rfl, (by omega), _, rfl, _, _, rfl, rfl, catL (by decide +kernel) t1, _, rfl, _, _, rfl, rfl, catL (by decide +kernel) t1, (by show 5 ≤ sizeLine; decide), fun wl nw => ?_⟩
      refine ⟨_, rfl, p, c, ns, _, rfl, hp1.same (Same.new nw), by decide, by decide +kernel, fun x H2 x0 x1 hp2 o2 => ?_⟩
      have npl : wl ≠ p := by
        obtain ⟨lp, e, _⟩ := hp1.at_
        exact (ne_of_none e nw).symm
      obtain ⟨wr, hwr, hwl⟩ : ∃ wr : Str, atI [V.str "", .str (t ++ "_"), .str (Txt.upper t), .str ("7" ++ t), .str (" " ++ t)] x = some (.str wr) ∧ wr.length ≤ 1000 := by
        have u := PyProof.Rows.len_upper t
        have l1 : ("_" : Str).length = 1 := by decide +kernel
        have l2 : ("7" : Str).length = 1 := by decide +kernel
        have l3 : (" " : Str).length = 1 := by decide +kernel
        have q : x = 0 ∨ x = 1 ∨ x = 2 ∨ x = 3 ∨ x = 4 := by omega
        rcases q with rfl | rfl | rfl | rfl | rfl
        · exact ⟨"", rfl, by decide +kernel⟩
        · exact ⟨_, rfl, by rw [Str.length_append]; omega⟩
        · exact ⟨_, rfl, by omega⟩
        · exact ⟨_, rfl, by rw [Str.length_append]; omega⟩
        · exact ⟨_, rfl, by rw [Str.length_append]; omega⟩
      exact ⟨wl, _, x, _, rfl, rfl, SqL.of ((o2 wl npl).trans upd_same), hwr, wr, rfl, hwl, hp2⟩
    rintro σ H2 ⟨wr, rfl, hwl, hp2⟩
    refine ⟨_, rfl, p, c, ns, rfl, hp2, fun st H3 Gs hp3 o3 => ?_⟩
    have hst : 1 ≤ st := Gs.1
    refine ⟨_, rfl, _, rfl, _, rfl, p, c, ns, st, rfl, hp3, Gs, fun off H4 Go hp4 o4 => ⟨(by show 2 ≤ sizeLine; decide), fun gr ngr => ?_⟩⟩
    have nep : ∀ {H' : Hp} {x : Addr}, Pool ns c H' p → H' x = none → x ≠ p := fun hp nx => by
      obtain ⟨lp, e, _⟩ := hp.at_
      exact (ne_of_none e nx).symm
    have ngp := nep hp4 ngr
    have hp4' := hp4.same (Same.new (o := .tup [.int st, .int off]) ngr)
    refine ⟨_, rfl, p, c, ns, rfl, hp4', fun y H5 _ hp5 o5 => ?_⟩
    have g5 := (o5 gr ngp).trans (upd_same (H := H4) (a := gr) (o := .tup [.int st, .int off]))
    refine ⟨_, rfl, p, c, ns, _, rfl, hp5, by decide, by decide +kernel, fun late H6 late0 late1 hp6 o6 => ?_⟩
    have g6 := (o6 gr ngp).trans g5
    -- right
    refine ⟨_, rfl, _, rfl, p, c, ns, _, rfl, hp6, by decide, by decide +kernel, fun q1 H7 q10 q11 hp7 o7 => ⟨_, _, rfl, rfl, ?_⟩⟩
    refine ⟨_, rfl, p, c, ns, rfl, hp7, fun q2 H8 g8 hp8 o8 => ?_⟩
    refine ⟨_, rfl, p, c, ns, _, rfl, hp8, by decide, by decide +kernel, fun q3 H9 q30 q31 hp9 o9 => ⟨_, _, rfl, rfl, ?_⟩⟩
    refine ⟨(by show 4 ≤ sizeLine; decide), fun r nr => ?_⟩
    have g9 := (o9 gr ngp).trans ((o8 gr ngp).trans ((o7 gr ngp).trans g6))
    have nrp := nep hp9 nr
    have sr := Same.new (o := .lst [.int late, .int (1 + q1), .int q2, .int (1 + q3)]) nr
    have hp10 := hp9.same sr
    have g10 := sr _ _ g9
    have r10 : (L2.upd H9 r (.lst [.int late, .int (1 + q1), .int q2, .int (1 + q3)])) r = some (.lst ([late, 1 + q1, q2, 1 + q3].map V.int)) := upd_same
    generalize L2.upd H9 r (.lst [.int late, .int (1 + q1), .int q2, .int (1 + q3)]) = H10 at hp10 g10 r10
    refine ⟨_, rfl, p, c, ns, rfl, hp10, fun low H11 g11 hp11 o11 => ?_⟩
    refine ⟨_, rfl, _, rfl, p, c, ns, _, rfl, hp11, by decide, by decide +kernel, fun q4 H12 q40 q41 hp12 o12 => ⟨_, _, rfl, rfl, ?_⟩⟩
    have g12 := (o12 gr ngp).trans ((o11 gr ngp).trans g10)
    have r12 := (o12 r nrp).trans ((o11 r nrp).trans r10)
    -- mixed
    refine ⟨_, rfl, p, c, ns, _, _, rfl, hp12, by decide, by decide, fun m0 H13 hp13 b13 => ?_⟩
    refine ⟨_, rfl, p, c, ns, _, _, rfl, hp13, by decide, by decide, fun m1 H14 hp14 b14 => ?_⟩
    refine ⟨_, rfl, _, _, rfl, rfl, ⟨by decide, by decide, by decide⟩, p, c, ns, _, _, rfl, hp14, by decide, by decide, fun m2 H15 hp15 b15 => ?_⟩
    refine ⟨_, rfl, p, c, ns, _, _, rfl, hp15, by decide, by decide, fun m3 H16 hp16 b16 => ?_⟩
    refine ⟨(by show 4 ≤ sizeLine; decide), fun mx nmx => ?_⟩
    have b16' := ((b13.trans b14).trans b15).trans b16
    have g16 := b16' _ _ g12 ngp
    have r16 := b16' _ _ r12 nrp
    have nmp := nep hp16 nmx
    have sm := Same.new (o := .lst [.int m0, .int m1, .int m2, .int m3]) nmx
    have hp17 := hp16.same sm
    have g17 := sm _ _ g16
    have r17 := sm _ _ r16
    have m17 : (L2.upd H16 mx (.lst [.int m0, .int m1, .int m2, .int m3])) mx = some (.lst ([m0, m1, m2, m3].map V.int)) := upd_same
    generalize L2.upd H16 mx (.lst [.int m0, .int m1, .int m2, .int m3]) = H17 at hp17 g17 r17 m17
    -- lags
    refine ⟨_, rfl, p, c, ns, _, _, rfl, hp17, by decide, by decide, fun e0 H18 hp18 b18 => ?_⟩
    refine ⟨_, rfl, p, c, ns, _, _, rfl, hp18, by decide, by decide, fun e1 H19 hp19 b19 => ?_⟩
    refine ⟨(by show 2 ≤ sizeLine; decide), fun lg nlg => ?_⟩
    have b19' := b18.trans b19
    have g19 := b19' _ _ g17 ngp
    have r19 := b19' _ _ r17 nrp
    have m19 := b19' _ _ m17 nmp
    have nlp := nep hp19 nlg
    have sl := Same.new (o := .lst [.int e0, .int e1]) nlg
    have hp20 := hp19.same sl
    have g20 := sl _ _ g19
    have r20 := sl _ _ r19
    have m20 := sl _ _ m19
    have l20 : (L2.upd H19 lg (.lst [.int e0, .int e1])) lg = some (.lst [.int e0, .int e1]) := upd_same
    have ngl : gr ≠ lg := ne_of_none g19 nlg
    have nrl : r ≠ lg := ne_of_none r19 nlg
    have nml : mx ≠ lg := ne_of_none m19 nlg
    generalize L2.upd H19 lg (.lst [.int e0, .int e1]) = H20 at hp20 g20 r20 m20 l20
    refine ⟨_, rfl, .inl ⟨rfl, _, SqL.of l20⟩, _, rfl, lg, _, _, _, rfl, rfl, SqL.of l20, rfl, _, rfl, p, c, ns, _, _, rfl, hp20, by decide, by decide, fun e2 H21 hp21 b21 => ⟨_, _, rfl, rfl, lg, _, _, rfl, rfl, b21 _ _ l20 nlp, (by show 2 < sizeLine; decide), ?_⟩⟩
    have dr : Drawn9 (L2.upd H21 lg (.lst [.int e0, .int e1, .int (e1 + e2)])) gr r mx lg st off := ⟨(upd_ne ngl).trans (b21 _ _ g20 ngp), ⟨_, (upd_ne nrl).trans (b21 _ _ r20 nrp), rfl⟩, ⟨_, (upd_ne nml).trans (b21 _ _ m20 nmp), rfl⟩, ⟨[e0, e1, e1 + e2], upd_same, rfl⟩⟩
    have one : ∀ {H' : Hp} {x : Addr} {n : Nat} {ys : List Int}, ys.length = n → ∃ ys' : List Int, (L2.upd H' x (.lst (ys.map V.int))) x = some (.lst (ys'.map V.int)) ∧ ys'.length = n := fun {H' x n ys} h => ⟨ys, upd_same, h⟩
    have few : ∀ {H' : Hp} {x : Addr} {ys : List Int}, ys.length ≤ 10 → ∃ ys' : List Int, (L2.upd H' x (.lst (ys.map V.int))) x = some (.lst (ys'.map V.int)) ∧ ys'.length ≤ 10 := fun {H' x ys} h => ⟨ys, upd_same, h⟩
    have keep : ∀ {H1 H2 : Hp} {x : Addr} {n : Nat}, (∃ ys : List Int, H1 x = some (.lst (ys.map V.int)) ∧ ys.length = n) → Same H1 H2 → ∃ ys : List Int, H2 x = some (.lst (ys.map V.int)) ∧ ys.length = n := fun {H1 H2 x n} h s => by
      obtain ⟨ys, e, l⟩ := h
      exact ⟨ys, s _ _ e, l⟩
    have keep2 : ∀ {H1 H2 : Hp} {x : Addr}, (∃ ys : List Int, H1 x = some (.lst (ys.map V.int)) ∧ ys.length ≤ 10) → Same H1 H2 → ∃ ys : List Int, H2 x = some (.lst (ys.map V.int)) ∧ ys.length ≤ 10 := fun {H1 H2 x} h s => by
      obtain ⟨ys, e, l⟩ := h
      exact ⟨ys, s _ _ e, l⟩
    -- slots
    refine ⟨fun σ H' => ∃ (sl : Addr) (rows : List Addr), σ = [some (.ref a), some (.ref p), some (.str t), some (.str wr), some (.int st), some (.ref gr), some (.int y), some (.int late), some (.ref r), some (.int low), some (.int (low + q4)), some (.ref mx), some (.ref lg), some (.ref sl), none, none, none, none] ∧ Drawn9 H' gr r mx lg st off ∧ H' sl = some (.lst (rows.map V.ref)) ∧ RowsL H' 4 rows ∧ rows.length ≤ 100, ?_, ?_⟩
    · obtain ⟨ys, hy, hyl⟩ := dr.r
      refine ⟨_, rfl, _, rfl, (by show 4 ≤ sizeLine; decide), fun z1 w1 => ⟨(by show 4 ≤ sizeLine; decide), fun z2 w2 => ⟨_, rfl, (by show 4 ≤ sizeLine; decide), fun z3 w3 => ⟨(by show 4 ≤ sizeLine; decide), fun z4 w4 => ⟨(by show 4 ≤ sizeLine; decide), fun z5 w5 => ?_⟩⟩⟩⟩⟩
      have u1 := Same.new (o := .lst ([-1, 0, 8, 9].map V.int)) w1
      have u2 := Same.new (o := .lst ([0, 1, 12, 13].map V.int)) w2
      have u3 := Same.new (o := .lst ([-1, 0, 1, 2].map V.int)) w3
      have u4 := Same.new (o := .lst ([0, 1, 64, 65].map V.int)) w4
      have u5 := Same.new (o := .lst ([z1, z2, z3, z4].map V.ref)) w5
      have ua := (((u1.trans u2).trans u3).trans u4).trans u5
      refine ⟨r, z5, ys, [z1, z2, z3, z4], rfl, ua _ _ hy, upd_same, hyl.symm, by omega, ?_, fun sl rows H' s hsl hrows hlen hne => ⟨sl, rows, rfl, dr.same (ua.trans s), hsl, by rw [hyl] at hrows; exact hrows, hlen⟩⟩
      intro x hx
      simp only [List.mem_cons, List.not_mem_nil, or_false] at hx
      rcases hx with rfl | rfl | rfl | rfl
      · exact keep2 (few (ys := [-1, 0, 8, 9]) (by decide)) (((u2.trans u3).trans u4).trans u5)
      · exact keep2 (few (ys := [0, 1, 12, 13]) (by decide)) ((u3.trans u4).trans u5)
      · exact keep2 (few (ys := [-1, 0, 1, 2]) (by decide)) (u4.trans u5)
      · exact keep2 (few (ys := [0, 1, 64, 65]) (by decide)) u5
    rintro σ HB ⟨sl, rows, rfl, dr1, hsl, hrows, hlen⟩
    refine ⟨fun σ H' => ∃ (sl : Addr) (rows : List Addr), σ = [some (.ref a), some (.ref p), some (.str t), some (.str wr), some (.int st), some (.ref gr), some (.int y), some (.int late), some (.ref r), some (.int low), some (.int (low + q4)), some (.ref mx), some (.ref lg), some (.ref sl), none, none, none, none] ∧ Drawn9 H' gr r mx lg st off ∧ H' sl = some (.lst (rows.map V.ref)) ∧ RowsL H' 4 rows, ?_, ?_⟩
    · refine ⟨_, rfl, _, rfl, _, rfl, _, rfl, (by show 4 ≤ sizeLine; decide), fun z1 w1 => ⟨_, rfl, (by show 4 ≤ sizeLine; decide), fun z2 w2 => ⟨_, rfl, (by show 4 ≤ sizeLine; decide), fun z3 w3 => ⟨(by show 4 ≤ sizeLine; decide), fun z4 w4 => ⟨(by show 6 ≤ sizeLine; decide), fun z5 w5 => ?_⟩⟩⟩⟩⟩
      have u1 := Same.new (o := .lst ([9, 13, -2, 65].map V.int)) w1
      have u2 := Same.new (o := .lst ([0, 13, -2, 65].map V.int)) w2
      have u3 := Same.new (o := .lst ([8, 12, -2, 65].map V.int)) w3
      have u4 := Same.new (o := .lst ([0, 1, 1, 65].map V.int)) w4
      have u5 := Same.new (o := .lst ([r, mx, z1, z2, z3, z4].map V.ref)) w5
      have ua := (((u1.trans u2).trans u3).trans u4).trans u5
      refine ⟨sl, z5, _, _, rfl, rfl, ua _ _ hsl, upd_same, (by rw [List.length_map]; exact Nat.le_trans (by show rows.length + 6 ≤ 1000; omega) (by decide)), fun s2 n2 => ?_⟩
      have u6 := Same.new (o := .lst (rows.map V.ref ++ [.ref r, .ref mx, .ref z1, .ref z2, .ref z3, .ref z4])) n2
      refine ⟨s2, rows ++ [r, mx, z1, z2, z3, z4], rfl, dr1.same (ua.trans u6), (by rw [upd_same, List.map_append]; rfl), ?_⟩
      intro x hx
      rcases List.mem_append.mp hx with hx | hx
      · exact keep (hrows x hx) (ua.trans u6)
      simp only [List.mem_cons, List.not_mem_nil, or_false] at hx
      rcases hx with rfl | rfl | rfl | rfl | rfl | rfl
      · exact keep dr1.r (ua.trans u6)
      · exact keep dr1.m (ua.trans u6)
      · exact keep (one (ys := [9, 13, -2, 65]) rfl) ((((u2.trans u3).trans u4).trans u5).trans u6)
      · exact keep (one (ys := [0, 13, -2, 65]) rfl) (((u3.trans u4).trans u5).trans u6)
      · exact keep (one (ys := [8, 12, -2, 65]) rfl) ((u4.trans u5).trans u6)
      · exact keep (one (ys := [0, 1, 1, 65]) rfl) (u5.trans u6)
    clear hrows hsl
    rintro σ HC ⟨sl, rows, rfl, dr2, hsl, hrows⟩
    -- pieces
    refine ⟨fun σ H' => ∃ (pl : Addr) (prs : List Addr), σ = [some (.ref a), some (.ref p), some (.str t), some (.str wr), some (.int st), some (.ref gr), some (.int y), some (.int late), some (.ref r), some (.int low), some (.int (low + q4)), some (.ref mx), some (.ref lg), some (.ref sl), some (.ref pl), none, none, none] ∧ Drawn9 H' gr r mx lg st off ∧ H' sl = some (.lst (rows.map V.ref)) ∧ RowsL H' 4 rows ∧ H' pl = some (.lst (prs.map V.ref)) ∧ RowsL H' 3 prs ∧ prs.length ≤ 100, ?_, ?_⟩
    · refine ⟨_, rfl, _, rfl, _, rfl, (by show 3 ≤ sizeLine; decide), fun z0 w0 => ⟨_, rfl, (by show 4 ≤ sizeLine; decide), fun z1 w1 => ⟨(by show 0 ≤ sizeLine; decide), fun z2 w2 => ⟨_, rfl, _, _, rfl, rfl, _, rfl, _, rfl, _, _, rfl, rfl, _, rfl, _, _, rfl, rfl, (by show 4 ≤ sizeLine; decide), fun z3 w3 => ⟨(by show 3 ≤ sizeLine; decide), fun z4 w4 => ?_⟩⟩⟩⟩⟩
      have u0 := Same.new (o := .lst ([late, low, low + q4].map V.int)) w0
      have u1 := Same.new (o := .lst ([-1, 0, 8, 9].map V.int)) w1
      have u2 := Same.new (o := .lst (([] : List Int).map V.int)) w2
      have u3 := Same.new (o := .lst ([low - 1, low, low + 8, low + 9].map V.int)) w3
      have u4 := Same.new (o := .lst ([z1, z2, z3].map V.ref)) w4
      have ua := (((u0.trans u1).trans u2).trans u3).trans u4
      refine ⟨z0, z4, [late, low, low + q4], [z1, z2, z3], rfl, (((u1.trans u2).trans u3).trans u4) _ _ upd_same, upd_same, rfl, Nat.le_of_ble_eq_true rfl, ?_, fun pl prs H' s hpl hprs hplen hne => ⟨pl, prs, rfl, dr2.same (ua.trans s), (ua.trans s) _ _ hsl, hrows.same (ua.trans s), hpl, hprs, hplen⟩⟩
      intro x hx
      simp only [List.mem_cons, List.not_mem_nil, or_false] at hx
      rcases hx with rfl | rfl | rfl
      · exact keep2 (few (ys := [-1, 0, 8, 9]) (by decide)) ((u2.trans u3).trans u4)
      · exact keep2 (few (ys := []) (by decide)) (u3.trans u4)
      · exact keep2 (few (ys := [low - 1, low, low + 8, low + 9]) (Nat.le_of_ble_eq_true rfl)) u4
    rintro σ HD ⟨pl, prs, rfl, dr3, hsl3, hrows3, hpl3, hprs3, hplen3⟩
    refine ⟨fun σ H' => ∃ (pl : Addr) (prs : List Addr), σ = [some (.ref a), some (.ref p), some (.str t), some (.str wr), some (.int st), some (.ref gr), some (.int y), some (.int late), some (.ref r), some (.int low), some (.int (low + q4)), some (.ref mx), some (.ref lg), some (.ref sl), some (.ref pl), none, none, none] ∧ Drawn9 H' gr r mx lg st off ∧ H' sl = some (.lst (rows.map V.ref)) ∧ RowsL H' 4 rows ∧ H' pl = some (.lst (prs.map V.ref)) ∧ RowsL H' 3 prs ∧ prs.length ≤ 200, ?_, ?_⟩
    · refine ⟨_, rfl, _, rfl, (by show 3 ≤ sizeLine; decide), fun z1 w1 => ⟨_, rfl, (by show 3 ≤ sizeLine; decide), fun z2 w2 => ⟨_, rfl, (by show 3 ≤ sizeLine; decide), fun z3 w3 => ⟨_, rfl, (by show 3 ≤ sizeLine; decide), fun z4 w4 => ⟨_, rfl, (by show 3 ≤ sizeLine; decide), fun z5 w5 => ⟨_, rfl, _, rfl, _, rfl, (by show 3 ≤ sizeLine; decide), fun z6 w6 => ⟨_, rfl, (by show 7 ≤ sizeLine; decide), fun z7 w7 => ?_⟩⟩⟩⟩⟩⟩⟩
      have u1 := Same.new (o := .lst ([late, 0, 0].map V.int)) w1
      have u2 := Same.new (o := .lst ([late, 0, 9].map V.int)) w2
      have u3 := Same.new (o := .lst ([late, 1, 0].map V.int)) w3
      have u4 := Same.new (o := .lst ([late, 1, 9].map V.int)) w4
      have u5 := Same.new (o := .lst ([late, 1, 10].map V.int)) w5
      have u6 := Same.new (o := .lst ([late, -1, low].map V.int)) w6
      have u7 := Same.new (o := .lst ([z1, z2, z3, z4, z5, z6, lg].map V.ref)) w7
      have ua := (((((u1.trans u2).trans u3).trans u4).trans u5).trans u6).trans u7
      refine ⟨pl, z7, _, _, rfl, rfl, ua _ _ hpl3, upd_same, (by rw [List.length_map]; exact Nat.le_trans (by show prs.length + 7 ≤ 1000; omega) (by decide)), fun s2 n2 => ?_⟩
      have u8 := Same.new (o := .lst (prs.map V.ref ++ [.ref z1, .ref z2, .ref z3, .ref z4, .ref z5, .ref z6, .ref lg])) n2
      have ub := ua.trans u8
      refine ⟨s2, prs ++ [z1, z2, z3, z4, z5, z6, lg], rfl, dr3.same ub, ub _ _ hsl3, hrows3.same ub, (by rw [upd_same, List.map_append]; rfl), ?_, (by rw [List.length_append]; show prs.length + 7 ≤ 200; omega)⟩
      intro x hx
      rcases List.mem_append.mp hx with hx | hx
      · exact keep (hprs3 x hx) ub
      simp only [List.mem_cons, List.not_mem_nil, or_false] at hx
      rcases hx with rfl | rfl | rfl | rfl | rfl | rfl | rfl
      · exact keep (one (ys := [late, 0, 0]) rfl) ((((((u2.trans u3).trans u4).trans u5).trans u6).trans u7).trans u8)
      · exact keep (one (ys := [late, 0, 9]) rfl) (((((u3.trans u4).trans u5).trans u6).trans u7).trans u8)
      · exact keep (one (ys := [late, 1, 0]) rfl) ((((u4.trans u5).trans u6).trans u7).trans u8)
      · exact keep (one (ys := [late, 1, 9]) rfl) (((u5.trans u6).trans u7).trans u8)
      · exact keep (one (ys := [late, 1, 10]) rfl) ((u6.trans u7).trans u8)
      · exact keep (one (ys := [late, -1, low]) rfl) (u7.trans u8)
      · exact keep dr3.l ub
    clear hpl3 hprs3 hplen3
    rintro σ HE ⟨pl, prs, rfl, dr4, hsl4, hrows4, hpl4, hprs4, hplen4⟩
    refine ⟨fun σ H' => ∃ (pl : Addr) (prs : List Addr), σ = [some (.ref a), some (.ref p), some (.str t), some (.str wr), some (.int st), some (.ref gr), some (.int y), some (.int late), some (.ref r), some (.int low), some (.int (low + q4)), some (.ref mx), some (.ref lg), some (.ref sl), some (.ref pl), none, none, none] ∧ Drawn9 H' gr r mx lg st off ∧ H' sl = some (.lst (rows.map V.ref)) ∧ RowsL H' 4 rows ∧ H' pl = some (.lst (prs.map V.ref)) ∧ RowsL H' 3 prs, ?_, ?_⟩
    · refine ⟨_, rfl, _, rfl, _, rfl, _, rfl, (by show 3 ≤ sizeLine; decide), fun z1 w1 => ⟨_, rfl, (by show 3 ≤ sizeLine; decide), fun z2 w2 => ⟨_, rfl, (by show 3 ≤ sizeLine; decide), fun z3 w3 => ⟨(by show 3 ≤ sizeLine; decide), fun z4 w4 => ⟨(by show 4 ≤ sizeLine; decide), fun z5 w5 => ?_⟩⟩⟩⟩⟩
      have u1 := Same.new (o := .lst ([late, low, low + q4].map V.int)) w1
      have u2 := Same.new (o := .lst ([9, 0, -1].map V.int)) w2
      have u3 := Same.new (o := .lst ([0, 0, -1].map V.int)) w3
      have u4 := Same.new (o := .lst ([0, 1, 0].map V.int)) w4
      have u5 := Same.new (o := .lst ([z1, z2, z3, z4].map V.ref)) w5
      have ua := (((u1.trans u2).trans u3).trans u4).trans u5
      refine ⟨pl, z5, _, _, rfl, rfl, ua _ _ hpl4, upd_same, (by rw [List.length_map]; exact Nat.le_trans (by show prs.length + 4 ≤ 1000; omega) (by decide)), fun s2 n2 => ?_⟩
      have u8 := Same.new (o := .lst (prs.map V.ref ++ [.ref z1, .ref z2, .ref z3, .ref z4])) n2
      have ub := ua.trans u8
      refine ⟨s2, prs ++ [z1, z2, z3, z4], rfl, dr4.same ub, ub _ _ hsl4, hrows4.same ub, (by rw [upd_same, List.map_append]; rfl), ?_⟩
      intro x hx
      rcases List.mem_append.mp hx with hx | hx
      · exact keep (hprs4 x hx) ub
      simp only [List.mem_cons, List.not_mem_nil, or_false] at hx
      rcases hx with rfl | rfl | rfl | rfl
      · exact keep (one (ys := [late, low, low + q4]) rfl) ((((u2.trans u3).trans u4).trans u5).trans u8)
      · exact keep (one (ys := [9, 0, -1]) rfl) (((u3.trans u4).trans u5).trans u8)
      · exact keep (one (ys := [0, 0, -1]) rfl) ((u4.trans u5).trans u8)
      · exact keep (one (ys := [0, 1, 0]) rfl) (u5.trans u8)
    clear hpl4 hprs4 hplen4
    rintro σ HF ⟨pl, prs, rfl, dr5, hsl5, hrows5, hpl5, hprs5⟩
    -- the asking
    refine ⟨_, rfl, _, rfl, (by show 2 ≤ sizeLine; decide), fun tl ntl => ⟨tl, rfl, ⟨_, SqL.of upd_same⟩, for_list (K := K) (a := tl) (xs := [t, wr].map V.str) (fun i σ H' => ∃ x15 x16 x17 : Option V, σ = [some (.ref a), some (.ref p), some (.str t), some (.str wr), some (.int st), some (.ref gr), some (.int y), some (.int late), some (.ref r), some (.int low), some (.int (low + q4)), some (.ref mx), some (.ref lg), some (.ref sl), some (.ref pl), x15, x16, x17] ∧ Same (L2.upd HF tl (.lst ([t, wr].map V.str))) H') ⟨_, _, _, rfl, Same.refl _⟩ (fun i σ H' _ ⟨_, _, _, _, s⟩ => SqL.of (s _ _ upd_same)) ?_ ?_⟩⟩
    · rintro i x σ H1 hx ⟨x15, x16, x17, rfl, s1⟩
      obtain ⟨z, hz, rfl⟩ : ∃ z : Str, z.length ≤ 1000 ∧ x = .str z := by
        match i, hx with
        | 0, hx => exact ⟨t, t1, by simpa using hx.symm⟩
        | 1, hx => exact ⟨wr, hwl, by simpa using hx.symm⟩
        | n + 2, hx => simp at hx
      have s0 := (Same.new (o := .lst ([t, wr].map V.str)) ntl).trans s1
      refine ⟨_, rfl, sl, rfl, ⟨_, SqL.of (s0 _ _ hsl5)⟩, for_list (K := K) (a := sl) (xs := rows.map V.ref) (fun j σ H' => ∃ x16 x17 : Option V, σ = [some (.ref a), some (.ref p), some (.str t), some (.str wr), some (.int st), some (.ref gr), some (.int y), some (.int late), some (.ref r), some (.int low), some (.int (low + q4)), some (.ref mx), some (.ref lg), some (.ref sl), some (.ref pl), some (.str z), x16, x17] ∧ Same H1 H') ⟨_, _, rfl, Same.refl _⟩ (fun j σ H' _ ⟨_, _, _, s⟩ => SqL.of ((s0.trans s) _ _ hsl5)) ?_ ?_⟩
      · rintro j x σ H2 hx ⟨x16, x17, rfl, s2⟩
        obtain ⟨b, hb, rfl⟩ := ref_int (H := H) hx
        obtain ⟨ys, hy, hyl⟩ := hrows5 b hb
        obtain ⟨c1, c2, c3, c4, rfl⟩ := four_of hyl
        have s3 := s0.trans s2
        refine ⟨_, rfl, _, rfl, _, rfl, _, rfl, 3, z, gr, b, st, off, y, c1, c2, c3, [c4], rfl, by decide, by decide, hz, s3 _ _ dr5.g, hst, s3 _ _ hy, fun _ => ⟨c4, rfl⟩, fun H3 s4 => ⟨true, rfl, iteF ?_⟩⟩
        exact ⟨_, _, rfl, s2.trans s4⟩
      rintro σ H2 ⟨x16, x17, rfl, s2⟩
      have s3 := s0.trans s2
      refine ⟨_, rfl, pl, rfl, ⟨_, SqL.of (s3 _ _ hpl5)⟩, for_list (K := K) (a := pl) (xs := prs.map V.ref) (fun j σ H' => ∃ x16 x17 : Option V, σ = [some (.ref a), some (.ref p), some (.str t), some (.str wr), some (.int st), some (.ref gr), some (.int y), some (.int late), some (.ref r), some (.int low), some (.int (low + q4)), some (.ref mx), some (.ref lg), some (.ref sl), some (.ref pl), some (.str z), x16, x17] ∧ Same H2 H') ⟨_, _, rfl, Same.refl _⟩ (fun j σ H' _ ⟨_, _, _, s⟩ => SqL.of ((s3.trans s) _ _ hpl5)) ?_ ?_⟩
      · rintro j x σ H3 hx ⟨x16, x17, rfl, s4⟩
        obtain ⟨b, hb, rfl⟩ := ref_int (H := H) hx
        obtain ⟨ys, hy, hyl⟩ := hprs5 b hb
        obtain ⟨c1, c2, c3, rfl⟩ := three_of hyl
        have s5 := s3.trans s4
        refine ⟨3, rfl, by decide, by decide, for_range (n := 3) (fun q σ H' => ∃ x17 : Option V, σ = [some (.ref a), some (.ref p), some (.str t), some (.str wr), some (.int st), some (.ref gr), some (.int y), some (.int late), some (.ref r), some (.int low), some (.int (low + q4)), some (.ref mx), some (.ref lg), some (.ref sl), some (.ref pl), some (.str z), some (.ref b), x17] ∧ Same H3 H') ⟨_, rfl, Same.refl _⟩ ?_ ?_⟩
        · rintro q σ H4 hq ⟨x17, rfl, s6⟩
          rw [Int.zero_add]
          have s7 := s5.trans s6
          refine ⟨_, rfl, _, rfl, _, rfl, _, rfl, _, rfl, (q : Int), z, gr, b, st, off, y, c1, c2, c3, [], rfl, by omega, by omega, hz, s7 _ _ dr5.g, hst, s7 _ _ hy, fun h => by omega, fun H5 s8 => ⟨true, rfl, iteF ?_⟩⟩
          exact ⟨_, rfl, s6.trans s8⟩
        · rintro σ H4 ⟨x17, rfl, s6⟩
          exact ⟨_, _, rfl, s4.trans s6⟩
      · rintro σ H3 ⟨x16, x17, rfl, s4⟩
        exact ⟨_, _, _, rfl, s1.trans (s2.trans s4)⟩
    · rintro σ H1 ⟨x15, x16, x17, rfl, s1⟩
      exact k _

end
theorem all_mk {l : PySem.W.OpenLaw} {w : World} {K : PySem.W.Frag} {h : Heap} {mg : Str → Option Value} {fa : Addr} (X : K.In h) (G : h.Ns mainGlobals mg) (hfa : mg "law" = some (.ref fa))
    {C_BadName : Addr} {C_BarbreaksError : Addr} {C_BadNumber : Addr} {C_Grid : Addr} {C_Named : Addr} {C_Timed : Addr} {C_Item : Addr} {C_Piece : Addr} {C_Break : Addr} {C_BadSpan : Addr} {C_BadText : Addr} {C_Refused : Addr} {C_TooMany : Addr} {C_Twice : Addr} {f1 : Addr} {od1 an1 : Option Addr} {sl1 : Array (Option Value)} {oc1 kV1 dc1 pm1 cd1 ct1 : Value} {u4 : Value} {u5 : Value} {u6 : Value} {f7 : Addr} {od7 an7 : Option Addr} {sl7 : Array (Option Value)} {oc7 kV7 dc7 pm7 cd7 ct7 : Value} {nm7 qn7 : Str} {N7 : Addr} {bs7 sub7 : List Value} {sn7 : List Str} {ab7 : Bool} {col7 : Option Bool} {dd7 : Option Addr} {m07 m17 m27 m37 m57 : Option Value} {f10 : Addr} {od10 an10 : Option Addr} {sl10 : Array (Option Value)} {oc10 kV10 dc10 pm10 cd10 ct10 : Value} {nm10 qn10 : Str} {N10 : Addr} {bs10 sub10 : List Value} {sn10 : List Str} {ab10 : Bool} {col10 : Option Bool} {dd10 : Option Addr} {m010 m110 m210 m310 m510 : Option Value} {f13 : Addr} {od13 an13 : Option Addr} {sl13 : Array (Option Value)} {oc13 kV13 dc13 pm13 cd13 ct13 : Value} {f15 : Addr} {od15 an15 : Option Addr} {sl15 : Array (Option Value)} {oc15 kV15 dc15 pm15 cd15 ct15 : Value} {f17 : Addr} {od17 an17 : Option Addr} {sl17 : Array (Option Value)} {oc17 kV17 dc17 pm17 cd17 ct17 : Value} {f19 : Addr} {od19 an19 : Option Addr} {sl19 : Array (Option Value)} {oc19 kV19 dc19 pm19 cd19 ct19 : Value} {f22 : Addr} {od22 an22 : Option Addr} {sl22 : Array (Option Value)} {oc22 kV22 dc22 pm22 cd22 ct22 : Value} {f23 : Addr} {od23 an23 : Option Addr} {sl23 : Array (Option Value)} {oc23 kV23 dc23 pm23 cd23 ct23 : Value} {f24 : Addr} {od24 an24 : Option Addr} {sl24 : Array (Option Value)} {oc24 kV24 dc24 pm24 cd24 ct24 : Value} {f25 : Addr} {od25 an25 : Option Addr} {sl25 : Array (Option Value)} {oc25 kV25 dc25 pm25 cd25 ct25 : Value} {f26 : Addr} {od26 an26 : Option Addr} {sl26 : Array (Option Value)} {oc26 kV26 dc26 pm26 cd26 ct26 : Value} {f27 : Addr} {od27 an27 : Option Addr} {sl27 : Array (Option Value)} {oc27 kV27 dc27 pm27 cd27 ct27 : Value} {f28 : Addr} {od28 an28 : Option Addr} {sl28 : Array (Option Value)} {oc28 kV28 dc28 pm28 cd28 ct28 : Value} {f32 : Addr} {od32 an32 : Option Addr} {sl32 : Array (Option Value)} {oc32 kV32 dc32 pm32 cd32 ct32 : Value} {f33 : Addr} {od33 an33 : Option Addr} {sl33 : Array (Option Value)} {oc33 kV33 dc33 pm33 cd33 ct33 : Value} {T33 : Addr} {oT33 : Value} {dT33 : Option Addr} {iT33 : Array Value} {nT33 : Nat} {sT33 : Array (Option Value)} {f35 : Addr} {od35 an35 : Option Addr} {sl35 : Array (Option Value)} {oc35 kV35 dc35 pm35 cd35 ct35 : Value} {f36 : Addr} {od36 an36 : Option Addr} {sl36 : Array (Option Value)} {oc36 kV36 dc36 pm36 cd36 ct36 : Value} {u38 : Value} {f39 : Addr} {od39 an39 : Option Addr} {sl39 : Array (Option Value)} {oc39 kV39 dc39 pm39 cd39 ct39 : Value} {T39 : Addr} {oT39 : Value} {dT39 : Option Addr} {iT39 : Array Value} {nT39 : Nat} {sT39 : Array (Option Value)} {f40 : Addr} {od40 an40 : Option Addr} {sl40 : Array (Option Value)} {oc40 kV40 dc40 pm40 cd40 ct40 : Value} {T40 : Addr} {oT40 : Value} {dT40 : Option Addr} {iT40 : Array Value} {nT40 : Nat} {sT40 : Array (Option Value)} {f42 : Addr} {od42 an42 : Option Addr} {sl42 : Array (Option Value)} {oc42 kV42 dc42 pm42 cd42 ct42 : Value} {u44 : Value} {u46 : Value} {u47 : Value} {f50 : Addr} {od50 an50 : Option Addr} {sl50 : Array (Option Value)} {oc50 kV50 dc50 pm50 cd50 ct50 : Value} {pp50 : Addr} {pr50 : List Value} {f54 : Addr} {od54 an54 : Option Addr} {sl54 : Array (Option Value)} {oc54 kV54 dc54 pm54 cd54 ct54 : Value} {pp54 : Addr} {pr54 : List Value} {f55 : Addr} {od55 an55 : Option Addr} {sl55 : Array (Option Value)} {oc55 kV55 dc55 pm55 cd55 ct55 : Value} {f56 : Addr} {od56 an56 : Option Addr} {sl56 : Array (Option Value)} {oc56 kV56 dc56 pm56 cd56 ct56 : Value} {f57 : Addr} {od57 an57 : Option Addr} {sl57 : Array (Option Value)} {oc57 kV57 dc57 pm57 cd57 ct57 : Value} {f58 : Addr} {od58 an58 : Option Addr} {sl58 : Array (Option Value)} {oc58 kV58 dc58 pm58 cd58 ct58 : Value} {f82 : Addr} {od82 an82 : Option Addr} {sl82 : Array (Option Value)} {oc82 kV82 dc82 pm82 cd82 ct82 : Value} {f83 : Addr} {od83 an83 : Option Addr} {sl83 : Array (Option Value)} {oc83 kV83 dc83 pm83 cd83 ct83 : Value} {f84 : Addr} {od84 an84 : Option Addr} {sl84 : Array (Option Value)} {oc84 kV84 dc84 pm84 cd84 ct84 : Value} {f85 : Addr} {od85 an85 : Option Addr} {sl85 : Array (Option Value)} {oc85 kV85 dc85 pm85 cd85 ct85 : Value} {f114 : Addr} {od114 an114 : Option Addr} {sl114 : Array (Option Value)} {oc114 kV114 dc114 pm114 cd114 ct114 : Value} {f118 : Addr} {od118 an118 : Option Addr} {sl118 : Array (Option Value)} {oc118 kV118 dc118 pm118 cd118 ct118 : Value}
    (a1 : PySem.W.nsIn K mainGlobals "is_name" = some (some (.ref f1)))
    (l1 : K.lookup f1 = some ⟨oc1, od1, .func (PySem.W.fnOf "is_name" "is_name" (defArgs s_is_name) (defBody s_is_name) (defScope s_is_name) .none kV1 dc1 pm1 an1 cd1 ct1), sl1⟩)
    (c1 : PySem.W.codeIn K cd1 "is_name" = true)
    (k1 : PySem.W.keepIn K (.ref f1) = true)
    (z2 : PySem.W.nsIn K mainGlobals "len" = some none)
    (z3 : PySem.W.nsIn K mainGlobals "all" = some none)
    (g4 : PySem.W.nsIn K mainGlobals "MOST_SIGNS" = some (some u4))
    (r4 : RelV (.int 12) u4)
    (g5 : PySem.W.nsIn K mainGlobals "LETTERS" = some (some u5))
    (r5 : RelV (.str "abcdefghijklmnopqrstuvwxyz") u5)
    (g6 : PySem.W.nsIn K mainGlobals "DIGITS" = some (some u6))
    (r6 : RelV (.str "0123456789") u6)
    (g7 : PySem.W.nsIn K mainGlobals "BadName" = some (some (.ref C_BadName)))
    (x7 : K.lookup C_BadName = some (excClassObj nm7 qn7 C_BadName N7 bs7 [.ref C_BarbreaksError, .type "ValueError", .type "Exception", .type "BaseException", .type "object"] true sn7 sub7 ab7 col7 dd7 m07 m17 m27 m37 m57 "ValueError.__new__"))
    (sa7 : PySem.W.findIn K (.ref C_BadName) "__setattr__" = some (some (.builtin "object.__setattr__")))
    (eC7 : PySem.W.subIn K (.ref C_BadName) (.type "BaseException") = some true)
    (tC7 : PySem.W.typeIn K (.ref C_BadName) = some (.type "type"))
    (kC7 : PySem.W.keepIn K (.ref C_BadName) = true)
    (a7 : PySem.W.findIn K (.ref C_BadName) "__init__" = some (some (.ref f7)))
    (t7 : PySem.W.typeIn K (.ref f7) = some (.type "function"))
    (l7 : K.lookup f7 = some ⟨oc7, od7, .func (PySem.W.fnOf "__init__" "BadName.__init__" (defArgs s_BadName_init) (defBody s_BadName_init) (defScope s_BadName_init) .none kV7 dc7 pm7 an7 cd7 ct7), sl7⟩)
    (c7 : PySem.W.codeIn K cd7 "BadName.__init__" = true)
    (k7 : PySem.W.keepIn K (.ref f7) = true)
    (g8 : PySem.W.nsIn K mainGlobals "BadName" = some (some (.ref C_BadName)))
    (xn9 : PySem.W.findIn K (.ref C_BadName) "name" = some none)
    (g10 : PySem.W.nsIn K mainGlobals "BadNumber" = some (some (.ref C_BadNumber)))
    (x10 : K.lookup C_BadNumber = some (excClassObj nm10 qn10 C_BadNumber N10 bs10 [.ref C_BarbreaksError, .type "ValueError", .type "Exception", .type "BaseException", .type "object"] true sn10 sub10 ab10 col10 dd10 m010 m110 m210 m310 m510 "ValueError.__new__"))
    (sa10 : PySem.W.findIn K (.ref C_BadNumber) "__setattr__" = some (some (.builtin "object.__setattr__")))
    (eC10 : PySem.W.subIn K (.ref C_BadNumber) (.type "BaseException") = some true)
    (tC10 : PySem.W.typeIn K (.ref C_BadNumber) = some (.type "type"))
    (kC10 : PySem.W.keepIn K (.ref C_BadNumber) = true)
    (a10 : PySem.W.findIn K (.ref C_BadNumber) "__init__" = some (some (.ref f10)))
    (t10 : PySem.W.typeIn K (.ref f10) = some (.type "function"))
    (l10 : K.lookup f10 = some ⟨oc10, od10, .func (PySem.W.fnOf "__init__" "BadNumber.__init__" (defArgs s_BadNumber_init) (defBody s_BadNumber_init) (defScope s_BadNumber_init) .none kV10 dc10 pm10 an10 cd10 ct10), sl10⟩)
    (c10 : PySem.W.codeIn K cd10 "BadNumber.__init__" = true)
    (k10 : PySem.W.keepIn K (.ref f10) = true)
    (g11 : PySem.W.nsIn K mainGlobals "BadNumber" = some (some (.ref C_BadNumber)))
    (xn12 : PySem.W.findIn K (.ref C_BadNumber) "number" = some none)
    (a13 : PySem.W.nsIn K mainGlobals "_law_take" = some (some (.ref f13)))
    (l13 : K.lookup f13 = some ⟨oc13, od13, .func (PySem.W.fnOf "_law_take" "_law_take" (defArgs s_l_take) (defBody s_l_take) (defScope s_l_take) .none kV13 dc13 pm13 an13 cd13 ct13), sl13⟩)
    (c13 : PySem.W.codeIn K cd13 "_law_take" = true)
    (k13 : PySem.W.keepIn K (.ref f13) = true)
    (z14 : PySem.W.nsIn K mainGlobals "int" = some none)
    (a15 : PySem.W.nsIn K mainGlobals "_law_big" = some (some (.ref f15)))
    (l15 : K.lookup f15 = some ⟨oc15, od15, .func (PySem.W.fnOf "_law_big" "_law_big" (defArgs s_l_big) (defBody s_l_big) (defScope s_l_big) .none kV15 dc15 pm15 an15 cd15 ct15), sl15⟩)
    (c15 : PySem.W.codeIn K cd15 "_law_big" = true)
    (k15 : PySem.W.keepIn K (.ref f15) = true)
    (z16 : PySem.W.nsIn K mainGlobals "range" = some none)
    (a17 : PySem.W.nsIn K mainGlobals "_law_pool" = some (some (.ref f17)))
    (l17 : K.lookup f17 = some ⟨oc17, od17, .func (PySem.W.fnOf "_law_pool" "_law_pool" (defArgs s_l_pool) (defBody s_l_pool) (defScope s_l_pool) .none kV17 dc17 pm17 an17 cd17 ct17), sl17⟩)
    (c17 : PySem.W.codeIn K cd17 "_law_pool" = true)
    (k17 : PySem.W.keepIn K (.ref f17) = true)
    (z18 : PySem.W.nsIn K mainGlobals "list" = some none)
    (a19 : PySem.W.nsIn K mainGlobals "_law_is_int" = some (some (.ref f19)))
    (l19 : K.lookup f19 = some ⟨oc19, od19, .func (PySem.W.fnOf "_law_is_int" "_law_is_int" (defArgs s_l_is_int) (defBody s_l_is_int) (defScope s_l_is_int) .none kV19 dc19 pm19 an19 cd19 ct19), sl19⟩)
    (c19 : PySem.W.codeIn K cd19 "_law_is_int" = true)
    (k19 : PySem.W.keepIn K (.ref f19) = true)
    (z20 : PySem.W.nsIn K mainGlobals "isinstance" = some none)
    (z21 : PySem.W.nsIn K mainGlobals "bool" = some none)
    (a22 : PySem.W.nsIn K mainGlobals "_law_free" = some (some (.ref f22)))
    (l22 : K.lookup f22 = some ⟨oc22, od22, .func (PySem.W.fnOf "_law_free" "_law_free" (defArgs s_l_free) (defBody s_l_free) (defScope s_l_free) .none kV22 dc22 pm22 an22 cd22 ct22), sl22⟩)
    (c22 : PySem.W.codeIn K cd22 "_law_free" = true)
    (k22 : PySem.W.keepIn K (.ref f22) = true)
    (a23 : PySem.W.nsIn K mainGlobals "_law_step" = some (some (.ref f23)))
    (l23 : K.lookup f23 = some ⟨oc23, od23, .func (PySem.W.fnOf "_law_step" "_law_step" (defArgs s_l_step) (defBody s_l_step) (defScope s_l_step) .none kV23 dc23 pm23 an23 cd23 ct23), sl23⟩)
    (c23 : PySem.W.codeIn K cd23 "_law_step" = true)
    (k23 : PySem.W.keepIn K (.ref f23) = true)
    (a24 : PySem.W.nsIn K mainGlobals "_law_shift" = some (some (.ref f24)))
    (l24 : K.lookup f24 = some ⟨oc24, od24, .func (PySem.W.fnOf "_law_shift" "_law_shift" (defArgs s_l_shift) (defBody s_l_shift) (defScope s_l_shift) .none kV24 dc24 pm24 an24 cd24 ct24), sl24⟩)
    (c24 : PySem.W.codeIn K cd24 "_law_shift" = true)
    (k24 : PySem.W.keepIn K (.ref f24) = true)
    (a25 : PySem.W.nsIn K mainGlobals "_law_size" = some (some (.ref f25)))
    (l25 : K.lookup f25 = some ⟨oc25, od25, .func (PySem.W.fnOf "_law_size" "_law_size" (defArgs s_l_size) (defBody s_l_size) (defScope s_l_size) .none kV25 dc25 pm25 an25 cd25 ct25), sl25⟩)
    (c25 : PySem.W.codeIn K cd25 "_law_size" = true)
    (k25 : PySem.W.keepIn K (.ref f25) = true)
    (a26 : PySem.W.nsIn K mainGlobals "_law_edge" = some (some (.ref f26)))
    (l26 : K.lookup f26 = some ⟨oc26, od26, .func (PySem.W.fnOf "_law_edge" "_law_edge" (defArgs s_l_edge) (defBody s_l_edge) (defScope s_l_edge) .none kV26 dc26 pm26 an26 cd26 ct26), sl26⟩)
    (c26 : PySem.W.codeIn K cd26 "_law_edge" = true)
    (k26 : PySem.W.keepIn K (.ref f26) = true)
    (a27 : PySem.W.nsIn K mainGlobals "_law_turned" = some (some (.ref f27)))
    (l27 : K.lookup f27 = some ⟨oc27, od27, .func (PySem.W.fnOf "_law_turned" "_law_turned" (defArgs s_l_turned) (defBody s_l_turned) (defScope s_l_turned) .none kV27 dc27 pm27 an27 cd27 ct27), sl27⟩)
    (c27 : PySem.W.codeIn K cd27 "_law_turned" = true)
    (k27 : PySem.W.keepIn K (.ref f27) = true)
    (a28 : PySem.W.nsIn K mainGlobals "_law_names" = some (some (.ref f28)))
    (l28 : K.lookup f28 = some ⟨oc28, od28, .func (PySem.W.fnOf "_law_names" "_law_names" (defArgs s_l_names) (defBody s_l_names) (defScope s_l_names) .none kV28 dc28 pm28 an28 cd28 ct28), sl28⟩)
    (c28 : PySem.W.codeIn K cd28 "_law_names" = true)
    (k28 : PySem.W.keepIn K (.ref f28) = true)
    (g29 : PySem.W.nsIn K mainGlobals "Grid" = some (some (.ref C_Grid)))
    (pg29 : PySem.W.plainGet K C_Grid Str.empty = true)
    (hd29 : PySem.W.hasDictIn K C_Grid = true)
    (po29 : PySem.W.plainOver K C_Grid = true)
    (sa29 : PySem.W.findIn K (.ref C_Grid) "__setattr__" = some (some (.builtin "object.__setattr__")))
    (n30 : PySem.W.findIn K (.ref C_Grid) "step" = some none)
    (n31 : PySem.W.findIn K (.ref C_Grid) "offset" = some none)
    (a32 : PySem.W.findIn K (.ref C_Grid) "first_bar" = some (some (.ref f32)))
    (i32 : PySem.W.isFn K (.ref f32) = true)
    (l32 : K.lookup f32 = some ⟨oc32, od32, .func (PySem.W.fnOf "first_bar" "Grid.first_bar" (defArgs s_Grid_first_bar) (defBody s_Grid_first_bar) (defScope s_Grid_first_bar) .none kV32 dc32 pm32 an32 cd32 ct32), sl32⟩)
    (c32 : PySem.W.codeIn K cd32 "Grid.first_bar" = true)
    (k32 : PySem.W.keepIn K (.ref f32) = true)
    (mk33 : PySem.W.makesIn K C_Grid = true)
    (a33 : PySem.W.findIn K (.ref C_Grid) "__init__" = some (some (.ref f33)))
    (i33 : PySem.W.isFn K (.ref f33) = true)
    (kc33 : PySem.W.keepIn K (.ref C_Grid) = true)
    (l33 : K.lookup f33 = some ⟨oc33, od33, .func (PySem.W.fnOf "__init__" "Grid.__init__" (defArgs s_Grid_init) (defBody s_Grid_init) (defScope s_Grid_init) (.ref T33) kV33 dc33 pm33 an33 cd33 ct33), sl33⟩)
    (c33 : PySem.W.codeIn K cd33 "Grid.__init__" = true)
    (k33 : PySem.W.keepIn K (.ref f33) = true)
    (lT33 : K.lookup T33 = some ⟨oT33, dT33, .seq iT33 nT33, sT33⟩)
    (vT33 : Vals [.int 0] iT33.toList)
    (g34 : PySem.W.nsIn K mainGlobals "Named" = some (some (.ref C_Named)))
    (pg34 : PySem.W.plainGet K C_Named Str.empty = true)
    (hd34 : PySem.W.hasDictIn K C_Named = true)
    (po34 : PySem.W.plainOver K C_Named = true)
    (sa34 : PySem.W.findIn K (.ref C_Named) "__setattr__" = some (some (.builtin "object.__setattr__")))
    (rd35 : PySem.W.readsIn K C_Named (.type "type") = true)
    (ga35 : PySem.W.specialIn K (.ref C_Named) "__getattribute__" = some (some (.builtin "type.__getattribute__")))
    (a35 : PySem.W.findCls K (.ref C_Named) (.type "type") "__init__" = some (.val (.ref f35)))
    (l35 : K.lookup f35 = some ⟨oc35, od35, .func (PySem.W.fnOf "__init__" "Named.__init__" (defArgs s_Named_init) (defBody s_Named_init) (defScope s_Named_init) .none kV35 dc35 pm35 an35 cd35 ct35), sl35⟩)
    (c35 : PySem.W.codeIn K cd35 "Named.__init__" = true)
    (k35 : PySem.W.keepIn K (.ref f35) = true)
    (mk36 : PySem.W.makesIn K C_Named = true)
    (a36 : PySem.W.findIn K (.ref C_Named) "__init__" = some (some (.ref f36)))
    (i36 : PySem.W.isFn K (.ref f36) = true)
    (kc36 : PySem.W.keepIn K (.ref C_Named) = true)
    (l36 : K.lookup f36 = some ⟨oc36, od36, .func (PySem.W.fnOf "__init__" "Named.__init__" (defArgs s_Named_init) (defBody s_Named_init) (defScope s_Named_init) .none kV36 dc36 pm36 an36 cd36 ct36), sl36⟩)
    (c36 : PySem.W.codeIn K cd36 "Named.__init__" = true)
    (k36 : PySem.W.keepIn K (.ref f36) = true)
    (g37 : PySem.W.nsIn K mainGlobals "Timed" = some (some (.ref C_Timed)))
    (pg37 : PySem.W.plainGet K C_Timed Str.empty = true)
    (hd37 : PySem.W.hasDictIn K C_Timed = true)
    (po37 : PySem.W.plainOver K C_Timed = true)
    (sa37 : PySem.W.findIn K (.ref C_Timed) "__setattr__" = some (some (.builtin "object.__setattr__")))
    (rd38 : PySem.W.readsIn K C_Timed (.type "type") = true)
    (ga38 : PySem.W.specialIn K (.ref C_Timed) "__getattribute__" = some (some (.builtin "type.__getattribute__")))
    (a38 : PySem.W.findCls K (.ref C_Timed) (.type "type") "MOST_DELAY" = some (.val u38))
    (r38 : RelV (.int 8) u38)
    (rd39 : PySem.W.readsIn K C_Timed (.type "type") = true)
    (ga39 : PySem.W.specialIn K (.ref C_Timed) "__getattribute__" = some (some (.builtin "type.__getattribute__")))
    (a39 : PySem.W.findCls K (.ref C_Timed) (.type "type") "__init__" = some (.val (.ref f39)))
    (l39 : K.lookup f39 = some ⟨oc39, od39, .func (PySem.W.fnOf "__init__" "Timed.__init__" (defArgs s_Timed_init) (defBody s_Timed_init) (defScope s_Timed_init) (.ref T39) kV39 dc39 pm39 an39 cd39 ct39), sl39⟩)
    (c39 : PySem.W.codeIn K cd39 "Timed.__init__" = true)
    (k39 : PySem.W.keepIn K (.ref f39) = true)
    (lT39 : K.lookup T39 = some ⟨oT39, dT39, .seq iT39 nT39, sT39⟩)
    (vT39 : Vals [.non, .int 0] iT39.toList)
    (mk40 : PySem.W.makesIn K C_Timed = true)
    (a40 : PySem.W.findIn K (.ref C_Timed) "__init__" = some (some (.ref f40)))
    (i40 : PySem.W.isFn K (.ref f40) = true)
    (kc40 : PySem.W.keepIn K (.ref C_Timed) = true)
    (l40 : K.lookup f40 = some ⟨oc40, od40, .func (PySem.W.fnOf "__init__" "Timed.__init__" (defArgs s_Timed_init) (defBody s_Timed_init) (defScope s_Timed_init) (.ref T40) kV40 dc40 pm40 an40 cd40 ct40), sl40⟩)
    (c40 : PySem.W.codeIn K cd40 "Timed.__init__" = true)
    (k40 : PySem.W.keepIn K (.ref f40) = true)
    (lT40 : K.lookup T40 = some ⟨oT40, dT40, .seq iT40 nT40, sT40⟩)
    (vT40 : Vals [.non, .int 0] iT40.toList)
    (g41 : PySem.W.nsIn K mainGlobals "Item" = some (some (.ref C_Item)))
    (pg41 : PySem.W.plainGet K C_Item Str.empty = true)
    (hd41 : PySem.W.hasDictIn K C_Item = true)
    (po41 : PySem.W.plainOver K C_Item = true)
    (sa41 : PySem.W.findIn K (.ref C_Item) "__setattr__" = some (some (.builtin "object.__setattr__")))
    (rd42 : PySem.W.readsIn K C_Item (.type "type") = true)
    (ga42 : PySem.W.specialIn K (.ref C_Item) "__getattribute__" = some (some (.builtin "type.__getattribute__")))
    (a42 : PySem.W.findCls K (.ref C_Item) (.type "type") "__init__" = some (.val (.ref f42)))
    (l42 : K.lookup f42 = some ⟨oc42, od42, .func (PySem.W.fnOf "__init__" "Item.__init__" (defArgs s_Item_init) (defBody s_Item_init) (defScope s_Item_init) .none kV42 dc42 pm42 an42 cd42 ct42), sl42⟩)
    (c42 : PySem.W.codeIn K cd42 "Item.__init__" = true)
    (k42 : PySem.W.keepIn K (.ref f42) = true)
    (g43 : PySem.W.nsIn K mainGlobals "Piece" = some (some (.ref C_Piece)))
    (pg43 : PySem.W.plainGet K C_Piece Str.empty = true)
    (hd43 : PySem.W.hasDictIn K C_Piece = true)
    (po43 : PySem.W.plainOver K C_Piece = true)
    (sa43 : PySem.W.findIn K (.ref C_Piece) "__setattr__" = some (some (.builtin "object.__setattr__")))
    (rd44 : PySem.W.readsIn K C_Piece (.type "type") = true)
    (ga44 : PySem.W.specialIn K (.ref C_Piece) "__getattribute__" = some (some (.builtin "type.__getattribute__")))
    (a44 : PySem.W.findCls K (.ref C_Piece) (.type "type") "MOST_SPREAD" = some (.val u44))
    (r44 : RelV (.int 8) u44)
    (g45 : PySem.W.nsIn K mainGlobals "Break" = some (some (.ref C_Break)))
    (pg45 : PySem.W.plainGet K C_Break Str.empty = true)
    (hd45 : PySem.W.hasDictIn K C_Break = true)
    (po45 : PySem.W.plainOver K C_Break = true)
    (sa45 : PySem.W.findIn K (.ref C_Break) "__setattr__" = some (some (.builtin "object.__setattr__")))
    (rd46 : PySem.W.readsIn K C_Break (.type "type") = true)
    (ga46 : PySem.W.specialIn K (.ref C_Break) "__getattribute__" = some (some (.builtin "type.__getattribute__")))
    (a46 : PySem.W.findCls K (.ref C_Break) (.type "type") "MOST_PLACES" = some (.val u46))
    (r46 : RelV (.int 12) u46)
    (rd47 : PySem.W.readsIn K C_Break (.type "type") = true)
    (ga47 : PySem.W.specialIn K (.ref C_Break) "__getattribute__" = some (some (.builtin "type.__getattribute__")))
    (a47 : PySem.W.findCls K (.ref C_Break) (.type "type") "MOST_PATIENCE" = some (.val u47))
    (r47 : RelV (.int 64) u47)
    (n48 : PySem.W.findIn K (.ref C_Break) "places" = some none)
    (n49 : PySem.W.findIn K (.ref C_Break) "unit" = some none)
    (pa50 : PySem.W.findIn K (.ref C_Break) "length" = some (some (.ref pp50)))
    (pb50 : PySem.W.specialIn K (.ref pp50) "__get__" = some (some (.builtin "property.__get__")))
    (pc50 : PySem.W.takesIn K (.ref pp50) = some true)
    (pd50 : PySem.W.recIn K pp50 "property" = some (.ref f50 :: pr50))
    (l50 : K.lookup f50 = some ⟨oc50, od50, .func (PySem.W.fnOf "length" "Break.length" (defArgs s_Break_length) (defBody s_Break_length) (defScope s_Break_length) .none kV50 dc50 pm50 an50 cd50 ct50), sl50⟩)
    (c50 : PySem.W.codeIn K cd50 "Break.length" = true)
    (k50 : PySem.W.keepIn K (.ref f50) = true)
    (n51 : PySem.W.findIn K (.ref C_Break) "grid" = some none)
    (n52 : PySem.W.findIn K (.ref C_Break) "minute" = some none)
    (n53 : PySem.W.findIn K (.ref C_Break) "patience" = some none)
    (pa54 : PySem.W.findIn K (.ref C_Break) "limit" = some (some (.ref pp54)))
    (pb54 : PySem.W.specialIn K (.ref pp54) "__get__" = some (some (.builtin "property.__get__")))
    (pc54 : PySem.W.takesIn K (.ref pp54) = some true)
    (pd54 : PySem.W.recIn K pp54 "property" = some (.ref f54 :: pr54))
    (l54 : K.lookup f54 = some ⟨oc54, od54, .func (PySem.W.fnOf "limit" "Break.limit" (defArgs s_Break_limit) (defBody s_Break_limit) (defScope s_Break_limit) .none kV54 dc54 pm54 an54 cd54 ct54), sl54⟩)
    (c54 : PySem.W.codeIn K cd54 "Break.limit" = true)
    (k54 : PySem.W.keepIn K (.ref f54) = true)
    (a55 : PySem.W.nsIn K mainGlobals "_law_name" = some (some (.ref f55)))
    (l55 : K.lookup f55 = some ⟨oc55, od55, .func (PySem.W.fnOf "_law_name" "_law_name" (defArgs s_l_name) (defBody s_l_name) (defScope s_l_name) .none kV55 dc55 pm55 an55 cd55 ct55), sl55⟩)
    (c55 : PySem.W.codeIn K cd55 "_law_name" = true)
    (k55 : PySem.W.keepIn K (.ref f55) = true)
    (a56 : PySem.W.nsIn K mainGlobals "_law_due" = some (some (.ref f56)))
    (l56 : K.lookup f56 = some ⟨oc56, od56, .func (PySem.W.fnOf "_law_due" "_law_due" (defArgs s_l_due) (defBody s_l_due) (defScope s_l_due) .none kV56 dc56 pm56 an56 cd56 ct56), sl56⟩)
    (c56 : PySem.W.codeIn K cd56 "_law_due" = true)
    (k56 : PySem.W.keepIn K (.ref f56) = true)
    (a57 : PySem.W.nsIn K mainGlobals "_law_bounds" = some (some (.ref f57)))
    (l57 : K.lookup f57 = some ⟨oc57, od57, .func (PySem.W.fnOf "_law_bounds" "_law_bounds" (defArgs s_l_bounds) (defBody s_l_bounds) (defScope s_l_bounds) .none kV57 dc57 pm57 an57 cd57 ct57), sl57⟩)
    (c57 : PySem.W.codeIn K cd57 "_law_bounds" = true)
    (k57 : PySem.W.keepIn K (.ref f57) = true)
    (a58 : PySem.W.nsIn K mainGlobals "_law_made" = some (some (.ref f58)))
    (l58 : K.lookup f58 = some ⟨oc58, od58, .func (PySem.W.fnOf "_law_made" "_law_made" (defArgs s_l_made) (defBody s_l_made) (defScope s_l_made) .none kV58 dc58 pm58 an58 cd58 ct58), sl58⟩)
    (c58 : PySem.W.codeIn K cd58 "_law_made" = true)
    (k58 : PySem.W.keepIn K (.ref f58) = true)
    (n59 : PySem.W.findIn K (.ref C_Item) "name" = some none)
    (n60 : PySem.W.findIn K (.ref C_Item) "grid" = some none)
    (n61 : PySem.W.findIn K (.ref C_Item) "minute" = some none)
    (n62 : PySem.W.findIn K (.ref C_Item) "delay" = some none)
    (n63 : PySem.W.findIn K (.ref C_Piece) "name" = some none)
    (n64 : PySem.W.findIn K (.ref C_Piece) "grid" = some none)
    (n65 : PySem.W.findIn K (.ref C_Piece) "minute" = some none)
    (n66 : PySem.W.findIn K (.ref C_Piece) "delay" = some none)
    (n67 : PySem.W.findIn K (.ref C_Break) "name" = some none)
    (n68 : PySem.W.findIn K (.ref C_Break) "delay" = some none)
    (n69 : PySem.W.findIn K (.ref C_Timed) "grid" = some none)
    (n70 : PySem.W.findIn K (.ref C_Timed) "minute" = some none)
    (n71 : PySem.W.findIn K (.ref C_Timed) "delay" = some none)
    (n72 : PySem.W.findIn K (.ref C_Piece) "least" = some none)
    (n73 : PySem.W.findIn K (.ref C_Piece) "most" = some none)
    (ia74 : PySem.W.findIn K (.ref C_Timed) "__class__" = some (some (.builtin "object.__class__")))
    (ib74 : PySem.W.specialIn K (.builtin "object.__class__") "__get__" = some (some (.builtin "getset_descriptor.__get__")))
    (ic74 : PySem.W.takesIn K (.builtin "object.__class__") = some true)
    (id74 : PySem.W.mroIn K C_Timed (.type "object") = some true)
    (ia75 : PySem.W.findIn K (.ref C_Item) "__class__" = some (some (.builtin "object.__class__")))
    (ib75 : PySem.W.specialIn K (.builtin "object.__class__") "__get__" = some (some (.builtin "getset_descriptor.__get__")))
    (ic75 : PySem.W.takesIn K (.builtin "object.__class__") = some true)
    (id75 : PySem.W.mroIn K C_Item (.type "object") = some true)
    (ia76 : PySem.W.findIn K (.ref C_Piece) "__class__" = some (some (.builtin "object.__class__")))
    (ib76 : PySem.W.specialIn K (.builtin "object.__class__") "__get__" = some (some (.builtin "getset_descriptor.__get__")))
    (ic76 : PySem.W.takesIn K (.builtin "object.__class__") = some true)
    (id76 : PySem.W.mroIn K C_Piece (.type "object") = some true)
    (ia77 : PySem.W.findIn K (.ref C_Break) "__class__" = some (some (.builtin "object.__class__")))
    (ib77 : PySem.W.specialIn K (.builtin "object.__class__") "__get__" = some (some (.builtin "getset_descriptor.__get__")))
    (ic77 : PySem.W.takesIn K (.builtin "object.__class__") = some true)
    (id77 : PySem.W.mroIn K C_Break (.type "object") = some true)
    (ko78 : PySem.W.kitOne K (.ref C_Timed) (.ref C_Timed) = some true)
    (ko79 : PySem.W.kitOne K (.ref C_Item) (.ref C_Timed) = some true)
    (ko80 : PySem.W.kitOne K (.ref C_Piece) (.ref C_Timed) = some true)
    (ko81 : PySem.W.kitOne K (.ref C_Break) (.ref C_Timed) = some true)
    (mk82 : PySem.W.makesIn K C_Item = true)
    (a82 : PySem.W.findIn K (.ref C_Item) "__init__" = some (some (.ref f82)))
    (i82 : PySem.W.isFn K (.ref f82) = true)
    (kc82 : PySem.W.keepIn K (.ref C_Item) = true)
    (l82 : K.lookup f82 = some ⟨oc82, od82, .func (PySem.W.fnOf "__init__" "Item.__init__" (defArgs s_Item_init) (defBody s_Item_init) (defScope s_Item_init) .none kV82 dc82 pm82 an82 cd82 ct82), sl82⟩)
    (c82 : PySem.W.codeIn K cd82 "Item.__init__" = true)
    (k82 : PySem.W.keepIn K (.ref f82) = true)
    (mk83 : PySem.W.makesIn K C_Piece = true)
    (a83 : PySem.W.findIn K (.ref C_Piece) "__init__" = some (some (.ref f83)))
    (i83 : PySem.W.isFn K (.ref f83) = true)
    (kc83 : PySem.W.keepIn K (.ref C_Piece) = true)
    (l83 : K.lookup f83 = some ⟨oc83, od83, .func (PySem.W.fnOf "__init__" "Piece.__init__" (defArgs s_Piece_init) (defBody s_Piece_init) (defScope s_Piece_init) .none kV83 dc83 pm83 an83 cd83 ct83), sl83⟩)
    (c83 : PySem.W.codeIn K cd83 "Piece.__init__" = true)
    (k83 : PySem.W.keepIn K (.ref f83) = true)
    (mk84 : PySem.W.makesIn K C_Break = true)
    (a84 : PySem.W.findIn K (.ref C_Break) "__init__" = some (some (.ref f84)))
    (i84 : PySem.W.isFn K (.ref f84) = true)
    (kc84 : PySem.W.keepIn K (.ref C_Break) = true)
    (l84 : K.lookup f84 = some ⟨oc84, od84, .func (PySem.W.fnOf "__init__" "Break.__init__" (defArgs s_Break_init) (defBody s_Break_init) (defScope s_Break_init) .none kV84 dc84 pm84 an84 cd84 ct84), sl84⟩)
    (c84 : PySem.W.codeIn K cd84 "Break.__init__" = true)
    (k84 : PySem.W.keepIn K (.ref f84) = true)
    (a85 : PySem.W.nsIn K mainGlobals "_law_refused" = some (some (.ref f85)))
    (l85 : K.lookup f85 = some ⟨oc85, od85, .func (PySem.W.fnOf "_law_refused" "_law_refused" (defArgs s_l_refused) (defBody s_l_refused) (defScope s_l_refused) .none kV85 dc85 pm85 an85 cd85 ct85), sl85⟩)
    (c85 : PySem.W.codeIn K cd85 "_law_refused" = true)
    (k85 : PySem.W.keepIn K (.ref f85) = true)
    (z86 : PySem.W.nsIn K mainGlobals "str" = some none)
    (z87 : PySem.W.nsIn K mainGlobals "ValueError" = some none)
    (g88 : PySem.W.nsIn K mainGlobals "BarbreaksError" = some (some (.ref C_BarbreaksError)))
    (hg89 : PySem.W.findIn K (.ref C_BadName) "__getattribute__" = some (some (.builtin "BaseException.__getattribute__")))
    (hk89 : PySem.W.findIn K (.ref C_BadName) "__getattr__" = some none)
    (hs89 : PySem.W.subIn K (.ref C_BadName) (.type "BaseException") = some true)
    (hd89 : PySem.W.hasDictIn K C_BadName = true)
    (ha89 : PySem.W.findIn K (.ref C_BadName) "__class__" = some (some (.builtin "object.__class__")))
    (hn89 : PySem.W.specialIn K (.builtin "object.__class__") "__get__" = some (some (.builtin "getset_descriptor.__get__")))
    (ht89 : PySem.W.takesIn K (.builtin "object.__class__") = some true)
    (hm89 : PySem.W.mroIn K C_BadName (.type "object") = some true)
    (hg90 : PySem.W.findIn K (.ref C_BadNumber) "__getattribute__" = some (some (.builtin "BaseException.__getattribute__")))
    (hk90 : PySem.W.findIn K (.ref C_BadNumber) "__getattr__" = some none)
    (hs90 : PySem.W.subIn K (.ref C_BadNumber) (.type "BaseException") = some true)
    (hd90 : PySem.W.hasDictIn K C_BadNumber = true)
    (ha90 : PySem.W.findIn K (.ref C_BadNumber) "__class__" = some (some (.builtin "object.__class__")))
    (hn90 : PySem.W.specialIn K (.builtin "object.__class__") "__get__" = some (some (.builtin "getset_descriptor.__get__")))
    (ht90 : PySem.W.takesIn K (.builtin "object.__class__") = some true)
    (hm90 : PySem.W.mroIn K C_BadNumber (.type "object") = some true)
    (g91 : PySem.W.nsIn K mainGlobals "BadSpan" = some (some (.ref C_BadSpan)))
    (g92 : PySem.W.nsIn K mainGlobals "BadText" = some (some (.ref C_BadText)))
    (g93 : PySem.W.nsIn K mainGlobals "Refused" = some (some (.ref C_Refused)))
    (g94 : PySem.W.nsIn K mainGlobals "TooMany" = some (some (.ref C_TooMany)))
    (g95 : PySem.W.nsIn K mainGlobals "Twice" = some (some (.ref C_Twice)))
    (ko96 : PySem.W.kitOne K (.ref C_BadName) (.ref C_BadSpan) = some false)
    (ko97 : PySem.W.kitOne K (.ref C_BadName) (.ref C_BadText) = some false)
    (ko98 : PySem.W.kitOne K (.ref C_BadName) (.ref C_Refused) = some false)
    (ko99 : PySem.W.kitOne K (.ref C_BadName) (.ref C_TooMany) = some false)
    (ko100 : PySem.W.kitOne K (.ref C_BadName) (.ref C_Twice) = some false)
    (ko101 : PySem.W.kitOne K (.ref C_BadNumber) (.ref C_BadSpan) = some false)
    (ko102 : PySem.W.kitOne K (.ref C_BadNumber) (.ref C_BadText) = some false)
    (ko103 : PySem.W.kitOne K (.ref C_BadNumber) (.ref C_Refused) = some false)
    (ko104 : PySem.W.kitOne K (.ref C_BadNumber) (.ref C_TooMany) = some false)
    (ko105 : PySem.W.kitOne K (.ref C_BadNumber) (.ref C_Twice) = some false)
    (ko106 : PySem.W.kitOne K (.ref C_BadName) (.ref C_BarbreaksError) = some true)
    (ko107 : PySem.W.kitOne K (.ref C_BadNumber) (.ref C_BarbreaksError) = some true)
    (ko108 : PySem.W.kitOne K (.ref C_BadName) (.type "ValueError") = some true)
    (ko109 : PySem.W.kitOne K (.ref C_BadNumber) (.type "ValueError") = some true)
    (ko110 : PySem.W.kitOne K (.ref C_BadName) (.ref C_BadName) = some true)
    (ko111 : PySem.W.kitOne K (.ref C_BadName) (.ref C_BadNumber) = some false)
    (ko112 : PySem.W.kitOne K (.ref C_BadNumber) (.ref C_BadName) = some false)
    (ko113 : PySem.W.kitOne K (.ref C_BadNumber) (.ref C_BadNumber) = some true)
    (a114 : PySem.W.nsIn K mainGlobals "_law_asked" = some (some (.ref f114)))
    (l114 : K.lookup f114 = some ⟨oc114, od114, .func (PySem.W.fnOf "_law_asked" "_law_asked" (defArgs s_l_asked) (defBody s_l_asked) (defScope s_l_asked) .none kV114 dc114 pm114 an114 cd114 ct114), sl114⟩)
    (c114 : PySem.W.codeIn K cd114 "_law_asked" = true)
    (k114 : PySem.W.keepIn K (.ref f114) = true)
    (xa115 : PySem.W.subIn K (.ref C_BarbreaksError) (.type "BaseException") = some true)
    (xb115 : PySem.W.hasDictIn K C_BarbreaksError = true)
    (xc115 : PySem.W.typeIn K (.ref C_BarbreaksError) = some (.type "type"))
    (xd115 : PySem.W.subIn K (.ref C_BadName) (.ref C_BarbreaksError) = some true)
    (xa116 : PySem.W.subIn K (.ref C_BarbreaksError) (.type "BaseException") = some true)
    (xb116 : PySem.W.hasDictIn K C_BarbreaksError = true)
    (xc116 : PySem.W.typeIn K (.ref C_BarbreaksError) = some (.type "type"))
    (xd116 : PySem.W.subIn K (.ref C_BadNumber) (.ref C_BarbreaksError) = some true)
    (ko117 : PySem.W.kitOne K (.ref C_Break) (.ref C_Break) = some true)
    (a118 : PySem.W.nsIn K mainGlobals "law" = some (some (.ref f118)))
    (l118 : K.lookup f118 = some ⟨oc118, od118, .func (PySem.W.fnOf "law" "law" (defArgs s_law) (defBody s_law) (defScope s_law) .none kV118 dc118 pm118 an118 cd118 ct118), sl118⟩)
    (c118 : PySem.W.codeIn K cd118 "law" = true)
    (k118 : PySem.W.keepIn K (.ref f118) = true)
    : ∃ fd : FuncData, (∀ (s : Shared) (v : Value), BindsTo s fd ⟨[v], []⟩ [("_law_script", v)]) ∧ ∀ base : Heap, K.In base → base.Ns mainGlobals mg → FnOk l.prog w K mg base CX0 9 fa fd ["_law_script"] (spLaw K) := by
  have T : Txt K mg C_BadName C_BarbreaksError C_BadNumber C_Grid C_Named C_Timed C_Item C_Piece C_Break C_BadSpan C_BadText C_Refused C_TooMany C_Twice :=
    ⟨⟨f1, _, PySem.W.mg_of X G a1, (fun_mk (st := s_is_name) l1 c1 k1), (fun_mk (st := s_is_name) l1 c1 k1).binds (ps := ["text"]) fun _ _ _ _ _ _ us hl => match us, hl with | [_], _ => rfl⟩,
     PySem.W.mg_none_of X G z2,
     PySem.W.mg_none_of X G z3,
     ⟨u4, PySem.W.mg_of X G g4, r4⟩,
     ⟨u5, PySem.W.mg_of X G g5, r5⟩,
     ⟨u6, PySem.W.mg_of X G g6, r6⟩,
     ⟨⟨⟨_, _, _, _, _, _, _, _, _, _, _, _, _, _, _, x7, by rfl⟩, sa7, eC7, tC7, kC7⟩, PySem.W.mg_of X G g7, f7, _, a7, t7, (fun_mk (st := s_BadName_init) l7 c7 k7).binds (ps := ["self", "name"]) fun _ _ _ _ _ _ us hl => match us, hl with | [_, _], _ => rfl, (fun_mk (st := s_BadName_init) l7 c7 k7)⟩,
     PySem.W.mg_of X G g8,
     xn9,
     ⟨⟨⟨_, _, _, _, _, _, _, _, _, _, _, _, _, _, _, x10, by rfl⟩, sa10, eC10, tC10, kC10⟩, PySem.W.mg_of X G g10, f10, _, a10, t10, (fun_mk (st := s_BadNumber_init) l10 c10 k10).binds (ps := ["self", "number"]) fun _ _ _ _ _ _ us hl => match us, hl with | [_, _], _ => rfl, (fun_mk (st := s_BadNumber_init) l10 c10 k10)⟩,
     PySem.W.mg_of X G g11,
     xn12,
     ⟨f13, _, PySem.W.mg_of X G a13, (fun_mk (st := s_l_take) l13 c13 k13), (fun_mk (st := s_l_take) l13 c13 k13).binds (ps := ["_law_pool_here", "_law_size_here"]) fun _ _ _ _ _ _ us hl => match us, hl with | [_, _], _ => rfl⟩,
     PySem.W.mg_none_of X G z14,
     ⟨f15, _, PySem.W.mg_of X G a15, (fun_mk (st := s_l_big) l15 c15 k15), (fun_mk (st := s_l_big) l15 c15 k15).binds (ps := ["_law_pool_here"]) fun _ _ _ _ _ _ us hl => match us, hl with | [_], _ => rfl⟩,
     PySem.W.mg_none_of X G z16,
     ⟨f17, _, PySem.W.mg_of X G a17, (fun_mk (st := s_l_pool) l17 c17 k17), (fun_mk (st := s_l_pool) l17 c17 k17).binds (ps := ["_law_script"]) fun _ _ _ _ _ _ us hl => match us, hl with | [_], _ => rfl⟩,
     PySem.W.mg_none_of X G z18,
     ⟨f19, _, PySem.W.mg_of X G a19, (fun_mk (st := s_l_is_int) l19 c19 k19), (fun_mk (st := s_l_is_int) l19 c19 k19).binds (ps := ["_law_x"]) fun _ _ _ _ _ _ us hl => match us, hl with | [_], _ => rfl⟩,
     PySem.W.mg_none_of X G z20,
     PySem.W.mg_none_of X G z21,
     ⟨f22, _, PySem.W.mg_of X G a22, (fun_mk (st := s_l_free) l22 c22 k22), (fun_mk (st := s_l_free) l22 c22 k22).binds (ps := ["_law_pool_here"]) fun _ _ _ _ _ _ us hl => match us, hl with | [_], _ => rfl⟩,
     ⟨f23, _, PySem.W.mg_of X G a23, (fun_mk (st := s_l_step) l23 c23 k23), (fun_mk (st := s_l_step) l23 c23 k23).binds (ps := ["_law_pool_here"]) fun _ _ _ _ _ _ us hl => match us, hl with | [_], _ => rfl⟩,
     ⟨f24, _, PySem.W.mg_of X G a24, (fun_mk (st := s_l_shift) l24 c24 k24), (fun_mk (st := s_l_shift) l24 c24 k24).binds (ps := ["_law_pool_here", "_law_step_here"]) fun _ _ _ _ _ _ us hl => match us, hl with | [_, _], _ => rfl⟩,
     ⟨f25, _, PySem.W.mg_of X G a25, (fun_mk (st := s_l_size) l25 c25 k25), (fun_mk (st := s_l_size) l25 c25 k25).binds (ps := ["_law_pool_here"]) fun _ _ _ _ _ _ us hl => match us, hl with | [_], _ => rfl⟩,
     ⟨f26, _, PySem.W.mg_of X G a26, (fun_mk (st := s_l_edge) l26 c26 k26), (fun_mk (st := s_l_edge) l26 c26 k26).binds (ps := ["_law_pool_here", "_law_low", "_law_high"]) fun _ _ _ _ _ _ us hl => match us, hl with | [_, _, _], _ => rfl⟩,
     ⟨f27, _, PySem.W.mg_of X G a27, (fun_mk (st := s_l_turned) l27 c27 k27), (fun_mk (st := s_l_turned) l27 c27 k27).binds (ps := ["_law_right", "_law_edges"]) fun _ _ _ _ _ _ us hl => match us, hl with | [_, _], _ => rfl⟩,
     ⟨f28, _, PySem.W.mg_of X G a28, (fun_mk (st := s_l_names) l28 c28 k28), (fun_mk (st := s_l_names) l28 c28 k28).binds (ps := ["_law_pool_here", "_law_many"]) fun _ _ _ _ _ _ us hl => match us, hl with | [_, _], _ => rfl⟩,
     PySem.W.mg_of X G g29,
     ⟨pg29, hd29, po29, sa29⟩,
     n30,
     n31,
     ⟨f32, _, ⟨a32, i32, k32⟩, (fun_mk (st := s_Grid_first_bar) l32 c32 k32), (fun_mk (st := s_Grid_first_bar) l32 c32 k32).binds (ps := ["self", "tick"]) fun _ _ _ _ _ _ us hl => match us, hl with | [_, _], _ => rfl⟩,
     ifD_mk ⟨mk33, a33, i33, kc33⟩ l33 c33 k33 lT33 vT33 3 (by simp) (by rfl) (fun T kV doc pm an cdv ct us its h1 h2 => match us, h1, its, h2 with | [_, _, _], _, [_], _ => ⟨_, rfl, rfl⟩),
     PySem.W.mg_of X G g34,
     ⟨pg34, hd34, po34, sa34⟩,
     ⟨_, f35, _, ⟨rd35, ga35⟩, a35, (fun_mk (st := s_Named_init) l35 c35 k35), (fun_mk (st := s_Named_init) l35 c35 k35).binds (ps := ["self", "name"]) fun _ _ _ _ _ _ us hl => match us, hl with | [_, _], _ => rfl⟩,
     ⟨f36, _, ⟨mk36, a36, i36, kc36⟩, (fun_mk (st := s_Named_init) l36 c36 k36), (fun_mk (st := s_Named_init) l36 c36 k36).binds (ps := ["self", "name"]) fun _ _ _ _ _ _ us hl => match us, hl with | [_, _], _ => rfl⟩,
     PySem.W.mg_of X G g37,
     ⟨pg37, hd37, po37, sa37⟩,
     ⟨_, u38, ⟨rd38, ga38⟩, ⟨a38, r38⟩⟩,
     sfD_mk ⟨rd39, ga39⟩ a39 l39 c39 k39 lT39 vT39 4 (by simp) (by rfl) (fun T kV doc pm an cdv ct us its h1 h2 => match us, h1, its, h2 with | [_, _, _, _], _, [_, _], _ => ⟨_, rfl, rfl⟩),
     ifD_mk ⟨mk40, a40, i40, kc40⟩ l40 c40 k40 lT40 vT40 4 (by simp) (by rfl) (fun T kV doc pm an cdv ct us its h1 h2 => match us, h1, its, h2 with | [_, _, _, _], _, [_, _], _ => ⟨_, rfl, rfl⟩),
     PySem.W.mg_of X G g41,
     ⟨pg41, hd41, po41, sa41⟩,
     ⟨_, f42, _, ⟨rd42, ga42⟩, a42, (fun_mk (st := s_Item_init) l42 c42 k42), ⟨fun s us ws _ h1 h2 => match us, h1, ws, h2 with | [_, _], _, [_, _, _], _ => .of_eq rfl, fun r1 r2 => r1.append r2⟩⟩,
     PySem.W.mg_of X G g43,
     ⟨pg43, hd43, po43, sa43⟩,
     ⟨_, u44, ⟨rd44, ga44⟩, ⟨a44, r44⟩⟩,
     PySem.W.mg_of X G g45,
     ⟨pg45, hd45, po45, sa45⟩,
     ⟨_, u46, ⟨rd46, ga46⟩, ⟨a46, r46⟩⟩,
     ⟨_, u47, ⟨rd47, ga47⟩, ⟨a47, r47⟩⟩,
     n48,
     n49,
     ⟨pp50, f50, _, ⟨pa50, pb50, pc50, ⟨_, pd50⟩⟩, (fun_mk (st := s_Break_length) l50 c50 k50), (fun_mk (st := s_Break_length) l50 c50 k50).binds (ps := ["self"]) fun _ _ _ _ _ _ us hl => match us, hl with | [_], _ => rfl⟩,
     n51,
     n52,
     n53,
     ⟨pp54, f54, _, ⟨pa54, pb54, pc54, ⟨_, pd54⟩⟩, (fun_mk (st := s_Break_limit) l54 c54 k54), (fun_mk (st := s_Break_limit) l54 c54 k54).binds (ps := ["self"]) fun _ _ _ _ _ _ us hl => match us, hl with | [_], _ => rfl⟩,
     ⟨f55, _, PySem.W.mg_of X G a55, (fun_mk (st := s_l_name) l55 c55 k55), (fun_mk (st := s_l_name) l55 c55 k55).binds (ps := ["_law_text"]) fun _ _ _ _ _ _ us hl => match us, hl with | [_], _ => rfl⟩,
     ⟨f56, _, PySem.W.mg_of X G a56, (fun_mk (st := s_l_due) l56 c56 k56), (fun_mk (st := s_l_due) l56 c56 k56).binds (ps := ["_law_text", "_law_rows"]) fun _ _ _ _ _ _ us hl => match us, hl with | [_, _], _ => rfl⟩,
     ⟨f57, _, PySem.W.mg_of X G a57, (fun_mk (st := s_l_bounds) l57 c57 k57), (fun_mk (st := s_l_bounds) l57 c57 k57).binds (ps := ["_law_door", "_law_numbers"]) fun _ _ _ _ _ _ us hl => match us, hl with | [_, _], _ => rfl⟩,
     ⟨f58, _, PySem.W.mg_of X G a58, (fun_mk (st := s_l_made) l58 c58 k58), (fun_mk (st := s_l_made) l58 c58 k58).binds (ps := ["_law_door", "_law_text", "_law_bars", "_law_clock", "_law_numbers"]) fun _ _ _ _ _ _ us hl => match us, hl with | [_, _, _, _, _], _ => rfl⟩,
     n59,
     n60,
     n61,
     n62,
     n63,
     n64,
     n65,
     n66,
     n67,
     n68,
     n69,
     n70,
     n71,
     n72,
     n73,
     ⟨ia74, ib74, ic74, id74⟩,
     ⟨ia75, ib75, ic75, id75⟩,
     ⟨ia76, ib76, ic76, id76⟩,
     ⟨ia77, ib77, ic77, id77⟩,
     ko78,
     ko79,
     ko80,
     ko81,
     ⟨f82, _, ⟨mk82, a82, i82, kc82⟩, (fun_mk (st := s_Item_init) l82 c82 k82), ⟨fun s us ws _ h1 h2 => match us, h1, ws, h2 with | [_, _], _, [_, _, _], _ => .of_eq rfl, fun r1 r2 => r1.append r2⟩⟩,
     ⟨f83, _, ⟨mk83, a83, i83, kc83⟩, (fun_mk (st := s_Piece_init) l83 c83 k83), ⟨fun s us ws _ h1 h2 => match us, h1, ws, h2 with | [_, _], _, [_, _, _, _, _], _ => .of_eq rfl, fun r1 r2 => r1.append (Vals.pm r2 _)⟩⟩,
     ⟨f84, _, ⟨mk84, a84, i84, kc84⟩, (fun_mk (st := s_Break_init) l84 c84 k84), ⟨fun s us ws _ h1 h2 => match us, h1, ws, h2 with | [_, _], _, [_, _, _, _, _, _], _ => .of_eq rfl, fun r1 r2 => r1.append (Vals.pm r2 _)⟩⟩,
     ⟨f85, _, PySem.W.mg_of X G a85, (fun_mk (st := s_l_refused) l85 c85 k85), (fun_mk (st := s_l_refused) l85 c85 k85).binds (ps := ["_law_found", "_law_due_here"]) fun _ _ _ _ _ _ us hl => match us, hl with | [_, _], _ => rfl⟩,
     PySem.W.mg_none_of X G z86,
     PySem.W.mg_none_of X G z87,
     PySem.W.mg_of X G g88,
     ⟨hg89, hk89, hs89, hd89, ha89, hn89, ht89, hm89⟩,
     ⟨hg90, hk90, hs90, hd90, ha90, hn90, ht90, hm90⟩,
     PySem.W.mg_of X G g91,
     PySem.W.mg_of X G g92,
     PySem.W.mg_of X G g93,
     PySem.W.mg_of X G g94,
     PySem.W.mg_of X G g95,
     ko96,
     ko97,
     ko98,
     ko99,
     ko100,
     ko101,
     ko102,
     ko103,
     ko104,
     ko105,
     ko106,
     ko107,
     ko108,
     ko109,
     ko110,
     ko111,
     ko112,
     ko113,
     ⟨f114, _, PySem.W.mg_of X G a114, (fun_mk (st := s_l_asked) l114 c114 k114), (fun_mk (st := s_l_asked) l114 c114 k114).binds (ps := ["_law_door", "_law_text", "_law_grid_row", "_law_clock", "_law_numbers"]) fun _ _ _ _ _ _ us hl => match us, hl with | [_, _, _, _, _], _ => rfl⟩,
     PySem.W.exm_ref xa115 xb115 xc115 xd115,
     PySem.W.exm_ref xa116 xb116 xc116 xd116,
     ko117,
     ⟨f118, _, PySem.W.mg_of X G a118, (fun_mk (st := s_law) l118 c118 k118), (fun_mk (st := s_law) l118 c118 k118).binds (ps := ["_law_script"]) fun _ _ _ _ _ _ us hl => match us, hl with | [_], _ => rfl⟩⟩
  obtain ⟨f, fd, g, F, b⟩ := T.law
  obtain rfl : f = fa := Value.ref.inj (Option.some.inj (g.symm.trans hfa))
  refine ⟨fd, fun s v => ?_, fun base _ _ => (ok_law (P := l.prog) (w := w) (base := base) T) f fd F⟩
  obtain ⟨oc, od, kV, doc, pm, an, cdv, ct, osl, rfl, lk, hcd⟩ := F.ex
  exact .of_eq rfl
theorem walk {l : PySem.W.OpenLaw} {q : Program} {loose : List Str} {XP : (Str → Option Value) → Heap → Prop} {YP : World → Heap → Prop} {d : DefRec} {K : Params → PySem.W.Frag} (hn : l.most = some 63) (hdf : d.params.defaults = [])
    (hY : ∀ (w : World) (h : Heap), YP w h → (K w.params).In h)
    (F : ∀ (w : World) (mg : Str → Option Value) (fa : Addr) (h : Heap), (K w.params).In h → h.Ns mainGlobals mg → mg d.name = some (.ref fa) →
      ∃ fd : FuncData, (∀ (s : Shared) (u : Value), BindsTo s fd ⟨[u], []⟩ [("_law_script", u)]) ∧ ∀ base : Heap, (K w.params).In base → base.Ns mainGlobals mg → FnOk l.prog w (K w.params) mg base CX0 9 fa fd ["_law_script"] (spLaw (K w.params))) :
    PySem.W.WalkO q loose XP YP l.row.toRowW d [] (fun f vs => PySem.call f vs) :=
  L2.walk_of (n := 63) (k := 9) (x := "_law_script") (CX := fun _ => CX0) (sp := fun w => spLaw (K w.params)) hn (by decide) hdf ⟨rfl, by decide, by decide⟩ hY F (fun _ _ a ns hl _ hS => ⟨a, ns, rfl, hS, hl, fun _ => rfl⟩) fun _ _ _ _ _ z => z
end Brk.K09
open PySem PySem.W PyProof.Rows in
set_option maxRecDepth 100000 in
set_option maxHeartbeats 0 in
theorem PySem.Challenge.cw_barbreaks_k09_break_limits_holds : PySem.Challenge.rw_barbreaks_k09_break_limits.Holds := by
  w_on; o_law; k_head; (case hw => w_witness2)
  k_fill
  refine Brk.K09.walk (l := PySem.Challenge.rw_barbreaks_k09_break_limits) rfl rfl (fun w h Y => PySem.W.kIn_of Y) ?F
  case F =>
    intro w mg fa h KX G hmg
    refine' Brk.K09.all_mk KX G hmg ?a1 ?l1 ?c1 ?k1 ?z2 ?z3 ?g4 ?r4 ?g5 ?r5 ?g6 ?r6 ?g7 ?x7 ?sa7 ?eC7 ?tC7 ?kC7 ?a7 ?t7 ?l7 ?c7 ?k7 ?g8 ?xn9 ?g10 ?x10 ?sa10 ?eC10 ?tC10 ?kC10 ?a10 ?t10 ?l10 ?c10 ?k10 ?g11 ?xn12 ?a13 ?l13 ?c13 ?k13 ?z14 ?a15 ?l15 ?c15 ?k15 ?z16 ?a17 ?l17 ?c17 ?k17 ?z18 ?a19 ?l19 ?c19 ?k19 ?z20 ?z21 ?a22 ?l22 ?c22 ?k22 ?a23 ?l23 ?c23 ?k23 ?a24 ?l24 ?c24 ?k24 ?a25 ?l25 ?c25 ?k25 ?a26 ?l26 ?c26 ?k26 ?a27 ?l27 ?c27 ?k27 ?a28 ?l28 ?c28 ?k28 ?g29 ?pg29 ?hd29 ?po29 ?sa29 ?n30 ?n31 ?a32 ?i32 ?l32 ?c32 ?k32 ?mk33 ?a33 ?i33 ?kc33 ?l33 ?c33 ?k33 ?lT33 ?vT33 ?g34 ?pg34 ?hd34 ?po34 ?sa34 ?rd35 ?ga35 ?a35 ?l35 ?c35 ?k35 ?mk36 ?a36 ?i36 ?kc36 ?l36 ?c36 ?k36 ?g37 ?pg37 ?hd37 ?po37 ?sa37 ?rd38 ?ga38 ?a38 ?r38 ?rd39 ?ga39 ?a39 ?l39 ?c39 ?k39 ?lT39 ?vT39 ?mk40 ?a40 ?i40 ?kc40 ?l40 ?c40 ?k40 ?lT40 ?vT40 ?g41 ?pg41 ?hd41 ?po41 ?sa41 ?rd42 ?ga42 ?a42 ?l42 ?c42 ?k42 ?g43 ?pg43 ?hd43 ?po43 ?sa43 ?rd44 ?ga44 ?a44 ?r44 ?g45 ?pg45 ?hd45 ?po45 ?sa45 ?rd46 ?ga46 ?a46 ?r46 ?rd47 ?ga47 ?a47 ?r47 ?n48 ?n49 ?pa50 ?pb50 ?pc50 ?pd50 ?l50 ?c50 ?k50 ?n51 ?n52 ?n53 ?pa54 ?pb54 ?pc54 ?pd54 ?l54 ?c54 ?k54 ?a55 ?l55 ?c55 ?k55 ?a56 ?l56 ?c56 ?k56 ?a57 ?l57 ?c57 ?k57 ?a58 ?l58 ?c58 ?k58 ?n59 ?n60 ?n61 ?n62 ?n63 ?n64 ?n65 ?n66 ?n67 ?n68 ?n69 ?n70 ?n71 ?n72 ?n73 ?ia74 ?ib74 ?ic74 ?id74 ?ia75 ?ib75 ?ic75 ?id75 ?ia76 ?ib76 ?ic76 ?id76 ?ia77 ?ib77 ?ic77 ?id77 ?ko78 ?ko79 ?ko80 ?ko81 ?mk82 ?a82 ?i82 ?kc82 ?l82 ?c82 ?k82 ?mk83 ?a83 ?i83 ?kc83 ?l83 ?c83 ?k83 ?mk84 ?a84 ?i84 ?kc84 ?l84 ?c84 ?k84 ?a85 ?l85 ?c85 ?k85 ?z86 ?z87 ?g88 ?hg89 ?hk89 ?hs89 ?hd89 ?ha89 ?hn89 ?ht89 ?hm89 ?hg90 ?hk90 ?hs90 ?hd90 ?ha90 ?hn90 ?ht90 ?hm90 ?g91 ?g92 ?g93 ?g94 ?g95 ?ko96 ?ko97 ?ko98 ?ko99 ?ko100 ?ko101 ?ko102 ?ko103 ?ko104 ?ko105 ?ko106 ?ko107 ?ko108 ?ko109 ?ko110 ?ko111 ?ko112 ?ko113 ?a114 ?l114 ?c114 ?k114 ?xa115 ?xb115 ?xc115 ?xd115 ?xa116 ?xb116 ?xc116 ?xd116 ?ko117 ?a118 ?l118 ?c118 ?k118
    (case a1 => k_is)
    (case l1 => k_is)
    (case c1 => k_is)
    (case k1 => k_is)
    (case z2 => k_is)
    (case z3 => k_is)
    (case g4 => k_is)
    (case r4 => exact ⟨_, rfl⟩)
    (case g5 => k_is)
    (case r5 => exact ⟨_, rfl⟩)
    (case g6 => k_is)
    (case r6 => exact ⟨_, rfl⟩)
    (case g7 => k_is)
    (case x7 => k_is)
    (case sa7 => k_is)
    (case eC7 => k_is)
    (case tC7 => k_is)
    (case kC7 => k_is)
    (case a7 => k_is)
    (case t7 => k_is)
    (case l7 => k_is)
    (case c7 => k_is)
    (case k7 => k_is)
    (case g8 => k_is)
    (case xn9 => k_is)
    (case g10 => k_is)
    (case x10 => k_is)
    (case sa10 => k_is)
    (case eC10 => k_is)
    (case tC10 => k_is)
    (case kC10 => k_is)
    (case a10 => k_is)
    (case t10 => k_is)
    (case l10 => k_is)
    (case c10 => k_is)
    (case k10 => k_is)
    (case g11 => k_is)
    (case xn12 => k_is)
    (case a13 => k_is)
    (case l13 => k_is)
    (case c13 => k_is)
    (case k13 => k_is)
    (case z14 => k_is)
    (case a15 => k_is)
    (case l15 => k_is)
    (case c15 => k_is)
    (case k15 => k_is)
    (case z16 => k_is)
    (case a17 => k_is)
    (case l17 => k_is)
    (case c17 => k_is)
    (case k17 => k_is)
    (case z18 => k_is)
    (case a19 => k_is)
    (case l19 => k_is)
    (case c19 => k_is)
    (case k19 => k_is)
    (case z20 => k_is)
    (case z21 => k_is)
    (case a22 => k_is)
    (case l22 => k_is)
    (case c22 => k_is)
    (case k22 => k_is)
    (case a23 => k_is)
    (case l23 => k_is)
    (case c23 => k_is)
    (case k23 => k_is)
    (case a24 => k_is)
    (case l24 => k_is)
    (case c24 => k_is)
    (case k24 => k_is)
    (case a25 => k_is)
    (case l25 => k_is)
    (case c25 => k_is)
    (case k25 => k_is)
    (case a26 => k_is)
    (case l26 => k_is)
    (case c26 => k_is)
    (case k26 => k_is)
    (case a27 => k_is)
    (case l27 => k_is)
    (case c27 => k_is)
    (case k27 => k_is)
    (case a28 => k_is)
    (case l28 => k_is)
    (case c28 => k_is)
    (case k28 => k_is)
    (case g29 => k_is)
    (case pg29 => k_is)
    (case hd29 => k_is)
    (case po29 => k_is)
    (case sa29 => k_is)
    (case n30 => k_is)
    (case n31 => k_is)
    (case a32 => k_is)
    (case i32 => k_is)
    (case l32 => k_is)
    (case c32 => k_is)
    (case k32 => k_is)
    (case mk33 => k_is)
    (case a33 => k_is)
    (case i33 => k_is)
    (case kc33 => k_is)
    (case l33 => k_is)
    (case c33 => k_is)
    (case k33 => k_is)
    (case lT33 => k_is)
    (case vT33 => exact (.cons (by first | exact ⟨_, rfl⟩ | rfl) .nil))
    (case g34 => k_is)
    (case pg34 => k_is)
    (case hd34 => k_is)
    (case po34 => k_is)
    (case sa34 => k_is)
    (case rd35 => k_is)
    (case ga35 => k_is)
    (case a35 => k_is)
    (case l35 => k_is)
    (case c35 => k_is)
    (case k35 => k_is)
    (case mk36 => k_is)
    (case a36 => k_is)
    (case i36 => k_is)
    (case kc36 => k_is)
    (case l36 => k_is)
    (case c36 => k_is)
    (case k36 => k_is)
    (case g37 => k_is)
    (case pg37 => k_is)
    (case hd37 => k_is)
    (case po37 => k_is)
    (case sa37 => k_is)
    (case rd38 => k_is)
    (case ga38 => k_is)
    (case a38 => k_is)
    (case r38 => exact ⟨_, rfl⟩)
    (case rd39 => k_is)
    (case ga39 => k_is)
    (case a39 => k_is)
    (case l39 => k_is)
    (case c39 => k_is)
    (case k39 => k_is)
    (case lT39 => k_is)
    (case vT39 => exact (.cons (by first | exact ⟨_, rfl⟩ | rfl) (.cons (by first | exact ⟨_, rfl⟩ | rfl) .nil)))
    (case mk40 => k_is)
    (case a40 => k_is)
    (case i40 => k_is)
    (case kc40 => k_is)
    (case l40 => k_is)
    (case c40 => k_is)
    (case k40 => k_is)
    (case lT40 => k_is)
    (case vT40 => exact (.cons (by first | exact ⟨_, rfl⟩ | rfl) (.cons (by first | exact ⟨_, rfl⟩ | rfl) .nil)))
    (case g41 => k_is)
    (case pg41 => k_is)
    (case hd41 => k_is)
    (case po41 => k_is)
    (case sa41 => k_is)
    (case rd42 => k_is)
    (case ga42 => k_is)
    (case a42 => k_is)
    (case l42 => k_is)
    (case c42 => k_is)
    (case k42 => k_is)
    (case g43 => k_is)
    (case pg43 => k_is)
    (case hd43 => k_is)
    (case po43 => k_is)
    (case sa43 => k_is)
    (case rd44 => k_is)
    (case ga44 => k_is)
    (case a44 => k_is)
    (case r44 => exact ⟨_, rfl⟩)
    (case g45 => k_is)
    (case pg45 => k_is)
    (case hd45 => k_is)
    (case po45 => k_is)
    (case sa45 => k_is)
    (case rd46 => k_is)
    (case ga46 => k_is)
    (case a46 => k_is)
    (case r46 => exact ⟨_, rfl⟩)
    (case rd47 => k_is)
    (case ga47 => k_is)
    (case a47 => k_is)
    (case r47 => exact ⟨_, rfl⟩)
    (case n48 => k_is)
    (case n49 => k_is)
    (case pa50 => k_is)
    (case pb50 => k_is)
    (case pc50 => k_is)
    (case pd50 => k_is)
    (case l50 => k_is)
    (case c50 => k_is)
    (case k50 => k_is)
    (case n51 => k_is)
    (case n52 => k_is)
    (case n53 => k_is)
    (case pa54 => k_is)
    (case pb54 => k_is)
    (case pc54 => k_is)
    (case pd54 => k_is)
    (case l54 => k_is)
    (case c54 => k_is)
    (case k54 => k_is)
    (case a55 => k_is)
    (case l55 => k_is)
    (case c55 => k_is)
    (case k55 => k_is)
    (case a56 => k_is)
    (case l56 => k_is)
    (case c56 => k_is)
    (case k56 => k_is)
    (case a57 => k_is)
    (case l57 => k_is)
    (case c57 => k_is)
    (case k57 => k_is)
    (case a58 => k_is)
    (case l58 => k_is)
    (case c58 => k_is)
    (case k58 => k_is)
    (case n59 => k_is)
    (case n60 => k_is)
    (case n61 => k_is)
    (case n62 => k_is)
    (case n63 => k_is)
    (case n64 => k_is)
    (case n65 => k_is)
    (case n66 => k_is)
    (case n67 => k_is)
    (case n68 => k_is)
    (case n69 => k_is)
    (case n70 => k_is)
    (case n71 => k_is)
    (case n72 => k_is)
    (case n73 => k_is)
    (case ia74 => k_is)
    (case ib74 => k_is)
    (case ic74 => k_is)
    (case id74 => k_is)
    (case ia75 => k_is)
    (case ib75 => k_is)
    (case ic75 => k_is)
    (case id75 => k_is)
    (case ia76 => k_is)
    (case ib76 => k_is)
    (case ic76 => k_is)
    (case id76 => k_is)
    (case ia77 => k_is)
    (case ib77 => k_is)
    (case ic77 => k_is)
    (case id77 => k_is)
    (case ko78 => kit_is)
    (case ko79 => kit_is)
    (case ko80 => kit_is)
    (case ko81 => kit_is)
    (case mk82 => k_is)
    (case a82 => k_is)
    (case i82 => k_is)
    (case kc82 => k_is)
    (case l82 => k_is)
    (case c82 => k_is)
    (case k82 => k_is)
    (case mk83 => k_is)
    (case a83 => k_is)
    (case i83 => k_is)
    (case kc83 => k_is)
    (case l83 => k_is)
    (case c83 => k_is)
    (case k83 => k_is)
    (case mk84 => k_is)
    (case a84 => k_is)
    (case i84 => k_is)
    (case kc84 => k_is)
    (case l84 => k_is)
    (case c84 => k_is)
    (case k84 => k_is)
    (case a85 => k_is)
    (case l85 => k_is)
    (case c85 => k_is)
    (case k85 => k_is)
    (case z86 => k_is)
    (case z87 => k_is)
    (case g88 => k_is)
    (case hg89 => k_is)
    (case hk89 => k_is)
    (case hs89 => k_is)
    (case hd89 => k_is)
    (case ha89 => k_is)
    (case hn89 => k_is)
    (case ht89 => k_is)
    (case hm89 => k_is)
    (case hg90 => k_is)
    (case hk90 => k_is)
    (case hs90 => k_is)
    (case hd90 => k_is)
    (case ha90 => k_is)
    (case hn90 => k_is)
    (case ht90 => k_is)
    (case hm90 => k_is)
    (case g91 => k_is)
    (case g92 => k_is)
    (case g93 => k_is)
    (case g94 => k_is)
    (case g95 => k_is)
    (case ko96 => kit_is)
    (case ko97 => kit_is)
    (case ko98 => kit_is)
    (case ko99 => kit_is)
    (case ko100 => kit_is)
    (case ko101 => kit_is)
    (case ko102 => kit_is)
    (case ko103 => kit_is)
    (case ko104 => kit_is)
    (case ko105 => kit_is)
    (case ko106 => kit_is)
    (case ko107 => kit_is)
    (case ko108 => kit_is)
    (case ko109 => kit_is)
    (case ko110 => kit_is)
    (case ko111 => kit_is)
    (case ko112 => kit_is)
    (case ko113 => kit_is)
    (case a114 => k_is)
    (case l114 => k_is)
    (case c114 => k_is)
    (case k114 => k_is)
    (case xa115 => k_is)
    (case xb115 => k_is)
    (case xc115 => k_is)
    (case xd115 => (first | k_is | rfl))
    (case xa116 => k_is)
    (case xb116 => k_is)
    (case xc116 => k_is)
    (case xd116 => (first | k_is | rfl))
    (case ko117 => kit_is)
    (case a118 => k_is)
    (case l118 => k_is)
    (case c118 => k_is)
    (case k118 => k_is)
#print axioms PySem.Challenge.cw_barbreaks_k09_break_limits_holds
