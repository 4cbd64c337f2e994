import PyProof.Rows.All
import Wide.All
import OpenK.AllK
import Wide.FinOn
import HandS.ForMost
import HandS.Wide
import HandS.IsInst
import HandS.Codes
import HandS.ClsMeth
import HandS.Defaults
import HandS.MakeKw
import HandS.MakeKwOnly
import HandS.Property
import HandS.WordsExc
import HandS.Exc
import HandS.ExcInit
import HandS.ExcIs
import HandS.ExcField
import KE.KExcIs
import HandS.Small
import HandS.StrMore
import PySem.Challenge.RW_barbreaks_k00_numbers_back
set_option Elab.async false
set_option linter.all false
set_option maxRecDepth 100000
/-! Own words over the hand layer: a def of the module with its promise, in one Prop. -/
namespace Brk
open PySem L2

/-- the module's name x holds a def that keeps the promise sp by at most level k -/
def Dk (P : Program) (w : World) (K : PySem.W.Frag) (mg : Str → Option Value) (base : Heap) (CX : CXT) (k : Nat) (x : Str) (ps : List Str) (sp : Sp) : Prop :=
  ∃ (f : Addr) (fd : FuncData), mg x = some (.ref f) ∧ PySem.W.keepIn K (.ref f) = true ∧ Binds K fd ps [] ∧ FnOk P w K mg base CX k f fd ps sp
/-- the module's name x holds the def whose text is st -/
def Df (K : PySem.W.Frag) (mg : Str → Option Value) (x : Str) (st : Stmt) (ps : List Str) : Prop :=
  ∃ (f : Addr) (fd : FuncData), mg x = some (.ref f) ∧ Fun K x x st f fd ∧ Binds K fd ps []
section
variable {X : Cx} {CX : CXT} {k : Nat} {ps : List Str} {sp : Sp} {E : XK} {x : Str} {p pos : Pos} {e : Expr} {es : List Expr} {t : TA}
theorem pe_d (D : Dk X.prog X.w X.K X.mg X.base CX k x ps sp) (hr : Room k X.A) (hx : Passes CX X E) (hg : Gl X x) (ha : PA X (e :: es) t)
    (hdb : (x == ("__debug__" : Str)) = false := by decide) (he : starEach (e :: es) X.env = (false, eval e X.env) :: starEach es X.env := by rfl) (hpl : (backTo pos (starEach es X.env)).any (·.1) = false := by rfl) :
    PE X (.Call (.Name x p) (e :: es) [] pos) (tCall sp [] E t) := by
  obtain ⟨f, fd, hm, hk, hb, F⟩ := D
  exact pe_call F hr hg hm hk hb .nil hx ha hdb he hpl
end
theorem Dk.mono {P : Program} {w : World} {K : PySem.W.Frag} {mg : Str → Option Value} {base : Heap} {CX : CXT} {k : Nat} {x : Str} {ps : List Str} {sp sp' : Sp} (D : Dk P w K mg base CX k x ps sp)
    (h : ∀ f fd, FnOk P w K mg base CX k f fd ps sp → FnOk P w K mg base CX k f fd ps sp') : Dk P w K mg base CX k x ps sp' := by
  obtain ⟨f, fd, a, b, c, F⟩ := D
  exact ⟨f, fd, a, b, c, h f fd F⟩

theorem bl_t {p : Prop} [Decidable p] (h : p) : V.bl (decide p) = V.bl true := by rw [decide_eq_true h]
theorem bl_f {p : Prop} [Decidable p] (h : ¬ p) : V.bl (decide p) = V.bl false := by rw [decide_eq_false h]
theorem pos_m7 : (0 : Int) < 2147483647 := by decide
theorem pos_m9 : (0 : Int) < 2147483399 := by decide
/-! ### heaps -/
/-- only what stands at p may have changed -/
def Off (p : Addr) (H H' : Hp) : Prop := ∀ b, b ≠ p → H' b = H b
theorem Off.refl {p : Addr} {H : Hp} : Off p H H := fun _ _ => rfl
theorem Off.trans {p : Addr} {H H1 H2 : Hp} (a : Off p H H1) (b : Off p H1 H2) : Off p H H2 := fun c hc => (b c hc).trans (a c hc)
theorem Off.upd {p : Addr} {H : Hp} {o : HO} : Off p H (upd H p o) := fun _ hb => upd_ne hb

/-! ### the script's pool: a list of four ints and the list of the script's numbers -/
def PL (c : Addr) (l : List V) : Prop := ∃ z i t d : Int, 0 ≤ i ∧ l = [.int z, .int i, .int t, .int d, .ref c]
structure Pool (ns : List Int) (c : Addr) (H : Hp) (p : Addr) : Prop where
  at_ : ∃ l, H p = some (.lst l) ∧ PL c l
  cells : H c = some (.lst (ns.map V.int))
theorem Pool.off {ns : List Int} {c : Addr} {H H' : Hp} {p q : Addr} (h : Pool ns c H p) (o : Off q H H') (h1 : p ≠ q) (h2 : c ≠ q) : Pool ns c H' p := by
  obtain ⟨⟨l, a, b⟩, d⟩ := h
  exact ⟨⟨l, (o p h1).trans a, b⟩, (o c h2).trans d⟩
theorem Pool.ne {ns : List Int} {c : Addr} {H : Hp} {p : Addr} (h : Pool ns c H p) : c ≠ p := by
  obtain ⟨⟨l, a, z, i, t, d, _, rfl⟩, b⟩ := h
  intro e
  rw [e, a] at b
  have q := HO.lst.inj (Option.some.inj b)
  have m : V.ref c ∈ ns.map V.int := by rw [← q]; simp
  simp at m
theorem Pool.same {ns : List Int} {c : Addr} {H H' : Hp} {p : Addr} (h : Pool ns c H p) (s : Same H H') : Pool ns c H' p := by
  obtain ⟨⟨l, a, b⟩, d⟩ := h
  exact ⟨⟨l, s _ _ a, b⟩, s _ _ d⟩
theorem Pool.upd {ns : List Int} {c : Addr} {H : Hp} {p : Addr} {l : List V} (h : Pool ns c H p) (hl : PL c l) : Pool ns c (L2.upd H p (.lst l)) p :=
  ⟨⟨l, upd_same, hl⟩, (upd_ne h.ne).trans h.cells⟩
theorem ints_at {ns : List Int} {i : Nat} {y : V} (h : (ns.map V.int)[i]? = some y) : ∃ z, ns[i]? = some z ∧ y = V.int z := by
  rw [List.getElem?_map] at h
  cases e : ns[i]? with
  | none => rw [e] at h; cases h
  | some z => rw [e] at h; exact ⟨z, rfl, (Option.some.inj h).symm⟩
theorem atI_ge {α : Type} {xs : List α} {i : Int} {v : α} (h0 : 0 ≤ i) (h : xs[i.toNat]? = some v) : atI xs i = some v := by
  have e : i = (i.toNat : Int) := by omega
  rw [e]
  exact atI_nat h

/-! ### promises of the drawing helpers -/
/-- a draw: the pool at p is asked; the answer is good; nothing but the pool's own list is another -/
def spTake : Sp := fun vs H Q _ => ∃ (p c : Addr) (ns : List Int) (n : Int), vs = [.ref p, .int n] ∧ Pool ns c H p ∧ 0 < n ∧ n.natAbs.log2 < 9000 ∧
  ∀ (r : Int) (H' : Hp), 0 ≤ r → r < n → Pool ns c H' p → Off p H H' → Q (.int r) H'
def spBig : Sp := fun vs H Q _ => ∃ (p c : Addr) (ns : List Int), vs = [.ref p] ∧ Pool ns c H p ∧
  ∀ (r : Int) (H' : Hp), 0 ≤ r → r < 10 ^ 27 → Pool ns c H' p → Off p H H' → Q (.int r) H'
/-- a draw by the pool alone; by the pool and a number -/
def spDraw (G : Int → Prop) : Sp := fun vs H Q _ => ∃ (p c : Addr) (ns : List Int), vs = [.ref p] ∧ Pool ns c H p ∧ ∀ (r : Int) (H' : Hp), G r → Pool ns c H' p → Off p H H' → Q (.int r) H'
def spDraw2 (A : Int → Prop) (G : Int → Int → Prop) : Sp := fun vs H Q _ => ∃ (p c : Addr) (ns : List Int) (s : Int), vs = [.ref p, .int s] ∧ Pool ns c H p ∧ A s ∧ ∀ (r : Int) (H' : Hp), G s r → Pool ns c H' p → Off p H H' → Q (.int r) H'
def GFree (r : Int) : Prop := -10 ^ 27 < r ∧ r < 10 ^ 27
def GStep (r : Int) : Prop := 1 ≤ r ∧ r ≤ 10 ^ 27
theorem log2_27 {n : Int} (h : 1 ≤ n) (h2 : n ≤ 10 ^ 27) : n.natAbs.log2 < 9000 := by
  have e : n.natAbs ≠ 0 := by omega
  refine (Nat.log2_lt e).mpr (Nat.lt_of_lt_of_le (m := 2 ^ 90) (by omega) (Nat.pow_le_pow_right (by decide) (by decide)))
/-- isinstance(x, int) and (not isinstance(x, bool)) -/
def spIsInt (K : PySem.W.Frag) : Sp := fun vs H Q _ => ∃ (x : V) (t : Value) (b1 b2 : Bool), vs = [x] ∧ TyX K H x t ∧ PySem.W.kitOne K t (.type "int") = some b1 ∧ PySem.W.kitOne K t (.type "bool") = some b2 ∧ Q (.bl (b1 && !b2)) H
theorem kInt {K : PySem.W.Frag} : PySem.W.kitOne K (.type "int") (.type "int") = some true := kit_ty (by decide +kernel)
theorem kIntB {K : PySem.W.Frag} : PySem.W.kitOne K (.type "int") (.type "bool") = some false := kit_ty (by decide +kernel)
theorem isInt_int {K : PySem.W.Frag} {H : Hp} {Q : VK} {E : XK} {i : Int} (h : Q (.bl true) H) : spIsInt K [.int i] H Q E := ⟨.int i, _, true, false, rfl, .base (.int i), kit_ty (by decide +kernel), kit_ty (by decide +kernel), h⟩
def spPool (K : PySem.W.Frag) : Sp := fun vs H Q _ => ∃ (a : Addr) (ns : List Int), vs = [.ref a] ∧ SqL K H a (ns.map V.int) ∧ ns.length ≤ 63 ∧
  ∀ (p c : Addr) (H' : Hp), Pool ns c H' p → H p = none → H c = none → Same H H' → Q (.ref p) H'

/-! ### classes: methods, makers, defs read off a class -/
/-- the class at C has the method m, a def whose text is st -/
def Mf (K : PySem.W.Frag) (C : Addr) (m qual : Str) (st : Stmt) (ps : List Str) : Prop := ∃ (f : Addr) (fd : FuncData), Meth K C m f ∧ Fun K m qual st f fd ∧ Binds K fd ps []
/-- .. and it keeps the promise sp -/
def Me (P : Program) (w : World) (K : PySem.W.Frag) (mg : Str → Option Value) (base : Heap) (CX : CXT) (k : Nat) (C : Addr) (m : Str) (ps : List Str) (sp : Sp) : Prop :=
  ∃ (f : Addr) (fd : FuncData), Meth K C m f ∧ Binds K fd ps [] ∧ FnOk P w K mg base CX k f fd ps sp
/-- the class of the name x, at C, is made by an __init__ that keeps sp, its last parameters filled by dvs -/
def MkD (P : Program) (w : World) (K : PySem.W.Frag) (mg : Str → Option Value) (base : Heap) (CX : CXT) (k : Nat) (x : Str) (C : Addr) (ps : List Str) (dvs : List V) (sp : Sp) : Prop :=
  ∃ (f : Addr) (fd : FuncData) (ds : List Value), mg x = some (.ref C) ∧ Mk K C f ∧ Binds K fd ps ds ∧ Vals dvs ds ∧ FnOk P w K mg base CX k f fd ps sp
section
variable {X : Cx} {CX : CXT} {k : Nat} {ps : List Str} {sp : Sp} {dvs : List V} {E : XK} {x m : Str} {C : Addr} {p pos apos : Pos} {o e : Expr} {es : List Expr} {ta : TE} {t : TA}
theorem pe_me {pl : Sem Bool} (M : Me X.prog X.w X.K X.mg X.base CX k C m ps sp) (c : Cls X.K C) (hr : Room k X.A) (hx : Passes CX X E) (he : PE X o ta) (ha : PA X (e :: es) t)
    (hst : starEach (e :: es) X.env = (false, eval e X.env) :: starEach es X.env := by rfl) (hpl : (backTo pos (starEach es X.env)).any (·.1) = false := by rfl)
    (ht : eval (.Call (.Attribute o m apos) (e :: es) [] pos) X.env = (do
      let ov ← eval o X.env
      standAt apos.atName
      let (f, first) ← holding [ov] (getMethod ov m pl)
      callWith pos f first (backTo pos (starEach (e :: es) X.env)) (backToKw pos (keywordEach [] X.env))) := by rfl) :
    PE X (.Call (.Attribute o m apos) (e :: es) [] pos) (tMeth C m sp [] E ta t) := by
  obtain ⟨f, fd, hm, hb, F⟩ := M
  exact pe_meth (pl := pl) he c hm F hr hb .nil hx ha hst hpl ht
theorem pe_mkd (M : MkD X.prog X.w X.K X.mg X.base CX k x C ps dvs sp) (hr : Room (k + 1) X.A) (hx : Passes CX X E) (hg : Gl X x) (ha : PA X (e :: es) t)
    (hdb : (x == ("__debug__" : Str)) = false := by decide) (he : starEach (e :: es) X.env = (false, eval e X.env) :: starEach es X.env := by rfl) (hpl : (backTo pos (starEach es X.env)).any (·.1) = false := by rfl) :
    PE X (.Call (.Name x p) (e :: es) [] pos) (tMake C sp dvs E t) := by
  obtain ⟨f, fd, ds, hm, M, hb, hd, F⟩ := M
  exact pe_make M F hr hg hm hb hd hx ha hdb he hpl
/-- C.m(e, ..), m a plain def of the class at C -/
theorem pe_cfn {mc : Value} {f : Addr} {fd : FuncData} {pl : Sem Bool} (he : PE X o ta) (r : ClX.CRead X.K C mc) (ca : PySem.W.findCls X.K (.ref C) mc m = some (.val (.ref f))) (hk : PySem.W.keepIn X.K (.ref f) = true) (hb : Binds X.K fd ps [])
    (F : FnOk X.prog X.w X.K X.mg X.base CX k f fd ps sp) (hr : Room k X.A) (hx : Passes CX X E) (ha : PA X (e :: es) t)
    (hst : starEach (e :: es) X.env = (false, eval e X.env) :: starEach es X.env := by rfl) (hpl : (backTo pos (starEach es X.env)).any (·.1) = false := by rfl)
    (ht : eval (.Call (.Attribute o m apos) (e :: es) [] pos) X.env = (do
      let ov ← eval o X.env
      standAt apos.atName
      let (f, first) ← holding [ov] (getMethod ov m pl)
      callWith pos f first (backTo pos (starEach (e :: es) X.env)) (backToKw pos (keywordEach [] X.env))) := by rfl) :
    PE X (.Call (.Attribute o m apos) (e :: es) [] pos) (fun σ H Q => ta σ H fun x H1 => x = .ref C ∧ t σ H1 fun vs H2 => sp (vs ++ []) H2 Q E) := by
  constructor
  intro pins s σ H Q I h
  refine PySem.W.methodCall_KW (pl := pl) (thn (he.run pins s σ H _ I h) fun u s1 hh => ?_) ht
  obtain ⟨v, H1, I1, rv, ev, q⟩ := hh
  subst ev
  obtain rfl : u = Value.ref C := rv
  refine PySem.W.method_cls I1.kIn r.ga ?_
  refine PySem.W.cls_value I1.kIn r.rd ca rfl ?_
  have J := I1.tok (s1.toks + 1)
  refine PySem.W.callWith_K (first := []) (h₀ := X.base) I1.ok.mod.kin hk ?_ hst hpl
  refine thn (ha.run pos pins _ σ H1 _ J q) fun us s2 hh2 => ?_
  obtain ⟨vs, H2, I2, rr, q2⟩ := hh2
  exact ⟨I2.kIn, run_fn F hr hb .nil hx I2 rr q2⟩
end

/-- the class at C gives out its def m when it is asked by its own name; the text st -/
def Sf (K : PySem.W.Frag) (C : Addr) (m qual : Str) (st : Stmt) (ps : List Str) : Prop := ∃ (mc : Value) (f : Addr) (fd : FuncData), ClX.CRead K C mc ∧ PySem.W.findCls K (.ref C) mc m = some (.val (.ref f)) ∧ Fun K m qual st f fd ∧ Binds K fd ps []
def Cf (P : Program) (w : World) (K : PySem.W.Frag) (mg : Str → Option Value) (base : Heap) (CX : CXT) (k : Nat) (C : Addr) (m : Str) (ps : List Str) (sp : Sp) : Prop :=
  ∃ (mc : Value) (f : Addr) (fd : FuncData), ClX.CRead K C mc ∧ PySem.W.findCls K (.ref C) mc m = some (.val (.ref f)) ∧ PySem.W.keepIn K (.ref f) = true ∧ Binds K fd ps [] ∧ FnOk P w K mg base CX k f fd ps sp
section
variable {X : Cx} {CX : CXT} {k : Nat} {ps : List Str} {sp : Sp} {E : XK} {m : Str} {C : Addr} {pos apos : Pos} {o e : Expr} {es : List Expr} {ta : TE} {t : TA}
theorem pe_cf {pl : Sem Bool} (M : Cf X.prog X.w X.K X.mg X.base CX k C m ps sp) (hr : Room k X.A) (hx : Passes CX X E) (he : PE X o ta) (ha : PA X (e :: es) t)
    (hst : starEach (e :: es) X.env = (false, eval e X.env) :: starEach es X.env := by rfl) (hpl : (backTo pos (starEach es X.env)).any (·.1) = false := by rfl)
    (ht : eval (.Call (.Attribute o m apos) (e :: es) [] pos) X.env = (do
      let ov ← eval o X.env
      standAt apos.atName
      let (f, first) ← holding [ov] (getMethod ov m pl)
      callWith pos f first (backTo pos (starEach (e :: es) X.env)) (backToKw pos (keywordEach [] X.env))) := by rfl) :
    PE X (.Call (.Attribute o m apos) (e :: es) [] pos) (fun σ H Q => ta σ H fun x H1 => x = .ref C ∧ t σ H1 fun vs H2 => sp (vs ++ []) H2 Q E) := by
  obtain ⟨mc, f, fd, r, ca, hk, hb, F⟩ := M
  exact pe_cfn (pl := pl) he r ca hk hb F hr hx ha hst hpl ht
end
/-- a call that writes n values and then the keywords ks, in the parameters' order -/
abbrev KA (K : PySem.W.Frag) (fd : FuncData) (ps : List Str) (n : Nat) (ks : List Str) : Prop := KBn K fd ps n ks (fun us ws => us ++ ws) (fun vs zs => vs ++ zs)
def CfK (P : Program) (w : World) (K : PySem.W.Frag) (mg : Str → Option Value) (base : Heap) (CX : CXT) (k : Nat) (C : Addr) (m : Str) (ps : List Str) (n : Nat) (ks : List Str) (sp : Sp) : Prop :=
  ∃ (mc : Value) (f : Addr) (fd : FuncData), ClX.CRead K C mc ∧ PySem.W.findCls K (.ref C) mc m = some (.val (.ref f)) ∧ PySem.W.keepIn K (.ref f) = true ∧ KA K fd ps n ks ∧ FnOk P w K mg base CX k f fd ps sp
def SfK (K : PySem.W.Frag) (C : Addr) (m qual : Str) (st : Stmt) (ps : List Str) (n : Nat) (ks : List Str) : Prop := ∃ (mc : Value) (f : Addr) (fd : FuncData), ClX.CRead K C mc ∧ PySem.W.findCls K (.ref C) mc m = some (.val (.ref f)) ∧ Fun K m qual st f fd ∧ KA K fd ps n ks
def MkK (P : Program) (w : World) (K : PySem.W.Frag) (mg : Str → Option Value) (base : Heap) (CX : CXT) (k : Nat) (x : Str) (C : Addr) (ps : List Str) (n : Nat) (ks : List Str) (sp : Sp) : Prop :=
  ∃ (f : Addr) (fd : FuncData), mg x = some (.ref C) ∧ Mk K C f ∧ KA K fd ps n ks ∧ FnOk P w K mg base CX k f fd ps sp
def IfK (K : PySem.W.Frag) (C : Addr) (qual : Str) (st : Stmt) (ps : List Str) (n : Nat) (ks : List Str) : Prop := ∃ (f : Addr) (fd : FuncData), Mk K C f ∧ Fun K "__init__" qual st f fd ∧ KA K fd ps n ks
section
variable {X : Cx} {CX : CXT} {k n : Nat} {ps ks : List Str} {sp : Sp} {E : XK} {x m : Str} {C : Addr} {p pos apos : Pos} {o e : Expr} {es : List Expr} {kws : List Keyword} {ta : TE} {t tk : TA}
theorem pe_cfK {pl : Sem Bool} (M : CfK X.prog X.w X.K X.mg X.base CX k C m ps n ks sp) (hr : Room k X.A) (hx : Passes CX X E) (he : PE X o ta) (ha : PA X (e :: es) t) (hkw : PK X kws tk)
    (hall : (backToKw pos (keywordEach kws X.env)).all (·.1.isSome) = true := by rfl) (hks : (backToKw pos (keywordEach kws X.env)).filterMap (·.1) = ks := by rfl)
    (hst : starEach (e :: es) X.env = (false, eval e X.env) :: starEach es X.env := by rfl)
    (hpl : ((backTo pos (starEach (e :: es) X.env)).any (·.1) || (backToKw pos (keywordEach kws X.env)).any (·.1.isNone)) = false := by rfl)
    (ht : eval (.Call (.Attribute o m apos) (e :: es) kws pos) X.env = (do
      let ov ← eval o X.env
      standAt apos.atName
      let (f, first) ← holding [ov] (getMethod ov m pl)
      callWith pos f first (backTo pos (starEach (e :: es) X.env)) (backToKw pos (keywordEach kws X.env))) := by rfl) :
    PE X (.Call (.Attribute o m apos) (e :: es) kws pos) (fun σ H Q => ta σ H fun x H1 => x = .ref C ∧ t σ H1 fun vs H2 => tk σ H2 fun zs H3 => vs.length = n ∧ zs.length = ks.length ∧ sp (vs ++ zs) H3 Q E) := by
  obtain ⟨mc, f, fd, r, ca, hk, hb, F⟩ := M
  constructor
  intro pins s σ H Q I h
  refine PySem.W.methodCall_KW (pl := pl) (thn (he.run pins s σ H _ I h) fun u s1 hh => ?_) ht
  obtain ⟨v, H1, I1, rv, ev, q⟩ := hh
  subst ev
  obtain rfl : u = Value.ref C := rv
  refine PySem.W.method_cls I1.kIn r.ga ?_
  refine PySem.W.cls_value I1.kIn r.rd ca rfl ?_
  have J := I1.tok (s1.toks + 1)
  refine PySem.W.callWith_KW (first := []) (h₀ := X.base) I1.ok.mod.kin hk hall ?_ hpl hst
  refine thn (ha.run pos pins _ σ H1 _ J q) fun us s2 hh2 => ?_
  obtain ⟨vs, H2, I2, rr, q2⟩ := hh2
  refine thn (hkw.run pos pins s2 σ H2 _ I2 q2) fun ws s3 hh3 => ?_
  obtain ⟨zs, H3, I3, rz, l1, l2, q3⟩ := hh3
  refine ⟨I3.kIn, ?_⟩
  rw [hks]
  exact run_fnN F hr hb hx I3 rr rz l1 l2 q3
theorem pe_mkK (M : MkK X.prog X.w X.K X.mg X.base CX k x C ps (n + 1) ks sp) (hr : Room (k + 1) X.A) (hx : Passes CX X E) (hg : Gl X x) (ha : PA X (e :: es) t) (hkw : PK X kws tk)
    (hall : (backToKw pos (keywordEach kws X.env)).all (·.1.isSome) = true := by rfl) (hks : (backToKw pos (keywordEach kws X.env)).filterMap (·.1) = ks := by rfl)
    (hdb : (x == ("__debug__" : Str)) = false := by decide) (he : starEach (e :: es) X.env = (false, eval e X.env) :: starEach es X.env := by rfl)
    (hpl : ((backTo pos (starEach (e :: es) X.env)).any (·.1) || (backToKw pos (keywordEach kws X.env)).any (·.1.isNone)) = false := by rfl) :
    PE X (.Call (.Name x p) (e :: es) kws pos) (tMakeN C n ks.length sp (fun vs zs => vs ++ zs) E t tk) := by
  obtain ⟨f, fd, hm, M, hb, F⟩ := M
  exact pe_makeN M F hr hg hm hb hx ha hkw hall hks hdb he hpl
end
def If0 (K : PySem.W.Frag) (C : Addr) (qual : Str) (st : Stmt) (ps : List Str) : Prop := ∃ (f : Addr) (fd : FuncData), Mk K C f ∧ Fun K "__init__" qual st f fd ∧ Binds K fd ps []
/-- an __init__ with written defaults dvs, those behind the first j filled in by a call -/
def IfD (K : PySem.W.Frag) (C : Addr) (qual : Str) (st : Stmt) (ps : List Str) (dvs : List V) (j : Nat) : Prop := ∃ (f : Addr) (fd : FuncData) (ds : List Value), Mk K C f ∧ FunD K "__init__" qual (defArgs st) (defBody st) (defScope st) dvs [] f fd ∧ Vals (dvs.drop j) ds ∧ Binds K fd ps ds
theorem ifD_mk {K : PySem.W.Frag} {C f T : Addr} {qual : Str} {st : Stmt} {ps : List Str} {dvs : List V} {j : Nat} {oc kV doc pm cdv ct oT : Value} {od an dT : Option Addr} {osl sT : Array (Option Value)} {its : Array Value} {nT : Nat} (M : Mk K C f)
    (l : K.lookup f = some ⟨oc, od, .func (PySem.W.fnOf "__init__" qual (defArgs st) (defBody st) (defScope st) (.ref T) kV doc pm an cdv ct), osl⟩) (c : PySem.W.codeIn K cdv qual = true) (k : PySem.W.keepIn K (.ref f) = true)
    (lT : K.lookup T = some ⟨oT, dT, .seq its nT, sT⟩) (vT : Vals dvs its.toList) (n : Nat) (hd : dvs ≠ []) (hn : n + (dvs.length - j) = ps.length)
    (h : ∀ (T : Addr) (kV doc pm : Value) (an : Option Addr) (cdv ct : Value) (us its : List Value), us.length = n → its.length = dvs.length →
      ∃ k, bindArgs (PySem.W.fnOf "__init__" qual (defArgs st) (defBody st) (defScope st) (.ref T) kV doc pm an cdv ct) ⟨us, []⟩ = seqItems? (.ref T) >>= k ∧ k (some its.toArray) = pure (ps.zip (us ++ its.drop j))) : IfD K C qual st ps dvs j := by
  have F : FunD K "__init__" qual (defArgs st) (defBody st) (defScope st) dvs [] f (PySem.W.fnOf "__init__" qual (defArgs st) (defBody st) (defScope st) (.ref T) kV doc pm an cdv ct) :=
    ⟨⟨oc, od, _, kV, doc, pm, an, cdv, ct, osl, rfl, l, c, .inr ⟨hd, T, _, its.toList, nT, rfl, lT, rfl, vT⟩, .inl rfl⟩, k⟩
  obtain ⟨ds, a, b⟩ := F.binds1 n j hd hn h
  exact ⟨f, _, ds, M, F, a, b⟩
def SfD (K : PySem.W.Frag) (C : Addr) (qual : Str) (st : Stmt) (ps : List Str) (dvs : List V) (j : Nat) : Prop := ∃ (mc : Value) (f : Addr) (fd : FuncData) (ds : List Value), ClX.CRead K C mc ∧ PySem.W.findCls K (.ref C) mc "__init__" = some (.val (.ref f)) ∧
  FunD K "__init__" qual (defArgs st) (defBody st) (defScope st) dvs [] f fd ∧ Vals (dvs.drop j) ds ∧ Binds K fd ps ds
theorem sfD_mk {K : PySem.W.Frag} {C f T : Addr} {qual : Str} {st : Stmt} {ps : List Str} {dvs : List V} {j : Nat} {oc kV doc pm cdv ct oT : Value} {od an dT : Option Addr} {osl sT : Array (Option Value)} {its : Array Value} {nT : Nat} {mc : Value} (r : ClX.CRead K C mc) (ca : PySem.W.findCls K (.ref C) mc "__init__" = some (.val (.ref f)))
    (l : K.lookup f = some ⟨oc, od, .func (PySem.W.fnOf "__init__" qual (defArgs st) (defBody st) (defScope st) (.ref T) kV doc pm an cdv ct), osl⟩) (c : PySem.W.codeIn K cdv qual = true) (k : PySem.W.keepIn K (.ref f) = true)
    (lT : K.lookup T = some ⟨oT, dT, .seq its nT, sT⟩) (vT : Vals dvs its.toList) (n : Nat) (hd : dvs ≠ []) (hn : n + (dvs.length - j) = ps.length)
    (h : ∀ (T : Addr) (kV doc pm : Value) (an : Option Addr) (cdv ct : Value) (us its : List Value), us.length = n → its.length = dvs.length →
      ∃ k, bindArgs (PySem.W.fnOf "__init__" qual (defArgs st) (defBody st) (defScope st) (.ref T) kV doc pm an cdv ct) ⟨us, []⟩ = seqItems? (.ref T) >>= k ∧ k (some its.toArray) = pure (ps.zip (us ++ its.drop j))) : SfD K C qual st ps dvs j := by
  have F : FunD K "__init__" qual (defArgs st) (defBody st) (defScope st) dvs [] f (PySem.W.fnOf "__init__" qual (defArgs st) (defBody st) (defScope st) (.ref T) kV doc pm an cdv ct) :=
    ⟨⟨oc, od, _, kV, doc, pm, an, cdv, ct, osl, rfl, l, c, .inr ⟨hd, T, _, its.toList, nT, rfl, lT, rfl, vT⟩, .inl rfl⟩, k⟩
  obtain ⟨ds, a, b⟩ := F.binds1 n j hd hn h
  exact ⟨mc, f, _, ds, r, ca, F, a, b⟩
/-- a constant of the class, asked by the class's name -/
def Kc (K : PySem.W.Frag) (C : Addr) (f : Str) (v : V) : Prop := ∃ (mc u : Value), ClX.CRead K C mc ∧ ClX.CVal K C mc f v u

/-! ### lists of signs -/
/-- a comprehension over a text's signs -/
theorem lc_text {x : Str} {g : TG} {tt : TT} {te : TE} {vs : List Nat} {σ : St} {H1 : Hp} {D : Addr} {Qd : Hp → Prop} (Pv : Nat → Hp → Prop) (h0 : Pv 0 (L2.upd H1 D (.lst [])))
    (hs : ∀ (i : Nat) (c : Nat) (H : Hp), x.cps[i]? = some c → Pv i H → g (.str ⟨#[c]⟩) (wipe σ vs) H fun σ2 H2 => wipe σ2 vs = wipe σ vs ∧ tt σ2 H2 fun b H3 =>
      if b = true then te σ2 H3 fun y H4 => ∃ acc, H4 D = some (.lst acc) ∧ acc.length < sizeLine ∧ Pv (i + 1) (L2.upd H4 D (.lst (acc ++ [y]))) else Pv (i + 1) H3) (hd : ∀ H, Pv x.cps.size H → Qd H) :
    ∃ W : Nat → Nat → Hp → Prop, (∃ m, W 0 m (L2.upd H1 D (.lst []))) ∧ ∀ i m H, W i m H →
      ((Its x).stop i H ∧ Qd H) ∨ ((Its x).go i H ∧ ∃ Nx : Hp → Prop, (∀ H', Nx H' → ∃ m', m' < m ∧ W (i + 1) m' H') ∧ ∀ y H', (Its x).yld i H y H' → g y (wipe σ vs) H' fun σ2 H2 => wipe σ2 vs = wipe σ vs ∧ tt σ2 H2 fun b H3 =>
        if b = true then te σ2 H3 fun y H4 => ∃ acc, H4 D = some (.lst acc) ∧ acc.length < sizeLine ∧ Nx (L2.upd H4 D (.lst (acc ++ [y]))) else Nx H3) := by
  refine ⟨fun i m H => m + i = x.cps.size ∧ Pv i H, ⟨x.cps.size, rfl, h0⟩, ?_⟩
  intro i m H hh
  obtain ⟨hm, p⟩ := hh
  by_cases z : m = 0
  · subst z
    have e : i = x.cps.size := by omega
    subst e
    exact Or.inl ⟨Nat.le_refl _, hd H p⟩
  · refine Or.inr ⟨by show i < x.cps.size; omega, Pv (i + 1), fun H' p' => ⟨m - 1, by omega, by omega, p'⟩, ?_⟩
    intro y H' yy
    obtain ⟨e, c, hc, ey⟩ := yy
    subst e ey
    exact hs i c _ hc p

/-! ### what else stays -/
/-- all that was tracked is as it was, but for what stands at p -/
def But (p : Addr) (H H' : Hp) : Prop := ∀ b o, H b = some o → b ≠ p → H' b = some o
theorem But.of_same {p : Addr} {H H' : Hp} (s : Same H H') : But p H H' := fun b o e _ => s b o e
theorem But.of_off {p : Addr} {H H' : Hp} (s : Off p H H') : But p H H' := fun b o e hb => by rw [s b hb]; exact e
theorem But.trans {p : Addr} {H H1 H2 : Hp} (a : But p H H1) (b : But p H1 H2) : But p H H2 := fun c o e hc => b c o (a c o e hc) hc
theorem But.upd {p : Addr} {H : Hp} {o : HO} : But p H (L2.upd H p o) := fun b u e hb => by rw [upd_ne hb]; exact e
theorem Same.new {H : Hp} {p : Addr} {o : HO} (h : H p = none) : Same H (L2.upd H p o) := fun b u e => by rw [upd_ne (ne_of_none e h)]; exact e
/-- a new instance and its __init__, which leaves all but the instance -/
theorem Same.inst {H H1 : Hp} {x dx C : Addr} (nx : H x = none) (nd : H dx = none) (k : But x (L2.upd (L2.upd H dx (.own x)) x (.ins C dx [])) H1) : Same H H1 := Same.made nx nd k
/-! ### names -/
def letS : Str := "abcdefghijklmnopqrstuvwxyz"
def digS : Str := "0123456789"
def signB (c : Nat) : Bool := decide (c ∈ letS.cps.toList) || decide (c ∈ digS.cps.toList)
/-- 1 to 12 small letters and digits, a letter first -/
def nameB (z : Str) : Bool := decide (1 ≤ z.cps.size) && (decide (z.cps.size ≤ 12) && (decide (z.cps.getD 0 0 ∈ letS.cps.toList) && z.cps.toList.all signB))
def spIsName : Sp := fun vs H Q _ => ∃ (z : Str), vs = [.str z] ∧ z.length ≤ 100000 ∧ ∀ H', Same H H' → Q (.bl (nameB z)) H'

/-! ### items -/
def barOf (s o t : Int) : Int := t + (o - t) % s
/-- a Grid at g -/
def GridAt (C : Addr) (H : Hp) (g : Addr) (s o : Int) : Prop := 0 < s ∧ ∃ dx, H g = some (.ins C dx [("step", .int s), ("offset", .int o)])
theorem GridAt.same {C : Addr} {H H' : Hp} {g : Addr} {s o : Int} (h : GridAt C H g s o) (e : Same H H') : GridAt C H' g s o := by
  obtain ⟨a, dx, b⟩ := h
  exact ⟨a, dx, e _ _ b⟩
def startOf (m : V) (mo : Int) : Int := match m with
  | .int i => if i > mo then i else mo
  | _ => mo
def spGrid0 (C : Addr) : Sp := fun vs H Q _ => ∃ (p dx : Addr) (s o : Int), vs = [.ref p, .int s, .int o] ∧ H p = some (.ins C dx []) ∧ 1 ≤ s ∧ ∀ H', GridAt C H' p s (o % s) → Off p H H' → Q .non H'
def spFirstBar (C : Addr) : Sp := fun vs H Q _ => ∃ (g : Addr) (s o t : Int), vs = [.ref g, .int t] ∧ GridAt C H g s o ∧ Q (.int (barOf s o t)) H
def spNamed0 (K : PySem.W.Frag) : Sp := fun vs H Q _ => ∃ (p C dx : Addr) (fs : List (Str × V)) (z : Str), vs = [.ref p, .str z] ∧ H p = some (.ins C dx fs) ∧ Cls K C ∧ NoAttr K C "name" ∧ nameB z = true ∧ z.length ≤ 1000 ∧ fs.length < 100 ∧
  ∀ H', H' p = some (.ins C dx (putF "name" (.str z) fs)) → But p H H' → Q .non H'
def putT (g m d : V) (fs : List (Str × V)) : List (Str × V) := putF "delay" d (putF "minute" m (putF "grid" g fs))
def spTimed0 (K : PySem.W.Frag) : Sp := fun vs H Q _ => ∃ (p C dx : Addr) (fs : List (Str × V)) (g m : V) (d : Int), vs = [.ref p, g, m, .int d] ∧ H p = some (.ins C dx fs) ∧ Cls K C ∧ NoAttr K C "grid" ∧ NoAttr K C "minute" ∧ NoAttr K C "delay" ∧
  0 ≤ d ∧ d ≤ 8 ∧ fs.length < 100 ∧ ∀ H', H' p = some (.ins C dx (putT g m (.int d) fs)) → Off p H H' → Q .non H'
structure ItemC (K : PySem.W.Frag) (C : Addr) : Prop where
  c : Cls K C
  n : NoAttr K C "name"
  g : NoAttr K C "grid"
  m : NoAttr K C "minute"
  d : NoAttr K C "delay"
def putI (z : Str) (g m d : V) (fs : List (Str × V)) : List (Str × V) := putT g m d (putF "name" (.str z) fs)
def spItem0 (K : PySem.W.Frag) : Sp := fun vs H Q _ => ∃ (p C dx : Addr) (fs : List (Str × V)) (z : Str) (g m : V) (d : Int), vs = [.ref p, .str z, g, m, .int d] ∧ H p = some (.ins C dx fs) ∧ ItemC K C ∧ nameB z = true ∧ z.length ≤ 1000 ∧
  0 ≤ d ∧ d ≤ 8 ∧ fs.length < 90 ∧ ∀ H', H' p = some (.ins C dx (putI z g m (.int d) fs)) → But p H H' → Q .non H'
theorem putF_length {f : Str} {v : V} : ∀ {fs : List (Str × V)}, (putF f v fs).length ≤ fs.length + 1
  | [] => Nat.le_refl _
  | q :: r => by
    unfold putF
    split
    · exact Nat.le_succ _
    · exact Nat.succ_le_succ putF_length
theorem putI_length (z : Str) (g m : V) (d : Int) : (putI z g m (.int d) []).length ≤ 4 := by
  have a1 := @putF_length "name" (.str z) []
  have a2 := @putF_length "grid" g (putF "name" (.str z) [])
  have a3 := @putF_length "minute" m (putF "grid" g (putF "name" (.str z) []))
  have a4 := @putF_length "delay" (.int d) (putF "minute" m (putF "grid" g (putF "name" (.str z) [])))
  have a0 : ([] : List (Str × V)).length = 0 := rfl
  show (putF "delay" (.int d) (putF "minute" m (putF "grid" g (putF "name" (.str z) [])))).length ≤ 4
  omega
def spPiece0 (K : PySem.W.Frag) : Sp := fun vs H Q _ => ∃ (p C dx : Addr) (z : Str) (g m : V) (l t d : Int), vs = [.ref p, .str z, g, .int l, .int t, m, .int d] ∧ H p = some (.ins C dx []) ∧ ItemC K C ∧ NoAttr K C "least" ∧ NoAttr K C "most" ∧ nameB z = true ∧ z.length ≤ 1000 ∧
  0 ≤ d ∧ d ≤ 8 ∧ 1 ≤ l ∧ l ≤ t ∧ t ≤ l + 8 ∧ ∀ H', H' p = some (.ins C dx (putF "most" (.int t) (putF "least" (.int l) (putI z g m (.int d) [])))) → But p H H' → Q .non H'
def spBreak0 (K : PySem.W.Frag) : Sp := fun vs H Q _ => ∃ (p C dx : Addr) (z : Str) (g m : V) (n u d y : Int), vs = [.ref p, .str z, g, m, .int n, .int u, .int d, .int y] ∧ H p = some (.ins C dx []) ∧ ItemC K C ∧ NoAttr K C "places" ∧ NoAttr K C "unit" ∧ NoAttr K C "patience" ∧ nameB z = true ∧ z.length ≤ 1000 ∧
  0 ≤ d ∧ d ≤ 8 ∧ 1 ≤ n ∧ n ≤ 12 ∧ 1 ≤ u ∧ 1 ≤ y ∧ y ≤ 64 ∧ ∀ H', H' p = some (.ins C dx (putF "patience" (.int y) (putF "unit" (.int u) (putF "places" (.int n) (putI z g m (.int d) []))))) → But p H H' → Q .non H'
/-- an item at a: its grid g, its minute m; its class knows begin_at, whose text is st -/
def ItAt (K : PySem.W.Frag) (st : Stmt) (H : Hp) (a g : Addr) (m : V) : Prop := ∃ (C dx : Addr) (fs : List (Str × V)), H a = some (.ins C dx fs) ∧ Cls K C ∧ Mf K C "begin_at" "Timed.begin_at" st ["self", "moment", "delay"] ∧ NoAttr K C "grid" ∧ NoAttr K C "minute" ∧
  fs.lookup ("grid" : Str) = some (.ref g) ∧ fs.lookup ("minute" : Str) = some m ∧ fs.lookup ("begin_at" : Str) = none
theorem ItAt.same {K : PySem.W.Frag} {st : Stmt} {H H' : Hp} {a g : Addr} {m : V} (h : ItAt K st H a g m) (e : Same H H') : ItAt K st H' a g m := by
  obtain ⟨C, dx, fs, h1, r⟩ := h
  exact ⟨C, dx, fs, e _ _ h1, r⟩
def MinOk (m : V) : Prop := m = .non ∨ ∃ i, m = .int i
def spBegin (K : PySem.W.Frag) (C CG : Addr) : Sp := fun vs H Q _ => ∃ (a g dx : Addr) (fs : List (Str × V)) (m : V) (mo de s o : Int), vs = [.ref a, .int mo, .int de] ∧ H a = some (.ins C dx fs) ∧ Cls K C ∧ NoAttr K C "grid" ∧ NoAttr K C "minute" ∧
  fs.lookup ("grid" : Str) = some (.ref g) ∧ fs.lookup ("minute" : Str) = some m ∧ MinOk m ∧ GridAt CG H g s o ∧ Q (.int (barOf s o (startOf m mo + de))) H
theorem sorted_two {a b : Int} {l : List Int} (p : l.Perm [a, b]) (s : l.Pairwise (· ≤ ·)) : l = [if b > a then a else b, if b > a then b else a] := by
  have hl : l.length = 2 := p.length_eq
  match l, hl, p, s with
  | [x, y], _, p, s =>
    have hxy : x ≤ y := by
      have q := (List.pairwise_cons.mp s).1 y (List.mem_singleton.mpr rfl)
      exact q
    have hx : x = a ∨ x = b := by
      have q := p.mem_iff (a := x)
      simpa using q
    rcases hx with e | e
    · subst e
      have q : [y].Perm [b] := (List.perm_cons x).mp p
      have ey : y = b := by simpa using q.mem_iff (a := y)
      subst ey
      by_cases c : y > x
      · rw [if_pos c, if_pos c]
      · rw [if_neg c, if_neg c]
        have z : x = y := by omega
        rw [z]
    · subst e
      have q : [y].Perm [a] := (List.perm_cons x).mp (p.trans (List.Perm.swap x a []))
      have ey : y = a := by simpa using q.mem_iff (a := y)
      subst ey
      by_cases c : x > y
      · omega
      · rw [if_neg c, if_neg c]
/-- tuples of two ints at the addresses -/
def RowsIn (H : Hp) : List Addr → List (Int × Int) → Prop
  | [], [] => True
  | a :: as, q :: qs => H a = some (.tup [.int q.1, .int q.2]) ∧ RowsIn H as qs
  | _, _ => False
theorem RowsIn.same {H H' : Hp} (s : Same H H') : ∀ {as : List Addr} {qs : List (Int × Int)}, RowsIn H as qs → RowsIn H' as qs
  | [], [], _ => trivial
  | _ :: _, _ :: _, h => ⟨s _ _ h.1, RowsIn.same s h.2⟩
  | [], _ :: _, h => h.elim
  | _ :: _, [], h => h.elim
theorem RowsIn.at_ {H : Hp} : ∀ {as : List Addr} {qs : List (Int × Int)} {i : Nat} {x : V}, RowsIn H as qs → (as.map V.ref)[i]? = some x → ∃ a q, x = .ref a ∧ qs[i]? = some q ∧ H a = some (.tup [.int q.1, .int q.2])
  | [], _, i, x, _, e => by simp at e
  | a :: as, q :: qs, 0, x, h, e => ⟨a, q, by simpa using e.symm, rfl, h.1⟩
  | a :: as, q :: qs, i + 1, x, h, e => by
    obtain ⟨b, r, e1, e2, e3⟩ := RowsIn.at_ (i := i) h.2 (by simpa using e)
    exact ⟨b, r, e1, by simpa using e2, e3⟩
  | _ :: _, [], _, _, h, _ => h.elim
theorem RowsIn.len {H : Hp} : ∀ {as : List Addr} {qs : List (Int × Int)}, RowsIn H as qs → as.length = qs.length
  | [], [], _ => rfl
  | _ :: _, _ :: _, h => congrArg Nat.succ (RowsIn.len h.2)
  | [], _ :: _, h => h.elim
  | _ :: _, [], h => h.elim
theorem bar_ge {s o t : Int} (hs : 0 < s) : 0 ≤ barOf s o t - t ∧ barOf s o t - t < s := by
  unfold barOf
  have h1 := Int.emod_nonneg (o - t) (by omega : s ≠ 0)
  have h2 := Int.emod_lt_of_pos (o - t) hs
  omega
theorem bar_mod {s o o' t : Int} (h : (o - o') % s = 0) : (barOf s o t - o') % s = 0 := by
  unfold barOf
  have e : t + (o - t) % s - o' = (o - o') - s * ((o - t) / s) := by
    have q := Int.emod_add_mul_ediv (o - t) s
    omega
  rw [e, Int.sub_mul_emod_self_left]
  exact h
/-- the first bar is not earlier for a later tick -/
theorem bar_mono {s o t t' : Int} (hs : 0 < s) (h : t ≤ t') : barOf s o t ≤ barOf s o t' := by
  have a := bar_ge (o := o) (t := t) hs
  have b := bar_ge (o := o) (t := t') hs
  have d : (barOf s o t - barOf s o t') % s = 0 := by
    have h1 : (barOf s o t - o) % s = 0 := bar_mod (by simp)
    have h2 : (barOf s o t' - o) % s = 0 := bar_mod (by simp)
    have e : barOf s o t - barOf s o t' = (barOf s o t - o) - (barOf s o t' - o) := by omega
    rw [e, Int.sub_emod, h1, h2]
    simp
  by_cases c : barOf s o t ≤ barOf s o t'
  · exact c
  · have h3 : 0 < barOf s o t - barOf s o t' := by omega
    have h4 : barOf s o t - barOf s o t' < s := by omega
    rw [Int.emod_eq_of_lt (by omega) h4] at d
    omega
theorem start_mono {m : V} {a b : Int} (h : a ≤ b) : startOf m a ≤ startOf m b := by
  unfold startOf
  split
  · split <;> split <;> omega
  · exact h
theorem off_mod {o s : Int} : (o % s - o) % s = 0 := by
  have e : o % s - o = 0 - s * (o / s) := by
    have q := Int.emod_add_mul_ediv o s
    omega
  rw [e, Int.sub_mul_emod_self_left]
  simp
def spAsked (K : PySem.W.Frag) (st : Stmt) (CG : Addr) : Sp := fun vs H Q _ => ∃ (it g r : Addr) (m : V) (s o : Int) (as : List Addr) (q0 q1 q2 q3 q4 q5 q6 q7 q8 : Int × Int), vs = [.ref it, .int s, .int o, m, .ref r] ∧ ItAt K st H it g m ∧ MinOk m ∧ GridAt CG H g s (o % s) ∧
  H r = some (.lst (as.map V.ref)) ∧ RowsIn H as [q0, q1, q2, q3, q4, q5, q6, q7, q8] ∧
  barOf s (o % s) (startOf m q0.1 + q0.2) ≤ barOf s (o % s) (startOf m q1.1 + q1.2) ∧ barOf s (o % s) (startOf m q1.1 + q1.2) ≤ barOf s (o % s) (startOf m q2.1 + q2.2) ∧
  barOf s (o % s) (startOf m q0.1 + q0.2) ≤ barOf s (o % s) (startOf m q3.1 + q3.2) ∧ barOf s (o % s) (startOf m q3.1 + q3.2) ≤ barOf s (o % s) (startOf m q2.1 + q2.2) ∧ q8 = q0 ∧ ∀ H', Same H H' → Q (.bl true) H'
theorem keepU {H : Hp} {b p : Addr} {o o' u : HO} (hb : H b = some o) (hp : H p = some o') (h : o ≠ o') : L2.upd H p u b = some o := by
  have n : b ≠ p := fun z => by
    rw [z, hp] at hb
    exact h (Option.some.inj hb).symm
  rw [upd_ne n]
  exact hb
theorem RowsIn.keep {H : Hp} {p : Addr} {xs : List V} {u : HO} (hp : H p = some (.lst xs)) : ∀ {as : List Addr} {qs : List (Int × Int)}, RowsIn H as qs → RowsIn (L2.upd H p u) as qs
  | [], [], _ => trivial
  | _ :: _, _ :: _, h => ⟨keepU h.1 hp (by intro z; cases z), RowsIn.keep hp h.2⟩
  | [], _ :: _, h => h.elim
  | _ :: _, [], h => h.elim
theorem ItAt.keep {K : PySem.W.Frag} {st : Stmt} {H : Hp} {a g p : Addr} {m : V} {xs : List V} {u : HO} (h : ItAt K st H a g m) (hp : H p = some (.lst xs)) : ItAt K st (L2.upd H p u) a g m := by
  obtain ⟨C, dx, fs, h1, r⟩ := h
  exact ⟨C, dx, fs, keepU h1 hp (by intro z; cases z), r⟩
theorem GridAt.keep {C : Addr} {H : Hp} {g p : Addr} {s o : Int} {xs : List V} {u : HO} (h : GridAt C H g s o) (hp : H p = some (.lst xs)) : GridAt C (L2.upd H p u) g s o := by
  obtain ⟨a, dx, b⟩ := h
  exact ⟨a, dx, keepU b hp (by intro z; cases z)⟩
theorem look_put {f : Str} {v : V} {fs : List (Str × V)} : (putF f v fs).lookup f = some v := by rw [lookup_putF, if_pos rfl]
theorem look_ne {f g : Str} {v : V} {fs : List (Str × V)} (h : ¬ g = f) : (putF f v fs).lookup g = fs.lookup g := by rw [lookup_putF, if_neg h]
theorem putT_grid {g m d : V} {fs : List (Str × V)} : (putT g m d fs).lookup ("grid" : Str) = some g := by
  unfold putT
  rw [look_ne (by decide +kernel), look_ne (by decide +kernel), look_put]
theorem putT_min {g m d : V} {fs : List (Str × V)} : (putT g m d fs).lookup ("minute" : Str) = some m := by
  unfold putT
  rw [look_ne (by decide +kernel), look_put]
theorem putT_no {g m d : V} {fs : List (Str × V)} (h : fs.lookup ("begin_at" : Str) = none) : (putT g m d fs).lookup ("begin_at" : Str) = none := by
  unfold putT
  rw [look_ne (by decide +kernel), look_ne (by decide +kernel), look_ne (by decide +kernel), h]
theorem putI_no {z : Str} {g m d : V} : (putI z g m d []).lookup ("begin_at" : Str) = none := by
  unfold putI
  refine putT_no ?_
  rw [look_ne (by decide +kernel)]
  rfl
theorem ble_f {a b : V} (h : a = b) : V.bl (!decide (a = b)) = V.bl false := by rw [decide_eq_true h]; rfl
def spClock : Sp := fun vs H Q _ => ∃ (p c : Addr) (ns : List Int) (m : Int), vs = [.ref p, .int m] ∧ Pool ns c H p ∧ ∀ (r : V) (H' : Hp), MinOk r → Pool ns c H' p → Off p H H' → Q r H'
def spLaw (K : PySem.W.Frag) : Sp := fun vs H Q _ => ∃ (a : Addr) (ns : List Int), vs = [.ref a] ∧ SqL K H a (ns.map V.int) ∧ ns.length ≤ 63 ∧ ∀ H', Q (.bl true) H'
end Brk

set_option Elab.async false
set_option linter.all false
set_option maxRecDepth 100000
set_option maxHeartbeats 4000000
/-! Own rules: an exception that an except suite keeps in a name, asked behind the try. -/
namespace Brk
open PySem PySem.Spec PyProof.Rows L2

/-- at a stands a caught exception of the class cls with the dict d -/
def ExH (cls : Value) (d : Option Addr) (a : Addr) : HO := .ext fun g => ∃ (ob : Obj) (ws : Array Value), g.get? a = some ob ∧ Zc cls d ob ∧ ob.data = .fields ws
theorem exH_ok {P : Program} {w : World} {H : Hp} {g : Heap} {a : Addr} {cls : Value} {d : Option Addr} {ob : Obj} {ws : Array Value} (e : g.get? a = some ob) (z : Zc cls d ob) (f : ob.data = .fields ws) : ObjOk P w H g a (ExH cls d a) := by
  refine ⟨⟨ob, ws, e, z, f⟩, ⟨ob, e⟩, ?_⟩
  intro g1 g2 hh keep
  obtain ⟨o1, w1, q1, q2⟩ := hh
  exact ⟨o1, w1, keep o1 q1, q2⟩
theorem exH_at {P : Program} {w : World} {H : Hp} {g : Heap} {a : Addr} {cls : Value} {d : Option Addr} (ok : HOk P w H g) (e : H a = some (ExH cls d a)) : ∃ (ob : Obj) (ws : Array Value), g.get? a = some ob ∧ Zc cls d ob ∧ ob.data = .fields ws :=
  (show ObjOk P w H g a (.ext fun g => ∃ (ob : Obj) (ws : Array Value), g.get? a = some ob ∧ Zc cls d ob ∧ ob.data = .fields ws) from ok a _ e).1
section
variable {X : Cx} {pins : List (Addr × Obj)} {σ : L2.St} {H : Hp} {s : Shared} {a : Addr} {o : HO}
/-- what stands at a, made since the frame began, is tracked from now on -/
theorem inv_hold (I : Inv X pins σ H s) (hx : X.ex = []) (old : X.s_0.heap.get? a = none) (na : H a = none) (nl : a ≠ X.env.locals) (nc : ∀ x c, X.env.cells.lookup x = some c → c ≠ a) (np : ∀ q ∈ X.pn ++ pins, q.1 ≠ a)
    (here : ObjOk X.prog X.w (L2.upd H a o) s.heap a o) : Inv X pins σ (L2.upd H a o) s := by
  have away : ∀ b u, X.s_0.heap.get? b = some u → b ≠ a := by
    intro b u e z
    rw [z, old] at e
    cases e
  refine ⟨I.ok, I.os, I.bare, ⟨I.base.keep, I.base.slot, ?_, I.base.there, ?_, ?_, ?_⟩, I.loc, I.cell, ?_, ?_, ?_, ?_, I.len⟩
  · intro b u e n hn
    rw [upd_ne (away b u e)]
    exact I.base.free b u e n hn
  · intro b xs e
    have q := I.base.tups b xs e
    rw [upd_ne (ne_of_none q na)]
    exact q
  · intro b u v e
    have q := I.base.frzs b u v e
    rw [upd_ne (ne_of_none q na)]
    exact q
  · intro b qs e
    obtain ⟨m, q⟩ := I.base.tbls b qs e
    exact ⟨m, by rw [upd_ne (ne_of_none q na)]; exact q⟩
  · rw [upd_ne nl.symm]
    exact I.free
  · intro x c e
    rw [upd_ne (nc x c e)]
    exact I.freeC x c e
  · intro q hq
    obtain ⟨e1, e2, e3⟩ := I.pin q hq
    exact ⟨e1, by rw [upd_ne (np q hq)]; exact e2, e3⟩
  · intro b u e
    by_cases hb : b = a
    · subst hb
      rw [upd_same] at e
      cases e
      exact here
    · rw [upd_ne hb] at e
      exact (I.hok b u e).stay (fun _ _ _ q => q) (fun c q => by rw [upd_ne (ne_of_none q na)]; exact q) fun c xs q => by rw [upd_ne (ne_of_none q na)]; exact q
end

/-- what such a try wishes of an exception of its body: the clause is its own, and the suite goes through to its end; behind it the exception is tracked -/
def wHold (K : PySem.W.Frag) (c : Value) (i : Nat) (ts : Addr → Value → Option Addr → TS) (D : Ends) : WX := fun cls d σ H =>
  PySem.W.exmOne K cls c = some true ∧ ∀ a, H a = none → ts a cls d { nx := fun σ1 H1 => D.nx (σ1.set i none) (L2.upd H1 a (ExH cls d a)), rt := fun _ _ => False, bk := fun _ _ => False, ct := fun _ _ => False } (σ.set i (some (.ref a))) H
section
variable {X : Cx} {x n : Str} {c : Value} {i : Nat} {body suite : List Stmt} {b0 : Stmt} {np pos pos1 : Pos} {tb : WX → TS} {ts : Addr → Value → Option Addr → TS}
/-- try: body / except x as n: suite, where the suite may hand the exception to a name -/
theorem ps_try_hold (hst : X.stack = X.env :: X.outer) (hfr : X.env.frame = some X.env.locals) (hnd : X.N.Nodup) (hslot : X.N[i]? = some n) (hloc : X.env.kindOf n = some .local) (hnm : Names X x c) (hex : X.ex = [])
    (hbody : ∀ (W : WX) (pn : List (Addr × Obj)) (xe : Value → Shared → Prop), Takes (X.tr pn xe) W → PassesOwn (model X.prog X.w) X.A X.env xe → PSs (X.tr pn xe) body (tb W))
    (hsuite : ∀ (a : Addr) (ob : Obj) (cls : Value) (d : Option Addr) (pn : List (Addr × Obj)), Zc cls d ob → (∃ ws, ob.data = .fields ws) → PSs (X.suite a ((a, ob) :: pn)) (b0 :: suite) (ts a cls d)) :
    PS X (.Try body [.ExceptHandler (some (.Name x np)) (some n) (b0 :: suite) pos1] [] [] pos) (fun D σ H => tb (wHold X.K c i ts D) D σ H) := by
  constructor
  intro pins s σ H D I h
  have good := I.ok
  have frames : X.A.frames = some (X.env :: X.outer) := by rw [good.frames, hst]
  refine wpAny_Try_except (wpAny_mono ((hbody (wHold X.K c i ts D) (X.pn ++ pins) (fun ex sh => wpAny (model X.prog X.w) X.A (noteFrame ex X.env)
    (fun _ sh1 => wpAny (model X.prog X.w) X.A (setFlight ex none) (fun _ sh2 => wpAny (model X.prog X.w) X.A (handleBy ex X.env [.ExceptHandler (some (.Name x np)) (some n) (b0 :: suite) pos1]) (SP X pins D) X.xe sh2) X.xe sh1) X.xe sh) ?_ PassesOwn.looking).run [] s σ H D (I.toTry _) h) ?_ fun _ _ z => z)
  · intro v sh air
    obtain ⟨a, B, sI, pinsI, σI, HI, cls, d, rfl, JI, ground, slots, sky, na, os, bare, caught, then_⟩ := air
    have J : Inv X pins σI HI sI := JI.ofTry good
    have sky2 : Sky B (X.env :: X.outer) a (Zc cls d) X.env.locals sh.heap := hst ▸ sky
    show wpAny _ _ (noteFrame (.ref a) X.env) _ _ _
    refine Sky.land Zc.steady frames hfr sky2 ?_
    intro g3 fly3 slots3
    have J3 : Inv X pins σI HI { sh with heap := g3 } := J.landed ground fly3.1 (slots.trans slots3) os bare
    obtain ⟨ob3, ws3, at3, z3, f3⟩ := fly3.there
    have nofr : a ∉ frs (X.env :: X.outer) := by
      intro hm
      obtain ⟨_, o1, e1, e2⟩ := (fly3.2.2.1).mem hm
      rw [at3] at e1
      cases e1
      exact e2 _ f3
    have nL : a ≠ X.env.locals := by
      intro z
      exact nofr (List.mem_filterMap.mpr ⟨X.env, List.mem_cons_self, by rw [hfr, z]⟩)
    have nF : a ∉ X.fs := by
      intro hm
      obtain ⟨e, he, q⟩ := List.mem_filterMap.mp hm
      exact nofr (List.mem_filterMap.mpr ⟨e, List.mem_cons_of_mem _ he, q⟩)
    have newI : sI.heap.get? a = none := by
      cases q : sI.heap.get? a with
      | none => rfl
      | some u =>
        have z := ground a u q (by rw [hst]; exact nofr)
        rw [fly3.2.1] at z
        cases z
    have new0 : X.s_0.heap.get? a = none := by
      cases q : X.s_0.heap.get? a with
      | none => rfl
      | some u =>
        obtain ⟨u2, q2⟩ := J.base.there a u q (by rw [hex]; exact fun z => nomatch z)
        rw [newI] at q2
        cases q2
    have S3 := J3.suite at3 f3 na nL nF
    refine wpAny_handleBy_cons (codeAny_handlers_test ?_) (by intro q; cases q)
    have kind : PySem.W.Looks (model X.prog X.w) g3 (typeOf (.ref a)) cls := by
      intro A Q E s1 keep q
      exact wpAny_typeOf_ref (keep _ _ at3) (by rw [z3.1]; exact q)
    have match_ := PySem.W.exm_one (M := model X.prog X.w) (J3.kIn) kind caught
    have named : ∀ {Q : Value → Shared → Prop} {E : Value → Shared → Prop}, Q c { sh with heap := g3 } → wpAny (model X.prog X.w) (X.A.mark (some (.ref a))) (eval (.Name x np) X.env) Q E { sh with heap := g3 } := by
      intro Q E q
      obtain ⟨hg, hdbg, hm | ⟨hm, hv, hnn⟩⟩ := hnm
      · exact ld_glob (X := X.suite a ((a, ob3) :: (X.pn ++ pins))) S3 hg hm q hdbg
      · exact ld_blt (X := X.suite a ((a, ob3) :: (X.pn ++ pins))) S3 hg hm hv q hnn hdbg
    refine named (match_.here (codeAny_handlers_suite_as (HandSPX.lands_againZ fly3 ?_)))
    intro g4 fly4 slots4
    have J4 : Inv X pins σI HI { sh with heap := g4 } := J.landed ground fly4.1 ((slots.trans slots3).trans slots4) os bare
    obtain ⟨ob4, ws4, at4, z4, f4⟩ := fly4.there
    have S4 := J4.suite at4 f4 na nL nF
    refine store_ok (X := X.suite a ((a, ob4) :: (X.pn ++ pins))) (v := .ref a) S4 hnd hslot (.inl hloc) rfl (fun s5 S5 => ?_) (.inr hloc)
    refine wpAny_mono ((hsuite a ob4 cls d (X.pn ++ pins) z4 ⟨_, f4⟩).run [] s5 _ HI _ S5 (then_ a na)) ?_ fun _ _ z => False.elim z
    intro fl s6 q6
    cases fl with
    | next =>
      obtain ⟨σ6, H6, S6, q⟩ := q6
      refine gone_ok (X := X.suite a ((a, ob4) :: (X.pn ++ pins))) S6 hnd hslot hloc ?_
      intro s7 S7
      obtain ⟨at7, na7, _⟩ := S7.pin (a, ob4) (List.mem_append_left _ List.mem_cons_self)
      refine ⟨_, _, inv_hold (S7.unsuite good) hex new0 na7 nL ?_ ?_ (exH_ok at7 z4 f4), q⟩
      · intro y cc e z
        obtain ⟨u, o1, e1, e2⟩ := S7.cell y cc e
        rw [z, at7] at e1
        cases e1
        rw [f4] at e2
        cases e2
      · intro p hp z
        have e1 := (J.pin p hp).1
        rw [z, newI] at e1
        cases e1
    | brk =>
      obtain ⟨_, _, _, z⟩ := q6
      exact z.elim
    | cont =>
      obtain ⟨_, _, _, z⟩ := q6
      exact z.elim
    | ret u =>
      obtain ⟨_, _, _, _, _, z⟩ := q6
      exact z.elim
  · intro fl s1 q1
    cases fl with
    | next =>
      obtain ⟨σ1, H1, J1, q⟩ := q1
      exact wpAny_execs_nil ⟨σ1, H1, J1.ofTry good, q⟩
    | brk =>
      obtain ⟨σ1, H1, J1, q⟩ := q1
      exact ⟨σ1, H1, J1.ofTry good, q⟩
    | cont =>
      obtain ⟨σ1, H1, J1, q⟩ := q1
      exact ⟨σ1, H1, J1.ofTry good, q⟩
    | ret u =>
      obtain ⟨v1, σ1, H1, J1, r1, q⟩ := q1
      exact ⟨v1, σ1, H1, J1.ofTry good, r1, q⟩
end
end Brk
namespace Brk
open PySem PySem.Spec PyProof.Rows L2
/-- the object at a, an instance of the exception class at D, its dict (none, or tracked) -/
theorem exH_inst {X : Cx} {pins : List (Addr × Obj)} {σ : L2.St} {H : Hp} {s : Shared} {a D : Addr} {d : Option Addr} (I : Inv X pins σ H s) (e : H a = some (ExH (.ref D) d a)) (hd : d = none ∨ ∃ dd fs, d = some dd ∧ H dd = some (.xd fs)) :
    ∃ (ob : Obj) (od : Option Obj), PySem.W.InstAt s.heap a ob D od := by
  obtain ⟨ob, ws, e1, e2, e3⟩ := exH_at I.hok e
  rcases hd with rfl | ⟨dd, fs, rfl, hdd⟩
  · exact ⟨ob, none, e1, e2.1, by unfold PySem.W.notCls; rw [e3] <;> rfl, by rw [e2.2]; trivial⟩
  · obtain ⟨mA, hns, _⟩ := (show ObjOk X.prog X.w H s.heap dd (.xd fs) from I.hok dd _ hdd)
    obtain ⟨od, ho, _⟩ := lookIn_ns hns
    exact ⟨ob, some od, e1, e2.1, by unfold PySem.W.notCls; rw [e3] <;> rfl, by rw [e2.2]; exact ho⟩
/-- the held exception at a in H -/
def HeldAt (H : Hp) (a D : Addr) : Prop := ∃ d, H a = some (ExH (.ref D) d a) ∧ (d = none ∨ ∃ dd fs, d = some dd ∧ H dd = some (.xd fs))
section
variable {X : Cx}
theorem call_isH : CallR X (.builtin "isinstance") (fun xs H Q => ∃ (a D : Addr) (c : V) (cv : Value) (b : Bool), xs = [.ref a, c] ∧ ClsV c cv ∧ HeldAt H a D ∧ ExcC X.K D ∧ PySem.W.kitOne X.K (.ref D) cv = some b ∧ Q (.bl b) H) := by
  intro pins s σ H xs us Q I r h
  obtain ⟨a, D, c, cv, b, rfl, k, ⟨d, ha, hd⟩, C, e, q⟩ := h
  obtain ⟨u1, u2, rfl, r1, r2⟩ := vals2 r
  have e2 := k.eq r2
  subst e2
  cases r1
  obtain ⟨ob, od, J⟩ := exH_inst I ha hd
  have hcl : (PySem.W.clsIn X.K D).isSome = true := by
    obtain ⟨cd, hc, _⟩ := PySem.W.any_some C.hd
    rw [hc]
    rfl
  exact PySem.W.kia_one (PySem.W.kitx_exc hcl C.hg C.hk C.hs C.ha C.hn C.ht C.hm) I.kIn J e (fun z => nomatch z) fun tk => ⟨.bl b, H, I.tok tk, rfl, q⟩
theorem call_isHT : CallR X (.builtin "isinstance") (fun xs H Q => ∃ (a D tp : Addr) (cs : List V) (ws : List Value) (b : Bool), xs = [.ref a, .ref tp] ∧ H tp = some (.tup cs) ∧ Paired ClsV cs ws ∧ HeldAt H a D ∧ ExcC X.K D ∧ PySem.W.kitAny X.K (.ref D) ws = some b ∧ Q (.bl b) H) := by
  intro pins s σ H xs us Q I r h
  obtain ⟨a, D, tp, cs, ws, b, rfl, hT, k, ⟨d, ha, hd⟩, C, e, q⟩ := h
  obtain ⟨u1, u2, rfl, r1, r2⟩ := vals2 r
  cases (show u2 = Value.ref tp from r2)
  cases (show u1 = Value.ref a from r1)
  obtain ⟨ob, od, J⟩ := exH_inst I ha hd
  obtain ⟨_, its, rv, o, h1, h2, n, h3⟩ := (show ObjOk X.prog X.w H s.heap tp (.tup cs) from I.hok tp _ hT)
  have e3 := ClsV.all k rv
  subst e3
  obtain ⟨oc, od2, dt, sl⟩ := o
  dsimp only at h2 h3
  subst h2 h3
  have hcl : (PySem.W.clsIn X.K D).isSome = true := by
    obtain ⟨cd, hc, _⟩ := PySem.W.any_some C.hd
    rw [hc]
    rfl
  exact PySem.W.kia_tup (PySem.W.kitx_exc hcl C.hg C.hk C.hs C.ha C.hn C.ht C.hm) I.kIn J h1 e (fun z => nomatch z) fun tk => ⟨.bl b, H, I.tok tk, rfl, q⟩
/-- e.n, e a held exception -/
theorem pe_xh {e : Expr} {te : TE} {pos : Pos} {n : Str} (he : PE X e te) (hb : attributeBase e n X.env (eval e X.env) = eval e X.env := by rfl) :
    PE X (.Attribute e n pos) (fun σ H Q => te σ H fun x H1 => ∃ (a C dd : Addr) (fs : List (Str × V)) (v : V), x = .ref a ∧ H1 a = some (ExH (.ref C) (some dd) a) ∧ H1 dd = some (.xd fs) ∧ XfC X.K C ∧ PySem.W.findIn X.K (.ref C) n = some none ∧ fs.lookup n = some v ∧ Q v H1) := by
  constructor
  intro pins s σ H Q I h
  refine attr_of hb (thn (he.run pins s σ H _ I h) ?_)
  intro u s1 hh
  obtain ⟨x, H1, I1, rx, a, C, dd, fs, v, ex, ha, hdd, T, hno, l, q⟩ := hh
  subst ex
  obtain rfl : u = Value.ref a := rx
  obtain ⟨ob, ws, e1, e2, e3⟩ := exH_at I1.hok ha
  obtain ⟨mA, hns, hr⟩ := (show ObjOk X.prog X.w H1 s1.heap dd (.xd fs) from I1.hok dd _ hdd)
  obtain ⟨od, ho, hl⟩ := lookIn_ns hns
  obtain ⟨u, hu, ru⟩ := RelO.some_of (v := v) (o := mA n) (by rw [← l]; exact hr n)
  have J : PySem.W.InstAt s1.heap a ob C (some od) := ⟨e1, e2.1, by unfold PySem.W.notCls; rw [e3] <;> rfl, by rw [e2.2]; exact ho⟩
  exact HandSPX.exc_get I1.kIn J T.ga T.gg T.exC (PySem.W.findObj_own T.hdC hno rfl (by rw [hl, hu])) (handed_of ru) ⟨v, H1, I1.tok _, ru, q⟩
end

/-! ### own error classes with an __init__ of one field, of two -/
def spEr1 (C : Addr) (f : Str) : Sp := fun vs H Q _ => ∃ (a : Addr) (v : V), vs = [.ref a, v] ∧ H a = some (exo a C none) ∧ ∀ dx, H dx = none → dx ≠ a → Q .non (L2.upd (L2.upd H dx (exd dx [(f, v)])) a (exo a C (some dx)))
def spEr2 (C : Addr) (f g : Str) : Sp := fun vs H Q _ => ∃ (a : Addr) (v w : V), vs = [.ref a, v, w] ∧ H a = some (exo a C none) ∧ ∀ dx, H dx = none → dx ≠ a → Q .non (L2.upd (L2.upd (L2.upd H dx (exd dx [(f, v)])) a (exo a C (some dx))) dx (exd dx [(g, w), (f, v)]))
/-- the error class of the name x, at C, whose __init__ keeps sp -/
structure ErC (P : Program) (w : World) (K : PySem.W.Frag) (mg : Str → Option Value) (base : Heap) (x : Str) (C : Addr) (ps : List Str) (sp : Sp) : Prop where
  T : OexC K C
  m : mg x = some (.ref C)
  ex : ∃ (fI : Addr) (fd : FuncData), PySem.W.findIn K (.ref C) "__init__" = some (some (.ref fI)) ∧ PySem.W.typeIn K (.ref fI) = some (.type "function") ∧ Binds K fd ps [] ∧ FnOk P w K mg base CX0 1 fI fd ps sp
/-- .. as the text gives it -/
structure ErF (K : PySem.W.Frag) (mg : Str → Option Value) (x : Str) (C : Addr) (qual : Str) (st : Stmt) (ps : List Str) : Prop where
  T : OexC K C
  m : mg x = some (.ref C)
  ex : ∃ (fI : Addr) (fd : FuncData), PySem.W.findIn K (.ref C) "__init__" = some (some (.ref fI)) ∧ PySem.W.typeIn K (.ref fI) = some (.type "function") ∧ Binds K fd ps [] ∧ Fun K "__init__" qual st fI fd
theorem del_made {H : Hp} {a d : Addr} {o1 o2 o3 o4 : HO} (ha : H a = none) (hd : H d = none) (n : d ≠ a) : L2.upd (del (L2.upd (L2.upd (L2.upd H a o1) d o2) a o3) a) d o4 = L2.upd H d o4 := by
  funext b
  by_cases h1 : b = d
  · rw [h1, upd_same, upd_same]
  · rw [upd_ne h1, upd_ne h1]
    by_cases h2 : b = a
    · rw [h2, del_same, ha]
    · rw [del_ne h2, upd_ne h2, upd_ne h1, upd_ne h2]
theorem del_made2 {H : Hp} {a d : Addr} {o1 o2 o3 o4 o5 : HO} (ha : H a = none) (hd : H d = none) (n : d ≠ a) : L2.upd (del (L2.upd (L2.upd (L2.upd (L2.upd H a o1) d o2) a o3) d o5) a) d o4 = L2.upd H d o4 := by
  funext b
  by_cases h1 : b = d
  · rw [h1, upd_same, upd_same]
  · rw [upd_ne h1, upd_ne h1]
    by_cases h2 : b = a
    · rw [h2, del_same, ha]
    · rw [del_ne h2, upd_ne h1, upd_ne h2, upd_ne h1, upd_ne h2]

section
variable {X : Cx} {x : Str} {C : Addr} {ps : List Str} {sp : Sp} {e : Expr} {es : List Expr} {ta : TA} {p pos : Pos}
theorem pmk_er (R : ErC X.prog X.w X.K X.mg X.base x C ps sp) (hr : Room 2 X.A) (hg : Gl X x) (ha : PA X (e :: es) ta)
    (hdb : (x == ("__debug__" : Str)) = false := by decide) (hs : starEach (e :: es) X.env = (false, eval e X.env) :: starEach es X.env := by rfl) (hpl : (backTo pos (starEach es X.env)).any (·.1) = false := by rfl) :
    PMk X (.Call (.Name x p) (e :: es) [] pos) (tMkO C sp [] ta) := by
  obtain ⟨fI, fd, i1, i2, hb, F⟩ := R.ex
  exact pmk_oex R.T i1 i2 F hr hb .nil (fun _ _ _ _ _ _ _ z => z.elim) hg R.m ha hdb hs hpl
/-- f(e, ..), where what f raises is wished for at the slots -/
theorem pe_dS {k : Nat} {E : L2.St → XK} (D : Dk X.prog X.w X.K X.mg X.base (L2.CX X.prog X.w) k x ps sp) (hr : Room k X.A) (hx : ∀ σ, PassesAt (L2.CX X.prog X.w) X σ (E σ)) (hg : Gl X x) (ha : PA X (e :: es) ta)
    (hdb : (x == ("__debug__" : Str)) = false := by decide) (hs : starEach (e :: es) X.env = (false, eval e X.env) :: starEach es X.env := by rfl) (hpl : (backTo pos (starEach es X.env)).any (·.1) = false := by rfl) :
    PE X (.Call (.Name x p) (e :: es) [] pos) (tCallS sp E ta) := by
  obtain ⟨f, fd, hm, hk, hb, F⟩ := D
  exact pe_callS F hr hg hm hk hb hx ha hdb hs hpl
end
theorem look1 {f : Str} {v : V} : List.lookup f [(f, v)] = some v := by simp [List.lookup]
theorem exc_xf {K : PySem.W.Frag} {D : Addr} (h : ExcC K D) : XfC K D := ⟨h.hg, h.hk, h.hs, h.hd⟩
theorem kitAny_no {K : PySem.W.Frag} {t c : Value} {cs : List Value} (h : PySem.W.kitOne K t c = some false) (r : PySem.W.kitAny K t cs = some false) : PySem.W.kitAny K t (c :: cs) = some false := kitAny_cons h (fun _ => r) fun z => nomatch z
theorem HeldAt.same {H H' : Hp} {a D : Addr} (h : HeldAt H a D) (s : Same H H') : HeldAt H' a D := by
  obtain ⟨d, e, q⟩ := h
  refine ⟨d, s _ _ e, ?_⟩
  rcases q with q | ⟨dd, fs, e1, e2⟩
  · exact .inl q
  · exact .inr ⟨dd, fs, e1, s _ _ e2⟩
theorem kStr {K : PySem.W.Frag} : PySem.W.kitOne K (.type "str") (.type "str") = some true := kit_ty (by decide +kernel)
end Brk

set_option Elab.async false
set_option linter.all false
set_option maxRecDepth 100000
set_option maxHeartbeats 4000000
/-! Own words about texts: written numbers. -/
namespace Brk
open PySem PySem.Spec PyProof.Rows L2
/-! ### written numbers, as lists of signs -/
def digL (l : List Nat) : Bool := l.all fun c => decide (48 ≤ c ∧ c ≤ 57)
theorem digL_all {l : List Nat} : digL l = true ↔ NumText.AllDigits l := by
  unfold digL NumText.AllDigits
  simp
/-- the digits behind a minus -/
def bodyL : List Nat → List Nat
  | 45 :: r => r
  | l => l
def negL : List Nat → Bool
  | 45 :: _ => true
  | _ => false
def valL (l : List Nat) : Option Int :=
  if 1 ≤ (bodyL l).length ∧ (bodyL l).length ≤ 40 then
    if digL (bodyL l) = true then
      if (bodyL l).head? = some 48 ∧ (negL l = true ∨ 1 < (bodyL l).length) then none
      else some (if negL l = true then 0 - (NumText.digitsVal (bodyL l) : Int) else (NumText.digitsVal (bodyL l) : Int))
    else none
  else none
def numberB (l : List Nat) : Bool :=
  if l = [48] then true else decide (1 ≤ (bodyL l).length) && (decide ((bodyL l).length ≤ 40) && (!decide ((bodyL l).head? = some 48) && digL (bodyL l)))
theorem number_val (l : List Nat) : numberB l = (valL l).isSome := by
  unfold numberB valL
  by_cases h0 : l = [48]
  · subst h0
    decide
  · rw [if_neg h0]
    by_cases h1 : 1 ≤ (bodyL l).length ∧ (bodyL l).length ≤ 40
    · rw [if_pos h1, decide_eq_true h1.1, decide_eq_true h1.2]
      by_cases h2 : digL (bodyL l) = true
      · rw [if_pos h2, h2]
        by_cases h3 : (bodyL l).head? = some 48
        · rw [decide_eq_true h3]
          by_cases h4 : negL l = true ∨ 1 < (bodyL l).length
          · rw [if_pos ⟨h3, h4⟩]
            rfl
          · exfalso
            have h5 : ¬ negL l = true := fun z => h4 (.inl z)
            have h6 : ¬ 1 < (bodyL l).length := fun z => h4 (.inr z)
            have e : bodyL l = l := by
              unfold bodyL
              split
              · exact absurd rfl h5
              · rfl
            rw [e] at h3 h6 h1
            match l, h3, h6, h1 with
            | [x], h3, _, _ =>
              have ex : x = 48 := by simpa using h3
              exact h0 (by rw [ex])
            | [], _, _, h1 => simp at h1
            | _ :: _ :: _, _, h6, _ => simp at h6
        · rw [decide_eq_false h3, if_neg (fun z => h3 z.1)]
          rfl
      · rw [if_neg h2, Bool.eq_false_iff.mpr h2]
        simp
    · rw [if_neg h1]
      by_cases h2 : 1 ≤ (bodyL l).length
      · rw [decide_eq_true h2, decide_eq_false (fun z => h1 ⟨h2, z⟩)]
        rfl
      · rw [decide_eq_false h2]
        rfl
/-- digits without a needless zero ahead are the signs of their value -/
theorem num_of_digits : ∀ (n : Nat) (l : List Nat), l.length = n → NumText.AllDigits l → l ≠ [] → (l.head? = some 48 → l.length = 1) → TL.numL (NumText.digitsVal l) = l ∧ (l.head? ≠ some 48 → 1 ≤ NumText.digitsVal l) := by
  intro n
  induction n with
  | zero =>
    intro l h _ hn
    exact absurd (List.length_eq_zero_iff.mp h) hn
  | succ n ih =>
    intro l h hd hn hz
    obtain ⟨r, c, rfl⟩ : ∃ r c, l = r ++ [c] := ⟨l.dropLast, l.getLast hn, (List.dropLast_concat_getLast hn).symm⟩
    have hc : 48 ≤ c ∧ c ≤ 57 := hd c (by simp)
    have hv : NumText.digitsVal (r ++ [c]) = NumText.digitsVal r * 10 + (c - 48) := by
      unfold NumText.digitsVal
      rw [List.foldl_append]
      rfl
    by_cases hr : r = []
    · subst hr
      have e : NumText.digitsVal ([] ++ [c]) = c - 48 := by rw [hv]; show 0 * 10 + (c - 48) = _; omega
      rw [e]
      constructor
      · rw [TL.numL_lt (by omega)]
        show [48 + (c - 48)] = [c]
        congr 1
        omega
      · intro q
        have : c ≠ 48 := fun z => q (by rw [z]; rfl)
        omega
    · have hrl : r.length = n := by
        rw [List.length_append, List.length_singleton] at h
        omega
      have h0 : r.head? ≠ some 48 := by
        intro q
        have q2 : (r ++ [c]).head? = some 48 := by
          rw [List.head?_append, q]
          rfl
        have z := hz q2
        rw [List.length_append, List.length_singleton] at z
        exact hr (List.length_eq_zero_iff.mp (by omega))
      obtain ⟨i1, i2⟩ := ih r hrl (fun x hx => hd x (by simp [hx])) hr (fun q => absurd q h0)
      have p := i2 h0
      rw [hv]
      constructor
      · rw [TL.numL_step (by omega)]
        have e1 : (NumText.digitsVal r * 10 + (c - 48)) / 10 = NumText.digitsVal r := by omega
        have e2 : 48 + (NumText.digitsVal r * 10 + (c - 48)) % 10 = c := by omega
        rw [e1, e2, i1]
      · intro _
        omega

/-! ### texts and their signs -/
theorem str_ext {a b : Str} (h : a.cps.toList = b.cps.toList) : a = b := by
  obtain ⟨x⟩ := a
  obtain ⟨y⟩ := b
  have e : x = y := Array.toList_inj.mp h
  rw [e]
theorem body_neg {l : List Nat} (h : negL l = true) : l = 45 :: bodyL l := by
  unfold negL at h
  split at h
  · rfl
  · exact absurd h Bool.false_ne_true
theorem body_pos {l : List Nat} (h : negL l = false) : bodyL l = l := by
  unfold negL at h
  unfold bodyL
  split at h
  · exact absurd h.symm Bool.false_ne_true
  · rfl
theorem body_len (l : List Nat) : (bodyL l).length ≤ l.length := by
  unfold bodyL
  split <;> simp
theorem val_parts {l : List Nat} {v : Int} (h : valL l = some v) : 1 ≤ (bodyL l).length ∧ (bodyL l).length ≤ 40 ∧ NumText.AllDigits (bodyL l) ∧ ((bodyL l).head? = some 48 → (bodyL l).length = 1 ∧ negL l = false) ∧
    v = (if negL l = true then 0 - (NumText.digitsVal (bodyL l) : Int) else (NumText.digitsVal (bodyL l) : Int)) := by
  unfold valL at h
  split at h
  · rename_i h1
    split at h
    · rename_i h2
      split at h
      · cases h
      · rename_i h3
        refine ⟨h1.1, h1.2, digL_all.mp h2, fun q => ?_, (Option.some.inj h).symm⟩
        constructor
        · have z : ¬ 1 < (bodyL l).length := fun z => h3 ⟨q, .inr z⟩
          have := h1.1
          omega
        · exact Bool.eq_false_iff.mpr fun z => h3 ⟨q, .inl z⟩
    · cases h
  · cases h
theorem int_of_text {z : Str} {v : Int} (h : valL z.cps.toList = some v) : intText? z = some v := by
  obtain ⟨h1, h2, h3, h4, rfl⟩ := val_parts h
  have ne : bodyL z.cps.toList ≠ [] := fun e => by rw [e] at h1; exact absurd h1 (by decide)
  have hl : z.length = z.cps.toList.length := (Array.length_toList).symm
  cases hn : negL z.cps.toList with
  | true =>
    have e := body_neg hn
    have q := intText_neg e h3 ne (by rw [hl, e, List.length_cons]; omega)
    rw [q, if_pos rfl]
    congr 1
    omega
  | false =>
    have e := body_pos hn
    rw [e] at h1 h2 h3 ne ⊢
    have q := intText_digits h3 ne (by rw [hl]; omega)
    rw [q, if_neg Bool.false_ne_true]
theorem text_of_int {z : Str} {v : Int} (h : valL z.cps.toList = some v) : Str.ofString (toString v) = z := by
  obtain ⟨h1, h2, h3, h4, rfl⟩ := val_parts h
  have ne : bodyL z.cps.toList ≠ [] := fun e => by rw [e] at h1; exact absurd h1 (by decide)
  obtain ⟨d1, d2⟩ := num_of_digits _ _ rfl h3 ne (fun q => (h4 q).1)
  refine str_ext ?_
  cases hn : negL z.cps.toList with
  | true =>
    have h0 : (bodyL z.cps.toList).head? ≠ some 48 := fun q => by
      have := (h4 q).2
      rw [hn] at this
      cases this
    have p := d2 h0
    have e := body_neg hn
    rw [if_pos rfl, PyProof.Rows.toString_neg (by omega)]
    have e2 : (0 - (0 - (NumText.digitsVal (bodyL z.cps.toList) : Int))) = ((NumText.digitsVal (bodyL z.cps.toList) : Nat) : Int) := by omega
    rw [e2, signs_ofString, String.toList_append, List.map_append, ← signs_ofString (toString _)]
    have e3 := TL.tl_num (NumText.digitsVal (bodyL z.cps.toList))
    unfold TL.tl at e3
    rw [e3, d1, e]
    rfl
  | false =>
    have e := body_pos hn
    rw [if_neg Bool.false_ne_true]
    have e3 := TL.tl_num (NumText.digitsVal (bodyL z.cps.toList))
    unfold TL.tl at e3
    rw [e3, d1, e]
theorem digits_lt : ∀ {l : List Nat}, NumText.AllDigits l → NumText.digitsVal l < 10 ^ l.length := by
  have key : ∀ (l : List Nat) (a k : Nat), NumText.AllDigits l → a < 10 ^ k → l.foldl (fun acc c => acc * 10 + (c - 48)) a < 10 ^ (k + l.length) := by
    intro l
    induction l with
    | nil => intro a k _ h; exact h
    | cons c r ih =>
      intro a k h ha
      have hc := h c (List.mem_cons_self ..)
      have q := ih (a * 10 + (c - 48)) (k + 1) (fun x hx => h x (List.mem_cons_of_mem _ hx)) (by rw [Nat.pow_succ]; omega)
      rw [List.foldl_cons, List.length_cons]
      have e : k + (r.length + 1) = k + 1 + r.length := by omega
      rw [e]
      exact q
  intro l h
  have q := key l 0 0 h (by decide)
  rw [Nat.zero_add] at q
  exact q
theorem val_small {l : List Nat} {v : Int} (h : valL l = some v) : v.natAbs.log2 < 1920 := by
  obtain ⟨h1, h2, h3, h4, rfl⟩ := val_parts h
  have q := digits_lt h3
  have b : NumText.digitsVal (bodyL l) < 10 ^ 40 := Nat.lt_of_lt_of_le q (Nat.pow_le_pow_right (by decide) h2)
  have e : (if negL l = true then 0 - (NumText.digitsVal (bodyL l) : Int) else (NumText.digitsVal (bodyL l) : Int)).natAbs = NumText.digitsVal (bodyL l) := by
    split <;> omega
  rw [e]
  by_cases z : NumText.digitsVal (bodyL l) = 0
  · rw [z]
    decide
  · exact (Nat.log2_lt z).mpr (Nat.lt_of_lt_of_le (m := 2 ^ 133) (by omega) (Nat.pow_le_pow_right (by decide) (by decide)))
/-- the first sign, the rest -/
theorem cut_first {z : Str} : decide (V.str (cutS z none (some 1)) = V.str "-") = negL z.cps.toList := by
  have e : (cutS z none (some 1)).cps.toList = z.cps.toList.take 1 := by
    unfold cutS
    rw [HT.sIx_none]
    have e1 : HT.sIx z.length z.length (some 1) = min 1 z.length := HT.sIx_nat _ _ 1
    rw [e1]
    show ((z.cps.toList.drop 0).take (min 1 z.length - 0)) = _
    rw [List.drop_zero, Nat.sub_zero]
    have hl : z.length = z.cps.toList.length := (Array.length_toList).symm
    rw [hl, List.take_eq_take_iff]
    omega
  have m : ("-" : Str).cps.toList = [45] := by decide +kernel
  cases hn : negL z.cps.toList with
  | true =>
    refine decide_eq_true ?_
    congr 1
    refine str_ext ?_
    rw [e, m, body_neg hn]
    rfl
  | false =>
    refine decide_eq_false fun q => ?_
    have q2 := congrArg (fun s : Str => s.cps.toList) (V.str.inj q)
    simp only [e, m] at q2
    cases hz : z.cps.toList with
    | nil => rw [hz] at q2; cases q2
    | cons c r =>
      rw [hz] at q2 hn
      have ec : c = 45 := by simpa using q2
      rw [ec] at hn
      cases hn
theorem cut_rest {z : Str} (h : negL z.cps.toList = true) : (cutS z (some 1) none).cps.toList = bodyL z.cps.toList := by
  have e := body_neg h
  have hl : z.length = z.cps.toList.length := (Array.length_toList).symm
  unfold cutS
  have e1 : HT.sIx z.length 0 (some 1) = min 1 z.length := HT.sIx_nat _ _ 1
  rw [e1, HT.sIx_none]
  have e2 : min 1 z.length = 1 := by rw [hl, e, List.length_cons]; omega
  rw [e2]
  show (z.cps.toList.drop 1).take (z.length - 1) = _
  rw [List.take_of_length_le (by rw [List.length_drop, ← hl]; exact Nat.le_refl _)]
  rw [e]
  rfl

theorem cut_prefix {z : Str} : (Txt.removeprefix z "-").cps.toList = bodyL z.cps.toList := by
  have hl : z.length = z.cps.toList.length := (Array.length_toList).symm
  have em : ("-" : Str) = ⟨#[45]⟩ := by decide +kernel
  unfold Txt.removeprefix
  rw [em]
  cases hn : negL z.cps.toList with
  | true =>
    have e := body_neg hn
    have h1 : Builtin.Str.subAt z ⟨#[45]⟩ 0 = true := ((StrLaws.subAt_one z 45 0).mpr (by rw [e]; rfl)).2
    rw [h1, if_pos rfl]
    have h2 : 1 ≤ z.length := by rw [hl, e, List.length_cons]; omega
    show (Txt.affix z (some (1, z.length))).cps.toList = _
    unfold Txt.affix
    have h3 : (z.length - 1 == z.length) = false := by
      rw [beq_eq_false_iff_ne]
      omega
    dsimp only
    rw [h3, if_neg Bool.false_ne_true]
    show (z.cps.extract 1 z.length).toList = _
    rw [Array.toList_extract, List.extract_eq_drop_take]
    rw [List.take_of_length_le (by rw [List.length_drop, hl]; exact Nat.le_refl _)]
    rw [e]
    rfl
  | false =>
    have h1 : Builtin.Str.subAt z ⟨#[45]⟩ 0 = false := by
      refine Bool.eq_false_iff.mpr fun q => ?_
      cases hz : z.cps.toList with
      | nil =>
        have ez : z = ⟨#[]⟩ := str_ext hz
        rw [ez] at q
        exact absurd q (by decide +kernel)
      | cons c r =>
        have q2 := (StrLaws.subAt_one z 45 0).mp ⟨by rw [hl, hz]; show 0 + 1 ≤ r.length + 1; omega, q⟩
        rw [hz] at q2 hn
        have ec : c = 45 := by simpa using q2
        rw [ec] at hn
        cases hn
    rw [h1, if_neg Bool.false_ne_true, body_pos hn]
    rfl
theorem find_dig {c : Nat} (h : 48 ≤ c ∧ c ≤ 57) : Txt.find "0123456789" ⟨#[c]⟩ = (c : Int) - 48 := by
  have q : c = 48 ∨ c = 49 ∨ c = 50 ∨ c = 51 ∨ c = 52 ∨ c = 53 ∨ c = 54 ∨ c = 55 ∨ c = 56 ∨ c = 57 := by omega
  rcases q with rfl | rfl | rfl | rfl | rfl | rfl | rfl | rfl | rfl | rfl <;> decide +kernel
theorem dig_mem {c : Nat} : c ∈ ("0123456789" : Str).cps.toList ↔ 48 ≤ c ∧ c ≤ 57 := by
  have e : ("0123456789" : Str).cps.toList = [48, 49, 50, 51, 52, 53, 54, 55, 56, 57] := by decide +kernel
  rw [e]
  simp only [List.mem_cons, List.not_mem_nil, or_false]
  omega
theorem find_no {c : Nat} (h : ¬ (48 ≤ c ∧ c ≤ 57)) : Txt.find "0123456789" ⟨#[c]⟩ = -1 := by
  have q := StrLaws.found_one "0123456789" c
  rw [decide_eq_false (fun z => h (dig_mem.mp z))] at q
  unfold Txt.find
  cases e : Builtin.Str.occurrences "0123456789" ⟨#[c]⟩ 0 ("0123456789" : Str).length 1 with
  | nil => rfl
  | cons x r =>
    rw [e] at q
    cases q
/-- a for over a text's signs -/
theorem for_text {x : Str} {g : TG} {tb : TS} {D : Ends} {σ : L2.St} {H : Hp} (Pv : Nat → L2.St → Hp → Prop) (h0 : Pv 0 σ H)
    (hs : ∀ (i c : Nat) (σ : L2.St) (H : Hp), x.cps[i]? = some c → Pv i σ H → g (.str ⟨#[c]⟩) σ H fun σ2 H2 => tb { D with nx := Pv (i + 1), ct := Pv (i + 1), bk := D.nx } σ2 H2) (hd : ∀ σ H, Pv x.cps.size σ H → D.nx σ H) :
    ∃ W : Nat → Nat → L2.St → Hp → Prop, (∃ m, W 0 m σ H) ∧ ∀ i m σ H, W i m σ H →
      ((Its x).stop i H ∧ D.nx σ H) ∨ ((Its x).go i H ∧ ∃ N : L2.St → Hp → Prop, (∀ σ' H', N σ' H' → ∃ m', m' < m ∧ W (i + 1) m' σ' H') ∧ ∀ y H', (Its x).yld i H y H' → g y σ H' fun σ2 H2 => tb { D with nx := N, ct := N, bk := D.nx } σ2 H2) := by
  refine ⟨fun i m σ H => m + i = x.cps.size ∧ Pv i σ H, ⟨x.cps.size, rfl, h0⟩, ?_⟩
  intro i m σ H hh
  obtain ⟨hm, p⟩ := hh
  by_cases z : m = 0
  · subst z
    have e : i = x.cps.size := by omega
    subst e
    exact Or.inl ⟨Nat.le_refl _, hd σ H p⟩
  · refine Or.inr ⟨by show i < x.cps.size; omega, Pv (i + 1), fun _ _ p' => ⟨m - 1, by omega, by omega, p'⟩, ?_⟩
    intro y H' yy
    obtain ⟨e, c, hc, ey⟩ := yy
    subst e ey
    exact hs i c σ _ hc p
section
variable {X : Cx}
/-- text * number: some text, of so many signs -/
theorem op_mulS : OpR X (binaryOp .Mult) (fun x y H Q => ∃ (z : Str) (i : Int), x = .str z ∧ y = .int i ∧ z.length ≤ 16 ∧ 0 ≤ i ∧ i ≤ 1000000 ∧ ∀ r : Str, (r.length : Int) = (z.length : Int) * i → Q (.str r) H) := by
  intro pins s σ H x y v u Q I rx ry h
  obtain ⟨z, i, rfl, rfl, h1, h2, h3, q⟩ := h
  obtain ⟨t, rfl⟩ := rx
  obtain ⟨t', rfl⟩ := ry
  refine PySem.W.KXi.mul rfl h1 (by omega) (by omega) fun t2 k _ e => ?_
  exact ⟨.str _, H, I.tok _, ⟨_, rfl⟩, q _ (e h2)⟩
end

def spIsNumber : Sp := fun vs H Q _ => ∃ (z : Str), vs = [.str z] ∧ z.length ≤ 100000 ∧ ∀ H', Same H H' → Q (.bl (numberB z.cps.toList)) H'

def vOpt : Option Int → V
  | some v => .int v
  | none => .non
def spValue : Sp := fun vs H Q _ => ∃ (z : Str), vs = [.str z] ∧ z.length ≤ 600 ∧ Q (vOpt (valL z.cps.toList)) H
def spReadNumber (C : Addr) : Sp := fun vs H Q E => ∃ (z : Str), vs = [.str z] ∧ z.length ≤ 600 ∧ (∀ v, valL z.cps.toList = some v → ∀ H', Same H H' → Q (.int v) H') ∧
  (valL z.cps.toList = none → ∀ H' d, Same H H' → H' d = none → E (.ref C) (some d) (L2.upd H' d (.xd [("text", .str z)])))
def spWriteNumber : Sp := fun vs H Q _ => ∃ (v : Int), vs = [.int v] ∧ v.natAbs.log2 < 1920 ∧ Q (.str (Str.ofString (toString v))) H
def spReadT : Sp := fun vs H Q _ => ∃ (z : Str), vs = [.str z] ∧ z.length ≤ 600 ∧ ∀ H', Same H H' → Q (.bl true) H'

theorem catL {a b : Str} (ha : a.length ≤ 1000) (hb : b.length ≤ 1000) : a.length + b.length ≤ sizeLine := Nat.le_trans (Nat.add_le_add ha hb) (by decide)
theorem cutS_len {z : Str} {lo hi : Option Int} : (cutS z lo hi).length ≤ z.length := by
  have h1 : (cutS z lo hi).length = ((z.cps.toList.drop (HT.sIx z.length 0 lo)).take (HT.sIx z.length z.length hi - HT.sIx z.length 0 lo)).length := by
    unfold cutS
    exact (Array.length_toList).symm
  have h2 : z.length = z.cps.toList.length := (Array.length_toList).symm
  rw [h1, h2, List.length_take, List.length_drop]
  omega
theorem str_at {z : Str} {i : Int} (h0 : 0 ≤ i) (h1 : i < z.length) : ∃ c, z.cps[i.toNat]? = some c := by
  have h : z.length = z.cps.size := rfl
  exact ⟨_, Array.getElem?_eq_getElem (by omega)⟩
theorem one_len {c : Nat} : (⟨#[c]⟩ : Str).length = 1 := rfl
theorem join_small {y : Str} (hy : y.length = 0) : ∀ {ys : List Str}, (∀ x ∈ ys, x.length ≤ 1) → (Txt.join y ys).length ≤ ys.length := by
  have key : ∀ (ys : List Str), (∀ x ∈ ys, x.length ≤ 1) → (Str.join y ys).length ≤ ys.length := by
    intro ys
    induction ys with
    | nil => intro _; exact Nat.le_refl _
    | cons a r ih =>
      intro h
      cases r with
      | nil =>
        have := h a (List.mem_singleton.mpr rfl)
        exact this
      | cons b q =>
        have i1 := ih fun x hx => h x (List.mem_cons_of_mem _ hx)
        have i2 := h a (List.mem_cons_self ..)
        show (a ++ y ++ Str.join y (b :: q)).length ≤ _
        rw [Str.length_append, Str.length_append, List.length_cons]
        omega
  intro ys h
  rw [TL.join_eq]
  exact key ys h
def spNear : Sp := fun vs H Q _ => ∃ (z : Str), vs = [.str z] ∧ z.length ≤ 100 ∧ ∀ (p : Addr) (ys : List Str) (H' : Hp), Same H H' → H' p = some (.lst (ys.map V.str)) → (∀ y ∈ ys, y.length ≤ 600) → Q (.ref p) H'
def spWritten : Sp := fun vs H Q _ => ∃ (p c : Addr) (ns : List Int), vs = [.ref p] ∧ Pool ns c H p ∧ ∀ (y : Str) (H' : Hp), y.length ≤ 60 → Pool ns c H' p → Q (.str y) H'
def spOther : Sp := fun vs H Q _ => ∃ (p c : Addr) (ns : List Int) (z : Str), vs = [.ref p, .str z] ∧ Pool ns c H p ∧ z.length ≤ 60 ∧ ∀ (y : Str) (H' : Hp), y.length ≤ 300 → Pool ns c H' p → Q (.str y) H'
end Brk

set_option Elab.async false
set_option linter.all false
set_option maxRecDepth 100000
set_option maxHeartbeats 4000000
namespace Brk.K00
open PySem L2 Brk
def top (i : Nat) : Stmt := PySem.Challenge.pw_barbreaks_k00_numbers_back.main.body.getD i (.Pass ⟨0, 0, 0, 0⟩)
abbrev s_l_take : Stmt := top 17
theorem sc_l_take : FnScope ["_law_pool_here", "_law_size", "_law_cells", "_law_mixed", "_law_cell", "_law_digit"] ["_law_pool_here", "_law_size"] (defScope s_l_take) := ⟨rfl, rfl, rfl, by decide +kernel, rfl, by decide +kernel, by decide +kernel⟩
abbrev s_l_pool : Stmt := top 16
theorem sc_l_pool : FnScope ["_law_script", "_law_seed", "_law_cell"] ["_law_script"] (defScope s_l_pool) := ⟨rfl, rfl, rfl, by decide +kernel, rfl, by decide +kernel, by decide +kernel⟩
abbrev s_l_is_int : Stmt := top 15
theorem sc_l_is_int : FnScope ["_law_x"] ["_law_x"] (defScope s_l_is_int) := ⟨rfl, rfl, rfl, by decide +kernel, rfl, by decide +kernel, by decide +kernel⟩
abbrev s_BadText_init : Stmt := inClass (top 4) 0
theorem sc_BadText_init : FnScope ["self", "text"] ["self", "text"] (defScope s_BadText_init) := ⟨rfl, rfl, rfl, by decide +kernel, rfl, by decide +kernel, by decide +kernel⟩
abbrev s_is_number : Stmt := top 12
theorem sc_is_number : FnScope ["text", "digits", "sign"] ["text"] (defScope s_is_number) := ⟨rfl, rfl, rfl, by decide +kernel, rfl, by decide +kernel, by decide +kernel⟩
abbrev s_write_number : Stmt := top 11
theorem sc_write_number : FnScope ["number"] ["number"] (defScope s_write_number) := ⟨rfl, rfl, rfl, by decide +kernel, rfl, by decide +kernel, by decide +kernel⟩
abbrev s_read_number : Stmt := top 13
theorem sc_read_number : FnScope ["text"] ["text"] (defScope s_read_number) := ⟨rfl, rfl, rfl, by decide +kernel, rfl, by decide +kernel, by decide +kernel⟩
abbrev s_l_value : Stmt := top 21
theorem sc_l_value : FnScope ["_law_text", "_law_minus", "_law_digits", "_law_value_here", "_law_char", "_law_at"] ["_law_text"] (defScope s_l_value) := ⟨rfl, rfl, rfl, by decide +kernel, rfl, by decide +kernel, by decide +kernel⟩
abbrev s_l_read : Stmt := top 22
theorem sc_l_read : FnScope ["_law_text", "_law_found", "_law_value_here", "e", "_law_due", "_law_told"] ["_law_text"] (defScope s_l_read) := ⟨rfl, rfl, rfl, by decide +kernel, rfl, by decide +kernel, by decide +kernel⟩
abbrev s_l_near : Stmt := top 20
theorem sc_l_near : FnScope ["_law_text", "_law_rows"] ["_law_text"] (defScope s_l_near) := ⟨rfl, rfl, rfl, by decide +kernel, rfl, by decide +kernel, by decide +kernel⟩
abbrev s_l_written : Stmt := top 18
theorem sc_l_written : FnScope ["_law_pool_here", "_law_many", "_law_shape", "_law_text", "_law_k"] ["_law_pool_here"] (defScope s_l_written) := ⟨rfl, rfl, rfl, by decide +kernel, rfl, by decide +kernel, by decide +kernel⟩
abbrev s_l_other : Stmt := top 19
theorem sc_l_other : FnScope ["_law_pool_here", "_law_text", "_law_signs", "_law_way", "_law_at", "_law_sign", "_law_size", "_law_k"] ["_law_pool_here", "_law_text"] (defScope s_l_other) := ⟨rfl, rfl, rfl, by decide +kernel, rfl, by decide +kernel, by decide +kernel⟩
abbrev s_law : Stmt := top 23
theorem sc_law : FnScope ["_law_script", "_law_pool_here", "_law_text", "_law_other_here", "_law_one"] ["_law_script"] (defScope s_law) := ⟨rfl, rfl, rfl, by decide +kernel, rfl, by decide +kernel, by decide +kernel⟩
structure Txt (K : PySem.W.Frag) (mg : Str → Option Value) (C_BadText : Addr) (C_BarbreaksError : Addr) (C_BadLine : Addr) (C_BadName : Addr) (C_BadNumber : Addr) (C_BadWord : Addr) (C_Refused : Addr) : Prop where
  l_take : Df K mg "_law_take" s_l_take ["_law_pool_here", "_law_size"]
  b_int : mg "int" = none
  b_len : mg "len" = none
  l_pool : Df K mg "_law_pool" s_l_pool ["_law_script"]
  b_list : mg "list" = none
  l_is_int : Df K mg "_law_is_int" s_l_is_int ["_law_x"]
  b_isinstance : mg "isinstance" = none
  b_bool : mg "bool" = none
  er_BadText : ErF K mg "BadText" C_BadText "BadText.__init__" s_BadText_init ["self", "text"]
  g_BadText : mg "BadText" = some (.ref C_BadText)
  xn_BadText_text : PySem.W.findIn K (.ref C_BadText) "text" = some none
  is_number : Df K mg "is_number" s_is_number ["text"]
  b_all : mg "all" = none
  v_MOST_DIGITS : ∃ u, mg "MOST_DIGITS" = some u ∧ RelV (.int 40) u
  v_DIGITS : ∃ u, mg "DIGITS" = some u ∧ RelV (.str "0123456789") u
  write_number : Df K mg "write_number" s_write_number ["number"]
  b_str : mg "str" = none
  read_number : Df K mg "read_number" s_read_number ["text"]
  l_value : Df K mg "_law_value" s_l_value ["_law_text"]
  l_read : Df K mg "_law_read" s_l_read ["_law_text"]
  b_ValueError : mg "ValueError" = none
  g_BarbreaksError : mg "BarbreaksError" = some (.ref C_BarbreaksError)
  ec_BadText : ExcC K C_BadText
  xm_BadText_BarbreaksError : PySem.W.exmOne K (.ref C_BadText) (.ref C_BarbreaksError) = some true
  ko_BadText_BadText : PySem.W.kitOne K (.ref C_BadText) (.ref C_BadText) = some true
  ko_BadText_ValueError : PySem.W.kitOne K (.ref C_BadText) (.type "ValueError") = some true
  g_BadLine : mg "BadLine" = some (.ref C_BadLine)
  g_BadName : mg "BadName" = some (.ref C_BadName)
  g_BadNumber : mg "BadNumber" = some (.ref C_BadNumber)
  g_BadWord : mg "BadWord" = some (.ref C_BadWord)
  g_Refused : mg "Refused" = some (.ref C_Refused)
  ko_BadText_BadLine : PySem.W.kitOne K (.ref C_BadText) (.ref C_BadLine) = some false
  ko_BadText_BadName : PySem.W.kitOne K (.ref C_BadText) (.ref C_BadName) = some false
  ko_BadText_BadNumber : PySem.W.kitOne K (.ref C_BadText) (.ref C_BadNumber) = some false
  ko_BadText_BadWord : PySem.W.kitOne K (.ref C_BadText) (.ref C_BadWord) = some false
  ko_BadText_Refused : PySem.W.kitOne K (.ref C_BadText) (.ref C_Refused) = some false
  l_near : Df K mg "_law_near" s_l_near ["_law_text"]
  l_written : Df K mg "_law_written" s_l_written ["_law_pool_here"]
  b_range : mg "range" = none
  l_other : Df K mg "_law_other" s_l_other ["_law_pool_here", "_law_text"]
  law : Df K mg "law" s_law ["_law_script"]
section
variable {P : Program} {w : World} {K : PySem.W.Frag} {mg : Str → Option Value} {base : Heap} {C_BadText : Addr} {C_BarbreaksError : Addr} {C_BadLine : Addr} {C_BadName : Addr} {C_BadNumber : Addr} {C_BadWord : Addr} {C_Refused : Addr}
theorem ok_l_take (T : Txt K mg C_BadText C_BarbreaksError C_BadLine C_BadName C_BadNumber C_BadWord C_Refused) : Dk P w K mg base CX0 1 "_law_take" ["_law_pool_here", "_law_size"] spTake := by
  obtain ⟨f, fd, g, F, b⟩ := T.l_take
  refine ⟨f, fd, g, F.kp, b, F.ok sc_l_take (fun vs H Q E h => ?_) (fun cdv A outer s H vs Q E hr h => ?_)⟩
  · obtain ⟨p, c, ns, n, rfl, _⟩ := h
    rfl
  · obtain ⟨p, c, ns, n, rfl, hp, hn, hn9, k⟩ := h
    obtain ⟨⟨l, hl, z, i, t, d, hi, rfl⟩, hc⟩ := id hp
    refine ⟨_, (pss_cons (ps_set (i := 2) sc_l_take.nd rfl (Or.inl rfl) (pe_ix ix_list (pv 0) pe_int (fun _ _ => rfl)))
  (pss_cons (ps_asg (pe_op op_add (pe_ix ix_list (pv 0) pe_int (fun _ _ => rfl)) pe_int) (pg_sub (pv 0) pe_int set_list))
  (pss_cons (ps_set (i := 3) sc_l_take.nd rfl (Or.inl rfl) (pe_op op_mod (pe_callTy call_int1 (by rfl) T.b_int (by decide +kernel) (pa_cons (pe_op op_add (pe_op op_add (pe_op op_mul (pe_ix ix_list (pv 0) pe_int (fun _ _ => rfl)) pe_int) (pe_op op_mul (pe_ix ix_list (pv 0) pe_int (fun _ _ => rfl)) pe_int)) pe_int) pa_nil)) pe_int))
  (C8.pss_cut (ps_if (PW.pt (pw_and (pt_cmpR op_eq (pe_ix ix_list (pv 0) pe_int (fun _ _ => rfl)) pe_int (nomark _)) (pw_and1 (pt_cmpR op_lt (pe_ix ix_list (pv 0) pe_int (fun _ _ => rfl)) (pe_callB call_len_seq (by rfl) T.b_len (by decide +kernel) (pa_cons (pv 2) pa_nil)) (nomark _)))))
  (pss_cons (ps_set (i := 4) sc_l_take.nd rfl (Or.inl rfl) (pe_callTy call_int1 (by rfl) T.b_int (by decide +kernel) (pa_cons (pe_ix ix_list (pv 2) (pe_ix ix_list (pv 0) pe_int (fun _ _ => rfl)) (fun _ _ => rfl)) pa_nil)))
  (pss_cons (ps_asg (pe_op op_add (pe_ix ix_list (pv 0) pe_int (fun _ _ => rfl)) pe_int) (pg_sub (pv 0) pe_int set_list))
  (pss_cons (ps_set (i := 3) sc_l_take.nd rfl (Or.inl rfl) (pe_op op_mod (pe_callTy call_int1 (by rfl) T.b_int (by decide +kernel) (pa_cons (pe_op op_add (pe_op op_add (pe_op op_mul (pv 4) pe_int) (pe_ix ix_list (pv 0) pe_int (fun _ _ => rfl))) (pe_op op_mul (pe_ix ix_list (pv 0) pe_int (fun _ _ => rfl)) pe_int)) pa_nil)) pe_int))
  (pss_one (ps_if (pt_cmpR op_ge (pv 4) (pe_op op_pow pe_int pe_int) (nomark _))
  (pss_one (ps_asg (pv 4) (pg_sub (pv 0) pe_int set_list)))
  pss_nil)))))
  pss_nil)
  (pss_cons (ps_if (pt_cmpR op_gt (pe_ix ix_list (pv 0) pe_int (fun _ _ => rfl)) pe_int (nomark _))
  (pss_cons (ps_set (i := 5) sc_l_take.nd rfl (Or.inl rfl) (pe_op op_mod (pe_callTy call_int1 (by rfl) T.b_int (by decide +kernel) (pa_cons (pe_ix ix_list (pv 0) pe_int (fun _ _ => rfl)) pa_nil)) (pv 1)))
  (pss_cons (ps_asg (pe_op op_fdivW (pe_ix ix_list (pv 0) pe_int (fun _ _ => rfl)) (pv 1)) (pg_sub (pv 0) pe_int set_list))
  (pss_one (ps_ret (pv 5)))))
  pss_nil)
  (pss_cons (ps_set (i := 3) sc_l_take.nd rfl (Or.inl rfl) (pe_op op_mod (pe_callTy call_int1 (by rfl) T.b_int (by decide +kernel) (pa_cons (pe_op op_add (pe_op op_mul (pv 3) pe_int) (pe_op op_fdivW (pv 3) pe_int)) pa_nil)) pe_int))
  (pss_one (ps_ret (pe_op op_mod (pe_callTy call_int1 (by rfl) T.b_int (by decide +kernel) (pa_cons (pv 3) pa_nil)) (pv 1)))))))))), ?_⟩
    -- cells = pool[4]; pool[2] = pool[2] + 1
    refine ⟨_, rfl, _, _, _, _, rfl, rfl, SqL.of hl, rfl, ?_⟩
    refine ⟨_, rfl, _, _, _, _, rfl, rfl, SqL.of hl, rfl, _, _, rfl, rfl, _, rfl, _, _, _, _, rfl, rfl, hl, rfl, ?_⟩
    have hp1 : Pool ns c (upd H p (.lst [.int z, .int i, .int (t + 1), .int d, .ref c])) p := hp.upd ⟨_, _, _, _, hi, rfl⟩
    have o1 : Off p H (upd H p (.lst [.int z, .int i, .int (t + 1), .int d, .ref c])) := Off.upd
    have hl1 : upd H p (.lst [.int z, .int i, .int (t + 1), .int d, .ref c]) p = some (.lst [.int z, .int i, .int (t + 1), .int d, .ref c]) := upd_same
    -- mixed = int(pool[3] * 48271 + pool[2] * 69621 + 19) % 2147483647
    refine ⟨_, rfl, _, _, _, _, rfl, rfl, SqL.of hl1, rfl, _, _, rfl, rfl, (.inr ⟨by decide, by decide⟩), _, rfl, _, _, _, _, rfl, rfl, SqL.of hl1, rfl, _, _, rfl, rfl, (.inr ⟨by decide, by decide⟩), _, _, rfl, rfl, _, _, rfl, rfl, .inl ⟨_, rfl, _, _, rfl, rfl, pos_m7, ?_⟩⟩
    generalize (d * 48271 + (t + 1) * 69621 + 19) % 2147483647 = mx
    -- the first if, joined
    refine ⟨fun σ H' => ∃ (m1 : Int) (c1 : Option V) (z1 i1 t1 d1 : Int), σ = [some (.ref p), some (.int n), some (.ref c), some (.int m1), c1, none] ∧ 0 ≤ i1 ∧ H' p = some (.lst [.int z1, .int i1, .int t1, .int d1, .ref c]) ∧ Off p H H', ?_, ?_⟩
    · refine ⟨_, rfl, _, _, _, _, rfl, rfl, SqL.of hl1, rfl, rfl, _, rfl, ?_⟩
      refine ite2 (fun hz => ?_) (fun _ => iteF ⟨_, _, _, _, _, _, rfl, hi, hl1, o1⟩)
      have hc1 : upd H p (.lst [.int z, .int i, .int (t + 1), .int d, .ref c]) c = some (.lst (ns.map V.int)) := hp1.cells
      refine ⟨_, rfl, _, _, _, _, rfl, rfl, SqL.of hl1, rfl, _, rfl, c, _, rfl, .inl (SqL.of hc1), _, _, rfl, rfl, _, rfl, ?_⟩
      refine ite2 (fun hlt => ?_) (fun _ => ⟨_, _, _, _, _, _, rfl, hi, hl1, o1⟩)
      have hlt' : i < ((ns.map V.int).length : Int) := of_decide_eq_true hlt
      rw [List.length_map] at hlt'
      obtain ⟨v, hv⟩ : ∃ v, ns[i.toNat]? = some v := ⟨_, List.getElem?_eq_getElem (by omega)⟩
      -- cell = int(cells[pool[1]])
      refine ⟨_, rfl, _, rfl, _, _, _, _, rfl, rfl, SqL.of hl1, rfl, c, _, i, V.int v, rfl, rfl, SqL.of hc1, atI_ge hi (by rw [List.getElem?_map, hv]; rfl), .inl ⟨_, rfl, ?_⟩⟩
      -- pool[1] = pool[1] + 1
      refine ⟨_, rfl, _, _, _, _, rfl, rfl, SqL.of hl1, rfl, _, _, rfl, rfl, _, rfl, _, _, _, _, rfl, rfl, hl1, rfl, ?_⟩
      have hl2 : upd (upd H p (.lst [.int z, .int i, .int (t + 1), .int d, .ref c])) p (.lst [.int z, .int (i + 1), .int (t + 1), .int d, .ref c]) p = some (.lst [.int z, .int (i + 1), .int (t + 1), .int d, .ref c]) := upd_same
      have o2 : Off p H (upd (upd H p (.lst [.int z, .int i, .int (t + 1), .int d, .ref c])) p (.lst [.int z, .int (i + 1), .int (t + 1), .int d, .ref c])) := o1.trans Off.upd
      refine ⟨_, rfl, _, _, rfl, rfl, (.inr ⟨by decide, by decide⟩), _, rfl, _, _, _, _, rfl, rfl, SqL.of hl2, rfl, _, _, rfl, rfl, _, rfl, _, _, _, _, rfl, rfl, SqL.of hl2, rfl, _, _, rfl, rfl, (.inr ⟨by decide, by decide⟩), _, _, rfl, rfl, .inl ⟨_, rfl, _, _, rfl, rfl, pos_m7, ?_⟩⟩
      refine ⟨_, rfl, _, _, rfl, rfl, ⟨by decide, by decide, by decide⟩, _, _, rfl, rfl, _, rfl, ?_⟩
      refine ite2 (fun _ => ?_) (fun _ => ⟨_, _, _, _, _, _, rfl, by omega, hl2, o2⟩)
      refine ⟨_, rfl, _, rfl, _, _, _, _, rfl, rfl, hl2, rfl, ?_⟩
      exact ⟨_, _, v, i + 1, t + 1, d, rfl, by omega, upd_same, o2.trans Off.upd⟩
    · rintro σ H2 ⟨m1, c1, z1, i1, t1, d1, rfl, hi1, hl2, o2⟩
      have hp2 : Pool ns c H2 p := ⟨⟨_, hl2, _, _, _, _, hi1, rfl⟩, (o2 c hp.ne).trans hc⟩
      -- if pool[0] > 0: digit = int(pool[0]) % size; pool[0] = pool[0] // size; return digit
      refine ⟨_, rfl, _, _, _, _, rfl, rfl, SqL.of hl2, rfl, _, _, rfl, rfl, _, rfl, ?_⟩
      refine ite2 (fun _ => ?_) (fun _ => ?_)
      · refine ⟨_, rfl, _, _, _, _, rfl, rfl, SqL.of hl2, rfl, .inl ⟨_, rfl, _, rfl, _, _, rfl, rfl, hn, ?_⟩⟩
        refine ⟨_, rfl, _, _, _, _, rfl, rfl, SqL.of hl2, rfl, _, rfl, _, _, rfl, rfl, ⟨hn, hn9⟩, _, rfl, _, _, _, _, rfl, rfl, hl2, rfl, ?_⟩
        refine ⟨_, rfl, ?_⟩
        exact k _ _ (Int.emod_nonneg _ (by omega)) (Int.emod_lt_of_pos _ hn) (hp2.upd ⟨_, _, _, _, hi1, rfl⟩) (o2.trans Off.upd)
      · refine ⟨_, rfl, _, _, rfl, rfl, (.inr ⟨by decide, by decide⟩), _, rfl, _, _, rfl, rfl, ⟨by decide, by decide +kernel⟩, _, _, rfl, rfl, .inl ⟨_, rfl, _, _, rfl, rfl, pos_m9, ?_⟩⟩
        refine ⟨_, rfl, .inl ⟨_, rfl, _, rfl, _, _, rfl, rfl, hn, ?_⟩⟩
        exact k _ _ (Int.emod_nonneg _ (by omega)) (Int.emod_lt_of_pos _ hn) hp2 o2

theorem ok_l_pool (T : Txt K mg C_BadText C_BarbreaksError C_BadLine C_BadName C_BadNumber C_BadWord C_Refused) : Dk P w K mg base CX0 1 "_law_pool" ["_law_script"] (spPool K) := by
  obtain ⟨f, fd, g, F, b⟩ := T.l_pool
  refine ⟨f, fd, g, F.kp, b, F.ok sc_l_pool (fun vs H Q E h => ?_) (fun cdv A outer s H vs Q E hr h => ?_)⟩
  · obtain ⟨a, ns, rfl, _⟩ := h
    rfl
  · obtain ⟨a, ns, rfl, hS, hlen, k⟩ := h
    refine ⟨_, (pss_cons (ps_set (i := 1) sc_l_pool.nd rfl (Or.inl rfl) pe_int)
  (pss_cons (ps_for PassesOwn.never rfl (pi_list (pv 0)) (pg_name (i := 2) sc_l_pool.nd rfl (Or.inl rfl))
  (pss_one (ps_set (i := 1) sc_l_pool.nd rfl (Or.inl rfl) (pe_op op_mod (pe_callTy call_int1 (by rfl) T.b_int (by decide +kernel) (pa_cons (pe_op op_add (pe_op op_add (pe_op op_mul (pv 1) pe_int) (pe_op op_mul (pe_callTy call_int1 (by rfl) T.b_int (by decide +kernel) (pa_cons (pv 2) pa_nil)) pe_int)) pe_int) pa_nil)) pe_int))))
  (pss_one (ps_ret (pe_lst (pa_cons pe_int (pa_cons pe_int (pa_cons pe_int (pa_cons (pv 1) (pa_cons (pe_callTy call_list_of (by rfl) T.b_list (by decide +kernel) (pa_cons (pv 0) pa_nil)) pa_nil)))))))))), ?_⟩
    refine ⟨_, rfl, a, rfl, ⟨_, hS⟩, for_list (K := K) (a := a) (xs := ns.map V.int) (fun i σ H' => ∃ (d : Int) (v : Option V), σ = [some (.ref a), some (.int d), v] ∧ H' = H) ⟨7, none, rfl, rfl⟩ (fun i σ H' _ ⟨_, _, _, e⟩ => by rw [e]; exact hS) ?_ ?_⟩
    · rintro i y σ H' hi ⟨d, v, rfl, rfl⟩
      obtain ⟨z, _, rfl⟩ := ints_at hi
      refine ⟨_, rfl, _, _, rfl, rfl, (.inr ⟨by decide, by decide⟩), _, rfl, .inl ⟨_, rfl, _, _, rfl, rfl, (.inr ⟨by decide, by decide⟩), _, _, rfl, rfl, _, _, rfl, rfl, .inl ⟨_, rfl, _, _, rfl, rfl, pos_m7, ?_⟩⟩⟩
      exact ⟨_, _, rfl, rfl⟩
    · rintro σ H' ⟨d, v, rfl, rfl⟩
      refine ⟨_, rfl, _, rfl, a, _, rfl, .inl hS, fun c hc => ⟨(by show 5 ≤ sizeLine; decide), fun p hp => ?_⟩⟩
      have npc : c ≠ p := fun e => by
        rw [← e, upd_same] at hp
        cases hp
      have hp0 : H' p = none := by
        rw [upd_ne npc.symm] at hp
        exact hp
      refine k p c _ ⟨⟨_, upd_same, 0, 0, 0, d, by decide, rfl⟩, (upd_ne npc).trans upd_same⟩ hp0 hc fun b o e => ?_
      rw [upd_ne (ne_of_none e hp0), upd_ne (ne_of_none e hc)]
      exact e

theorem ok_l_is_int (T : Txt K mg C_BadText C_BarbreaksError C_BadLine C_BadName C_BadNumber C_BadWord C_Refused) : Dk P w K mg base CX0 1 "_law_is_int" ["_law_x"] (spIsInt K) := by
  obtain ⟨f, fd, g, F, b⟩ := T.l_is_int
  refine ⟨f, fd, g, F.kp, b, F.ok sc_l_is_int (fun vs H Q E h => ?_) (fun cdv A outer s H vs Q E hr h => ?_)⟩
  · obtain ⟨x, t, b1, b2, rfl, _⟩ := h
    rfl
  · obtain ⟨x, t, b1, b2, rfl, ty, k1, k2, k⟩ := h
    refine ⟨_, (pss_one (ps_ret (pe_and (pe_callB call_isi (by rfl) T.b_isinstance (by decide +kernel) (pa_cons (pv 0) (pa_cons (pe_bltn (v := .ty "int") (by rfl) T.b_int (by decide +kernel) rfl) pa_nil))) (pe_one (pe_not (pe_callB call_isi (by rfl) T.b_isinstance (by decide +kernel) (pa_cons (pv 0) (pa_cons (pe_bltn (v := .ty "bool") (by rfl) T.b_bool (by decide +kernel) rfl) pa_nil)))))))), ?_⟩
    refine ⟨_, rfl, x, _, t, _, b1, rfl, .ty _, ty, k1, b1, rfl, ?_⟩
    cases b1 with
    | false => exact iteF k
    | true => exact iteT ⟨_, rfl, x, _, t, _, b2, rfl, .ty _, ty, k2, b2, rfl, k⟩

theorem er_BadText (T : Txt K mg C_BadText C_BarbreaksError C_BadLine C_BadName C_BadNumber C_BadWord C_Refused) : ErC P w K mg base "BadText" C_BadText ["self", "text"] (spEr1 C_BadText "text") := by
  obtain ⟨R, m, fI, fd, a, t, b, F⟩ := T.er_BadText
  refine ⟨R, m, fI, fd, a, t, b, F.ok sc_BadText_init (fun vs H Q E h => ?_) (fun cdv A outer s H vs Q E hr h => ?_)⟩
  · obtain ⟨a, v, rfl, _⟩ := h
    rfl
  · obtain ⟨a, v, rfl, ha, k⟩ := h
    refine ⟨_, (pss_one (ps_ost (pv 0) (pv 1))), ?_⟩
    exact ⟨_, rfl, _, rfl, a, C_BadText, rfl, R, T.xn_BadText_text, .inl ⟨ha, fun dx n ne => k dx n ne⟩⟩

theorem ok_is_number (T : Txt K mg C_BadText C_BarbreaksError C_BadLine C_BadName C_BadNumber C_BadWord C_Refused) : Dk P w K mg base CX0 1 "is_number" ["text"] spIsNumber := by
  obtain ⟨f, fd, g, F, b⟩ := T.is_number
  refine ⟨f, fd, g, F.kp, b, F.ok sc_is_number (fun vs H Q E h => ?_) (fun cdv A outer s H vs Q E hr h => ?_)⟩
  · obtain ⟨z, rfl, _⟩ := h
    rfl
  · obtain ⟨z, rfl, hz, k⟩ := h
    refine ⟨_, (pss_cons (ps_if (pt_cmpR op_eq (pv 0) pe_str (nomark _))
  (pss_one (ps_ret pe_bl))
  pss_nil)
  (pss_cons (ps_set (i := 1) sc_is_number.nd rfl (Or.inl rfl) (pe_m1 PySem.F.slot_str_removeprefix PySem.F.type_str_removeprefix mt_removeprefix (pv 0) pe_str))
  (pss_cons (ps_if (PW.pt (pw_or (pt_not (pt_chain op_le op_le pe_int (pe_callB call_len_str (by rfl) T.b_len (by decide +kernel) (pa_cons (pv 1) pa_nil)) (C8.pe_gc (by rfl) T.v_MOST_DIGITS))) (pw_or1 (pt_cmpR op_eq (pe_item_str (pv 1) pe_int (fun _ _ => rfl)) pe_str (nomark _)))))
  (pss_one (ps_ret pe_bl))
  pss_nil)
  (pss_one (ps_ret (pe_callB (cr_all rfl) (by rfl) T.b_all (by decide +kernel) (pa_cons (pe_lc (own := [("sign", 2)]) (g := gName 2) (tt := tYes) (by rfl) sc_is_number.nd (pi_str (pv 1)) (blkOk_by (own := [("sign", 2)]) (N := ["text", "digits", "sign"]) (sc := defScope s_is_number) (by decide +kernel)) (fun _ _ _ _ _ => pg_name (i := 2) sc_is_number.nd rfl (Or.inl rfl)) (fun _ _ _ _ _ => pts_nil) (fun _ _ _ _ _ => (pe_cmpR op_in_sign (pv 2) (C8.pe_gc (by rfl) T.v_DIGITS) (by rfl)))) pa_nil))))))), ?_⟩
    have hsz : z.length ≤ sizeLine := Nat.le_trans hz (by decide)
    have e0 : ("0" : Str).cps.toList = [48] := by decide +kernel
    refine ⟨_, rfl, rfl, _, rfl, ?_⟩
    refine ite2 (fun h0 => ?_) (fun h0 => ?_)
    · have q : z = "0" := V.str.inj (of_decide_eq_true h0)
      have r := k H (Same.refl H)
      rw [q, e0] at r
      exact r
    have h0' : ¬ z.cps.toList = [48] := fun q => h0 (decide_eq_true (congrArg V.str (str_ext (q.trans e0.symm))))
    have hB : numberB z.cps.toList = (decide (1 ≤ (bodyL z.cps.toList).length) && (decide ((bodyL z.cps.toList).length ≤ 40) && (!decide ((bodyL z.cps.toList).head? = some 48) && digL (bodyL z.cps.toList)))) := by
      unfold numberB
      rw [if_neg h0']
    have no : numberB z.cps.toList = false → Q (.bl false) H := fun e => by have q := k H (Same.refl H); rw [e] at q; exact q
    refine ⟨_, rfl, ⟨z, rfl⟩, z, "-", rfl, rfl, hsz, ?_⟩
    have hb : (Txt.removeprefix z "-").cps.toList = bodyL z.cps.toList := cut_prefix
    generalize Txt.removeprefix z "-" = y at hb
    have hyl : y.length = (bodyL z.cps.toList).length := by rw [← hb]; exact (Array.length_toList).symm
    have hys : y.length ≤ sizeLine := by
      rw [hyl]
      refine Nat.le_trans (body_len _) (Nat.le_trans (Nat.le_of_eq ?_) hsz)
      exact Array.length_toList
    refine ⟨_, rfl, y, rfl, hys, _, _, rfl, rfl, _, rfl, ?_⟩
    refine ite2 (fun h1 => ?_) (fun h1 => ?_)
    · refine ⟨_, _, rfl, rfl, _, rfl, ?_⟩
      have h1' : (1 : Int) ≤ (y.length : Int) := of_decide_eq_true h1
      by_cases h2 : (y.length : Int) ≤ 40
      · rw [decide_eq_true h2]
        refine iteF ?_
        have hs1 : 0 < y.cps.size := by
          have : y.length = y.cps.size := rfl
          omega
        have hc : y.cps[(0 : Int).toNat]? = some (y.cps.getD 0 0) := by
          show y.cps[0]? = _
          rw [Array.getElem?_eq_getElem hs1]
          simp [Array.getD, hs1]
        have hh : (bodyL z.cps.toList).head? = some (y.cps.getD 0 0) := by
          rw [← hb, ← hc, List.head?_eq_getElem?]
          exact (Array.getElem?_toList).symm ▸ rfl
        refine ⟨_, rfl, y, 0, _, rfl, rfl, by decide, by decide, by omega, hc, rfl, _, rfl, ?_⟩
        have e48 : decide (V.str ⟨#[y.cps.getD 0 0]⟩ = V.str "0") = decide ((bodyL z.cps.toList).head? = some 48) := by
          rw [hh]
          rw [Bool.eq_iff_iff, decide_eq_true_iff, decide_eq_true_iff]
          constructor
          · intro q
            have q2 := congrArg (fun s : Str => s.cps.toList) (V.str.inj q)
            simp only [e0] at q2
            have q3 : [y.cps.getD 0 0] = [48] := q2
            rw [List.singleton_inj.mp q3]
          · intro q
            rw [Option.some.inj q]
            exact congrArg V.str (str_ext e0.symm)
        rw [e48]
        by_cases h3 : (bodyL z.cps.toList).head? = some 48
        · rw [decide_eq_true h3]
          refine iteT (no ?_)
          rw [hB, decide_eq_true h3]
          simp
        · rw [decide_eq_false h3]
          refine iteF ?_
          refine ⟨_, rfl, y, rfl, fun D hD => ?_⟩
          refine lc_text (fun i H' => H' = upd H D (.lst ((y.cps.toList.take i).map fun c => .bl (decide (48 ≤ c ∧ c ≤ 57))))) (by simp) ?_ ?_
          · rintro i c H' hc rfl
            refine ⟨rfl, ?_⟩
            have hi : i < y.cps.size := (Array.getElem?_eq_some_iff.mp hc).1
            have hcl : y.cps.toList[i]? = some c := by rw [← hc]; exact Array.getElem?_toList.symm ▸ rfl
            refine ⟨_, rfl, c, _, rfl, rfl, _, upd_same, ?_, ?_⟩
            · rw [List.length_map, List.length_take]
              exact Nat.lt_of_le_of_lt (Nat.min_le_left _ _) (Nat.lt_of_lt_of_le hi hys)
            · have ed : decide (c ∈ ("0123456789" : Str).cps.toList) = decide (48 ≤ c ∧ c ≤ 57) := by
                rw [Bool.eq_iff_iff, decide_eq_true_iff, decide_eq_true_iff]
                exact dig_mem
              rw [ed, upd_upd, List.take_succ, hcl]
              simp
          · rintro H' rfl
            refine ⟨D, (bodyL z.cps.toList).map (fun c => decide (48 ≤ c ∧ c ≤ 57)), rfl, SqL.of (xs := ((bodyL z.cps.toList).map fun c => decide (48 ≤ c ∧ c ≤ 57)).map V.bl) ?_, ?_⟩
            · rw [upd_same, List.map_map, List.take_of_length_le (by rw [Array.length_toList]; exact Nat.le_refl _), hb]
              rfl
            · have e : numberB z.cps.toList = ((bodyL z.cps.toList).map fun c => decide (48 ≤ c ∧ c ≤ 57)).all id := by
                rw [hB, decide_eq_true (by omega : 1 ≤ (bodyL z.cps.toList).length), decide_eq_true (by omega : (bodyL z.cps.toList).length ≤ 40), decide_eq_false h3, List.all_map]
                rfl
              rw [← e]
              exact k _ (Same.new hD)
      · rw [decide_eq_false h2]
        refine iteT (no ?_)
        rw [hB, decide_eq_false (by omega : ¬ (bodyL z.cps.toList).length ≤ 40)]
        simp
    · refine ⟨_, rfl, ?_⟩
      refine iteT (no ?_)
      have h1' : ¬ (1 : Int) ≤ (y.length : Int) := fun e => h1 (decide_eq_true e)
      rw [hB, decide_eq_false (by omega : ¬ 1 ≤ (bodyL z.cps.toList).length)]
      rfl

theorem ok_write_number (T : Txt K mg C_BadText C_BarbreaksError C_BadLine C_BadName C_BadNumber C_BadWord C_Refused) : Dk P w K mg base CX0 1 "write_number" ["number"] spWriteNumber := by
  obtain ⟨f, fd, g, F, b⟩ := T.write_number
  refine ⟨f, fd, g, F.kp, b, F.ok sc_write_number (fun vs H Q E h => ?_) (fun cdv A outer s H vs Q E hr h => ?_)⟩
  · obtain ⟨v, rfl, _⟩ := h
    rfl
  · obtain ⟨v, rfl, hv, k⟩ := h
    refine ⟨_, (pss_one (ps_ret (pe_callTy call_str_int (by rfl) T.b_str (by decide +kernel) (pa_cons (pv 0) pa_nil)))), ?_⟩
    exact ⟨_, rfl, _, rfl, hv, k⟩

theorem ok_read_number (T : Txt K mg C_BadText C_BarbreaksError C_BadLine C_BadName C_BadNumber C_BadWord C_Refused) : Dk P w K mg base (L2.CX P w) 3 "read_number" ["text"] (spReadNumber C_BadText) := by
  have D_is_number := ok_is_number (P := P) (w := w) (base := base) T
  have ER_BadText := er_BadText (P := P) (w := w) (base := base) T
  obtain ⟨f, fd, g, F, b⟩ := T.read_number
  refine ⟨f, fd, g, F.kp, b, F.okX sc_read_number (fun vs H Q E h => ?_) (fun cdv A outer s H vs Q E hr h => ?_)⟩
  · obtain ⟨z, rfl, _⟩ := h
    rfl
  · obtain ⟨z, rfl, hz, k1, k2⟩ := h
    refine ⟨_, (pss_cons (ps_if (pt_not (pt_val (pe_d D_is_number (hr.mono (by decide)) pass0 (by rfl) (pa_cons (pv 0) pa_nil))))
  (pss_one (ps_raise rfl (takes_of rfl rfl rfl rfl) (pmk_er ER_BadText (hr.mono (by decide)) (by rfl) (pa_cons (pv 0) pa_nil))))
  pss_nil)
  (pss_one (ps_ret (pe_callTy call_int_str (by rfl) T.b_int (by decide +kernel) (pa_cons (pv 0) pa_nil))))), ?_⟩
    refine ⟨_, rfl, z, rfl, by omega, fun H1 s1 => ⟨_, rfl, ?_⟩⟩
    rw [number_val]
    cases hv : valL z.cps.toList with
    | none =>
      refine iteT ⟨_, rfl, (by show 1 ≤ 1000; decide), fun a ha => ⟨a, _, rfl, upd_same, fun d hd hda => ⟨rfl, d, _, upd_same, (upd_ne hda).trans upd_same, (upd_ne hda).symm.trans hd, ?_⟩⟩⟩
      rw [del_made ha ((upd_ne hda).symm.trans hd) hda]
      exact k2 hv _ _ s1 ((upd_ne hda).symm.trans hd)
    | some v =>
      refine iteF ⟨_, rfl, z, v, rfl, int_of_text hv, by omega, ?_⟩
      exact k1 v hv _ s1

theorem ok_l_value (T : Txt K mg C_BadText C_BarbreaksError C_BadLine C_BadName C_BadNumber C_BadWord C_Refused) : Dk P w K mg base CX0 1 "_law_value" ["_law_text"] spValue := by
  obtain ⟨f, fd, g, F, b⟩ := T.l_value
  refine ⟨f, fd, g, F.kp, b, F.ok sc_l_value (fun vs H Q E h => ?_) (fun cdv A outer s H vs Q E hr h => ?_)⟩
  · obtain ⟨z, rfl, _⟩ := h
    rfl
  · obtain ⟨z, rfl, hz, k⟩ := h
    refine ⟨_, (pss_cons (ps_set (i := 1) sc_l_value.nd rfl (Or.inl rfl) (pe_cmpR op_eq (pe_slice sl_str (pv 0) po_none (po_some pe_int)) pe_str (nomark _)))
  (pss_cons (ps_set (i := 2) sc_l_value.nd rfl (Or.inl rfl) (pv 0))
  (C8.pss_cut (ps_if (pt_val (pv 1))
  (pss_one (ps_set (i := 2) sc_l_value.nd rfl (Or.inl rfl) (pe_slice sl_str (pv 0) (po_some pe_int) po_none)))
  pss_nil)
  (pss_cons (ps_if (pt_not (pt_chain op_le op_le pe_int (pe_callB call_len_str (by rfl) T.b_len (by decide +kernel) (pa_cons (pv 2) pa_nil)) pe_int))
  (pss_one (ps_ret pe_non))
  pss_nil)
  (pss_cons (ps_set (i := 3) sc_l_value.nd rfl (Or.inl rfl) pe_int)
  (pss_cons (ps_for PassesOwn.never rfl (pi_str (pv 2)) (pg_name (i := 4) sc_l_value.nd rfl (Or.inl rfl))
  (pss_cons (ps_set (i := 5) sc_l_value.nd rfl (Or.inl rfl) (pe_m1 PySem.F.slot_str_find PySem.F.type_str_find mt_find pe_str (pv 4)))
  (pss_cons (ps_if (pt_cmpR op_lt (pv 5) pe_int (nomark _))
  (pss_one (ps_ret pe_non))
  pss_nil)
  (pss_one (ps_set (i := 3) sc_l_value.nd rfl (Or.inl rfl) (pe_op op_add (pe_op op_mul (pv 3) pe_int) (pv 5)))))))
  (C8.pss_cut (ps_if (PW.pt (pw_and (pt_cmpR op_eq (pe_item_str (pv 2) pe_int (fun _ _ => rfl)) pe_str (nomark _)) (pw_and1 (PW.pt (pw_or (pt_val (pv 1)) (pw_or1 (pt_cmpR op_gt (pe_callB call_len_str (by rfl) T.b_len (by decide +kernel) (pa_cons (pv 2) pa_nil)) pe_int (nomark _))))))))
  (pss_one (ps_ret pe_non))
  pss_nil)
  (pss_cons (ps_if (pt_val (pv 1))
  (pss_one (ps_ret (pe_op op_sub pe_int (pv 3))))
  pss_nil)
  (pss_one (ps_ret (pv 3))))))))))), ?_⟩
    have hsz : z.length ≤ sizeLine := Nat.le_trans hz (by decide)
    have e0 : ("0" : Str).cps.toList = [48] := by decide +kernel
    refine ⟨_, rfl, _, rfl, z, rfl, hsz, rfl, ?_⟩
    rw [cut_first]
    refine ⟨_, rfl, ?_⟩
    -- digits
    refine ⟨fun σ H' => H' = H ∧ ∃ y : Str, y.cps.toList = bodyL z.cps.toList ∧ σ = [some (.str z), some (.bl (negL z.cps.toList)), some (.str y), none, none, none], ?_, ?_⟩
    · refine ⟨_, rfl, _, rfl, ?_⟩
      cases hn : negL z.cps.toList with
      | true => exact iteT ⟨_, rfl, _, rfl, z, rfl, hsz, rfl, _, cut_rest hn, rfl⟩
      | false => exact iteF ⟨rfl, z, (body_pos hn).symm, rfl⟩
    rintro σ H' ⟨rfl, y, hb, rfl⟩
    have hyl : y.length = (bodyL z.cps.toList).length := by rw [← hb]; exact (Array.length_toList).symm
    have hyz : y.length ≤ 600 := by
      rw [hyl]
      refine Nat.le_trans (body_len _) (Nat.le_trans (Nat.le_of_eq ?_) hz)
      exact Array.length_toList
    have hys : y.length ≤ sizeLine := Nat.le_trans hyz (by decide)
    have no : valL z.cps.toList = none → Q .non H' := fun e => by rw [e] at k; exact k
    have hV : valL z.cps.toList = (if 1 ≤ (bodyL z.cps.toList).length ∧ (bodyL z.cps.toList).length ≤ 40 then (if digL (bodyL z.cps.toList) = true then (if (bodyL z.cps.toList).head? = some 48 ∧ (negL z.cps.toList = true ∨ 1 < (bodyL z.cps.toList).length) then none
      else some (if negL z.cps.toList = true then 0 - (NumText.digitsVal (bodyL z.cps.toList) : Int) else (NumText.digitsVal (bodyL z.cps.toList) : Int))) else none) else none) := rfl
    refine ⟨_, rfl, y, rfl, hys, _, _, rfl, rfl, _, rfl, ?_⟩
    by_cases h1 : (1 : Int) ≤ (y.length : Int)
    rotate_left
    · rw [decide_eq_false h1]
      refine iteF ⟨_, rfl, iteT (no ?_)⟩
      rw [hV, if_neg (fun q => h1 (by have := q.1; omega))]
    rw [decide_eq_true h1]
    refine iteT ⟨_, _, rfl, rfl, _, rfl, ?_⟩
    by_cases h2 : (y.length : Int) ≤ 40
    rotate_left
    · rw [decide_eq_false h2]
      refine iteT (no ?_)
      rw [hV, if_neg (fun q => h2 (by have := q.2; omega))]
    rw [decide_eq_true h2]
    refine iteF ?_
    have hin : 1 ≤ (bodyL z.cps.toList).length ∧ (bodyL z.cps.toList).length ≤ 40 := ⟨by omega, by omega⟩
    rw [if_pos hin] at hV
    -- the loop
    refine ⟨_, rfl, y, rfl, for_text (fun i σ H2 => H2 = H' ∧ NumText.AllDigits (y.cps.toList.take i) ∧ ∃ (x4 x5 : Option V), σ = [some (.str z), some (.bl (negL z.cps.toList)), some (.str y), some (.int (NumText.digitsVal (y.cps.toList.take i) : Int)), x4, x5]) ⟨rfl, fun c hc => by simp at hc, _, _, rfl⟩ ?_ ?_⟩
    · rintro i c σ H2 hc ⟨rfl, hd, x4, x5, rfl⟩
      have hcl : y.cps.toList[i]? = some c := by rw [← hc]; exact Array.getElem?_toList.symm ▸ rfl
      have ht : y.cps.toList.take (i + 1) = y.cps.toList.take i ++ [c] := by
        rw [List.take_succ, hcl]
        rfl
      have hmem : c ∈ bodyL z.cps.toList := by rw [← hb]; exact List.mem_of_getElem? hcl
      refine ⟨⟨_, rfl⟩, _, rfl, _, _, rfl, rfl, ?_⟩
      by_cases hdg : 48 ≤ c ∧ c ≤ 57
      · rw [find_dig hdg]
        refine ⟨_, rfl, _, _, rfl, rfl, false, bl_f (by omega), iteF ?_⟩
        refine ⟨_, rfl, _, _, rfl, rfl, (.inr ⟨by decide, by decide⟩), _, rfl, _, _, rfl, rfl, ?_⟩
        refine ⟨rfl, fun x hx => ?_, some (.str ⟨#[c]⟩), some (.int ((c : Int) - 48)), ?_⟩
        · rw [ht] at hx
          rcases List.mem_append.mp hx with q | q
          · exact hd x q
          · rw [List.mem_singleton.mp q]
            exact hdg
        · have ev : ((NumText.digitsVal (y.cps.toList.take (i + 1)) : Nat) : Int) = (NumText.digitsVal (y.cps.toList.take i) : Int) * 10 + ((c : Int) - 48) := by
            rw [ht]
            unfold NumText.digitsVal
            rw [List.foldl_append]
            show ((List.foldl (fun acc c => acc * 10 + (c - 48)) 0 (y.cps.toList.take i) * 10 + (c - 48) : Nat) : Int) = _
            omega
          rw [ev]
          rfl
      · rw [find_no hdg]
        refine ⟨_, rfl, _, _, rfl, rfl, true, bl_t (by decide), iteT (no ?_)⟩
        rw [hV, if_neg (fun q => hdg ((digL_all.mp q) c hmem))]
    · rintro σ H2 ⟨rfl, hd, x4, x5, rfl⟩
      have hall : y.cps.toList.take y.cps.size = bodyL z.cps.toList := by
        rw [List.take_of_length_le (by rw [Array.length_toList]; exact Nat.le_refl _), hb]
      rw [hall] at hd
      rw [hall]
      rw [if_pos (digL_all.mpr hd)] at hV
      have hs1 : 0 < y.cps.size := by
        have : y.length = y.cps.size := rfl
        omega
      have hc : y.cps[(0 : Int).toNat]? = some (y.cps.getD 0 0) := by
        show y.cps[0]? = _
        rw [Array.getElem?_eq_getElem hs1]
        simp [Array.getD, hs1]
      have hh : (bodyL z.cps.toList).head? = some (y.cps.getD 0 0) := by
        rw [← hb, ← hc, List.head?_eq_getElem?]
        exact (Array.getElem?_toList).symm ▸ rfl
      have e48 : decide (V.str ⟨#[y.cps.getD 0 0]⟩ = V.str "0") = decide ((bodyL z.cps.toList).head? = some 48) := by
        rw [hh]
        rw [Bool.eq_iff_iff, decide_eq_true_iff, decide_eq_true_iff]
        constructor
        · intro q
          have q2 := congrArg (fun s : Str => s.cps.toList) (V.str.inj q)
          simp only [e0] at q2
          have q3 : [y.cps.getD 0 0] = [48] := q2
          rw [List.singleton_inj.mp q3]
        · intro q
          rw [Option.some.inj q]
          exact congrArg V.str (str_ext e0.symm)
      -- the last two ifs
      have fin : ¬ ((bodyL z.cps.toList).head? = some 48 ∧ (negL z.cps.toList = true ∨ 1 < (bodyL z.cps.toList).length)) → Q (vOpt (some (if negL z.cps.toList = true then 0 - (NumText.digitsVal (bodyL z.cps.toList) : Int) else (NumText.digitsVal (bodyL z.cps.toList) : Int)))) H2 := fun q => by
        rw [hV, if_neg q] at k
        exact k
      refine ⟨fun σ H3 => H3 = H2 ∧ ¬ ((bodyL z.cps.toList).head? = some 48 ∧ (negL z.cps.toList = true ∨ 1 < (bodyL z.cps.toList).length)) ∧ σ = [some (.str z), some (.bl (negL z.cps.toList)), some (.str y), some (.int (NumText.digitsVal (bodyL z.cps.toList) : Int)), x4, x5], ?_, ?_⟩
      · refine ⟨_, rfl, y, 0, _, rfl, rfl, by decide, by decide, by omega, hc, rfl, _, rfl, ?_⟩
        rw [e48]
        by_cases h3 : (bodyL z.cps.toList).head? = some 48
        · rw [decide_eq_true h3]
          refine iteT ⟨_, rfl, _, rfl, ?_⟩
          cases hn : negL z.cps.toList with
          | true =>
            refine iteT (iteT (no ?_))
            rw [hV, if_pos ⟨h3, .inl hn⟩]
          | false =>
            refine iteF ⟨_, rfl, y, rfl, hys, _, _, rfl, rfl, _, rfl, ?_⟩
            refine ite2 (fun h4 => no ?_) (fun h4 => ⟨rfl, fun q => ?_, rfl⟩)
            · have h4' : (1 : Int) < (y.length : Int) := of_decide_eq_true h4
              rw [hV, if_pos ⟨h3, .inr (by omega)⟩]
            · rcases q.2 with z1 | z1
              · cases z1
              · exact h4 (decide_eq_true (by omega))
        · rw [decide_eq_false h3]
          exact iteF (iteF ⟨rfl, fun q => h3 q.1, rfl⟩)
      · rintro σ H3 ⟨rfl, hno, rfl⟩
        have f2 := fin hno
        refine ⟨_, rfl, _, rfl, ?_⟩
        cases hn : negL z.cps.toList with
        | true =>
          rw [hn, if_pos rfl] at f2
          exact iteT ⟨_, rfl, _, _, rfl, rfl, f2⟩
        | false =>
          rw [hn, if_neg Bool.false_ne_true] at f2
          exact iteF ⟨_, rfl, f2⟩

theorem ok_l_read (T : Txt K mg C_BadText C_BarbreaksError C_BadLine C_BadName C_BadNumber C_BadWord C_Refused) : Dk P w K mg base CX0 4 "_law_read" ["_law_text"] spReadT := by
  have D_read_number := ok_read_number (P := P) (w := w) (base := base) T
  have D_write_number := ok_write_number (P := P) (w := w) (base := base) T
  have D_l_value := ok_l_value (P := P) (w := w) (base := base) T
  have D_l_is_int := ok_l_is_int (P := P) (w := w) (base := base) T
  obtain ⟨f, fd, g, F, b⟩ := T.l_read
  refine ⟨f, fd, g, F.kp, b, F.ok sc_l_read (fun vs H Q E h => ?_) (fun cdv A outer s H vs Q E hr h => ?_)⟩
  · obtain ⟨z, rfl, _⟩ := h
    rfl
  · obtain ⟨z, rfl, hz, k⟩ := h
    refine ⟨_, (pss_cons (ps_set (i := 1) sc_l_read.nd rfl (Or.inl rfl) pe_non)
  (pss_cons (ps_set (i := 2) sc_l_read.nd rfl (Or.inl rfl) pe_non)
  (C8.pss_cut (ps_try_hold (i := 3) rfl rfl sc_l_read.nd rfl rfl ⟨rfl, by decide, Or.inl T.g_BarbreaksError⟩ rfl (fun W pn xe tk _ => (pss_one (ps_set (i := 2) sc_l_read.nd rfl (Or.inl rfl) (pe_dS D_read_number (hr.mono (by decide)) (fun σ => passAt tk σ) (by rfl) (pa_cons (pv 0) pa_nil))))) (fun a ob cls d pn hz hf => (pss_one (ps_set (i := 1) sc_l_read.nd rfl (Or.inl rfl) (pv 3)))))
  (pss_cons (ps_set (i := 4) sc_l_read.nd rfl (Or.inl rfl) (pe_d D_l_value (hr.mono (by decide)) pass0 (by rfl) (pa_cons (pv 0) pa_nil)))
  (pss_cons (ps_if (pt_cmpR op_notN (pv 4) pe_non (nomark _))
  (pss_cons (ps_set (i := 5) sc_l_read.nd rfl (Or.inl rfl) (pe_d D_write_number (hr.mono (by decide)) pass0 (by rfl) (pa_cons (pv 4) pa_nil)))
  (pss_cons (ps_if (PW.pt (pw_or (pt_cmpR op_notN (pv 1) pe_non (nomark _)) (pw_or (pt_not (pt_val (pe_d D_l_is_int (hr.mono (by decide)) pass0 (by rfl) (pa_cons (pv 2) pa_nil)))) (pw_or1 (pt_cmpR op_ne (pv 2) (pv 4) (nomark _))))))
  (pss_one (ps_ret pe_bl))
  pss_nil)
  (pss_one (ps_ret (pe_and (pe_callB call_isi (by rfl) T.b_isinstance (by decide +kernel) (pa_cons (pv 5) (pa_cons (pe_bltn (v := .ty "str") (by rfl) T.b_str (by decide +kernel) rfl) pa_nil))) (pe_one (pe_cmpR op_eq (pv 5) (pv 0) (nomark _))))))))
  pss_nil)
  (pss_cons (ps_if (PW.pt (pw_or (pt_not (pt_val (pe_callB call_isH (by rfl) T.b_isinstance (by decide +kernel) (pa_cons (pv 1) (pa_cons (C8.pe_gc (v := .ref C_BadText) (by rfl) ⟨_, T.g_BadText, rfl⟩) pa_nil))))) (pw_or1 (pt_not (pt_val (pe_callB call_isH (by rfl) T.b_isinstance (by decide +kernel) (pa_cons (pv 1) (pa_cons (pe_bltn (v := .ty "ValueError") (by rfl) T.b_ValueError (by decide +kernel) rfl) pa_nil))))))))
  (pss_one (ps_ret pe_bl))
  pss_nil)
  (pss_cons (ps_if (pt_val (pe_callB call_isHT (by rfl) T.b_isinstance (by decide +kernel) (pa_cons (pv 1) (pa_cons (pe_tup (pa_cons (C8.pe_gc (v := .ref C_BadLine) (by rfl) ⟨_, T.g_BadLine, rfl⟩) (pa_cons (C8.pe_gc (v := .ref C_BadName) (by rfl) ⟨_, T.g_BadName, rfl⟩) (pa_cons (C8.pe_gc (v := .ref C_BadNumber) (by rfl) ⟨_, T.g_BadNumber, rfl⟩) (pa_cons (C8.pe_gc (v := .ref C_BadWord) (by rfl) ⟨_, T.g_BadWord, rfl⟩) (pa_cons (C8.pe_gc (v := .ref C_Refused) (by rfl) ⟨_, T.g_Refused, rfl⟩) pa_nil)))))) pa_nil))))
  (pss_one (ps_ret pe_bl))
  pss_nil)
  (pss_one (ps_ret (pe_and (pe_callB call_isi (by rfl) T.b_isinstance (by decide +kernel) (pa_cons (pe_xh (pv 1)) (pa_cons (pe_bltn (v := .ty "str") (by rfl) T.b_str (by decide +kernel) rfl) pa_nil))) (pe_one (pe_cmpR op_eq (pe_xh (pv 1)) (pv 0) (nomark _))))))))))))), ?_⟩
    refine ⟨fun σ H' => ∃ (fv vv : V), σ = [some (.str z), some fv, some vv, none, none, none] ∧ Same H H' ∧ ((∃ v, valL z.cps.toList = some v ∧ fv = .non ∧ vv = .int v) ∨
      (valL z.cps.toList = none ∧ vv = .non ∧ ∃ a d, fv = .ref a ∧ H' a = some (ExH (.ref C_BadText) (some d) a) ∧ H' d = some (.xd [("text", .str z)]))), ?_, ?_⟩
    · refine ⟨_, rfl, z, rfl, hz, fun v hv H1 s1 => ?_, fun hn H1 d s1 hd => ?_⟩
      · exact ⟨.non, .int v, rfl, s1, .inl ⟨v, hv, rfl, rfl⟩⟩
      · refine ⟨T.xm_BadText_BarbreaksError, fun a na => ?_⟩
        have nad : d ≠ a := fun e => by
          rw [← e, upd_same] at na
          cases na
        refine ⟨_, rfl, .ref a, .non, rfl, (s1.trans (Same.new hd)).trans (Same.new na), .inr ⟨hn, rfl, a, d, rfl, upd_same, (upd_ne nad).trans upd_same⟩⟩
    · rintro σ H' ⟨fv, vv, rfl, s1, hcase⟩
      refine ⟨_, rfl, z, rfl, hz, ?_⟩
      rcases hcase with ⟨v, hv, rfl, rfl⟩ | ⟨hn, rfl, a, d, rfl, ha, hd⟩
      · rw [hv]
        refine ⟨_, rfl, rfl, _, rfl, iteT ?_⟩
        refine ⟨_, rfl, v, rfl, val_small hv, ?_⟩
        refine ⟨_, rfl, rfl, _, rfl, iteF ⟨_, rfl, .int _, _, true, false, rfl, .base (.int _), kInt, kIntB, true, rfl, iteF ⟨_, rfl, _, rfl, rfl, false, ble_f rfl, iteF ?_⟩⟩⟩
        refine ⟨_, rfl, .str _, _, _, _, true, rfl, .ty _, .base (.str _), kStr, true, rfl, iteT ⟨_, rfl, _, rfl, rfl, ?_⟩⟩
        have e : V.bl (decide (V.str (Str.ofString (toString v)) = V.str z)) = V.bl true := bl_t (congrArg V.str (text_of_int hv))
        rw [e]
        exact k _ s1
      · rw [hn]
        refine ⟨_, rfl, rfl, _, rfl, iteF ?_⟩
        have hH : HeldAt H' a C_BadText := ⟨some d, ha, .inr ⟨d, _, rfl, hd⟩⟩
        refine ⟨_, rfl, a, C_BadText, _, _, true, rfl, .own _, hH, T.ec_BadText, T.ko_BadText_BadText, true, rfl, iteF ⟨_, rfl, a, C_BadText, _, _, true, rfl, .ty _, hH, T.ec_BadText, T.ko_BadText_ValueError, true, rfl, iteF ?_⟩⟩
        refine ⟨_, rfl, (by show 5 ≤ sizeLine; decide), fun tp ntp => ⟨a, C_BadText, tp, _, _, false, rfl, upd_same, .cons (.own _) (.cons (.own _) (.cons (.own _) (.cons (.own _) (.cons (.own _) .nil)))), hH.same (Same.new ntp), T.ec_BadText,
          kitAny_no T.ko_BadText_BadLine (kitAny_no T.ko_BadText_BadName (kitAny_no T.ko_BadText_BadNumber (kitAny_no T.ko_BadText_BadWord (kitAny_no T.ko_BadText_Refused kitAny_nil)))), false, rfl, iteF ?_⟩⟩
        have s2 := Same.new (o := .tup [.ref C_BadLine, .ref C_BadName, .ref C_BadNumber, .ref C_BadWord, .ref C_Refused]) ntp
        refine ⟨_, rfl, a, C_BadText, d, _, _, rfl, s2 _ _ ha, s2 _ _ hd, (exc_xf T.ec_BadText), T.xn_BadText_text, look1, .str _, _, _, _, true, rfl, .ty _, .base (.str _), kStr, true, rfl, iteT ⟨_, rfl, a, C_BadText, d, _, _, rfl, s2 _ _ ha, s2 _ _ hd, (exc_xf T.ec_BadText), T.xn_BadText_text, look1, _, rfl, rfl, ?_⟩⟩
        have e : V.bl (decide (V.str z = V.str z)) = V.bl true := bl_t rfl
        rw [e]
        exact k _ (s1.trans s2)

theorem ok_l_near (T : Txt K mg C_BadText C_BarbreaksError C_BadLine C_BadName C_BadNumber C_BadWord C_Refused) : Dk P w K mg base CX0 1 "_law_near" ["_law_text"] spNear := by
  obtain ⟨f, fd, g, F, b⟩ := T.l_near
  refine ⟨f, fd, g, F.kp, b, F.ok sc_l_near (fun vs H Q E h => ?_) (fun cdv A outer s H vs Q E hr h => ?_)⟩
  · obtain ⟨z, rfl, _⟩ := h
    rfl
  · obtain ⟨z, rfl, hz, k⟩ := h
    refine ⟨_, (pss_cons (ps_set (i := 1) sc_l_near.nd rfl (Or.inl rfl) (pe_lst (pa_cons (pv 0) (pa_cons (pe_op op_add_str pe_str (pv 0)) (pa_cons (pe_op op_add_str pe_str (pv 0)) (pa_cons (pe_op op_add_str pe_str (pv 0)) (pa_cons (pe_op op_add_str pe_str (pv 0)) (pa_cons (pe_op op_add_str (pv 0) pe_str) (pa_cons (pe_op op_add_str (pv 0) pe_str) (pa_cons (pe_op op_add_str (pv 0) pe_str) (pa_cons (pe_op op_add_str (pv 0) pe_str) pa_nil)))))))))))
  (pss_cons (ps_set (i := 1) sc_l_near.nd rfl (Or.inl rfl) (pe_op op_cat (pv 1) (pe_lst (pa_cons (pe_op op_add_str (pv 0) (pv 0)) (pa_cons pe_str (pa_cons pe_str (pa_cons pe_str (pa_cons pe_str (pa_cons pe_str (pa_cons pe_str (pa_cons pe_str (pa_cons pe_str pa_nil))))))))))))
  (pss_one (ps_ret (pe_op op_cat (pv 1) (pe_lst (pa_cons (pe_op op_mulS pe_str pe_int) (pa_cons (pe_op op_add_str pe_str (pe_op op_mulS pe_str pe_int)) (pa_cons (pe_op op_mulS pe_str pe_int) (pa_cons (pe_op op_add_str pe_str (pe_op op_mulS pe_str pe_int)) pa_nil)))))))))), ?_⟩
    have z1 : z.length ≤ 1000 := by omega
    refine ⟨_, rfl, _, rfl, _, _, rfl, rfl, catL (by decide +kernel) z1, _, rfl, _, _, rfl, rfl, catL (by decide +kernel) z1, _, rfl, _, _, rfl, rfl, catL (by decide +kernel) z1, _, rfl, _, _, rfl, rfl, catL (by decide +kernel) z1,
      _, rfl, _, _, rfl, rfl, catL z1 (by decide +kernel), _, rfl, _, _, rfl, rfl, catL z1 (by decide +kernel), _, rfl, _, _, rfl, rfl, catL z1 (by decide +kernel), _, rfl, _, _, rfl, rfl, catL z1 (by decide +kernel), (by show 9 ≤ sizeLine; decide), fun p1 n1 => ?_⟩
    refine ⟨_, rfl, _, rfl, _, rfl, _, _, rfl, rfl, catL z1 z1, (by show 9 ≤ sizeLine; decide), fun p2 n2 => ?_⟩
    have s1 := Same.new (o := .lst [.str z, .str ("0" ++ z), .str ("-" ++ z), .str ("+" ++ z), .str (" " ++ z), .str (z ++ " "), .str (z ++ "\n"), .str (z ++ "-"), .str (z ++ "_0")]) n1
    have s2 := Same.new (o := .lst [.str (z ++ z), .str "", .str "-", .str "0", .str "-0", .str "+0", .str "00", .str "01", .str "-01"]) n2
    refine ⟨p1, p2, _, _, rfl, rfl, s2 _ _ upd_same, upd_same, (by show 18 ≤ sizeLine; decide), fun p3 n3 => ?_⟩
    have s3 := Same.new (o := .lst ([.str z, .str ("0" ++ z), .str ("-" ++ z), .str ("+" ++ z), .str (" " ++ z), .str (z ++ " "), .str (z ++ "\n"), .str (z ++ "-"), .str (z ++ "_0")] ++ [.str (z ++ z), .str "", .str "-", .str "0", .str "-0", .str "+0", .str "00", .str "01", .str "-01"])) n3
    refine ⟨_, rfl, _, _, rfl, rfl, by decide +kernel, by decide, by decide, fun r1 e1 => ⟨_, _, rfl, rfl, by decide +kernel, by decide, by decide, fun r2 e2 => ?_⟩⟩
    have l1 : ("1" : Str).length = 1 := by decide +kernel
    rw [l1] at e1 e2
    refine ⟨_, _, rfl, rfl, catL (by decide +kernel) (by omega), ?_⟩
    refine ⟨_, _, rfl, rfl, by decide +kernel, by decide, by decide, fun r3 e3 => ⟨_, _, rfl, rfl, by decide +kernel, by decide, by decide, fun r4 e4 => ?_⟩⟩
    rw [l1] at e3 e4
    refine ⟨_, _, rfl, rfl, catL (by decide +kernel) (by omega), (by show 4 ≤ sizeLine; decide), fun p4 n4 => ?_⟩
    have s4 := Same.new (o := .lst [.str r1, .str ("-" ++ r2), .str r3, .str ("-" ++ r4)]) n4
    refine ⟨p3, p4, _, _, rfl, rfl, s4 _ _ upd_same, upd_same, (by show 22 ≤ sizeLine; decide), fun p5 n5 => ?_⟩
    refine k p5 [z, "0" ++ z, "-" ++ z, "+" ++ z, " " ++ z, z ++ " ", z ++ "\n", z ++ "-", z ++ "_0", z ++ z, "", "-", "0", "-0", "+0", "00", "01", "-01", r1, "-" ++ r2, r3, "-" ++ r4] _ ((((s1.trans s2).trans s3).trans s4).trans (Same.new n5)) upd_same ?_
    have w : ∀ {y : Str}, y.length ≤ 10 → (y ++ z).length ≤ 600 ∧ (z ++ y).length ≤ 600 := fun {y} hy => by
      rw [Str.length_append, Str.length_append]
      omega
    intro y hy
    simp only [List.mem_cons, List.not_mem_nil, or_false] at hy
    rcases hy with rfl | rfl | rfl | rfl | rfl | rfl | rfl | rfl | rfl | rfl | rfl | rfl | rfl | rfl | rfl | rfl | rfl | rfl | rfl | rfl | rfl | rfl
    · omega
    · exact (w (by decide +kernel)).1
    · exact (w (by decide +kernel)).1
    · exact (w (by decide +kernel)).1
    · exact (w (by decide +kernel)).1
    · exact (w (by decide +kernel)).2
    · exact (w (by decide +kernel)).2
    · exact (w (by decide +kernel)).2
    · exact (w (by decide +kernel)).2
    · rw [Str.length_append]
      omega
    · decide +kernel
    · decide +kernel
    · decide +kernel
    · decide +kernel
    · decide +kernel
    · decide +kernel
    · decide +kernel
    · decide +kernel
    · omega
    · rw [Str.length_append]
      have l2 : ("-" : Str).length = 1 := by decide +kernel
      omega
    · omega
    · rw [Str.length_append]
      have l2 : ("-" : Str).length = 1 := by decide +kernel
      omega

theorem ok_l_written (T : Txt K mg C_BadText C_BarbreaksError C_BadLine C_BadName C_BadNumber C_BadWord C_Refused) : Dk P w K mg base CX0 2 "_law_written" ["_law_pool_here"] spWritten := by
  have D_l_take := ok_l_take (P := P) (w := w) (base := base) T
  obtain ⟨f, fd, g, F, b⟩ := T.l_written
  refine ⟨f, fd, g, F.kp, b, F.ok sc_l_written (fun vs H Q E h => ?_) (fun cdv A outer s H vs Q E hr h => ?_)⟩
  · obtain ⟨p, c, ns, rfl, _⟩ := h
    rfl
  · obtain ⟨p, c, ns, rfl, hp, k⟩ := h
    refine ⟨_, (pss_cons (ps_set (i := 1) sc_l_written.nd rfl (Or.inl rfl) (pe_op op_add pe_int (pe_d D_l_take (hr.mono (by decide)) pass0 (by rfl) (pa_cons (pv 0) (pa_cons pe_int pa_nil)))))
  (C8.pss_cut (ps_if (pt_cmpR op_eq (pe_d D_l_take (hr.mono (by decide)) pass0 (by rfl) (pa_cons (pv 0) (pa_cons pe_int pa_nil))) pe_int (nomark _))
  (pss_one (ps_set (i := 1) sc_l_written.nd rfl (Or.inl rfl) (pe_ix ix_list (pe_lst (pa_cons pe_int (pa_cons pe_int (pa_cons pe_int pa_nil)))) (pe_d D_l_take (hr.mono (by decide)) pass0 (by rfl) (pa_cons (pv 0) (pa_cons pe_int pa_nil))) (fun _ _ => rfl))))
  pss_nil)
  (pss_cons (ps_set (i := 2) sc_l_written.nd rfl (Or.inl rfl) (pe_d D_l_take (hr.mono (by decide)) pass0 (by rfl) (pa_cons (pv 0) (pa_cons pe_int pa_nil))))
  (pss_cons (ps_set (i := 3) sc_l_written.nd rfl (Or.inl rfl) (pe_item_str pe_str (pe_d D_l_take (hr.mono (by decide)) pass0 (by rfl) (pa_cons (pv 0) (pa_cons pe_int pa_nil))) (fun _ _ => rfl)))
  (C8.pss_cut (ps_if (pt_cmpR op_eq (pv 2) pe_int (nomark _))
  (pss_one (ps_set (i := 3) sc_l_written.nd rfl (Or.inl rfl) (pe_op op_add_str pe_str (pe_op op_mulS pe_str (pe_op op_sub (pv 1) pe_int)))))
  (pss_one (ps_if (pt_cmpR op_eq (pv 2) pe_int (nomark _))
  (pss_one (ps_set (i := 3) sc_l_written.nd rfl (Or.inl rfl) (pe_op op_mulS pe_str (pv 1))))
  (pss_one (ps_for PassesOwn.never rfl (pi_range1 rfl T.b_range (pa_cons (pe_op op_sub (pv 1) pe_int) pa_nil)) (pg_name (i := 4) sc_l_written.nd rfl (Or.inl rfl))
  (pss_one (ps_set (i := 3) sc_l_written.nd rfl (Or.inl rfl) (pe_op op_add_str (pv 3) (pe_item_str pe_str (pe_d D_l_take (hr.mono (by decide)) pass0 (by rfl) (pa_cons (pv 0) (pa_cons pe_int pa_nil))) (fun _ _ => rfl))))))))))
  (C8.pss_cut (ps_if (PW.pt (pw_and (pt_cmpR op_eq (pv 1) pe_int (nomark _)) (pw_and1 (pt_cmpR op_eq (pe_d D_l_take (hr.mono (by decide)) pass0 (by rfl) (pa_cons (pv 0) (pa_cons pe_int pa_nil))) pe_int (nomark _)))))
  (pss_one (ps_ret pe_str))
  pss_nil)
  (pss_cons (ps_if (pt_cmpR op_eq (pe_d D_l_take (hr.mono (by decide)) pass0 (by rfl) (pa_cons (pv 0) (pa_cons pe_int pa_nil))) pe_int (nomark _))
  (pss_one (ps_ret (pe_op op_add_str pe_str (pv 3))))
  pss_nil)
  (pss_one (ps_ret (pv 3)))))))))), ?_⟩
    refine ⟨_, rfl, p, c, ns, _, rfl, hp, by decide, by decide +kernel, fun r H1 r0 r1 hp1 o1 => ⟨_, _, rfl, rfl, ?_⟩⟩
    refine ⟨fun σ H' => ∃ m : Int, σ = [some (.ref p), some (.int m), none, none, none] ∧ 1 ≤ m ∧ m ≤ 40 ∧ Pool ns c H' p, ?_, ?_⟩
    · refine ⟨_, rfl, p, c, ns, _, rfl, hp1, by decide, by decide +kernel, fun q H2 q0 q1 hp2 o2 => ?_⟩
      refine ⟨rfl, _, rfl, ?_⟩
      refine ite2 (fun _ => ?_) (fun _ => ⟨1 + r, rfl, by omega, by omega, hp2⟩)
      refine ⟨(by show 3 ≤ sizeLine; decide), fun l nl => ?_⟩
      refine ⟨_, rfl, p, c, ns, _, rfl, hp2.same (Same.new nl), by decide, by decide +kernel, fun y H3 y0 y1 hp3 o3 => ?_⟩
      obtain ⟨v, hv, v1, v2⟩ : ∃ v : Int, atI [V.int 1, .int 39, .int 40] y = some (.int v) ∧ 1 ≤ v ∧ v ≤ 40 := by
        have q : y = 0 ∨ y = 1 ∨ y = 2 := by omega
        rcases q with rfl | rfl | rfl
        · exact ⟨1, rfl, by decide, by decide⟩
        · exact ⟨39, rfl, by decide, by decide⟩
        · exact ⟨40, rfl, by decide, by decide⟩
      have npl : l ≠ p := by
        obtain ⟨lp, e, _⟩ := hp2.at_
        exact (ne_of_none e nl).symm
      exact ⟨l, _, y, _, rfl, rfl, SqL.of ((o3 l npl).trans upd_same), hv, v, rfl, v1, v2, hp3⟩
    rintro σ H4 ⟨m, rfl, m1, m2, hp4⟩
    refine ⟨_, rfl, p, c, ns, _, rfl, hp4, by decide, by decide +kernel, fun sh H5 s0 s1 hp5 o5 => ?_⟩
    refine ⟨_, rfl, p, c, ns, _, rfl, hp5, by decide, by decide +kernel, fun i H6 i0 i1 hp6 o6 => ?_⟩
    have l9 : ("123456789" : Str).length = 9 := by decide +kernel
    have l10 : ("0123456789" : Str).length = 10 := by decide +kernel
    have l0 : ("0" : Str).length = 1 := by decide +kernel
    have l1 : ("1" : Str).length = 1 := by decide +kernel
    have ln : ("9" : Str).length = 1 := by decide +kernel
    have lm : ("-" : Str).length = 1 := by decide +kernel
    obtain ⟨ch, hch⟩ := str_at (z := "123456789") i0 (by omega)
    refine ⟨_, i, ch, rfl, rfl, i0, by omega, by omega, hch, ?_⟩
    refine ⟨fun σ H' => ∃ (t : Str) (x2 : V) (x4 : Option V), σ = [some (.ref p), some (.int m), some x2, some (.str t), x4] ∧ t.length ≤ 41 ∧ Pool ns c H' p, ?_, ?_⟩
    · refine ⟨_, rfl, rfl, _, rfl, ?_⟩
      refine ite2 (fun _ => ?_) (fun _ => ?_)
      · refine ⟨_, rfl, _, _, rfl, rfl, _, _, rfl, rfl, by decide +kernel, by omega, by omega, fun y e => ⟨_, _, rfl, rfl, ?_, _, _, _, rfl, ?_, hp6⟩⟩
        · rw [l0] at e
          exact catL (by decide +kernel) (by omega)
        · rw [l0] at e
          rw [Str.length_append]
          omega
      · refine ⟨_, rfl, rfl, _, rfl, ?_⟩
        refine ite2 (fun _ => ?_) (fun _ => ?_)
        · refine ⟨_, rfl, _, _, rfl, rfl, by decide +kernel, by omega, by omega, fun y e => ⟨_, _, _, rfl, ?_, hp6⟩⟩
          rw [ln] at e
          omega
        · refine ⟨_, rfl, _, _, rfl, rfl, m - 1, rfl, by omega, by omega, for_range (n := (m - 1).toNat) (fun j σ H' => ∃ (t : Str) (x4 : Option V), σ = [some (.ref p), some (.int m), some (.int sh), some (.str t), x4] ∧ t.length = j + 1 ∧ Pool ns c H' p) ⟨_, _, rfl, one_len, hp6⟩ ?_ ?_⟩
          · rintro j σ H7 hj ⟨t, x4, rfl, ht, hp7⟩
            refine ⟨_, rfl, _, rfl, p, c, ns, _, rfl, hp7, by decide, by decide +kernel, fun y H8 y0 y1 hp8 o8 => ?_⟩
            obtain ⟨cy, hcy⟩ := str_at (z := "0123456789") y0 (by omega)
            refine ⟨_, y, cy, rfl, rfl, y0, by omega, by omega, hcy, _, _, rfl, rfl, catL (by omega) (by rw [one_len]; decide), _, _, rfl, ?_, hp8⟩
            rw [Str.length_append, one_len, ht]
          · rintro σ H7 ⟨t, x4, rfl, ht, hp7⟩
            exact ⟨_, _, _, rfl, by omega, hp7⟩
    rintro σ H7 ⟨t, x2, x4, rfl, ht, hp7⟩
    refine ⟨fun σ H' => ∃ (t : Str) (x2 : V) (x4 : Option V), σ = [some (.ref p), some (.int m), some x2, some (.str t), x4] ∧ t.length ≤ 41 ∧ Pool ns c H' p, ?_, ?_⟩
    · refine ⟨_, rfl, rfl, _, rfl, ?_⟩
      refine ite2 (fun _ => ?_) (fun _ => iteF ⟨_, _, _, rfl, ht, hp7⟩)
      refine ⟨_, rfl, p, c, ns, _, rfl, hp7, by decide, by decide +kernel, fun y H8 y0 y1 hp8 o8 => ?_⟩
      refine ⟨rfl, _, rfl, ?_⟩
      refine ite2 (fun _ => ?_) (fun _ => ⟨_, _, _, rfl, ht, hp8⟩)
      exact k _ _ (by decide +kernel) hp8
    rintro σ H8 ⟨t, x2, x4, rfl, ht, hp8⟩
    refine ⟨_, rfl, p, c, ns, _, rfl, hp8, by decide, by decide +kernel, fun y H9 y0 y1 hp9 o9 => ?_⟩
    refine ⟨rfl, _, rfl, ?_⟩
    refine ite2 (fun _ => ?_) (fun _ => ?_)
    · refine ⟨_, rfl, _, _, rfl, rfl, catL (by decide +kernel) (by omega), ?_⟩
      exact k _ _ (by rw [Str.length_append]; omega) hp9
    · exact ⟨_, rfl, k _ _ (by omega) hp9⟩

theorem ok_l_other (T : Txt K mg C_BadText C_BarbreaksError C_BadLine C_BadName C_BadNumber C_BadWord C_Refused) : Dk P w K mg base CX0 2 "_law_other" ["_law_pool_here", "_law_text"] spOther := by
  have D_l_take := ok_l_take (P := P) (w := w) (base := base) T
  obtain ⟨f, fd, g, F, b⟩ := T.l_other
  refine ⟨f, fd, g, F.kp, b, F.ok sc_l_other (fun vs H Q E h => ?_) (fun cdv A outer s H vs Q E hr h => ?_)⟩
  · obtain ⟨p, c, ns, z, rfl, _⟩ := h
    rfl
  · obtain ⟨p, c, ns, z, rfl, hp, hz, k⟩ := h
    refine ⟨_, (pss_cons (ps_set (i := 2) sc_l_other.nd rfl (Or.inr rfl) pe_str)
  (C8.pss_cut (ps_set (i := 2) sc_l_other.nd rfl (Or.inr rfl) (pe_op op_add_str (pv 2) pe_str))
  (pss_cons (ps_set (i := 3) sc_l_other.nd rfl (Or.inl rfl) (pe_d D_l_take (hr.mono (by decide)) pass0 (by rfl) (pa_cons (pv 0) (pa_cons pe_int pa_nil))))
  (pss_cons (ps_set (i := 4) sc_l_other.nd rfl (Or.inl rfl) (pe_d D_l_take (hr.mono (by decide)) pass0 (by rfl) (pa_cons (pv 0) (pa_cons (pe_op op_add (pe_callB call_len_str (by rfl) T.b_len (by decide +kernel) (pa_cons (pv 1) pa_nil)) pe_int) pa_nil))))
  (pss_cons (ps_set (i := 5) sc_l_other.nd rfl (Or.inl rfl) (pe_item_str (pv 2) (pe_d D_l_take (hr.mono (by decide)) pass0 (by rfl) (pa_cons (pv 0) (pa_cons pe_int pa_nil))) (fun _ _ => rfl)))
  (pss_cons (ps_if (pt_cmpR op_eq (pv 3) pe_int (nomark _))
  (pss_one (ps_ret (pe_op op_add_str (pe_op op_add_str (pe_slice sl_str (pv 1) po_none (po_some (pv 4))) (pv 5)) (pe_slice sl_str (pv 1) (po_some (pv 4)) po_none))))
  pss_nil)
  (pss_cons (ps_if (pt_cmpR op_eq (pv 3) pe_int (nomark _))
  (pss_one (ps_ret (pe_op op_add_str (pe_op op_add_str (pe_slice sl_str (pv 1) po_none (po_some (pv 4))) (pv 5)) (pe_slice sl_str (pv 1) (po_some (pe_op op_add (pv 4) pe_int)) po_none))))
  pss_nil)
  (pss_cons (ps_if (pt_cmpR op_eq (pv 3) pe_int (nomark _))
  (pss_one (ps_ret (pe_op op_add_str (pe_slice sl_str (pv 1) po_none (po_some (pv 4))) (pe_slice sl_str (pv 1) (po_some (pe_op op_add (pv 4) pe_int)) po_none))))
  pss_nil)
  (C8.pss_cut (ps_if (pt_cmpR op_eq (pv 3) pe_int (nomark _))
  (pss_one (ps_set (i := 2) sc_l_other.nd rfl (Or.inr rfl) pe_str))
  pss_nil)
  (pss_cons (ps_set (i := 6) sc_l_other.nd rfl (Or.inl rfl) (pe_d D_l_take (hr.mono (by decide)) pass0 (by rfl) (pa_cons (pv 0) (pa_cons pe_int pa_nil))))
  (pss_one (ps_ret (pe_join pe_str (pe_lc (own := [("_law_k", 7)]) (g := gName 7) (tt := tYes) (by rfl) sc_l_other.nd (pi_range1 rfl T.b_range (pa_cons (pv 6) pa_nil)) (blkOk_by (own := [("_law_k", 7)]) (N := ["_law_pool_here", "_law_text", "_law_signs", "_law_way", "_law_at", "_law_sign", "_law_size", "_law_k"]) (sc := defScope s_l_other) (by decide +kernel)) (fun _ _ _ _ _ => pg_name (i := 7) sc_l_other.nd rfl (Or.inl rfl)) (fun _ _ _ _ _ => pts_nil) (fun _ _ _ _ _ => (pe_item_str (pv 2) (pe_d D_l_take (hr.mono (by decide)) pass0 (by rfl) (pa_cons (pv 0) (pa_cons (pe_callB call_len_str (by rfl) T.b_len (by decide +kernel) (pa_cons (pv 2) pa_nil)) pa_nil))) (fun _ _ => rfl))))))))))))))))), ?_⟩
    have hsz : z.length ≤ sizeLine := Nat.le_trans hz (by decide)
    have cz : ∀ lo hi, (cutS z lo hi).length ≤ 60 := fun lo hi => Nat.le_trans cutS_len hz
    refine ⟨fun σ H' => ∃ sg : Str, σ = [some (.ref p), some (.str z), some (.str sg), none, none, none, none, none] ∧ 96 ≤ sg.length ∧ sg.length ≤ 200 ∧ H' = H, ?_, ?_⟩
    · exact ⟨_, rfl, _, _, rfl, rfl, catL (by decide +kernel) (by decide +kernel), _, rfl, (by rw [Str.length_append]; decide +kernel), (by rw [Str.length_append]; decide +kernel), rfl⟩
    rintro σ H0 ⟨sg, rfl, g1, g2, rfl⟩
    refine ⟨_, rfl, p, c, ns, _, rfl, hp, by decide, by decide +kernel, fun w H1 w0 w1 hp1 o1 => ?_⟩
    refine ⟨_, rfl, _, rfl, z, rfl, hsz, _, _, rfl, rfl, p, c, ns, _, rfl, hp1, (by show (0 : Int) < (z.length : Int) + 1; omega), log2_27 (by show (1 : Int) ≤ (z.length : Int) + 1; omega) (by show (z.length : Int) + 1 ≤ 10 ^ 27; omega), fun at_ H2 a0 a1 hp2 o2 => ?_⟩
    refine ⟨_, rfl, _, rfl, p, c, ns, _, rfl, hp2, by decide, by decide +kernel, fun x H3 x0 x1 hp3 o3 => ?_⟩
    obtain ⟨ch, hch⟩ := str_at (z := sg) x0 (by omega)
    refine ⟨sg, x, ch, rfl, rfl, x0, by omega, by omega, hch, ?_⟩
    have l1 : (⟨#[ch]⟩ : Str).length = 1 := rfl
    refine ⟨_, rfl, rfl, _, rfl, ?_⟩
    refine ite2 (fun _ => ?_) (fun _ => ?_)
    · refine ⟨_, rfl, _, rfl, _, rfl, z, rfl, hsz, _, rfl, _, _, rfl, rfl, catL (by have := cz none (some at_); omega) (by omega), _, rfl, _, rfl, _, rfl, z, rfl, hsz, _, _, rfl, rfl, catL (by rw [Str.length_append]; have := cz none (some at_); omega) (by have := cz (some at_) none; omega), k _ _ ?_ hp3⟩
      rw [Str.length_append, Str.length_append]
      have q1 := cz none (some at_)
      have q2 := cz (some at_) none
      omega
    refine ⟨_, rfl, rfl, _, rfl, ?_⟩
    refine ite2 (fun _ => ?_) (fun _ => ?_)
    · refine ⟨_, rfl, _, rfl, _, rfl, z, rfl, hsz, _, rfl, _, _, rfl, rfl, catL (by have := cz none (some at_); omega) (by omega), _, rfl, _, rfl, _, _, rfl, rfl, _, rfl, z, rfl, hsz, _, _, rfl, rfl, catL (by rw [Str.length_append]; have := cz none (some at_); omega) (by have := cz (some (at_ + 1)) none; omega), k _ _ ?_ hp3⟩
      rw [Str.length_append, Str.length_append]
      have q1 := cz none (some at_)
      have q2 := cz (some (at_ + 1)) none
      omega
    refine ⟨_, rfl, rfl, _, rfl, ?_⟩
    refine ite2 (fun _ => ?_) (fun _ => ?_)
    · refine ⟨_, rfl, _, rfl, _, rfl, z, rfl, hsz, _, rfl, _, rfl, _, _, rfl, rfl, _, rfl, z, rfl, hsz, _, _, rfl, rfl, catL (by have := cz none (some at_); omega) (by have := cz (some (at_ + 1)) none; omega), k _ _ ?_ hp3⟩
      rw [Str.length_append]
      have q1 := cz none (some at_)
      have q2 := cz (some (at_ + 1)) none
      omega
    refine ⟨fun σ H' => ∃ sg : Str, σ = [some (.ref p), some (.str z), some (.str sg), some (.int w), some (.int at_), some (.str ⟨#[ch]⟩), none, none] ∧ 1 ≤ sg.length ∧ sg.length ≤ 200 ∧ Pool ns c H' p, ?_, ?_⟩
    · refine ⟨_, rfl, rfl, _, rfl, ?_⟩
      refine ite2 (fun _ => ?_) (fun _ => ⟨_, rfl, by omega, g2, hp3⟩)
      exact ⟨_, rfl, by decide +kernel, by decide +kernel, hp3⟩
    rintro σ H4 ⟨sg, rfl, g1, g2, hp4⟩
    refine ⟨_, rfl, p, c, ns, _, rfl, hp4, by decide, by decide +kernel, fun n H5 n0 n1 hp5 o5 => ?_⟩
    refine ⟨⟨_, rfl⟩, _, rfl, n, rfl, by omega, by omega, fun D hD => ?_⟩
    have npD : p ≠ D := by
      obtain ⟨lp, e, _⟩ := hp5.at_
      exact ne_of_none e hD
    have ncD : c ≠ D := ne_of_none hp5.cells hD
    have hsg : sg.length ≤ sizeLine := Nat.le_trans g2 (by decide)
    refine lc_range (lo := 0) (n := n.toNat) (fun i H' => ∃ ys : List Str, H' D = some (.lst (ys.map V.str)) ∧ ys.length = i ∧ (∀ y ∈ ys, y.length ≤ 1) ∧ Pool ns c H' p) ⟨[], upd_same, rfl, by simp, hp5.same (Same.new hD)⟩ ?_ ?_
    · rintro i H6 hi ⟨ys, e, hl, hw, hp6⟩
      refine ⟨rfl, ?_⟩
      refine ⟨_, rfl, _, rfl, _, rfl, sg, rfl, hsg, p, c, ns, _, rfl, hp6, (by omega), log2_27 (by omega) (by omega), fun y H7 y0 y1 hp7 o7 => ?_⟩
      obtain ⟨cy, hcy⟩ := str_at (z := sg) y0 y1
      refine ⟨sg, y, cy, rfl, rfl, y0, by omega, y1, hcy, _, (o7 D npD.symm).trans e, ?_, ys ++ [⟨#[cy]⟩], ?_, ?_, ?_, hp7.off Off.upd npD ncD⟩
      · rw [List.length_map, hl]
        exact Nat.lt_of_lt_of_le (by omega : i < 100) (by decide)
      · rw [upd_same, List.map_append]
        rfl
      · rw [List.length_append, hl]
        rfl
      · intro q hq
        rcases List.mem_append.mp hq with hq | hq
        · exact hw q hq
        · rw [List.mem_singleton.mp hq]
          exact Nat.le_refl _
    · rintro H6 ⟨ys, e, hl, hw, hp6⟩
      have jl := join_small (y := "") (by decide +kernel) hw
      have sl : ∀ l : List Str, (∀ y ∈ l, y.length ≤ 1) → (l.map (·.length)).sum ≤ l.length := by
        intro l
        induction l with
        | nil => intro _; exact Nat.le_refl _
        | cons a r ih =>
          intro hw
          have i1 := ih fun y hy => hw y (List.mem_cons_of_mem _ hy)
          have i2 := hw a (List.mem_cons_self ..)
          rw [List.map_cons, List.sum_cons, List.length_cons]
          omega
      have s1 := sl ys hw
      have e0 : ("" : Str).length = 0 := by decide +kernel
      refine ⟨_, D, ys, rfl, rfl, .inl (SqL.of e), ?_, k _ _ (by omega) hp6⟩
      rw [e0]
      omega

theorem ok_law (T : Txt K mg C_BadText C_BarbreaksError C_BadLine C_BadName C_BadNumber C_BadWord C_Refused) : ∀ (f : Addr) (fd : FuncData), Fun K "law" "law" s_law f fd → FnOk P w K mg base CX0 6 f fd ["_law_script"] (spLaw K) := by
  intro f fd F
  have D_l_pool := ok_l_pool (P := P) (w := w) (base := base) T
  have D_l_written := ok_l_written (P := P) (w := w) (base := base) T
  have D_l_other := ok_l_other (P := P) (w := w) (base := base) T
  have D_l_near := ok_l_near (P := P) (w := w) (base := base) T
  have D_l_read := ok_l_read (P := P) (w := w) (base := base) T
  refine F.ok sc_law (fun vs H Q E h => ?_) (fun cdv A outer s H vs Q E hr h => ?_)
  · obtain ⟨a, ns, rfl, _⟩ := h
    rfl
  · obtain ⟨a, ns, rfl, hS, hlen, k⟩ := h
    refine ⟨_, (pss_cons (ps_set (i := 1) sc_law.nd rfl (Or.inl rfl) (pe_d D_l_pool (hr.mono (by decide)) pass0 (by rfl) (pa_cons (pv 0) pa_nil)))
  (pss_cons (ps_set (i := 2) sc_law.nd rfl (Or.inl rfl) (pe_d D_l_written (hr.mono (by decide)) pass0 (by rfl) (pa_cons (pv 1) pa_nil)))
  (pss_cons (ps_set (i := 3) sc_law.nd rfl (Or.inl rfl) (pe_d D_l_other (hr.mono (by decide)) pass0 (by rfl) (pa_cons (pv 1) (pa_cons (pv 2) pa_nil))))
  (pss_cons (ps_for PassesOwn.never rfl (pi_list (pe_d D_l_near (hr.mono (by decide)) pass0 (by rfl) (pa_cons (pv 2) pa_nil))) (pg_name (i := 4) sc_law.nd rfl (Or.inl rfl))
  (pss_one (ps_if (pt_not (pt_val (pe_d D_l_read (hr.mono (by decide)) pass0 (by rfl) (pa_cons (pv 4) pa_nil))))
  (pss_one (ps_ret pe_bl))
  pss_nil)))
  (pss_one (ps_ret (pe_and (pe_d D_l_read (hr.mono (by decide)) pass0 (by rfl) (pa_cons (pv 3) pa_nil)) (pe_and (pe_d D_l_read (hr.mono (by decide)) pass0 (by rfl) (pa_cons (pv 2) pa_nil)) (pe_one (pe_d D_l_read (hr.mono (by decide)) pass0 (by rfl) (pa_cons (pv 3) pa_nil))))))))))), ?_⟩
    refine ⟨_, rfl, a, ns, rfl, hS, hlen, fun p c H0 hp0 _ _ _ => ?_⟩
    refine ⟨_, rfl, p, c, ns, rfl, hp0, fun t H1 ht hp1 => ?_⟩
    refine ⟨_, rfl, _, rfl, p, c, ns, t, rfl, hp1, ht, fun o H2 ho hp2 => ?_⟩
    refine ⟨_, rfl, t, rfl, by omega, fun l ys H3 s3 hl hys => ?_⟩
    refine ⟨l, rfl, ⟨_, SqL.of hl⟩, for_list (K := K) (a := l) (xs := ys.map V.str) (fun i σ H4 => ∃ x4 : Option V, σ = [some (.ref a), some (.ref p), some (.str t), some (.str o), x4] ∧ Same H3 H4) ⟨_, rfl, Same.refl _⟩ (fun i σ H4 _ ⟨_, _, s4⟩ => SqL.of (s4 _ _ hl)) ?_ ?_⟩
    · rintro i x σ H4 hx ⟨x4, rfl, s4⟩
      obtain ⟨y, hy, rfl⟩ : ∃ y, ys[i]? = some y ∧ x = V.str y := by
        rw [List.getElem?_map] at hx
        cases e : ys[i]? with
        | none => rw [e] at hx; cases hx
        | some y => rw [e] at hx; exact ⟨y, rfl, (Option.some.inj hx).symm⟩
      refine ⟨_, rfl, y, rfl, hys y (List.mem_of_getElem? hy), fun H5 s5 => ⟨true, rfl, iteF ?_⟩⟩
      exact ⟨_, rfl, s4.trans s5⟩
    · rintro σ H4 ⟨x4, rfl, s4⟩
      refine ⟨_, rfl, o, rfl, by omega, fun H5 s5 => ⟨true, rfl, iteT ⟨_, rfl, t, rfl, by omega, fun H6 s6 => ⟨true, rfl, iteT ⟨_, rfl, o, rfl, by omega, fun H7 s7 => k _⟩⟩⟩⟩⟩

end
theorem all_mk {l : PySem.W.OpenLaw} {w : World} {K : PySem.W.Frag} {h : Heap} {mg : Str → Option Value} {fa : Addr} (X : K.In h) (G : h.Ns mainGlobals mg) (hfa : mg "law" = some (.ref fa))
    {C_BadText : Addr} {C_BarbreaksError : Addr} {C_BadLine : Addr} {C_BadName : Addr} {C_BadNumber : Addr} {C_BadWord : Addr} {C_Refused : Addr} {f1 : Addr} {od1 an1 : Option Addr} {sl1 : Array (Option Value)} {oc1 kV1 dc1 pm1 cd1 ct1 : Value} {f4 : Addr} {od4 an4 : Option Addr} {sl4 : Array (Option Value)} {oc4 kV4 dc4 pm4 cd4 ct4 : Value} {f6 : Addr} {od6 an6 : Option Addr} {sl6 : Array (Option Value)} {oc6 kV6 dc6 pm6 cd6 ct6 : Value} {f9 : Addr} {od9 an9 : Option Addr} {sl9 : Array (Option Value)} {oc9 kV9 dc9 pm9 cd9 ct9 : Value} {nm9 qn9 : Str} {N9 : Addr} {bs9 sub9 : List Value} {sn9 : List Str} {ab9 : Bool} {col9 : Option Bool} {dd9 : Option Addr} {m09 m19 m29 m39 m59 : Option Value} {f12 : Addr} {od12 an12 : Option Addr} {sl12 : Array (Option Value)} {oc12 kV12 dc12 pm12 cd12 ct12 : Value} {u14 : Value} {u15 : Value} {f16 : Addr} {od16 an16 : Option Addr} {sl16 : Array (Option Value)} {oc16 kV16 dc16 pm16 cd16 ct16 : Value} {f18 : Addr} {od18 an18 : Option Addr} {sl18 : Array (Option Value)} {oc18 kV18 dc18 pm18 cd18 ct18 : Value} {f19 : Addr} {od19 an19 : Option Addr} {sl19 : Array (Option Value)} {oc19 kV19 dc19 pm19 cd19 ct19 : Value} {f20 : Addr} {od20 an20 : Option Addr} {sl20 : Array (Option Value)} {oc20 kV20 dc20 pm20 cd20 ct20 : Value} {f37 : Addr} {od37 an37 : Option Addr} {sl37 : Array (Option Value)} {oc37 kV37 dc37 pm37 cd37 ct37 : Value} {f38 : Addr} {od38 an38 : Option Addr} {sl38 : Array (Option Value)} {oc38 kV38 dc38 pm38 cd38 ct38 : Value} {f40 : Addr} {od40 an40 : Option Addr} {sl40 : Array (Option Value)} {oc40 kV40 dc40 pm40 cd40 ct40 : Value} {f41 : Addr} {od41 an41 : Option Addr} {sl41 : Array (Option Value)} {oc41 kV41 dc41 pm41 cd41 ct41 : Value}
    (a1 : PySem.W.nsIn K mainGlobals "_law_take" = some (some (.ref f1)))
    (l1 : K.lookup f1 = some ⟨oc1, od1, .func (PySem.W.fnOf "_law_take" "_law_take" (defArgs s_l_take) (defBody s_l_take) (defScope s_l_take) .none kV1 dc1 pm1 an1 cd1 ct1), sl1⟩)
    (c1 : PySem.W.codeIn K cd1 "_law_take" = true)
    (k1 : PySem.W.keepIn K (.ref f1) = true)
    (z2 : PySem.W.nsIn K mainGlobals "int" = some none)
    (z3 : PySem.W.nsIn K mainGlobals "len" = some none)
    (a4 : PySem.W.nsIn K mainGlobals "_law_pool" = some (some (.ref f4)))
    (l4 : K.lookup f4 = some ⟨oc4, od4, .func (PySem.W.fnOf "_law_pool" "_law_pool" (defArgs s_l_pool) (defBody s_l_pool) (defScope s_l_pool) .none kV4 dc4 pm4 an4 cd4 ct4), sl4⟩)
    (c4 : PySem.W.codeIn K cd4 "_law_pool" = true)
    (k4 : PySem.W.keepIn K (.ref f4) = true)
    (z5 : PySem.W.nsIn K mainGlobals "list" = some none)
    (a6 : PySem.W.nsIn K mainGlobals "_law_is_int" = some (some (.ref f6)))
    (l6 : K.lookup f6 = some ⟨oc6, od6, .func (PySem.W.fnOf "_law_is_int" "_law_is_int" (defArgs s_l_is_int) (defBody s_l_is_int) (defScope s_l_is_int) .none kV6 dc6 pm6 an6 cd6 ct6), sl6⟩)
    (c6 : PySem.W.codeIn K cd6 "_law_is_int" = true)
    (k6 : PySem.W.keepIn K (.ref f6) = true)
    (z7 : PySem.W.nsIn K mainGlobals "isinstance" = some none)
    (z8 : PySem.W.nsIn K mainGlobals "bool" = some none)
    (g9 : PySem.W.nsIn K mainGlobals "BadText" = some (some (.ref C_BadText)))
    (x9 : K.lookup C_BadText = some (excClassObj nm9 qn9 C_BadText N9 bs9 [.ref C_BarbreaksError, .type "ValueError", .type "Exception", .type "BaseException", .type "object"] true sn9 sub9 ab9 col9 dd9 m09 m19 m29 m39 m59 "ValueError.__new__"))
    (sa9 : PySem.W.findIn K (.ref C_BadText) "__setattr__" = some (some (.builtin "object.__setattr__")))
    (eC9 : PySem.W.subIn K (.ref C_BadText) (.type "BaseException") = some true)
    (tC9 : PySem.W.typeIn K (.ref C_BadText) = some (.type "type"))
    (kC9 : PySem.W.keepIn K (.ref C_BadText) = true)
    (a9 : PySem.W.findIn K (.ref C_BadText) "__init__" = some (some (.ref f9)))
    (t9 : PySem.W.typeIn K (.ref f9) = some (.type "function"))
    (l9 : K.lookup f9 = some ⟨oc9, od9, .func (PySem.W.fnOf "__init__" "BadText.__init__" (defArgs s_BadText_init) (defBody s_BadText_init) (defScope s_BadText_init) .none kV9 dc9 pm9 an9 cd9 ct9), sl9⟩)
    (c9 : PySem.W.codeIn K cd9 "BadText.__init__" = true)
    (k9 : PySem.W.keepIn K (.ref f9) = true)
    (g10 : PySem.W.nsIn K mainGlobals "BadText" = some (some (.ref C_BadText)))
    (xn11 : PySem.W.findIn K (.ref C_BadText) "text" = some none)
    (a12 : PySem.W.nsIn K mainGlobals "is_number" = some (some (.ref f12)))
    (l12 : K.lookup f12 = some ⟨oc12, od12, .func (PySem.W.fnOf "is_number" "is_number" (defArgs s_is_number) (defBody s_is_number) (defScope s_is_number) .none kV12 dc12 pm12 an12 cd12 ct12), sl12⟩)
    (c12 : PySem.W.codeIn K cd12 "is_number" = true)
    (k12 : PySem.W.keepIn K (.ref f12) = true)
    (z13 : PySem.W.nsIn K mainGlobals "all" = some none)
    (g14 : PySem.W.nsIn K mainGlobals "MOST_DIGITS" = some (some u14))
    (r14 : RelV (.int 40) u14)
    (g15 : PySem.W.nsIn K mainGlobals "DIGITS" = some (some u15))
    (r15 : RelV (.str "0123456789") u15)
    (a16 : PySem.W.nsIn K mainGlobals "write_number" = some (some (.ref f16)))
    (l16 : K.lookup f16 = some ⟨oc16, od16, .func (PySem.W.fnOf "write_number" "write_number" (defArgs s_write_number) (defBody s_write_number) (defScope s_write_number) .none kV16 dc16 pm16 an16 cd16 ct16), sl16⟩)
    (c16 : PySem.W.codeIn K cd16 "write_number" = true)
    (k16 : PySem.W.keepIn K (.ref f16) = true)
    (z17 : PySem.W.nsIn K mainGlobals "str" = some none)
    (a18 : PySem.W.nsIn K mainGlobals "read_number" = some (some (.ref f18)))
    (l18 : K.lookup f18 = some ⟨oc18, od18, .func (PySem.W.fnOf "read_number" "read_number" (defArgs s_read_number) (defBody s_read_number) (defScope s_read_number) .none kV18 dc18 pm18 an18 cd18 ct18), sl18⟩)
    (c18 : PySem.W.codeIn K cd18 "read_number" = true)
    (k18 : PySem.W.keepIn K (.ref f18) = true)
    (a19 : PySem.W.nsIn K mainGlobals "_law_value" = some (some (.ref f19)))
    (l19 : K.lookup f19 = some ⟨oc19, od19, .func (PySem.W.fnOf "_law_value" "_law_value" (defArgs s_l_value) (defBody s_l_value) (defScope s_l_value) .none kV19 dc19 pm19 an19 cd19 ct19), sl19⟩)
    (c19 : PySem.W.codeIn K cd19 "_law_value" = true)
    (k19 : PySem.W.keepIn K (.ref f19) = true)
    (a20 : PySem.W.nsIn K mainGlobals "_law_read" = some (some (.ref f20)))
    (l20 : K.lookup f20 = some ⟨oc20, od20, .func (PySem.W.fnOf "_law_read" "_law_read" (defArgs s_l_read) (defBody s_l_read) (defScope s_l_read) .none kV20 dc20 pm20 an20 cd20 ct20), sl20⟩)
    (c20 : PySem.W.codeIn K cd20 "_law_read" = true)
    (k20 : PySem.W.keepIn K (.ref f20) = true)
    (z21 : PySem.W.nsIn K mainGlobals "ValueError" = some none)
    (g22 : PySem.W.nsIn K mainGlobals "BarbreaksError" = some (some (.ref C_BarbreaksError)))
    (hg23 : PySem.W.findIn K (.ref C_BadText) "__getattribute__" = some (some (.builtin "BaseException.__getattribute__")))
    (hk23 : PySem.W.findIn K (.ref C_BadText) "__getattr__" = some none)
    (hs23 : PySem.W.subIn K (.ref C_BadText) (.type "BaseException") = some true)
    (hd23 : PySem.W.hasDictIn K C_BadText = true)
    (ha23 : PySem.W.findIn K (.ref C_BadText) "__class__" = some (some (.builtin "object.__class__")))
    (hn23 : PySem.W.specialIn K (.builtin "object.__class__") "__get__" = some (some (.builtin "getset_descriptor.__get__")))
    (ht23 : PySem.W.takesIn K (.builtin "object.__class__") = some true)
    (hm23 : PySem.W.mroIn K C_BadText (.type "object") = some true)
    (xa24 : PySem.W.subIn K (.ref C_BarbreaksError) (.type "BaseException") = some true)
    (xb24 : PySem.W.hasDictIn K C_BarbreaksError = true)
    (xc24 : PySem.W.typeIn K (.ref C_BarbreaksError) = some (.type "type"))
    (xd24 : PySem.W.subIn K (.ref C_BadText) (.ref C_BarbreaksError) = some true)
    (ko25 : PySem.W.kitOne K (.ref C_BadText) (.ref C_BadText) = some true)
    (ko26 : PySem.W.kitOne K (.ref C_BadText) (.type "ValueError") = some true)
    (g27 : PySem.W.nsIn K mainGlobals "BadLine" = some (some (.ref C_BadLine)))
    (g28 : PySem.W.nsIn K mainGlobals "BadName" = some (some (.ref C_BadName)))
    (g29 : PySem.W.nsIn K mainGlobals "BadNumber" = some (some (.ref C_BadNumber)))
    (g30 : PySem.W.nsIn K mainGlobals "BadWord" = some (some (.ref C_BadWord)))
    (g31 : PySem.W.nsIn K mainGlobals "Refused" = some (some (.ref C_Refused)))
    (ko32 : PySem.W.kitOne K (.ref C_BadText) (.ref C_BadLine) = some false)
    (ko33 : PySem.W.kitOne K (.ref C_BadText) (.ref C_BadName) = some false)
    (ko34 : PySem.W.kitOne K (.ref C_BadText) (.ref C_BadNumber) = some false)
    (ko35 : PySem.W.kitOne K (.ref C_BadText) (.ref C_BadWord) = some false)
    (ko36 : PySem.W.kitOne K (.ref C_BadText) (.ref C_Refused) = some false)
    (a37 : PySem.W.nsIn K mainGlobals "_law_near" = some (some (.ref f37)))
    (l37 : K.lookup f37 = some ⟨oc37, od37, .func (PySem.W.fnOf "_law_near" "_law_near" (defArgs s_l_near) (defBody s_l_near) (defScope s_l_near) .none kV37 dc37 pm37 an37 cd37 ct37), sl37⟩)
    (c37 : PySem.W.codeIn K cd37 "_law_near" = true)
    (k37 : PySem.W.keepIn K (.ref f37) = true)
    (a38 : PySem.W.nsIn K mainGlobals "_law_written" = some (some (.ref f38)))
    (l38 : K.lookup f38 = some ⟨oc38, od38, .func (PySem.W.fnOf "_law_written" "_law_written" (defArgs s_l_written) (defBody s_l_written) (defScope s_l_written) .none kV38 dc38 pm38 an38 cd38 ct38), sl38⟩)
    (c38 : PySem.W.codeIn K cd38 "_law_written" = true)
    (k38 : PySem.W.keepIn K (.ref f38) = true)
    (z39 : PySem.W.nsIn K mainGlobals "range" = some none)
    (a40 : PySem.W.nsIn K mainGlobals "_law_other" = some (some (.ref f40)))
    (l40 : K.lookup f40 = some ⟨oc40, od40, .func (PySem.W.fnOf "_law_other" "_law_other" (defArgs s_l_other) (defBody s_l_other) (defScope s_l_other) .none kV40 dc40 pm40 an40 cd40 ct40), sl40⟩)
    (c40 : PySem.W.codeIn K cd40 "_law_other" = true)
    (k40 : PySem.W.keepIn K (.ref f40) = true)
    (a41 : PySem.W.nsIn K mainGlobals "law" = some (some (.ref f41)))
    (l41 : K.lookup f41 = some ⟨oc41, od41, .func (PySem.W.fnOf "law" "law" (defArgs s_law) (defBody s_law) (defScope s_law) .none kV41 dc41 pm41 an41 cd41 ct41), sl41⟩)
    (c41 : PySem.W.codeIn K cd41 "law" = true)
    (k41 : PySem.W.keepIn K (.ref f41) = true)
    : ∃ fd : FuncData, (∀ (s : Shared) (v : Value), BindsTo s fd ⟨[v], []⟩ [("_law_script", v)]) ∧ ∀ base : Heap, K.In base → base.Ns mainGlobals mg → FnOk l.prog w K mg base CX0 6 fa fd ["_law_script"] (spLaw K) := by
  have T : Txt K mg C_BadText C_BarbreaksError C_BadLine C_BadName C_BadNumber C_BadWord C_Refused :=
    ⟨⟨f1, _, PySem.W.mg_of X G a1, (fun_mk (st := s_l_take) l1 c1 k1), (fun_mk (st := s_l_take) l1 c1 k1).binds (ps := ["_law_pool_here", "_law_size"]) fun _ _ _ _ _ _ us hl => match us, hl with | [_, _], _ => rfl⟩,
     PySem.W.mg_none_of X G z2,
     PySem.W.mg_none_of X G z3,
     ⟨f4, _, PySem.W.mg_of X G a4, (fun_mk (st := s_l_pool) l4 c4 k4), (fun_mk (st := s_l_pool) l4 c4 k4).binds (ps := ["_law_script"]) fun _ _ _ _ _ _ us hl => match us, hl with | [_], _ => rfl⟩,
     PySem.W.mg_none_of X G z5,
     ⟨f6, _, PySem.W.mg_of X G a6, (fun_mk (st := s_l_is_int) l6 c6 k6), (fun_mk (st := s_l_is_int) l6 c6 k6).binds (ps := ["_law_x"]) fun _ _ _ _ _ _ us hl => match us, hl with | [_], _ => rfl⟩,
     PySem.W.mg_none_of X G z7,
     PySem.W.mg_none_of X G z8,
     ⟨⟨⟨_, _, _, _, _, _, _, _, _, _, _, _, _, _, _, x9, by rfl⟩, sa9, eC9, tC9, kC9⟩, PySem.W.mg_of X G g9, f9, _, a9, t9, (fun_mk (st := s_BadText_init) l9 c9 k9).binds (ps := ["self", "text"]) fun _ _ _ _ _ _ us hl => match us, hl with | [_, _], _ => rfl, (fun_mk (st := s_BadText_init) l9 c9 k9)⟩,
     PySem.W.mg_of X G g10,
     xn11,
     ⟨f12, _, PySem.W.mg_of X G a12, (fun_mk (st := s_is_number) l12 c12 k12), (fun_mk (st := s_is_number) l12 c12 k12).binds (ps := ["text"]) fun _ _ _ _ _ _ us hl => match us, hl with | [_], _ => rfl⟩,
     PySem.W.mg_none_of X G z13,
     ⟨u14, PySem.W.mg_of X G g14, r14⟩,
     ⟨u15, PySem.W.mg_of X G g15, r15⟩,
     ⟨f16, _, PySem.W.mg_of X G a16, (fun_mk (st := s_write_number) l16 c16 k16), (fun_mk (st := s_write_number) l16 c16 k16).binds (ps := ["number"]) fun _ _ _ _ _ _ us hl => match us, hl with | [_], _ => rfl⟩,
     PySem.W.mg_none_of X G z17,
     ⟨f18, _, PySem.W.mg_of X G a18, (fun_mk (st := s_read_number) l18 c18 k18), (fun_mk (st := s_read_number) l18 c18 k18).binds (ps := ["text"]) fun _ _ _ _ _ _ us hl => match us, hl with | [_], _ => rfl⟩,
     ⟨f19, _, PySem.W.mg_of X G a19, (fun_mk (st := s_l_value) l19 c19 k19), (fun_mk (st := s_l_value) l19 c19 k19).binds (ps := ["_law_text"]) fun _ _ _ _ _ _ us hl => match us, hl with | [_], _ => rfl⟩,
     ⟨f20, _, PySem.W.mg_of X G a20, (fun_mk (st := s_l_read) l20 c20 k20), (fun_mk (st := s_l_read) l20 c20 k20).binds (ps := ["_law_text"]) fun _ _ _ _ _ _ us hl => match us, hl with | [_], _ => rfl⟩,
     PySem.W.mg_none_of X G z21,
     PySem.W.mg_of X G g22,
     ⟨hg23, hk23, hs23, hd23, ha23, hn23, ht23, hm23⟩,
     PySem.W.exm_ref xa24 xb24 xc24 xd24,
     ko25,
     ko26,
     PySem.W.mg_of X G g27,
     PySem.W.mg_of X G g28,
     PySem.W.mg_of X G g29,
     PySem.W.mg_of X G g30,
     PySem.W.mg_of X G g31,
     ko32,
     ko33,
     ko34,
     ko35,
     ko36,
     ⟨f37, _, PySem.W.mg_of X G a37, (fun_mk (st := s_l_near) l37 c37 k37), (fun_mk (st := s_l_near) l37 c37 k37).binds (ps := ["_law_text"]) fun _ _ _ _ _ _ us hl => match us, hl with | [_], _ => rfl⟩,
     ⟨f38, _, PySem.W.mg_of X G a38, (fun_mk (st := s_l_written) l38 c38 k38), (fun_mk (st := s_l_written) l38 c38 k38).binds (ps := ["_law_pool_here"]) fun _ _ _ _ _ _ us hl => match us, hl with | [_], _ => rfl⟩,
     PySem.W.mg_none_of X G z39,
     ⟨f40, _, PySem.W.mg_of X G a40, (fun_mk (st := s_l_other) l40 c40 k40), (fun_mk (st := s_l_other) l40 c40 k40).binds (ps := ["_law_pool_here", "_law_text"]) fun _ _ _ _ _ _ us hl => match us, hl with | [_, _], _ => rfl⟩,
     ⟨f41, _, PySem.W.mg_of X G a41, (fun_mk (st := s_law) l41 c41 k41), (fun_mk (st := s_law) l41 c41 k41).binds (ps := ["_law_script"]) fun _ _ _ _ _ _ us hl => match us, hl with | [_], _ => rfl⟩⟩
  obtain ⟨f, fd, g, F, b⟩ := T.law
  obtain rfl : f = fa := Value.ref.inj (Option.some.inj (g.symm.trans hfa))
  refine ⟨fd, fun s v => ?_, fun base _ _ => (ok_law (P := l.prog) (w := w) (base := base) T) f fd F⟩
  obtain ⟨oc, od, kV, doc, pm, an, cdv, ct, osl, rfl, lk, hcd⟩ := F.ex
  exact .of_eq rfl
theorem walk {l : PySem.W.OpenLaw} {q : Program} {loose : List Str} {XP : (Str → Option Value) → Heap → Prop} {YP : World → Heap → Prop} {d : DefRec} {K : Params → PySem.W.Frag} (hn : l.most = some 63) (hdf : d.params.defaults = [])
    (hY : ∀ (w : World) (h : Heap), YP w h → (K w.params).In h)
    (F : ∀ (w : World) (mg : Str → Option Value) (fa : Addr) (h : Heap), (K w.params).In h → h.Ns mainGlobals mg → mg d.name = some (.ref fa) →
      ∃ fd : FuncData, (∀ (s : Shared) (u : Value), BindsTo s fd ⟨[u], []⟩ [("_law_script", u)]) ∧ ∀ base : Heap, (K w.params).In base → base.Ns mainGlobals mg → FnOk l.prog w (K w.params) mg base CX0 6 fa fd ["_law_script"] (spLaw (K w.params))) :
    PySem.W.WalkO q loose XP YP l.row.toRowW d [] (fun f vs => PySem.call f vs) :=
  L2.walk_of (n := 63) (k := 6) (x := "_law_script") (CX := fun _ => CX0) (sp := fun w => spLaw (K w.params)) hn (by decide) hdf ⟨rfl, by decide, by decide⟩ hY F (fun _ _ a ns hl _ hS => ⟨a, ns, rfl, hS, hl, fun _ => rfl⟩) fun _ _ _ _ _ z => z
end Brk.K00
open PySem PySem.W PyProof.Rows in
set_option maxRecDepth 100000 in
set_option maxHeartbeats 0 in
theorem PySem.Challenge.cw_barbreaks_k00_numbers_back_holds : PySem.Challenge.rw_barbreaks_k00_numbers_back.Holds := by
  w_on; o_law; k_head; (case hw => w_witness2)
  k_fill
  refine Brk.K00.walk (l := PySem.Challenge.rw_barbreaks_k00_numbers_back) rfl rfl (fun w h Y => PySem.W.kIn_of Y) ?F
  case F =>
    intro w mg fa h KX G hmg
    refine' Brk.K00.all_mk KX G hmg ?a1 ?l1 ?c1 ?k1 ?z2 ?z3 ?a4 ?l4 ?c4 ?k4 ?z5 ?a6 ?l6 ?c6 ?k6 ?z7 ?z8 ?g9 ?x9 ?sa9 ?eC9 ?tC9 ?kC9 ?a9 ?t9 ?l9 ?c9 ?k9 ?g10 ?xn11 ?a12 ?l12 ?c12 ?k12 ?z13 ?g14 ?r14 ?g15 ?r15 ?a16 ?l16 ?c16 ?k16 ?z17 ?a18 ?l18 ?c18 ?k18 ?a19 ?l19 ?c19 ?k19 ?a20 ?l20 ?c20 ?k20 ?z21 ?g22 ?hg23 ?hk23 ?hs23 ?hd23 ?ha23 ?hn23 ?ht23 ?hm23 ?xa24 ?xb24 ?xc24 ?xd24 ?ko25 ?ko26 ?g27 ?g28 ?g29 ?g30 ?g31 ?ko32 ?ko33 ?ko34 ?ko35 ?ko36 ?a37 ?l37 ?c37 ?k37 ?a38 ?l38 ?c38 ?k38 ?z39 ?a40 ?l40 ?c40 ?k40 ?a41 ?l41 ?c41 ?k41
    (case a1 => k_is)
    (case l1 => k_is)
    (case c1 => k_is)
    (case k1 => k_is)
    (case z2 => k_is)
    (case z3 => k_is)
    (case a4 => k_is)
    (case l4 => k_is)
    (case c4 => k_is)
    (case k4 => k_is)
    (case z5 => k_is)
    (case a6 => k_is)
    (case l6 => k_is)
    (case c6 => k_is)
    (case k6 => k_is)
    (case z7 => k_is)
    (case z8 => k_is)
    (case g9 => k_is)
    (case x9 => k_is)
    (case sa9 => k_is)
    (case eC9 => k_is)
    (case tC9 => k_is)
    (case kC9 => k_is)
    (case a9 => k_is)
    (case t9 => k_is)
    (case l9 => k_is)
    (case c9 => k_is)
    (case k9 => k_is)
    (case g10 => k_is)
    (case xn11 => k_is)
    (case a12 => k_is)
    (case l12 => k_is)
    (case c12 => k_is)
    (case k12 => k_is)
    (case z13 => k_is)
    (case g14 => k_is)
    (case r14 => exact ⟨_, rfl⟩)
    (case g15 => k_is)
    (case r15 => exact ⟨_, rfl⟩)
    (case a16 => k_is)
    (case l16 => k_is)
    (case c16 => k_is)
    (case k16 => k_is)
    (case z17 => k_is)
    (case a18 => k_is)
    (case l18 => k_is)
    (case c18 => k_is)
    (case k18 => k_is)
    (case a19 => k_is)
    (case l19 => k_is)
    (case c19 => k_is)
    (case k19 => k_is)
    (case a20 => k_is)
    (case l20 => k_is)
    (case c20 => k_is)
    (case k20 => k_is)
    (case z21 => k_is)
    (case g22 => k_is)
    (case hg23 => k_is)
    (case hk23 => k_is)
    (case hs23 => k_is)
    (case hd23 => k_is)
    (case ha23 => k_is)
    (case hn23 => k_is)
    (case ht23 => k_is)
    (case hm23 => k_is)
    (case xa24 => k_is)
    (case xb24 => k_is)
    (case xc24 => k_is)
    (case xd24 => (first | k_is | rfl))
    (case ko25 => kit_is)
    (case ko26 => kit_is)
    (case g27 => k_is)
    (case g28 => k_is)
    (case g29 => k_is)
    (case g30 => k_is)
    (case g31 => k_is)
    (case ko32 => kit_is)
    (case ko33 => kit_is)
    (case ko34 => kit_is)
    (case ko35 => kit_is)
    (case ko36 => kit_is)
    (case a37 => k_is)
    (case l37 => k_is)
    (case c37 => k_is)
    (case k37 => k_is)
    (case a38 => k_is)
    (case l38 => k_is)
    (case c38 => k_is)
    (case k38 => k_is)
    (case z39 => k_is)
    (case a40 => k_is)
    (case l40 => k_is)
    (case c40 => k_is)
    (case k40 => k_is)
    (case a41 => k_is)
    (case l41 => k_is)
    (case c41 => k_is)
    (case k41 => k_is)
#print axioms PySem.Challenge.cw_barbreaks_k00_numbers_back_holds
