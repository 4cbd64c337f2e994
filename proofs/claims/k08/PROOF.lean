import PyProof.Rows.All
import Wide.All
import OpenK.AllK
import Wide.FinOn
import HandS.ForMost
import HandS.Wide
import HandS.IsInst
import HandS.Codes
import HandS.ClsMeth
import HandS.Defaults
import HandS.MakeKw
import HandS.MakeKwOnly
import HandS.Property
import HandS.WordsExc
import HandS.Exc
import HandS.ExcInit
import HandS.ExcIs
import HandS.ExcField
import PySem.Challenge.RW_barbreaks_k08_begin_at
set_option Elab.async false
set_option linter.all false
set_option maxRecDepth 100000
/-! Own words over the hand layer: a def of the module with its promise, in one Prop. -/
namespace Brk
open PySem L2

/-- the module's name x holds a def that keeps the promise sp by at most level k -/
def Dk (P : Program) (w : World) (K : PySem.W.Frag) (mg : Str → Option Value) (base : Heap) (CX : CXT) (k : Nat) (x : Str) (ps : List Str) (sp : Sp) : Prop :=
  ∃ (f : Addr) (fd : FuncData), mg x = some (.ref f) ∧ PySem.W.keepIn K (.ref f) = true ∧ Binds K fd ps [] ∧ FnOk P w K mg base CX k f fd ps sp
/-- the module's name x holds the def whose text is st -/
def Df (K : PySem.W.Frag) (mg : Str → Option Value) (x : Str) (st : Stmt) (ps : List Str) : Prop :=
  ∃ (f : Addr) (fd : FuncData), mg x = some (.ref f) ∧ Fun K x x st f fd ∧ Binds K fd ps []
section
variable {X : Cx} {CX : CXT} {k : Nat} {ps : List Str} {sp : Sp} {E : XK} {x : Str} {p pos : Pos} {e : Expr} {es : List Expr} {t : TA}
theorem pe_d (D : Dk X.prog X.w X.K X.mg X.base CX k x ps sp) (hr : Room k X.A) (hx : Passes CX X E) (hg : Gl X x) (ha : PA X (e :: es) t)
    (hdb : (x == ("__debug__" : Str)) = false := by decide) (he : starEach (e :: es) X.env = (false, eval e X.env) :: starEach es X.env := by rfl) (hpl : (backTo pos (starEach es X.env)).any (·.1) = false := by rfl) :
    PE X (.Call (.Name x p) (e :: es) [] pos) (tCall sp [] E t) := by
  obtain ⟨f, fd, hm, hk, hb, F⟩ := D
  exact pe_call F hr hg hm hk hb .nil hx ha hdb he hpl
end
theorem Dk.mono {P : Program} {w : World} {K : PySem.W.Frag} {mg : Str → Option Value} {base : Heap} {CX : CXT} {k : Nat} {x : Str} {ps : List Str} {sp sp' : Sp} (D : Dk P w K mg base CX k x ps sp)
    (h : ∀ f fd, FnOk P w K mg base CX k f fd ps sp → FnOk P w K mg base CX k f fd ps sp') : Dk P w K mg base CX k x ps sp' := by
  obtain ⟨f, fd, a, b, c, F⟩ := D
  exact ⟨f, fd, a, b, c, h f fd F⟩

theorem bl_t {p : Prop} [Decidable p] (h : p) : V.bl (decide p) = V.bl true := by rw [decide_eq_true h]
theorem bl_f {p : Prop} [Decidable p] (h : ¬ p) : V.bl (decide p) = V.bl false := by rw [decide_eq_false h]
theorem pos_m7 : (0 : Int) < 2147483647 := by decide
theorem pos_m9 : (0 : Int) < 2147483399 := by decide
/-! ### heaps -/
/-- only what stands at p may have changed -/
def Off (p : Addr) (H H' : Hp) : Prop := ∀ b, b ≠ p → H' b = H b
theorem Off.refl {p : Addr} {H : Hp} : Off p H H := fun _ _ => rfl
theorem Off.trans {p : Addr} {H H1 H2 : Hp} (a : Off p H H1) (b : Off p H1 H2) : Off p H H2 := fun c hc => (b c hc).trans (a c hc)
theorem Off.upd {p : Addr} {H : Hp} {o : HO} : Off p H (upd H p o) := fun _ hb => upd_ne hb

/-! ### the script's pool: a list of four ints and the list of the script's numbers -/
def PL (c : Addr) (l : List V) : Prop := ∃ z i t d : Int, 0 ≤ i ∧ l = [.int z, .int i, .int t, .int d, .ref c]
structure Pool (ns : List Int) (c : Addr) (H : Hp) (p : Addr) : Prop where
  at_ : ∃ l, H p = some (.lst l) ∧ PL c l
  cells : H c = some (.lst (ns.map V.int))
theorem Pool.off {ns : List Int} {c : Addr} {H H' : Hp} {p q : Addr} (h : Pool ns c H p) (o : Off q H H') (h1 : p ≠ q) (h2 : c ≠ q) : Pool ns c H' p := by
  obtain ⟨⟨l, a, b⟩, d⟩ := h
  exact ⟨⟨l, (o p h1).trans a, b⟩, (o c h2).trans d⟩
theorem Pool.ne {ns : List Int} {c : Addr} {H : Hp} {p : Addr} (h : Pool ns c H p) : c ≠ p := by
  obtain ⟨⟨l, a, z, i, t, d, _, rfl⟩, b⟩ := h
  intro e
  rw [e, a] at b
  have q := HO.lst.inj (Option.some.inj b)
  have m : V.ref c ∈ ns.map V.int := by rw [← q]; simp
  simp at m
theorem Pool.same {ns : List Int} {c : Addr} {H H' : Hp} {p : Addr} (h : Pool ns c H p) (s : Same H H') : Pool ns c H' p := by
  obtain ⟨⟨l, a, b⟩, d⟩ := h
  exact ⟨⟨l, s _ _ a, b⟩, s _ _ d⟩
theorem Pool.upd {ns : List Int} {c : Addr} {H : Hp} {p : Addr} {l : List V} (h : Pool ns c H p) (hl : PL c l) : Pool ns c (L2.upd H p (.lst l)) p :=
  ⟨⟨l, upd_same, hl⟩, (upd_ne h.ne).trans h.cells⟩
theorem ints_at {ns : List Int} {i : Nat} {y : V} (h : (ns.map V.int)[i]? = some y) : ∃ z, ns[i]? = some z ∧ y = V.int z := by
  rw [List.getElem?_map] at h
  cases e : ns[i]? with
  | none => rw [e] at h; cases h
  | some z => rw [e] at h; exact ⟨z, rfl, (Option.some.inj h).symm⟩
theorem atI_ge {α : Type} {xs : List α} {i : Int} {v : α} (h0 : 0 ≤ i) (h : xs[i.toNat]? = some v) : atI xs i = some v := by
  have e : i = (i.toNat : Int) := by omega
  rw [e]
  exact atI_nat h

/-! ### promises of the drawing helpers -/
/-- a draw: the pool at p is asked; the answer is good; nothing but the pool's own list is another -/
def spTake : Sp := fun vs H Q _ => ∃ (p c : Addr) (ns : List Int) (n : Int), vs = [.ref p, .int n] ∧ Pool ns c H p ∧ 0 < n ∧ n.natAbs.log2 < 9000 ∧
  ∀ (r : Int) (H' : Hp), 0 ≤ r → r < n → Pool ns c H' p → Off p H H' → Q (.int r) H'
def spBig : Sp := fun vs H Q _ => ∃ (p c : Addr) (ns : List Int), vs = [.ref p] ∧ Pool ns c H p ∧
  ∀ (r : Int) (H' : Hp), 0 ≤ r → r < 10 ^ 27 → Pool ns c H' p → Off p H H' → Q (.int r) H'
/-- a draw by the pool alone; by the pool and a number -/
def spDraw (G : Int → Prop) : Sp := fun vs H Q _ => ∃ (p c : Addr) (ns : List Int), vs = [.ref p] ∧ Pool ns c H p ∧ ∀ (r : Int) (H' : Hp), G r → Pool ns c H' p → Off p H H' → Q (.int r) H'
def spDraw2 (A : Int → Prop) (G : Int → Int → Prop) : Sp := fun vs H Q _ => ∃ (p c : Addr) (ns : List Int) (s : Int), vs = [.ref p, .int s] ∧ Pool ns c H p ∧ A s ∧ ∀ (r : Int) (H' : Hp), G s r → Pool ns c H' p → Off p H H' → Q (.int r) H'
def GFree (r : Int) : Prop := -10 ^ 27 < r ∧ r < 10 ^ 27
def GStep (r : Int) : Prop := 1 ≤ r ∧ r ≤ 10 ^ 27
theorem log2_27 {n : Int} (h : 1 ≤ n) (h2 : n ≤ 10 ^ 27) : n.natAbs.log2 < 9000 := by
  have e : n.natAbs ≠ 0 := by omega
  refine (Nat.log2_lt e).mpr (Nat.lt_of_lt_of_le (m := 2 ^ 90) (by omega) (Nat.pow_le_pow_right (by decide) (by decide)))
/-- isinstance(x, int) and (not isinstance(x, bool)) -/
def spIsInt (K : PySem.W.Frag) : Sp := fun vs H Q _ => ∃ (x : V) (t : Value) (b1 b2 : Bool), vs = [x] ∧ TyX K H x t ∧ PySem.W.kitOne K t (.type "int") = some b1 ∧ PySem.W.kitOne K t (.type "bool") = some b2 ∧ Q (.bl (b1 && !b2)) H
theorem kInt {K : PySem.W.Frag} : PySem.W.kitOne K (.type "int") (.type "int") = some true := kit_ty (by decide +kernel)
theorem kIntB {K : PySem.W.Frag} : PySem.W.kitOne K (.type "int") (.type "bool") = some false := kit_ty (by decide +kernel)
theorem isInt_int {K : PySem.W.Frag} {H : Hp} {Q : VK} {E : XK} {i : Int} (h : Q (.bl true) H) : spIsInt K [.int i] H Q E := ⟨.int i, _, true, false, rfl, .base (.int i), kit_ty (by decide +kernel), kit_ty (by decide +kernel), h⟩
def spPool (K : PySem.W.Frag) : Sp := fun vs H Q _ => ∃ (a : Addr) (ns : List Int), vs = [.ref a] ∧ SqL K H a (ns.map V.int) ∧ ns.length ≤ 63 ∧
  ∀ (p c : Addr) (H' : Hp), Pool ns c H' p → H p = none → H c = none → Same H H' → Q (.ref p) H'

/-! ### classes: methods, makers, defs read off a class -/
/-- the class at C has the method m, a def whose text is st -/
def Mf (K : PySem.W.Frag) (C : Addr) (m qual : Str) (st : Stmt) (ps : List Str) : Prop := ∃ (f : Addr) (fd : FuncData), Meth K C m f ∧ Fun K m qual st f fd ∧ Binds K fd ps []
/-- .. and it keeps the promise sp -/
def Me (P : Program) (w : World) (K : PySem.W.Frag) (mg : Str → Option Value) (base : Heap) (CX : CXT) (k : Nat) (C : Addr) (m : Str) (ps : List Str) (sp : Sp) : Prop :=
  ∃ (f : Addr) (fd : FuncData), Meth K C m f ∧ Binds K fd ps [] ∧ FnOk P w K mg base CX k f fd ps sp
/-- the class of the name x, at C, is made by an __init__ that keeps sp, its last parameters filled by dvs -/
def MkD (P : Program) (w : World) (K : PySem.W.Frag) (mg : Str → Option Value) (base : Heap) (CX : CXT) (k : Nat) (x : Str) (C : Addr) (ps : List Str) (dvs : List V) (sp : Sp) : Prop :=
  ∃ (f : Addr) (fd : FuncData) (ds : List Value), mg x = some (.ref C) ∧ Mk K C f ∧ Binds K fd ps ds ∧ Vals dvs ds ∧ FnOk P w K mg base CX k f fd ps sp
section
variable {X : Cx} {CX : CXT} {k : Nat} {ps : List Str} {sp : Sp} {dvs : List V} {E : XK} {x m : Str} {C : Addr} {p pos apos : Pos} {o e : Expr} {es : List Expr} {ta : TE} {t : TA}
theorem pe_me {pl : Sem Bool} (M : Me X.prog X.w X.K X.mg X.base CX k C m ps sp) (c : Cls X.K C) (hr : Room k X.A) (hx : Passes CX X E) (he : PE X o ta) (ha : PA X (e :: es) t)
    (hst : starEach (e :: es) X.env = (false, eval e X.env) :: starEach es X.env := by rfl) (hpl : (backTo pos (starEach es X.env)).any (·.1) = false := by rfl)
    (ht : eval (.Call (.Attribute o m apos) (e :: es) [] pos) X.env = (do
      let ov ← eval o X.env
      standAt apos.atName
      let (f, first) ← holding [ov] (getMethod ov m pl)
      callWith pos f first (backTo pos (starEach (e :: es) X.env)) (backToKw pos (keywordEach [] X.env))) := by rfl) :
    PE X (.Call (.Attribute o m apos) (e :: es) [] pos) (tMeth C m sp [] E ta t) := by
  obtain ⟨f, fd, hm, hb, F⟩ := M
  exact pe_meth (pl := pl) he c hm F hr hb .nil hx ha hst hpl ht
theorem pe_mkd (M : MkD X.prog X.w X.K X.mg X.base CX k x C ps dvs sp) (hr : Room (k + 1) X.A) (hx : Passes CX X E) (hg : Gl X x) (ha : PA X (e :: es) t)
    (hdb : (x == ("__debug__" : Str)) = false := by decide) (he : starEach (e :: es) X.env = (false, eval e X.env) :: starEach es X.env := by rfl) (hpl : (backTo pos (starEach es X.env)).any (·.1) = false := by rfl) :
    PE X (.Call (.Name x p) (e :: es) [] pos) (tMake C sp dvs E t) := by
  obtain ⟨f, fd, ds, hm, M, hb, hd, F⟩ := M
  exact pe_make M F hr hg hm hb hd hx ha hdb he hpl
/-- C.m(e, ..), m a plain def of the class at C -/
theorem pe_cfn {mc : Value} {f : Addr} {fd : FuncData} {pl : Sem Bool} (he : PE X o ta) (r : ClX.CRead X.K C mc) (ca : PySem.W.findCls X.K (.ref C) mc m = some (.val (.ref f))) (hk : PySem.W.keepIn X.K (.ref f) = true) (hb : Binds X.K fd ps [])
    (F : FnOk X.prog X.w X.K X.mg X.base CX k f fd ps sp) (hr : Room k X.A) (hx : Passes CX X E) (ha : PA X (e :: es) t)
    (hst : starEach (e :: es) X.env = (false, eval e X.env) :: starEach es X.env := by rfl) (hpl : (backTo pos (starEach es X.env)).any (·.1) = false := by rfl)
    (ht : eval (.Call (.Attribute o m apos) (e :: es) [] pos) X.env = (do
      let ov ← eval o X.env
      standAt apos.atName
      let (f, first) ← holding [ov] (getMethod ov m pl)
      callWith pos f first (backTo pos (starEach (e :: es) X.env)) (backToKw pos (keywordEach [] X.env))) := by rfl) :
    PE X (.Call (.Attribute o m apos) (e :: es) [] pos) (fun σ H Q => ta σ H fun x H1 => x = .ref C ∧ t σ H1 fun vs H2 => sp (vs ++ []) H2 Q E) := by
  constructor
  intro pins s σ H Q I h
  refine PySem.W.methodCall_KW (pl := pl) (thn (he.run pins s σ H _ I h) fun u s1 hh => ?_) ht
  obtain ⟨v, H1, I1, rv, ev, q⟩ := hh
  subst ev
  obtain rfl : u = Value.ref C := rv
  refine PySem.W.method_cls I1.kIn r.ga ?_
  refine PySem.W.cls_value I1.kIn r.rd ca rfl ?_
  have J := I1.tok (s1.toks + 1)
  refine PySem.W.callWith_K (first := []) (h₀ := X.base) I1.ok.mod.kin hk ?_ hst hpl
  refine thn (ha.run pos pins _ σ H1 _ J q) fun us s2 hh2 => ?_
  obtain ⟨vs, H2, I2, rr, q2⟩ := hh2
  exact ⟨I2.kIn, run_fn F hr hb .nil hx I2 rr q2⟩
end

/-- the class at C gives out its def m when it is asked by its own name; the text st -/
def Sf (K : PySem.W.Frag) (C : Addr) (m qual : Str) (st : Stmt) (ps : List Str) : Prop := ∃ (mc : Value) (f : Addr) (fd : FuncData), ClX.CRead K C mc ∧ PySem.W.findCls K (.ref C) mc m = some (.val (.ref f)) ∧ Fun K m qual st f fd ∧ Binds K fd ps []
def Cf (P : Program) (w : World) (K : PySem.W.Frag) (mg : Str → Option Value) (base : Heap) (CX : CXT) (k : Nat) (C : Addr) (m : Str) (ps : List Str) (sp : Sp) : Prop :=
  ∃ (mc : Value) (f : Addr) (fd : FuncData), ClX.CRead K C mc ∧ PySem.W.findCls K (.ref C) mc m = some (.val (.ref f)) ∧ PySem.W.keepIn K (.ref f) = true ∧ Binds K fd ps [] ∧ FnOk P w K mg base CX k f fd ps sp
section
variable {X : Cx} {CX : CXT} {k : Nat} {ps : List Str} {sp : Sp} {E : XK} {m : Str} {C : Addr} {pos apos : Pos} {o e : Expr} {es : List Expr} {ta : TE} {t : TA}
theorem pe_cf {pl : Sem Bool} (M : Cf X.prog X.w X.K X.mg X.base CX k C m ps sp) (hr : Room k X.A) (hx : Passes CX X E) (he : PE X o ta) (ha : PA X (e :: es) t)
    (hst : starEach (e :: es) X.env = (false, eval e X.env) :: starEach es X.env := by rfl) (hpl : (backTo pos (starEach es X.env)).any (·.1) = false := by rfl)
    (ht : eval (.Call (.Attribute o m apos) (e :: es) [] pos) X.env = (do
      let ov ← eval o X.env
      standAt apos.atName
      let (f, first) ← holding [ov] (getMethod ov m pl)
      callWith pos f first (backTo pos (starEach (e :: es) X.env)) (backToKw pos (keywordEach [] X.env))) := by rfl) :
    PE X (.Call (.Attribute o m apos) (e :: es) [] pos) (fun σ H Q => ta σ H fun x H1 => x = .ref C ∧ t σ H1 fun vs H2 => sp (vs ++ []) H2 Q E) := by
  obtain ⟨mc, f, fd, r, ca, hk, hb, F⟩ := M
  exact pe_cfn (pl := pl) he r ca hk hb F hr hx ha hst hpl ht
end
/-- a call that writes n values and then the keywords ks, in the parameters' order -/
abbrev KA (K : PySem.W.Frag) (fd : FuncData) (ps : List Str) (n : Nat) (ks : List Str) : Prop := KBn K fd ps n ks (fun us ws => us ++ ws) (fun vs zs => vs ++ zs)
def CfK (P : Program) (w : World) (K : PySem.W.Frag) (mg : Str → Option Value) (base : Heap) (CX : CXT) (k : Nat) (C : Addr) (m : Str) (ps : List Str) (n : Nat) (ks : List Str) (sp : Sp) : Prop :=
  ∃ (mc : Value) (f : Addr) (fd : FuncData), ClX.CRead K C mc ∧ PySem.W.findCls K (.ref C) mc m = some (.val (.ref f)) ∧ PySem.W.keepIn K (.ref f) = true ∧ KA K fd ps n ks ∧ FnOk P w K mg base CX k f fd ps sp
def SfK (K : PySem.W.Frag) (C : Addr) (m qual : Str) (st : Stmt) (ps : List Str) (n : Nat) (ks : List Str) : Prop := ∃ (mc : Value) (f : Addr) (fd : FuncData), ClX.CRead K C mc ∧ PySem.W.findCls K (.ref C) mc m = some (.val (.ref f)) ∧ Fun K m qual st f fd ∧ KA K fd ps n ks
def MkK (P : Program) (w : World) (K : PySem.W.Frag) (mg : Str → Option Value) (base : Heap) (CX : CXT) (k : Nat) (x : Str) (C : Addr) (ps : List Str) (n : Nat) (ks : List Str) (sp : Sp) : Prop :=
  ∃ (f : Addr) (fd : FuncData), mg x = some (.ref C) ∧ Mk K C f ∧ KA K fd ps n ks ∧ FnOk P w K mg base CX k f fd ps sp
def IfK (K : PySem.W.Frag) (C : Addr) (qual : Str) (st : Stmt) (ps : List Str) (n : Nat) (ks : List Str) : Prop := ∃ (f : Addr) (fd : FuncData), Mk K C f ∧ Fun K "__init__" qual st f fd ∧ KA K fd ps n ks
section
variable {X : Cx} {CX : CXT} {k n : Nat} {ps ks : List Str} {sp : Sp} {E : XK} {x m : Str} {C : Addr} {p pos apos : Pos} {o e : Expr} {es : List Expr} {kws : List Keyword} {ta : TE} {t tk : TA}
theorem pe_cfK {pl : Sem Bool} (M : CfK X.prog X.w X.K X.mg X.base CX k C m ps n ks sp) (hr : Room k X.A) (hx : Passes CX X E) (he : PE X o ta) (ha : PA X (e :: es) t) (hkw : PK X kws tk)
    (hall : (backToKw pos (keywordEach kws X.env)).all (·.1.isSome) = true := by rfl) (hks : (backToKw pos (keywordEach kws X.env)).filterMap (·.1) = ks := by rfl)
    (hst : starEach (e :: es) X.env = (false, eval e X.env) :: starEach es X.env := by rfl)
    (hpl : ((backTo pos (starEach (e :: es) X.env)).any (·.1) || (backToKw pos (keywordEach kws X.env)).any (·.1.isNone)) = false := by rfl)
    (ht : eval (.Call (.Attribute o m apos) (e :: es) kws pos) X.env = (do
      let ov ← eval o X.env
      standAt apos.atName
      let (f, first) ← holding [ov] (getMethod ov m pl)
      callWith pos f first (backTo pos (starEach (e :: es) X.env)) (backToKw pos (keywordEach kws X.env))) := by rfl) :
    PE X (.Call (.Attribute o m apos) (e :: es) kws pos) (fun σ H Q => ta σ H fun x H1 => x = .ref C ∧ t σ H1 fun vs H2 => tk σ H2 fun zs H3 => vs.length = n ∧ zs.length = ks.length ∧ sp (vs ++ zs) H3 Q E) := by
  obtain ⟨mc, f, fd, r, ca, hk, hb, F⟩ := M
  constructor
  intro pins s σ H Q I h
  refine PySem.W.methodCall_KW (pl := pl) (thn (he.run pins s σ H _ I h) fun u s1 hh => ?_) ht
  obtain ⟨v, H1, I1, rv, ev, q⟩ := hh
  subst ev
  obtain rfl : u = Value.ref C := rv
  refine PySem.W.method_cls I1.kIn r.ga ?_
  refine PySem.W.cls_value I1.kIn r.rd ca rfl ?_
  have J := I1.tok (s1.toks + 1)
  refine PySem.W.callWith_KW (first := []) (h₀ := X.base) I1.ok.mod.kin hk hall ?_ hpl hst
  refine thn (ha.run pos pins _ σ H1 _ J q) fun us s2 hh2 => ?_
  obtain ⟨vs, H2, I2, rr, q2⟩ := hh2
  refine thn (hkw.run pos pins s2 σ H2 _ I2 q2) fun ws s3 hh3 => ?_
  obtain ⟨zs, H3, I3, rz, l1, l2, q3⟩ := hh3
  refine ⟨I3.kIn, ?_⟩
  rw [hks]
  exact run_fnN F hr hb hx I3 rr rz l1 l2 q3
theorem pe_mkK (M : MkK X.prog X.w X.K X.mg X.base CX k x C ps (n + 1) ks sp) (hr : Room (k + 1) X.A) (hx : Passes CX X E) (hg : Gl X x) (ha : PA X (e :: es) t) (hkw : PK X kws tk)
    (hall : (backToKw pos (keywordEach kws X.env)).all (·.1.isSome) = true := by rfl) (hks : (backToKw pos (keywordEach kws X.env)).filterMap (·.1) = ks := by rfl)
    (hdb : (x == ("__debug__" : Str)) = false := by decide) (he : starEach (e :: es) X.env = (false, eval e X.env) :: starEach es X.env := by rfl)
    (hpl : ((backTo pos (starEach (e :: es) X.env)).any (·.1) || (backToKw pos (keywordEach kws X.env)).any (·.1.isNone)) = false := by rfl) :
    PE X (.Call (.Name x p) (e :: es) kws pos) (tMakeN C n ks.length sp (fun vs zs => vs ++ zs) E t tk) := by
  obtain ⟨f, fd, hm, M, hb, F⟩ := M
  exact pe_makeN M F hr hg hm hb hx ha hkw hall hks hdb he hpl
end
def If0 (K : PySem.W.Frag) (C : Addr) (qual : Str) (st : Stmt) (ps : List Str) : Prop := ∃ (f : Addr) (fd : FuncData), Mk K C f ∧ Fun K "__init__" qual st f fd ∧ Binds K fd ps []
/-- an __init__ with written defaults dvs, those behind the first j filled in by a call -/
def IfD (K : PySem.W.Frag) (C : Addr) (qual : Str) (st : Stmt) (ps : List Str) (dvs : List V) (j : Nat) : Prop := ∃ (f : Addr) (fd : FuncData) (ds : List Value), Mk K C f ∧ FunD K "__init__" qual (defArgs st) (defBody st) (defScope st) dvs [] f fd ∧ Vals (dvs.drop j) ds ∧ Binds K fd ps ds
theorem ifD_mk {K : PySem.W.Frag} {C f T : Addr} {qual : Str} {st : Stmt} {ps : List Str} {dvs : List V} {j : Nat} {oc kV doc pm cdv ct oT : Value} {od an dT : Option Addr} {osl sT : Array (Option Value)} {its : Array Value} {nT : Nat} (M : Mk K C f)
    (l : K.lookup f = some ⟨oc, od, .func (PySem.W.fnOf "__init__" qual (defArgs st) (defBody st) (defScope st) (.ref T) kV doc pm an cdv ct), osl⟩) (c : PySem.W.codeIn K cdv qual = true) (k : PySem.W.keepIn K (.ref f) = true)
    (lT : K.lookup T = some ⟨oT, dT, .seq its nT, sT⟩) (vT : Vals dvs its.toList) (n : Nat) (hd : dvs ≠ []) (hn : n + (dvs.length - j) = ps.length)
    (h : ∀ (T : Addr) (kV doc pm : Value) (an : Option Addr) (cdv ct : Value) (us its : List Value), us.length = n → its.length = dvs.length →
      ∃ k, bindArgs (PySem.W.fnOf "__init__" qual (defArgs st) (defBody st) (defScope st) (.ref T) kV doc pm an cdv ct) ⟨us, []⟩ = seqItems? (.ref T) >>= k ∧ k (some its.toArray) = pure (ps.zip (us ++ its.drop j))) : IfD K C qual st ps dvs j := by
  have F : FunD K "__init__" qual (defArgs st) (defBody st) (defScope st) dvs [] f (PySem.W.fnOf "__init__" qual (defArgs st) (defBody st) (defScope st) (.ref T) kV doc pm an cdv ct) :=
    ⟨⟨oc, od, _, kV, doc, pm, an, cdv, ct, osl, rfl, l, c, .inr ⟨hd, T, _, its.toList, nT, rfl, lT, rfl, vT⟩, .inl rfl⟩, k⟩
  obtain ⟨ds, a, b⟩ := F.binds1 n j hd hn h
  exact ⟨f, _, ds, M, F, a, b⟩
def SfD (K : PySem.W.Frag) (C : Addr) (qual : Str) (st : Stmt) (ps : List Str) (dvs : List V) (j : Nat) : Prop := ∃ (mc : Value) (f : Addr) (fd : FuncData) (ds : List Value), ClX.CRead K C mc ∧ PySem.W.findCls K (.ref C) mc "__init__" = some (.val (.ref f)) ∧
  FunD K "__init__" qual (defArgs st) (defBody st) (defScope st) dvs [] f fd ∧ Vals (dvs.drop j) ds ∧ Binds K fd ps ds
theorem sfD_mk {K : PySem.W.Frag} {C f T : Addr} {qual : Str} {st : Stmt} {ps : List Str} {dvs : List V} {j : Nat} {oc kV doc pm cdv ct oT : Value} {od an dT : Option Addr} {osl sT : Array (Option Value)} {its : Array Value} {nT : Nat} {mc : Value} (r : ClX.CRead K C mc) (ca : PySem.W.findCls K (.ref C) mc "__init__" = some (.val (.ref f)))
    (l : K.lookup f = some ⟨oc, od, .func (PySem.W.fnOf "__init__" qual (defArgs st) (defBody st) (defScope st) (.ref T) kV doc pm an cdv ct), osl⟩) (c : PySem.W.codeIn K cdv qual = true) (k : PySem.W.keepIn K (.ref f) = true)
    (lT : K.lookup T = some ⟨oT, dT, .seq its nT, sT⟩) (vT : Vals dvs its.toList) (n : Nat) (hd : dvs ≠ []) (hn : n + (dvs.length - j) = ps.length)
    (h : ∀ (T : Addr) (kV doc pm : Value) (an : Option Addr) (cdv ct : Value) (us its : List Value), us.length = n → its.length = dvs.length →
      ∃ k, bindArgs (PySem.W.fnOf "__init__" qual (defArgs st) (defBody st) (defScope st) (.ref T) kV doc pm an cdv ct) ⟨us, []⟩ = seqItems? (.ref T) >>= k ∧ k (some its.toArray) = pure (ps.zip (us ++ its.drop j))) : SfD K C qual st ps dvs j := by
  have F : FunD K "__init__" qual (defArgs st) (defBody st) (defScope st) dvs [] f (PySem.W.fnOf "__init__" qual (defArgs st) (defBody st) (defScope st) (.ref T) kV doc pm an cdv ct) :=
    ⟨⟨oc, od, _, kV, doc, pm, an, cdv, ct, osl, rfl, l, c, .inr ⟨hd, T, _, its.toList, nT, rfl, lT, rfl, vT⟩, .inl rfl⟩, k⟩
  obtain ⟨ds, a, b⟩ := F.binds1 n j hd hn h
  exact ⟨mc, f, _, ds, r, ca, F, a, b⟩
/-- a constant of the class, asked by the class's name -/
def Kc (K : PySem.W.Frag) (C : Addr) (f : Str) (v : V) : Prop := ∃ (mc u : Value), ClX.CRead K C mc ∧ ClX.CVal K C mc f v u

/-! ### lists of signs -/
/-- a comprehension over a text's signs -/
theorem lc_text {x : Str} {g : TG} {tt : TT} {te : TE} {vs : List Nat} {σ : St} {H1 : Hp} {D : Addr} {Qd : Hp → Prop} (Pv : Nat → Hp → Prop) (h0 : Pv 0 (L2.upd H1 D (.lst [])))
    (hs : ∀ (i : Nat) (c : Nat) (H : Hp), x.cps[i]? = some c → Pv i H → g (.str ⟨#[c]⟩) (wipe σ vs) H fun σ2 H2 => wipe σ2 vs = wipe σ vs ∧ tt σ2 H2 fun b H3 =>
      if b = true then te σ2 H3 fun y H4 => ∃ acc, H4 D = some (.lst acc) ∧ acc.length < sizeLine ∧ Pv (i + 1) (L2.upd H4 D (.lst (acc ++ [y]))) else Pv (i + 1) H3) (hd : ∀ H, Pv x.cps.size H → Qd H) :
    ∃ W : Nat → Nat → Hp → Prop, (∃ m, W 0 m (L2.upd H1 D (.lst []))) ∧ ∀ i m H, W i m H →
      ((Its x).stop i H ∧ Qd H) ∨ ((Its x).go i H ∧ ∃ Nx : Hp → Prop, (∀ H', Nx H' → ∃ m', m' < m ∧ W (i + 1) m' H') ∧ ∀ y H', (Its x).yld i H y H' → g y (wipe σ vs) H' fun σ2 H2 => wipe σ2 vs = wipe σ vs ∧ tt σ2 H2 fun b H3 =>
        if b = true then te σ2 H3 fun y H4 => ∃ acc, H4 D = some (.lst acc) ∧ acc.length < sizeLine ∧ Nx (L2.upd H4 D (.lst (acc ++ [y]))) else Nx H3) := by
  refine ⟨fun i m H => m + i = x.cps.size ∧ Pv i H, ⟨x.cps.size, rfl, h0⟩, ?_⟩
  intro i m H hh
  obtain ⟨hm, p⟩ := hh
  by_cases z : m = 0
  · subst z
    have e : i = x.cps.size := by omega
    subst e
    exact Or.inl ⟨Nat.le_refl _, hd H p⟩
  · refine Or.inr ⟨by show i < x.cps.size; omega, Pv (i + 1), fun H' p' => ⟨m - 1, by omega, by omega, p'⟩, ?_⟩
    intro y H' yy
    obtain ⟨e, c, hc, ey⟩ := yy
    subst e ey
    exact hs i c _ hc p

/-! ### what else stays -/
/-- all that was tracked is as it was, but for what stands at p -/
def But (p : Addr) (H H' : Hp) : Prop := ∀ b o, H b = some o → b ≠ p → H' b = some o
theorem But.of_same {p : Addr} {H H' : Hp} (s : Same H H') : But p H H' := fun b o e _ => s b o e
theorem But.of_off {p : Addr} {H H' : Hp} (s : Off p H H') : But p H H' := fun b o e hb => by rw [s b hb]; exact e
theorem But.trans {p : Addr} {H H1 H2 : Hp} (a : But p H H1) (b : But p H1 H2) : But p H H2 := fun c o e hc => b c o (a c o e hc) hc
theorem But.upd {p : Addr} {H : Hp} {o : HO} : But p H (L2.upd H p o) := fun b u e hb => by rw [upd_ne hb]; exact e
theorem Same.new {H : Hp} {p : Addr} {o : HO} (h : H p = none) : Same H (L2.upd H p o) := fun b u e => by rw [upd_ne (ne_of_none e h)]; exact e
/-- a new instance and its __init__, which leaves all but the instance -/
theorem Same.inst {H H1 : Hp} {x dx C : Addr} (nx : H x = none) (nd : H dx = none) (k : But x (L2.upd (L2.upd H dx (.own x)) x (.ins C dx [])) H1) : Same H H1 := Same.made nx nd k
/-! ### names -/
def letS : Str := "abcdefghijklmnopqrstuvwxyz"
def digS : Str := "0123456789"
def signB (c : Nat) : Bool := decide (c ∈ letS.cps.toList) || decide (c ∈ digS.cps.toList)
/-- 1 to 12 small letters and digits, a letter first -/
def nameB (z : Str) : Bool := decide (1 ≤ z.cps.size) && (decide (z.cps.size ≤ 12) && (decide (z.cps.getD 0 0 ∈ letS.cps.toList) && z.cps.toList.all signB))
def spIsName : Sp := fun vs H Q _ => ∃ (z : Str), vs = [.str z] ∧ z.length ≤ 100000 ∧ ∀ H', Same H H' → Q (.bl (nameB z)) H'

/-! ### items -/
def barOf (s o t : Int) : Int := t + (o - t) % s
/-- a Grid at g -/
def GridAt (C : Addr) (H : Hp) (g : Addr) (s o : Int) : Prop := 0 < s ∧ ∃ dx, H g = some (.ins C dx [("step", .int s), ("offset", .int o)])
theorem GridAt.same {C : Addr} {H H' : Hp} {g : Addr} {s o : Int} (h : GridAt C H g s o) (e : Same H H') : GridAt C H' g s o := by
  obtain ⟨a, dx, b⟩ := h
  exact ⟨a, dx, e _ _ b⟩
def startOf (m : V) (mo : Int) : Int := match m with
  | .int i => if i > mo then i else mo
  | _ => mo
def spGrid0 (C : Addr) : Sp := fun vs H Q _ => ∃ (p dx : Addr) (s o : Int), vs = [.ref p, .int s, .int o] ∧ H p = some (.ins C dx []) ∧ 1 ≤ s ∧ ∀ H', GridAt C H' p s (o % s) → Off p H H' → Q .non H'
def spFirstBar (C : Addr) : Sp := fun vs H Q _ => ∃ (g : Addr) (s o t : Int), vs = [.ref g, .int t] ∧ GridAt C H g s o ∧ Q (.int (barOf s o t)) H
def spNamed0 (K : PySem.W.Frag) : Sp := fun vs H Q _ => ∃ (p C dx : Addr) (fs : List (Str × V)) (z : Str), vs = [.ref p, .str z] ∧ H p = some (.ins C dx fs) ∧ Cls K C ∧ NoAttr K C "name" ∧ nameB z = true ∧ z.length ≤ 1000 ∧ fs.length < 100 ∧
  ∀ H', H' p = some (.ins C dx (putF "name" (.str z) fs)) → But p H H' → Q .non H'
def putT (g m d : V) (fs : List (Str × V)) : List (Str × V) := putF "delay" d (putF "minute" m (putF "grid" g fs))
def spTimed0 (K : PySem.W.Frag) : Sp := fun vs H Q _ => ∃ (p C dx : Addr) (fs : List (Str × V)) (g m : V) (d : Int), vs = [.ref p, g, m, .int d] ∧ H p = some (.ins C dx fs) ∧ Cls K C ∧ NoAttr K C "grid" ∧ NoAttr K C "minute" ∧ NoAttr K C "delay" ∧
  0 ≤ d ∧ d ≤ 8 ∧ fs.length < 100 ∧ ∀ H', H' p = some (.ins C dx (putT g m (.int d) fs)) → Off p H H' → Q .non H'
structure ItemC (K : PySem.W.Frag) (C : Addr) : Prop where
  c : Cls K C
  n : NoAttr K C "name"
  g : NoAttr K C "grid"
  m : NoAttr K C "minute"
  d : NoAttr K C "delay"
def putI (z : Str) (g m d : V) (fs : List (Str × V)) : List (Str × V) := putT g m d (putF "name" (.str z) fs)
def spItem0 (K : PySem.W.Frag) : Sp := fun vs H Q _ => ∃ (p C dx : Addr) (fs : List (Str × V)) (z : Str) (g m : V) (d : Int), vs = [.ref p, .str z, g, m, .int d] ∧ H p = some (.ins C dx fs) ∧ ItemC K C ∧ nameB z = true ∧ z.length ≤ 1000 ∧
  0 ≤ d ∧ d ≤ 8 ∧ fs.length < 90 ∧ ∀ H', H' p = some (.ins C dx (putI z g m (.int d) fs)) → But p H H' → Q .non H'
theorem putF_length {f : Str} {v : V} : ∀ {fs : List (Str × V)}, (putF f v fs).length ≤ fs.length + 1
  | [] => Nat.le_refl _
  | q :: r => by
    unfold putF
    split
    · exact Nat.le_succ _
    · exact Nat.succ_le_succ putF_length
theorem putI_length (z : Str) (g m : V) (d : Int) : (putI z g m (.int d) []).length ≤ 4 := by
  have a1 := @putF_length "name" (.str z) []
  have a2 := @putF_length "grid" g (putF "name" (.str z) [])
  have a3 := @putF_length "minute" m (putF "grid" g (putF "name" (.str z) []))
  have a4 := @putF_length "delay" (.int d) (putF "minute" m (putF "grid" g (putF "name" (.str z) [])))
  have a0 : ([] : List (Str × V)).length = 0 := rfl
  show (putF "delay" (.int d) (putF "minute" m (putF "grid" g (putF "name" (.str z) [])))).length ≤ 4
  omega
def spPiece0 (K : PySem.W.Frag) : Sp := fun vs H Q _ => ∃ (p C dx : Addr) (z : Str) (g m : V) (l t d : Int), vs = [.ref p, .str z, g, .int l, .int t, m, .int d] ∧ H p = some (.ins C dx []) ∧ ItemC K C ∧ NoAttr K C "least" ∧ NoAttr K C "most" ∧ nameB z = true ∧ z.length ≤ 1000 ∧
  0 ≤ d ∧ d ≤ 8 ∧ 1 ≤ l ∧ l ≤ t ∧ t ≤ l + 8 ∧ ∀ H', H' p = some (.ins C dx (putF "most" (.int t) (putF "least" (.int l) (putI z g m (.int d) [])))) → But p H H' → Q .non H'
def spBreak0 (K : PySem.W.Frag) : Sp := fun vs H Q _ => ∃ (p C dx : Addr) (z : Str) (g m : V) (n u d y : Int), vs = [.ref p, .str z, g, m, .int n, .int u, .int d, .int y] ∧ H p = some (.ins C dx []) ∧ ItemC K C ∧ NoAttr K C "places" ∧ NoAttr K C "unit" ∧ NoAttr K C "patience" ∧ nameB z = true ∧ z.length ≤ 1000 ∧
  0 ≤ d ∧ d ≤ 8 ∧ 1 ≤ n ∧ n ≤ 12 ∧ 1 ≤ u ∧ 1 ≤ y ∧ y ≤ 64 ∧ ∀ H', H' p = some (.ins C dx (putF "patience" (.int y) (putF "unit" (.int u) (putF "places" (.int n) (putI z g m (.int d) []))))) → But p H H' → Q .non H'
/-- an item at a: its grid g, its minute m; its class knows begin_at, whose text is st -/
def ItAt (K : PySem.W.Frag) (st : Stmt) (H : Hp) (a g : Addr) (m : V) : Prop := ∃ (C dx : Addr) (fs : List (Str × V)), H a = some (.ins C dx fs) ∧ Cls K C ∧ Mf K C "begin_at" "Timed.begin_at" st ["self", "moment", "delay"] ∧ NoAttr K C "grid" ∧ NoAttr K C "minute" ∧
  fs.lookup ("grid" : Str) = some (.ref g) ∧ fs.lookup ("minute" : Str) = some m ∧ fs.lookup ("begin_at" : Str) = none
theorem ItAt.same {K : PySem.W.Frag} {st : Stmt} {H H' : Hp} {a g : Addr} {m : V} (h : ItAt K st H a g m) (e : Same H H') : ItAt K st H' a g m := by
  obtain ⟨C, dx, fs, h1, r⟩ := h
  exact ⟨C, dx, fs, e _ _ h1, r⟩
def MinOk (m : V) : Prop := m = .non ∨ ∃ i, m = .int i
def spBegin (K : PySem.W.Frag) (C CG : Addr) : Sp := fun vs H Q _ => ∃ (a g dx : Addr) (fs : List (Str × V)) (m : V) (mo de s o : Int), vs = [.ref a, .int mo, .int de] ∧ H a = some (.ins C dx fs) ∧ Cls K C ∧ NoAttr K C "grid" ∧ NoAttr K C "minute" ∧
  fs.lookup ("grid" : Str) = some (.ref g) ∧ fs.lookup ("minute" : Str) = some m ∧ MinOk m ∧ GridAt CG H g s o ∧ Q (.int (barOf s o (startOf m mo + de))) H
theorem sorted_two {a b : Int} {l : List Int} (p : l.Perm [a, b]) (s : l.Pairwise (· ≤ ·)) : l = [if b > a then a else b, if b > a then b else a] := by
  have hl : l.length = 2 := p.length_eq
  match l, hl, p, s with
  | [x, y], _, p, s =>
    have hxy : x ≤ y := by
      have q := (List.pairwise_cons.mp s).1 y (List.mem_singleton.mpr rfl)
      exact q
    have hx : x = a ∨ x = b := by
      have q := p.mem_iff (a := x)
      simpa using q
    rcases hx with e | e
    · subst e
      have q : [y].Perm [b] := (List.perm_cons x).mp p
      have ey : y = b := by simpa using q.mem_iff (a := y)
      subst ey
      by_cases c : y > x
      · rw [if_pos c, if_pos c]
      · rw [if_neg c, if_neg c]
        have z : x = y := by omega
        rw [z]
    · subst e
      have q : [y].Perm [a] := (List.perm_cons x).mp (p.trans (List.Perm.swap x a []))
      have ey : y = a := by simpa using q.mem_iff (a := y)
      subst ey
      by_cases c : x > y
      · omega
      · rw [if_neg c, if_neg c]
/-- tuples of two ints at the addresses -/
def RowsIn (H : Hp) : List Addr → List (Int × Int) → Prop
  | [], [] => True
  | a :: as, q :: qs => H a = some (.tup [.int q.1, .int q.2]) ∧ RowsIn H as qs
  | _, _ => False
theorem RowsIn.same {H H' : Hp} (s : Same H H') : ∀ {as : List Addr} {qs : List (Int × Int)}, RowsIn H as qs → RowsIn H' as qs
  | [], [], _ => trivial
  | _ :: _, _ :: _, h => ⟨s _ _ h.1, RowsIn.same s h.2⟩
  | [], _ :: _, h => h.elim
  | _ :: _, [], h => h.elim
theorem RowsIn.at_ {H : Hp} : ∀ {as : List Addr} {qs : List (Int × Int)} {i : Nat} {x : V}, RowsIn H as qs → (as.map V.ref)[i]? = some x → ∃ a q, x = .ref a ∧ qs[i]? = some q ∧ H a = some (.tup [.int q.1, .int q.2])
  | [], _, i, x, _, e => by simp at e
  | a :: as, q :: qs, 0, x, h, e => ⟨a, q, by simpa using e.symm, rfl, h.1⟩
  | a :: as, q :: qs, i + 1, x, h, e => by
    obtain ⟨b, r, e1, e2, e3⟩ := RowsIn.at_ (i := i) h.2 (by simpa using e)
    exact ⟨b, r, e1, by simpa using e2, e3⟩
  | _ :: _, [], _, _, h, _ => h.elim
theorem RowsIn.len {H : Hp} : ∀ {as : List Addr} {qs : List (Int × Int)}, RowsIn H as qs → as.length = qs.length
  | [], [], _ => rfl
  | _ :: _, _ :: _, h => congrArg Nat.succ (RowsIn.len h.2)
  | [], _ :: _, h => h.elim
  | _ :: _, [], h => h.elim
theorem bar_ge {s o t : Int} (hs : 0 < s) : 0 ≤ barOf s o t - t ∧ barOf s o t - t < s := by
  unfold barOf
  have h1 := Int.emod_nonneg (o - t) (by omega : s ≠ 0)
  have h2 := Int.emod_lt_of_pos (o - t) hs
  omega
theorem bar_mod {s o o' t : Int} (h : (o - o') % s = 0) : (barOf s o t - o') % s = 0 := by
  unfold barOf
  have e : t + (o - t) % s - o' = (o - o') - s * ((o - t) / s) := by
    have q := Int.emod_add_mul_ediv (o - t) s
    omega
  rw [e, Int.sub_mul_emod_self_left]
  exact h
/-- the first bar is not earlier for a later tick -/
theorem bar_mono {s o t t' : Int} (hs : 0 < s) (h : t ≤ t') : barOf s o t ≤ barOf s o t' := by
  have a := bar_ge (o := o) (t := t) hs
  have b := bar_ge (o := o) (t := t') hs
  have d : (barOf s o t - barOf s o t') % s = 0 := by
    have h1 : (barOf s o t - o) % s = 0 := bar_mod (by simp)
    have h2 : (barOf s o t' - o) % s = 0 := bar_mod (by simp)
    have e : barOf s o t - barOf s o t' = (barOf s o t - o) - (barOf s o t' - o) := by omega
    rw [e, Int.sub_emod, h1, h2]
    simp
  by_cases c : barOf s o t ≤ barOf s o t'
  · exact c
  · have h3 : 0 < barOf s o t - barOf s o t' := by omega
    have h4 : barOf s o t - barOf s o t' < s := by omega
    rw [Int.emod_eq_of_lt (by omega) h4] at d
    omega
theorem start_mono {m : V} {a b : Int} (h : a ≤ b) : startOf m a ≤ startOf m b := by
  unfold startOf
  split
  · split <;> split <;> omega
  · exact h
theorem off_mod {o s : Int} : (o % s - o) % s = 0 := by
  have e : o % s - o = 0 - s * (o / s) := by
    have q := Int.emod_add_mul_ediv o s
    omega
  rw [e, Int.sub_mul_emod_self_left]
  simp
def spAsked (K : PySem.W.Frag) (st : Stmt) (CG : Addr) : Sp := fun vs H Q _ => ∃ (it g r : Addr) (m : V) (s o : Int) (as : List Addr) (q0 q1 q2 q3 q4 q5 q6 q7 q8 : Int × Int), vs = [.ref it, .int s, .int o, m, .ref r] ∧ ItAt K st H it g m ∧ MinOk m ∧ GridAt CG H g s (o % s) ∧
  H r = some (.lst (as.map V.ref)) ∧ RowsIn H as [q0, q1, q2, q3, q4, q5, q6, q7, q8] ∧
  barOf s (o % s) (startOf m q0.1 + q0.2) ≤ barOf s (o % s) (startOf m q1.1 + q1.2) ∧ barOf s (o % s) (startOf m q1.1 + q1.2) ≤ barOf s (o % s) (startOf m q2.1 + q2.2) ∧
  barOf s (o % s) (startOf m q0.1 + q0.2) ≤ barOf s (o % s) (startOf m q3.1 + q3.2) ∧ barOf s (o % s) (startOf m q3.1 + q3.2) ≤ barOf s (o % s) (startOf m q2.1 + q2.2) ∧ q8 = q0 ∧ ∀ H', Same H H' → Q (.bl true) H'
theorem keepU {H : Hp} {b p : Addr} {o o' u : HO} (hb : H b = some o) (hp : H p = some o') (h : o ≠ o') : L2.upd H p u b = some o := by
  have n : b ≠ p := fun z => by
    rw [z, hp] at hb
    exact h (Option.some.inj hb).symm
  rw [upd_ne n]
  exact hb
theorem RowsIn.keep {H : Hp} {p : Addr} {xs : List V} {u : HO} (hp : H p = some (.lst xs)) : ∀ {as : List Addr} {qs : List (Int × Int)}, RowsIn H as qs → RowsIn (L2.upd H p u) as qs
  | [], [], _ => trivial
  | _ :: _, _ :: _, h => ⟨keepU h.1 hp (by intro z; cases z), RowsIn.keep hp h.2⟩
  | [], _ :: _, h => h.elim
  | _ :: _, [], h => h.elim
theorem ItAt.keep {K : PySem.W.Frag} {st : Stmt} {H : Hp} {a g p : Addr} {m : V} {xs : List V} {u : HO} (h : ItAt K st H a g m) (hp : H p = some (.lst xs)) : ItAt K st (L2.upd H p u) a g m := by
  obtain ⟨C, dx, fs, h1, r⟩ := h
  exact ⟨C, dx, fs, keepU h1 hp (by intro z; cases z), r⟩
theorem GridAt.keep {C : Addr} {H : Hp} {g p : Addr} {s o : Int} {xs : List V} {u : HO} (h : GridAt C H g s o) (hp : H p = some (.lst xs)) : GridAt C (L2.upd H p u) g s o := by
  obtain ⟨a, dx, b⟩ := h
  exact ⟨a, dx, keepU b hp (by intro z; cases z)⟩
theorem look_put {f : Str} {v : V} {fs : List (Str × V)} : (putF f v fs).lookup f = some v := by rw [lookup_putF, if_pos rfl]
theorem look_ne {f g : Str} {v : V} {fs : List (Str × V)} (h : ¬ g = f) : (putF f v fs).lookup g = fs.lookup g := by rw [lookup_putF, if_neg h]
theorem putT_grid {g m d : V} {fs : List (Str × V)} : (putT g m d fs).lookup ("grid" : Str) = some g := by
  unfold putT
  rw [look_ne (by decide +kernel), look_ne (by decide +kernel), look_put]
theorem putT_min {g m d : V} {fs : List (Str × V)} : (putT g m d fs).lookup ("minute" : Str) = some m := by
  unfold putT
  rw [look_ne (by decide +kernel), look_put]
theorem putT_no {g m d : V} {fs : List (Str × V)} (h : fs.lookup ("begin_at" : Str) = none) : (putT g m d fs).lookup ("begin_at" : Str) = none := by
  unfold putT
  rw [look_ne (by decide +kernel), look_ne (by decide +kernel), look_ne (by decide +kernel), h]
theorem putI_no {z : Str} {g m d : V} : (putI z g m d []).lookup ("begin_at" : Str) = none := by
  unfold putI
  refine putT_no ?_
  rw [look_ne (by decide +kernel)]
  rfl
theorem ble_f {a b : V} (h : a = b) : V.bl (!decide (a = b)) = V.bl false := by rw [decide_eq_true h]; rfl
def spClock : Sp := fun vs H Q _ => ∃ (p c : Addr) (ns : List Int) (m : Int), vs = [.ref p, .int m] ∧ Pool ns c H p ∧ ∀ (r : V) (H' : Hp), MinOk r → Pool ns c H' p → Off p H H' → Q r H'
def spLaw (K : PySem.W.Frag) : Sp := fun vs H Q _ => ∃ (a : Addr) (ns : List Int), vs = [.ref a] ∧ SqL K H a (ns.map V.int) ∧ ns.length ≤ 63 ∧ ∀ H', Q (.bl true) H'
end Brk

set_option Elab.async false
set_option linter.all false
set_option maxRecDepth 100000
set_option maxHeartbeats 4000000
namespace Brk.K08
open PySem L2 Brk
def top (i : Nat) : Stmt := PySem.Challenge.pw_barbreaks_k08_begin_at.main.body.getD i (.Pass ⟨0, 0, 0, 0⟩)
abbrev s_l_take : Stmt := top 27
theorem sc_l_take : FnScope ["_law_pool_here", "_law_size", "_law_cells", "_law_mixed", "_law_cell", "_law_digit"] ["_law_pool_here", "_law_size"] (defScope s_l_take) := ⟨rfl, rfl, rfl, by decide +kernel, rfl, by decide +kernel, by decide +kernel⟩
abbrev s_l_big : Stmt := top 28
theorem sc_l_big : FnScope ["_law_pool_here", "_law_value", "_law_k"] ["_law_pool_here"] (defScope s_l_big) := ⟨rfl, rfl, rfl, by decide +kernel, rfl, by decide +kernel, by decide +kernel⟩
abbrev s_l_pool : Stmt := top 26
theorem sc_l_pool : FnScope ["_law_script", "_law_seed", "_law_cell"] ["_law_script"] (defScope s_l_pool) := ⟨rfl, rfl, rfl, by decide +kernel, rfl, by decide +kernel, by decide +kernel⟩
abbrev s_l_is_int : Stmt := top 25
theorem sc_l_is_int : FnScope ["_law_x"] ["_law_x"] (defScope s_l_is_int) := ⟨rfl, rfl, rfl, by decide +kernel, rfl, by decide +kernel, by decide +kernel⟩
abbrev s_l_free : Stmt := top 29
theorem sc_l_free : FnScope ["_law_pool_here", "_law_value", "_law_way"] ["_law_pool_here"] (defScope s_l_free) := ⟨rfl, rfl, rfl, by decide +kernel, rfl, by decide +kernel, by decide +kernel⟩
abbrev s_l_step : Stmt := top 30
theorem sc_l_step : FnScope ["_law_pool_here", "_law_way"] ["_law_pool_here"] (defScope s_l_step) := ⟨rfl, rfl, rfl, by decide +kernel, rfl, by decide +kernel, by decide +kernel⟩
abbrev s_l_shift : Stmt := top 31
theorem sc_l_shift : FnScope ["_law_pool_here", "_law_step_here", "_law_way"] ["_law_pool_here", "_law_step_here"] (defScope s_l_shift) := ⟨rfl, rfl, rfl, by decide +kernel, rfl, by decide +kernel, by decide +kernel⟩
abbrev s_l_clock : Stmt := top 32
theorem sc_l_clock : FnScope ["_law_pool_here", "_law_moment", "_law_way"] ["_law_pool_here", "_law_moment"] (defScope s_l_clock) := ⟨rfl, rfl, rfl, by decide +kernel, rfl, by decide +kernel, by decide +kernel⟩
abbrev s_l_wait : Stmt := top 33
theorem sc_l_wait : FnScope ["_law_pool_here", "_law_wait_here"] ["_law_pool_here"] (defScope s_l_wait) := ⟨rfl, rfl, rfl, by decide +kernel, rfl, by decide +kernel, by decide +kernel⟩
abbrev s_l_more : Stmt := top 34
theorem sc_l_more : FnScope ["_law_pool_here", "_law_more_here"] ["_law_pool_here"] (defScope s_l_more) := ⟨rfl, rfl, rfl, by decide +kernel, rfl, by decide +kernel, by decide +kernel⟩
abbrev s_is_name : Stmt := top 12
theorem sc_is_name : FnScope ["text", "sign"] ["text"] (defScope s_is_name) := ⟨rfl, rfl, rfl, by decide +kernel, rfl, by decide +kernel, by decide +kernel⟩
abbrev s_Grid_first_bar : Stmt := inClass (top 23) 2
theorem sc_Grid_first_bar : FnScope ["self", "tick"] ["self", "tick"] (defScope s_Grid_first_bar) := ⟨rfl, rfl, rfl, by decide +kernel, rfl, by decide +kernel, by decide +kernel⟩
abbrev s_Grid_init : Stmt := inClass (top 23) 0
theorem sc_Grid_init : FnScope ["self", "step", "offset"] ["self", "step", "offset"] (defScope s_Grid_init) := ⟨rfl, rfl, rfl, by decide +kernel, rfl, by decide +kernel, by decide +kernel⟩
abbrev s_Named_init : Stmt := inClass (top 16) 0
theorem sc_Named_init : FnScope ["self", "name"] ["self", "name"] (defScope s_Named_init) := ⟨rfl, rfl, rfl, by decide +kernel, rfl, by decide +kernel, by decide +kernel⟩
abbrev s_Timed_init : Stmt := inClass (top 17) 1
theorem sc_Timed_init : FnScope ["self", "grid", "minute", "delay"] ["self", "grid", "minute", "delay"] (defScope s_Timed_init) := ⟨rfl, rfl, rfl, by decide +kernel, rfl, by decide +kernel, by decide +kernel⟩
abbrev s_Item_init : Stmt := inClass (top 18) 0
theorem sc_Item_init : FnScope ["self", "name", "grid", "minute", "delay"] ["self", "name", "grid", "minute", "delay"] (defScope s_Item_init) := ⟨rfl, rfl, rfl, by decide +kernel, rfl, by decide +kernel, by decide +kernel⟩
abbrev s_Piece_init : Stmt := inClass (top 19) 1
theorem sc_Piece_init : FnScope ["self", "name", "grid", "least", "most", "minute", "delay"] ["self", "name", "grid", "least", "most", "minute", "delay"] (defScope s_Piece_init) := ⟨rfl, rfl, rfl, by decide +kernel, rfl, by decide +kernel, by decide +kernel⟩
abbrev s_Break_init : Stmt := inClass (top 20) 2
theorem sc_Break_init : FnScope ["self", "name", "grid", "minute", "places", "unit", "delay", "patience"] ["self", "name", "grid", "minute", "places", "unit", "delay", "patience"] (defScope s_Break_init) := ⟨rfl, rfl, rfl, by decide +kernel, rfl, by decide +kernel, by decide +kernel⟩
abbrev s_Timed_begin_at : Stmt := inClass (top 17) 2
theorem sc_Timed_begin_at : FnScope ["self", "moment", "delay", "start"] ["self", "moment", "delay"] (defScope s_Timed_begin_at) := ⟨rfl, rfl, rfl, by decide +kernel, rfl, by decide +kernel, by decide +kernel⟩
abbrev s_l_asked : Stmt := top 35
theorem sc_l_asked : FnScope ["_law_item", "_law_step_here", "_law_offset", "_law_clock_here", "_law_rows", "_law_begins", "_law_moment", "_law_wait_here", "_law_start", "_law_told"] ["_law_item", "_law_step_here", "_law_offset", "_law_clock_here", "_law_rows"] (defScope s_l_asked) := ⟨rfl, rfl, rfl, by decide +kernel, rfl, by decide +kernel, by decide +kernel⟩
abbrev s_law : Stmt := top 36
theorem sc_law : FnScope ["_law_script", "_law_pool_here", "_law_step_here", "_law_offset", "_law_moment", "_law_clock_here", "_law_late", "_law_wait_here", "_law_later", "_law_longer", "_law_start", "_law_bar", "_law_rows", "_law_bars", "_law_items", "_law_turn", "_law_item"] ["_law_script"] (defScope s_law) := ⟨rfl, rfl, rfl, by decide +kernel, rfl, by decide +kernel, by decide +kernel⟩
structure Txt (K : PySem.W.Frag) (mg : Str → Option Value) (C_Grid : Addr) (C_Named : Addr) (C_Timed : Addr) (C_Item : Addr) (C_Piece : Addr) (C_Break : Addr) : Prop where
  l_take : Df K mg "_law_take" s_l_take ["_law_pool_here", "_law_size"]
  b_int : mg "int" = none
  b_len : mg "len" = none
  l_big : Df K mg "_law_big" s_l_big ["_law_pool_here"]
  b_range : mg "range" = none
  l_pool : Df K mg "_law_pool" s_l_pool ["_law_script"]
  b_list : mg "list" = none
  l_is_int : Df K mg "_law_is_int" s_l_is_int ["_law_x"]
  b_isinstance : mg "isinstance" = none
  b_bool : mg "bool" = none
  l_free : Df K mg "_law_free" s_l_free ["_law_pool_here"]
  l_step : Df K mg "_law_step" s_l_step ["_law_pool_here"]
  l_shift : Df K mg "_law_shift" s_l_shift ["_law_pool_here", "_law_step_here"]
  l_clock : Df K mg "_law_clock" s_l_clock ["_law_pool_here", "_law_moment"]
  l_wait : Df K mg "_law_wait" s_l_wait ["_law_pool_here"]
  l_more : Df K mg "_law_more" s_l_more ["_law_pool_here"]
  is_name : Df K mg "is_name" s_is_name ["text"]
  b_all : mg "all" = none
  v_MOST_SIGNS : ∃ u, mg "MOST_SIGNS" = some u ∧ RelV (.int 12) u
  v_LETTERS : ∃ u, mg "LETTERS" = some u ∧ RelV (.str "abcdefghijklmnopqrstuvwxyz") u
  v_DIGITS : ∃ u, mg "DIGITS" = some u ∧ RelV (.str "0123456789") u
  g_Grid : mg "Grid" = some (.ref C_Grid)
  c_Grid : Cls K C_Grid
  n_Grid_step : NoAttr K C_Grid "step"
  n_Grid_offset : NoAttr K C_Grid "offset"
  m_Grid_first_bar : Mf K C_Grid "first_bar" "Grid.first_bar" s_Grid_first_bar ["self", "tick"]
  i3_Grid : IfD K C_Grid "Grid.__init__" s_Grid_init ["self", "step", "offset"] [.int 0] 1
  g_Named : mg "Named" = some (.ref C_Named)
  c_Named : Cls K C_Named
  q_Named_init : Sf K C_Named "__init__" "Named.__init__" s_Named_init ["self", "name"]
  g_Timed : mg "Timed" = some (.ref C_Timed)
  c_Timed : Cls K C_Timed
  k_Timed_MOST_DELAY : Kc K C_Timed "MOST_DELAY" (.int 8)
  q4_Timed : SfD K C_Timed "Timed.__init__" s_Timed_init ["self", "grid", "minute", "delay"] [.non, .int 0] 2
  i4_Timed : IfD K C_Timed "Timed.__init__" s_Timed_init ["self", "grid", "minute", "delay"] [.non, .int 0] 2
  g_Item : mg "Item" = some (.ref C_Item)
  c_Item : Cls K C_Item
  q_Item_init : SfK K C_Item "__init__" "Item.__init__" s_Item_init ["self", "name", "grid", "minute", "delay"] 2 ["grid", "minute", "delay"]
  i_Item : IfK K C_Item "Item.__init__" s_Item_init ["self", "name", "grid", "minute", "delay"] 2 ["grid", "minute", "delay"]
  g_Piece : mg "Piece" = some (.ref C_Piece)
  c_Piece : Cls K C_Piece
  k_Piece_MOST_SPREAD : Kc K C_Piece "MOST_SPREAD" (.int 8)
  i_Piece : IfK K C_Piece "Piece.__init__" s_Piece_init ["self", "name", "grid", "least", "most", "minute", "delay"] 2 ["grid", "least", "most", "minute", "delay"]
  g_Break : mg "Break" = some (.ref C_Break)
  c_Break : Cls K C_Break
  k_Break_MOST_PLACES : Kc K C_Break "MOST_PLACES" (.int 12)
  k_Break_MOST_PATIENCE : Kc K C_Break "MOST_PATIENCE" (.int 64)
  i_Break : IfK K C_Break "Break.__init__" s_Break_init ["self", "name", "grid", "minute", "places", "unit", "delay", "patience"] 2 ["grid", "minute", "places", "unit", "delay", "patience"]
  b_max : mg "max" = none
  l_asked : Df K mg "_law_asked" s_l_asked ["_law_item", "_law_step_here", "_law_offset", "_law_clock_here", "_law_rows"]
  b_sorted : mg "sorted" = none
  n_Timed_grid : NoAttr K C_Timed "grid"
  n_Timed_minute : NoAttr K C_Timed "minute"
  n_Timed_delay : NoAttr K C_Timed "delay"
  n_Item_grid : NoAttr K C_Item "grid"
  n_Item_minute : NoAttr K C_Item "minute"
  n_Item_delay : NoAttr K C_Item "delay"
  n_Piece_grid : NoAttr K C_Piece "grid"
  n_Piece_minute : NoAttr K C_Piece "minute"
  n_Piece_delay : NoAttr K C_Piece "delay"
  n_Break_grid : NoAttr K C_Break "grid"
  n_Break_minute : NoAttr K C_Break "minute"
  n_Break_delay : NoAttr K C_Break "delay"
  n_Item_name : NoAttr K C_Item "name"
  n_Piece_name : NoAttr K C_Piece "name"
  n_Break_name : NoAttr K C_Break "name"
  n_Piece_least : NoAttr K C_Piece "least"
  n_Piece_most : NoAttr K C_Piece "most"
  n_Break_places : NoAttr K C_Break "places"
  n_Break_unit : NoAttr K C_Break "unit"
  n_Break_patience : NoAttr K C_Break "patience"
  m_Timed_begin_at : Mf K C_Timed "begin_at" "Timed.begin_at" s_Timed_begin_at ["self", "moment", "delay"]
  m_Item_begin_at : Mf K C_Item "begin_at" "Timed.begin_at" s_Timed_begin_at ["self", "moment", "delay"]
  m_Piece_begin_at : Mf K C_Piece "begin_at" "Timed.begin_at" s_Timed_begin_at ["self", "moment", "delay"]
  m_Break_begin_at : Mf K C_Break "begin_at" "Timed.begin_at" s_Timed_begin_at ["self", "moment", "delay"]
  law : Df K mg "law" s_law ["_law_script"]
section
variable {P : Program} {w : World} {K : PySem.W.Frag} {mg : Str → Option Value} {base : Heap} {C_Grid : Addr} {C_Named : Addr} {C_Timed : Addr} {C_Item : Addr} {C_Piece : Addr} {C_Break : Addr}
theorem ok_l_take (T : Txt K mg C_Grid C_Named C_Timed C_Item C_Piece C_Break) : Dk P w K mg base CX0 1 "_law_take" ["_law_pool_here", "_law_size"] spTake := by
  obtain ⟨f, fd, g, F, b⟩ := T.l_take
  refine ⟨f, fd, g, F.kp, b, F.ok sc_l_take (fun vs H Q E h => ?_) (fun cdv A outer s H vs Q E hr h => ?_)⟩
  · obtain ⟨p, c, ns, n, rfl, _⟩ := h
    rfl
  · obtain ⟨p, c, ns, n, rfl, hp, hn, hn9, k⟩ := h
    obtain ⟨⟨l, hl, z, i, t, d, hi, rfl⟩, hc⟩ := id hp
    refine ⟨_, (pss_cons (ps_set (i := 2) sc_l_take.nd rfl (Or.inl rfl) (pe_ix ix_list (pv 0) pe_int (fun _ _ => rfl)))
  (pss_cons (ps_asg (pe_op op_add (pe_ix ix_list (pv 0) pe_int (fun _ _ => rfl)) pe_int) (pg_sub (pv 0) pe_int set_list))
  (pss_cons (ps_set (i := 3) sc_l_take.nd rfl (Or.inl rfl) (pe_op op_mod (pe_callTy call_int1 (by rfl) T.b_int (by decide +kernel) (pa_cons (pe_op op_add (pe_op op_add (pe_op op_mul (pe_ix ix_list (pv 0) pe_int (fun _ _ => rfl)) pe_int) (pe_op op_mul (pe_ix ix_list (pv 0) pe_int (fun _ _ => rfl)) pe_int)) pe_int) pa_nil)) pe_int))
  (C8.pss_cut (ps_if (PW.pt (pw_and (pt_cmpR op_eq (pe_ix ix_list (pv 0) pe_int (fun _ _ => rfl)) pe_int (nomark _)) (pw_and1 (pt_cmpR op_lt (pe_ix ix_list (pv 0) pe_int (fun _ _ => rfl)) (pe_callB call_len_seq (by rfl) T.b_len (by decide +kernel) (pa_cons (pv 2) pa_nil)) (nomark _)))))
  (pss_cons (ps_set (i := 4) sc_l_take.nd rfl (Or.inl rfl) (pe_callTy call_int1 (by rfl) T.b_int (by decide +kernel) (pa_cons (pe_ix ix_list (pv 2) (pe_ix ix_list (pv 0) pe_int (fun _ _ => rfl)) (fun _ _ => rfl)) pa_nil)))
  (pss_cons (ps_asg (pe_op op_add (pe_ix ix_list (pv 0) pe_int (fun _ _ => rfl)) pe_int) (pg_sub (pv 0) pe_int set_list))
  (pss_cons (ps_set (i := 3) sc_l_take.nd rfl (Or.inl rfl) (pe_op op_mod (pe_callTy call_int1 (by rfl) T.b_int (by decide +kernel) (pa_cons (pe_op op_add (pe_op op_add (pe_op op_mul (pv 4) pe_int) (pe_ix ix_list (pv 0) pe_int (fun _ _ => rfl))) (pe_op op_mul (pe_ix ix_list (pv 0) pe_int (fun _ _ => rfl)) pe_int)) pa_nil)) pe_int))
  (pss_one (ps_if (pt_cmpR op_ge (pv 4) (pe_op op_pow pe_int pe_int) (nomark _))
  (pss_one (ps_asg (pv 4) (pg_sub (pv 0) pe_int set_list)))
  pss_nil)))))
  pss_nil)
  (pss_cons (ps_if (pt_cmpR op_gt (pe_ix ix_list (pv 0) pe_int (fun _ _ => rfl)) pe_int (nomark _))
  (pss_cons (ps_set (i := 5) sc_l_take.nd rfl (Or.inl rfl) (pe_op op_mod (pe_callTy call_int1 (by rfl) T.b_int (by decide +kernel) (pa_cons (pe_ix ix_list (pv 0) pe_int (fun _ _ => rfl)) pa_nil)) (pv 1)))
  (pss_cons (ps_asg (pe_op op_fdivW (pe_ix ix_list (pv 0) pe_int (fun _ _ => rfl)) (pv 1)) (pg_sub (pv 0) pe_int set_list))
  (pss_one (ps_ret (pv 5)))))
  pss_nil)
  (pss_cons (ps_set (i := 3) sc_l_take.nd rfl (Or.inl rfl) (pe_op op_mod (pe_callTy call_int1 (by rfl) T.b_int (by decide +kernel) (pa_cons (pe_op op_add (pe_op op_mul (pv 3) pe_int) (pe_op op_fdivW (pv 3) pe_int)) pa_nil)) pe_int))
  (pss_one (ps_ret (pe_op op_mod (pe_callTy call_int1 (by rfl) T.b_int (by decide +kernel) (pa_cons (pv 3) pa_nil)) (pv 1)))))))))), ?_⟩
    -- cells = pool[4]; pool[2] = pool[2] + 1
    refine ⟨_, rfl, _, _, _, _, rfl, rfl, SqL.of hl, rfl, ?_⟩
    refine ⟨_, rfl, _, _, _, _, rfl, rfl, SqL.of hl, rfl, _, _, rfl, rfl, _, rfl, _, _, _, _, rfl, rfl, hl, rfl, ?_⟩
    have hp1 : Pool ns c (upd H p (.lst [.int z, .int i, .int (t + 1), .int d, .ref c])) p := hp.upd ⟨_, _, _, _, hi, rfl⟩
    have o1 : Off p H (upd H p (.lst [.int z, .int i, .int (t + 1), .int d, .ref c])) := Off.upd
    have hl1 : upd H p (.lst [.int z, .int i, .int (t + 1), .int d, .ref c]) p = some (.lst [.int z, .int i, .int (t + 1), .int d, .ref c]) := upd_same
    -- mixed = int(pool[3] * 48271 + pool[2] * 69621 + 19) % 2147483647
    refine ⟨_, rfl, _, _, _, _, rfl, rfl, SqL.of hl1, rfl, _, _, rfl, rfl, (.inr ⟨by decide, by decide⟩), _, rfl, _, _, _, _, rfl, rfl, SqL.of hl1, rfl, _, _, rfl, rfl, (.inr ⟨by decide, by decide⟩), _, _, rfl, rfl, _, _, rfl, rfl, .inl ⟨_, rfl, _, _, rfl, rfl, pos_m7, ?_⟩⟩
    generalize (d * 48271 + (t + 1) * 69621 + 19) % 2147483647 = mx
    -- the first if, joined
    refine ⟨fun σ H' => ∃ (m1 : Int) (c1 : Option V) (z1 i1 t1 d1 : Int), σ = [some (.ref p), some (.int n), some (.ref c), some (.int m1), c1, none] ∧ 0 ≤ i1 ∧ H' p = some (.lst [.int z1, .int i1, .int t1, .int d1, .ref c]) ∧ Off p H H', ?_, ?_⟩
    · refine ⟨_, rfl, _, _, _, _, rfl, rfl, SqL.of hl1, rfl, rfl, _, rfl, ?_⟩
      refine ite2 (fun hz => ?_) (fun _ => iteF ⟨_, _, _, _, _, _, rfl, hi, hl1, o1⟩)
      have hc1 : upd H p (.lst [.int z, .int i, .int (t + 1), .int d, .ref c]) c = some (.lst (ns.map V.int)) := hp1.cells
      refine ⟨_, rfl, _, _, _, _, rfl, rfl, SqL.of hl1, rfl, _, rfl, c, _, rfl, .inl (SqL.of hc1), _, _, rfl, rfl, _, rfl, ?_⟩
      refine ite2 (fun hlt => ?_) (fun _ => ⟨_, _, _, _, _, _, rfl, hi, hl1, o1⟩)
      have hlt' : i < ((ns.map V.int).length : Int) := of_decide_eq_true hlt
      rw [List.length_map] at hlt'
      obtain ⟨v, hv⟩ : ∃ v, ns[i.toNat]? = some v := ⟨_, List.getElem?_eq_getElem (by omega)⟩
      -- cell = int(cells[pool[1]])
      refine ⟨_, rfl, _, rfl, _, _, _, _, rfl, rfl, SqL.of hl1, rfl, c, _, i, V.int v, rfl, rfl, SqL.of hc1, atI_ge hi (by rw [List.getElem?_map, hv]; rfl), .inl ⟨_, rfl, ?_⟩⟩
      -- pool[1] = pool[1] + 1
      refine ⟨_, rfl, _, _, _, _, rfl, rfl, SqL.of hl1, rfl, _, _, rfl, rfl, _, rfl, _, _, _, _, rfl, rfl, hl1, rfl, ?_⟩
      have hl2 : upd (upd H p (.lst [.int z, .int i, .int (t + 1), .int d, .ref c])) p (.lst [.int z, .int (i + 1), .int (t + 1), .int d, .ref c]) p = some (.lst [.int z, .int (i + 1), .int (t + 1), .int d, .ref c]) := upd_same
      have o2 : Off p H (upd (upd H p (.lst [.int z, .int i, .int (t + 1), .int d, .ref c])) p (.lst [.int z, .int (i + 1), .int (t + 1), .int d, .ref c])) := o1.trans Off.upd
      refine ⟨_, rfl, _, _, rfl, rfl, (.inr ⟨by decide, by decide⟩), _, rfl, _, _, _, _, rfl, rfl, SqL.of hl2, rfl, _, _, rfl, rfl, _, rfl, _, _, _, _, rfl, rfl, SqL.of hl2, rfl, _, _, rfl, rfl, (.inr ⟨by decide, by decide⟩), _, _, rfl, rfl, .inl ⟨_, rfl, _, _, rfl, rfl, pos_m7, ?_⟩⟩
      refine ⟨_, rfl, _, _, rfl, rfl, ⟨by decide, by decide, by decide⟩, _, _, rfl, rfl, _, rfl, ?_⟩
      refine ite2 (fun _ => ?_) (fun _ => ⟨_, _, _, _, _, _, rfl, by omega, hl2, o2⟩)
      refine ⟨_, rfl, _, rfl, _, _, _, _, rfl, rfl, hl2, rfl, ?_⟩
      exact ⟨_, _, v, i + 1, t + 1, d, rfl, by omega, upd_same, o2.trans Off.upd⟩
    · rintro σ H2 ⟨m1, c1, z1, i1, t1, d1, rfl, hi1, hl2, o2⟩
      have hp2 : Pool ns c H2 p := ⟨⟨_, hl2, _, _, _, _, hi1, rfl⟩, (o2 c hp.ne).trans hc⟩
      -- if pool[0] > 0: digit = int(pool[0]) % size; pool[0] = pool[0] // size; return digit
      refine ⟨_, rfl, _, _, _, _, rfl, rfl, SqL.of hl2, rfl, _, _, rfl, rfl, _, rfl, ?_⟩
      refine ite2 (fun _ => ?_) (fun _ => ?_)
      · refine ⟨_, rfl, _, _, _, _, rfl, rfl, SqL.of hl2, rfl, .inl ⟨_, rfl, _, rfl, _, _, rfl, rfl, hn, ?_⟩⟩
        refine ⟨_, rfl, _, _, _, _, rfl, rfl, SqL.of hl2, rfl, _, rfl, _, _, rfl, rfl, ⟨hn, hn9⟩, _, rfl, _, _, _, _, rfl, rfl, hl2, rfl, ?_⟩
        refine ⟨_, rfl, ?_⟩
        exact k _ _ (Int.emod_nonneg _ (by omega)) (Int.emod_lt_of_pos _ hn) (hp2.upd ⟨_, _, _, _, hi1, rfl⟩) (o2.trans Off.upd)
      · refine ⟨_, rfl, _, _, rfl, rfl, (.inr ⟨by decide, by decide⟩), _, rfl, _, _, rfl, rfl, ⟨by decide, by decide +kernel⟩, _, _, rfl, rfl, .inl ⟨_, rfl, _, _, rfl, rfl, pos_m9, ?_⟩⟩
        refine ⟨_, rfl, .inl ⟨_, rfl, _, rfl, _, _, rfl, rfl, hn, ?_⟩⟩
        exact k _ _ (Int.emod_nonneg _ (by omega)) (Int.emod_lt_of_pos _ hn) hp2 o2

theorem ok_l_big (T : Txt K mg C_Grid C_Named C_Timed C_Item C_Piece C_Break) : Dk P w K mg base CX0 2 "_law_big" ["_law_pool_here"] spBig := by
  have D_l_take := ok_l_take (P := P) (w := w) (base := base) T
  obtain ⟨f, fd, g, F, b⟩ := T.l_big
  refine ⟨f, fd, g, F.kp, b, F.ok sc_l_big (fun vs H Q E h => ?_) (fun cdv A outer s H vs Q E hr h => ?_)⟩
  · obtain ⟨p, c, ns, rfl, _⟩ := h
    rfl
  · obtain ⟨p, c, ns, rfl, hp, k⟩ := h
    refine ⟨_, (pss_cons (ps_set (i := 1) sc_l_big.nd rfl (Or.inl rfl) pe_int)
  (pss_cons (ps_for PassesOwn.never rfl (pi_range1 rfl T.b_range (pa_cons pe_int pa_nil)) (pg_name (i := 2) sc_l_big.nd rfl (Or.inl rfl))
  (pss_one (ps_set (i := 1) sc_l_big.nd rfl (Or.inl rfl) (pe_op op_add (pe_op op_mul (pv 1) (pe_op op_pow pe_int pe_int)) (pe_d D_l_take (hr.mono (by decide)) pass0 (by rfl) (pa_cons (pv 0) (pa_cons (pe_op op_pow pe_int pe_int) pa_nil)))))))
  (pss_one (ps_ret (pv 1))))), ?_⟩
    refine ⟨3, rfl, by decide, by decide, for_range (n := 3) (fun i σ H' => ∃ (v : Int) (kv : Option V), σ = [some (.ref p), some (.int v), kv] ∧ 0 ≤ v ∧ v < 10 ^ (9 * i) ∧ Pool ns c H' p ∧ Off p H H') ⟨0, none, rfl, by decide, by decide, hp, Off.refl⟩ ?_ ?_⟩
    · rintro i σ H1 hi ⟨v, kv, rfl, h0, h1, hp1, o1⟩
      refine ⟨_, rfl, _, _, rfl, rfl, ⟨by decide, by decide, by decide⟩, _, _, rfl, rfl, (.inr ⟨by decide, by decide⟩), _, rfl, _, _, rfl, rfl, ⟨by decide, by decide, by decide⟩, p, c, ns, _, rfl, hp1, by decide, by decide +kernel, fun r H2 r0 r1 hp2 o2 => ?_⟩
      refine ⟨_, _, rfl, rfl, _, _, rfl, ?_, ?_, hp2, o1.trans o2⟩
      · have e : (10 : Int) ^ (9 : Int).toNat = 1000000000 := by decide
        show 0 ≤ v * (10 : Int) ^ (9 : Int).toNat + r
        rw [e]
        omega
      · have e : (10 : Int) ^ (9 : Int).toNat = 1000000000 := by decide
        have r1' : r < (10 : Int) ^ (9 : Int).toNat := r1
        show v * (10 : Int) ^ (9 : Int).toNat + r < 10 ^ (9 * (i + 1))
        rw [Nat.mul_add, Int.pow_add, e]
        rw [e] at r1'
        have e2 : (10 : Int) ^ (9 * 1) = 1000000000 := by decide
        rw [e2]
        omega
    · rintro σ H1 ⟨v, kv, rfl, h0, h1, hp1, o1⟩
      exact ⟨_, rfl, k _ _ h0 h1 hp1 o1⟩

theorem ok_l_pool (T : Txt K mg C_Grid C_Named C_Timed C_Item C_Piece C_Break) : Dk P w K mg base CX0 1 "_law_pool" ["_law_script"] (spPool K) := by
  obtain ⟨f, fd, g, F, b⟩ := T.l_pool
  refine ⟨f, fd, g, F.kp, b, F.ok sc_l_pool (fun vs H Q E h => ?_) (fun cdv A outer s H vs Q E hr h => ?_)⟩
  · obtain ⟨a, ns, rfl, _⟩ := h
    rfl
  · obtain ⟨a, ns, rfl, hS, hlen, k⟩ := h
    refine ⟨_, (pss_cons (ps_set (i := 1) sc_l_pool.nd rfl (Or.inl rfl) pe_int)
  (pss_cons (ps_for PassesOwn.never rfl (pi_list (pv 0)) (pg_name (i := 2) sc_l_pool.nd rfl (Or.inl rfl))
  (pss_one (ps_set (i := 1) sc_l_pool.nd rfl (Or.inl rfl) (pe_op op_mod (pe_callTy call_int1 (by rfl) T.b_int (by decide +kernel) (pa_cons (pe_op op_add (pe_op op_add (pe_op op_mul (pv 1) pe_int) (pe_op op_mul (pe_callTy call_int1 (by rfl) T.b_int (by decide +kernel) (pa_cons (pv 2) pa_nil)) pe_int)) pe_int) pa_nil)) pe_int))))
  (pss_one (ps_ret (pe_lst (pa_cons pe_int (pa_cons pe_int (pa_cons pe_int (pa_cons (pv 1) (pa_cons (pe_callTy call_list_of (by rfl) T.b_list (by decide +kernel) (pa_cons (pv 0) pa_nil)) pa_nil)))))))))), ?_⟩
    refine ⟨_, rfl, a, rfl, ⟨_, hS⟩, for_list (K := K) (a := a) (xs := ns.map V.int) (fun i σ H' => ∃ (d : Int) (v : Option V), σ = [some (.ref a), some (.int d), v] ∧ H' = H) ⟨7, none, rfl, rfl⟩ (fun i σ H' _ ⟨_, _, _, e⟩ => by rw [e]; exact hS) ?_ ?_⟩
    · rintro i y σ H' hi ⟨d, v, rfl, rfl⟩
      obtain ⟨z, _, rfl⟩ := ints_at hi
      refine ⟨_, rfl, _, _, rfl, rfl, (.inr ⟨by decide, by decide⟩), _, rfl, .inl ⟨_, rfl, _, _, rfl, rfl, (.inr ⟨by decide, by decide⟩), _, _, rfl, rfl, _, _, rfl, rfl, .inl ⟨_, rfl, _, _, rfl, rfl, pos_m7, ?_⟩⟩⟩
      exact ⟨_, _, rfl, rfl⟩
    · rintro σ H' ⟨d, v, rfl, rfl⟩
      refine ⟨_, rfl, _, rfl, a, _, rfl, .inl hS, fun c hc => ⟨(by show 5 ≤ sizeLine; decide), fun p hp => ?_⟩⟩
      have npc : c ≠ p := fun e => by
        rw [← e, upd_same] at hp
        cases hp
      have hp0 : H' p = none := by
        rw [upd_ne npc.symm] at hp
        exact hp
      refine k p c _ ⟨⟨_, upd_same, 0, 0, 0, d, by decide, rfl⟩, (upd_ne npc).trans upd_same⟩ hp0 hc fun b o e => ?_
      rw [upd_ne (ne_of_none e hp0), upd_ne (ne_of_none e hc)]
      exact e

theorem ok_l_is_int (T : Txt K mg C_Grid C_Named C_Timed C_Item C_Piece C_Break) : Dk P w K mg base CX0 1 "_law_is_int" ["_law_x"] (spIsInt K) := by
  obtain ⟨f, fd, g, F, b⟩ := T.l_is_int
  refine ⟨f, fd, g, F.kp, b, F.ok sc_l_is_int (fun vs H Q E h => ?_) (fun cdv A outer s H vs Q E hr h => ?_)⟩
  · obtain ⟨x, t, b1, b2, rfl, _⟩ := h
    rfl
  · obtain ⟨x, t, b1, b2, rfl, ty, k1, k2, k⟩ := h
    refine ⟨_, (pss_one (ps_ret (pe_and (pe_callB call_isi (by rfl) T.b_isinstance (by decide +kernel) (pa_cons (pv 0) (pa_cons (pe_bltn (v := .ty "int") (by rfl) T.b_int (by decide +kernel) rfl) pa_nil))) (pe_one (pe_not (pe_callB call_isi (by rfl) T.b_isinstance (by decide +kernel) (pa_cons (pv 0) (pa_cons (pe_bltn (v := .ty "bool") (by rfl) T.b_bool (by decide +kernel) rfl) pa_nil)))))))), ?_⟩
    refine ⟨_, rfl, x, _, t, _, b1, rfl, .ty _, ty, k1, b1, rfl, ?_⟩
    cases b1 with
    | false => exact iteF k
    | true => exact iteT ⟨_, rfl, x, _, t, _, b2, rfl, .ty _, ty, k2, b2, rfl, k⟩

theorem ok_l_free (T : Txt K mg C_Grid C_Named C_Timed C_Item C_Piece C_Break) : Dk P w K mg base CX0 3 "_law_free" ["_law_pool_here"] (spDraw GFree) := by
  have D_l_take := ok_l_take (P := P) (w := w) (base := base) T
  have D_l_big := ok_l_big (P := P) (w := w) (base := base) T
  obtain ⟨f, fd, g, F, b⟩ := T.l_free
  refine ⟨f, fd, g, F.kp, b, F.ok sc_l_free (fun vs H Q E h => ?_) (fun cdv A outer s H vs Q E hr h => ?_)⟩
  · obtain ⟨p, c, ns, rfl, _⟩ := h
    rfl
  · obtain ⟨p, c, ns, rfl, hp, k⟩ := h
    refine ⟨_, (pss_cons (ps_set (i := 1) sc_l_free.nd rfl (Or.inl rfl) (pe_op op_sub (pe_d D_l_take (hr.mono (by decide)) pass0 (by rfl) (pa_cons (pv 0) (pa_cons pe_int pa_nil))) pe_int))
  (pss_cons (ps_set (i := 2) sc_l_free.nd rfl (Or.inl rfl) (pe_d D_l_take (hr.mono (by decide)) pass0 (by rfl) (pa_cons (pv 0) (pa_cons pe_int pa_nil))))
  (pss_cons (ps_if (pt_cmpR op_eq (pv 2) pe_int (nomark _))
  (pss_one (ps_set (i := 1) sc_l_free.nd rfl (Or.inl rfl) (pe_d D_l_big (hr.mono (by decide)) pass0 (by rfl) (pa_cons (pv 0) pa_nil))))
  pss_nil)
  (pss_cons (ps_if (pt_cmpR op_eq (pv 2) pe_int (nomark _))
  (pss_one (ps_set (i := 1) sc_l_free.nd rfl (Or.inl rfl) (pe_op op_sub pe_int (pe_d D_l_big (hr.mono (by decide)) pass0 (by rfl) (pa_cons (pv 0) pa_nil)))))
  pss_nil)
  (pss_one (ps_ret (pv 1))))))), ?_⟩
    refine ⟨_, rfl, p, c, ns, _, rfl, hp, by decide, by decide +kernel, fun r H1 r0 r1 hp1 o1 => ?_⟩
    refine ⟨_, _, rfl, rfl, _, rfl, p, c, ns, _, rfl, hp1, by decide, by decide +kernel, fun q H2 q0 q1 hp2 o2 => ?_⟩
    have o02 := o1.trans o2
    refine ⟨_, rfl, rfl, _, rfl, ?_⟩
    refine ite2 (fun h2 => ?_) (fun h2 => ?_)
    · refine ⟨_, rfl, p, c, ns, rfl, hp2, fun y H3 y0 y1 hp3 o3 => ?_⟩
      refine ⟨_, rfl, rfl, _, rfl, ?_⟩
      refine ite2 (fun h3 => ?_) (fun h3 => ?_)
      · have e2 := of_decide_eq_true h2
        have e3 := of_decide_eq_true h3
        rw [e2] at e3
        cases e3
      · exact ⟨_, rfl, k _ _ ⟨by omega, by omega⟩ hp3 (o02.trans o3)⟩
    · refine ⟨_, rfl, rfl, _, rfl, ?_⟩
      refine ite2 (fun h3 => ?_) (fun h3 => ?_)
      · refine ⟨_, rfl, p, c, ns, rfl, hp2, fun y H3 y0 y1 hp3 o3 => ?_⟩
        exact ⟨_, _, rfl, rfl, _, rfl, k _ _ ⟨by omega, by omega⟩ hp3 (o02.trans o3)⟩
      · exact ⟨_, rfl, k _ _ ⟨by show -10 ^ 27 < r - 50; omega, by show r - 50 < 10 ^ 27; omega⟩ hp2 o02⟩

theorem ok_l_step (T : Txt K mg C_Grid C_Named C_Timed C_Item C_Piece C_Break) : Dk P w K mg base CX0 3 "_law_step" ["_law_pool_here"] (spDraw GStep) := by
  have D_l_take := ok_l_take (P := P) (w := w) (base := base) T
  have D_l_big := ok_l_big (P := P) (w := w) (base := base) T
  obtain ⟨f, fd, g, F, b⟩ := T.l_step
  refine ⟨f, fd, g, F.kp, b, F.ok sc_l_step (fun vs H Q E h => ?_) (fun cdv A outer s H vs Q E hr h => ?_)⟩
  · obtain ⟨p, c, ns, rfl, _⟩ := h
    rfl
  · obtain ⟨p, c, ns, rfl, hp, k⟩ := h
    refine ⟨_, (pss_cons (ps_set (i := 1) sc_l_step.nd rfl (Or.inl rfl) (pe_d D_l_take (hr.mono (by decide)) pass0 (by rfl) (pa_cons (pv 0) (pa_cons pe_int pa_nil))))
  (pss_cons (ps_if (pt_cmpR op_eq (pv 1) pe_int (nomark _))
  (pss_one (ps_ret (pe_op op_add pe_int (pe_d D_l_take (hr.mono (by decide)) pass0 (by rfl) (pa_cons (pv 0) (pa_cons pe_int pa_nil))))))
  pss_nil)
  (pss_cons (ps_if (pt_cmpR op_eq (pv 1) pe_int (nomark _))
  (pss_one (ps_ret (pe_op op_add pe_int (pe_d D_l_big (hr.mono (by decide)) pass0 (by rfl) (pa_cons (pv 0) pa_nil)))))
  pss_nil)
  (pss_one (ps_ret (pe_op op_add pe_int (pe_d D_l_take (hr.mono (by decide)) pass0 (by rfl) (pa_cons (pv 0) (pa_cons pe_int pa_nil))))))))), ?_⟩
    refine ⟨_, rfl, p, c, ns, _, rfl, hp, by decide, by decide +kernel, fun r H1 r0 r1 hp1 o1 => ?_⟩
    refine ⟨_, rfl, rfl, _, rfl, ?_⟩
    refine ite2 (fun h2 => ?_) (fun h2 => ?_)
    · refine ⟨_, rfl, p, c, ns, _, rfl, hp1, by decide, by decide +kernel, fun q H2 q0 q1 hp2 o2 => ?_⟩
      exact ⟨_, _, rfl, rfl, k _ _ ⟨by omega, by omega⟩ hp2 (o1.trans o2)⟩
    · refine ⟨_, rfl, rfl, _, rfl, ?_⟩
      refine ite2 (fun h3 => ?_) (fun h3 => ?_)
      · refine ⟨_, rfl, p, c, ns, rfl, hp1, fun q H2 q0 q1 hp2 o2 => ?_⟩
        exact ⟨_, _, rfl, rfl, k _ _ ⟨by omega, by omega⟩ hp2 (o1.trans o2)⟩
      · refine ⟨_, rfl, p, c, ns, _, rfl, hp1, by decide, by decide +kernel, fun q H2 q0 q1 hp2 o2 => ?_⟩
        exact ⟨_, _, rfl, rfl, k _ _ ⟨by omega, by omega⟩ hp2 (o1.trans o2)⟩

theorem ok_l_shift (T : Txt K mg C_Grid C_Named C_Timed C_Item C_Piece C_Break) : Dk P w K mg base CX0 3 "_law_shift" ["_law_pool_here", "_law_step_here"] (spDraw2 GStep fun _ => GFree) := by
  have D_l_take := ok_l_take (P := P) (w := w) (base := base) T
  have D_l_big := ok_l_big (P := P) (w := w) (base := base) T
  obtain ⟨f, fd, g, F, b⟩ := T.l_shift
  refine ⟨f, fd, g, F.kp, b, F.ok sc_l_shift (fun vs H Q E h => ?_) (fun cdv A outer s H vs Q E hr h => ?_)⟩
  · obtain ⟨p, c, ns, s, rfl, _⟩ := h
    rfl
  · obtain ⟨p, c, ns, st, rfl, hp, hs, k⟩ := h
    refine ⟨_, (pss_cons (ps_set (i := 2) sc_l_shift.nd rfl (Or.inl rfl) (pe_d D_l_take (hr.mono (by decide)) pass0 (by rfl) (pa_cons (pv 0) (pa_cons pe_int pa_nil))))
  (pss_cons (ps_if (pt_cmpR op_eq (pv 2) pe_int (nomark _))
  (pss_one (ps_ret pe_int))
  pss_nil)
  (pss_cons (ps_if (pt_cmpR op_eq (pv 2) pe_int (nomark _))
  (pss_one (ps_ret (pe_d D_l_take (hr.mono (by decide)) pass0 (by rfl) (pa_cons (pv 0) (pa_cons (pv 1) pa_nil)))))
  pss_nil)
  (pss_cons (ps_if (pt_cmpR op_eq (pv 2) pe_int (nomark _))
  (pss_one (ps_ret (pe_op op_sub (pe_op op_sub pe_int pe_int) (pe_d D_l_take (hr.mono (by decide)) pass0 (by rfl) (pa_cons (pv 0) (pa_cons pe_int pa_nil))))))
  pss_nil)
  (pss_cons (ps_if (pt_cmpR op_eq (pe_d D_l_take (hr.mono (by decide)) pass0 (by rfl) (pa_cons (pv 0) (pa_cons pe_int pa_nil))) pe_int (nomark _))
  (pss_one (ps_ret (pe_op op_sub pe_int (pe_d D_l_big (hr.mono (by decide)) pass0 (by rfl) (pa_cons (pv 0) pa_nil)))))
  pss_nil)
  (pss_one (ps_ret (pe_d D_l_big (hr.mono (by decide)) pass0 (by rfl) (pa_cons (pv 0) pa_nil))))))))), ?_⟩
    have hs0 : 1 ≤ st := hs.1
    have hs1 : st ≤ 10 ^ 27 := hs.2
    refine ⟨_, rfl, p, c, ns, _, rfl, hp, by decide, by decide +kernel, fun r H1 r0 r1 hp1 o1 => ?_⟩
    refine ⟨_, rfl, rfl, _, rfl, ?_⟩
    refine ite2 (fun h2 => ?_) (fun h2 => ?_)
    · exact k _ _ ⟨by decide, by decide⟩ hp1 o1
    · refine ⟨_, rfl, rfl, _, rfl, ?_⟩
      refine ite2 (fun h3 => ?_) (fun h3 => ?_)
      · refine ⟨_, rfl, _, rfl, p, c, ns, st, rfl, hp1, by omega, log2_27 hs0 hs1, fun q H2 q0 q1 hp2 o2 => ?_⟩
        exact k _ _ ⟨by omega, by omega⟩ hp2 (o1.trans o2)
      · refine ⟨_, rfl, rfl, _, rfl, ?_⟩
        refine ite2 (fun h4 => ?_) (fun h4 => ?_)
        · refine ⟨_, _, rfl, rfl, _, rfl, p, c, ns, _, rfl, hp1, by decide, by decide +kernel, fun q H2 q0 q1 hp2 o2 => ?_⟩
          exact ⟨_, _, rfl, rfl, k _ _ ⟨by show -10 ^ 27 < 0 - 1 - q; omega, by show 0 - 1 - q < 10 ^ 27; omega⟩ hp2 (o1.trans o2)⟩
        · refine ⟨_, rfl, p, c, ns, _, rfl, hp1, by decide, by decide +kernel, fun q H2 q0 q1 hp2 o2 => ?_⟩
          refine ⟨rfl, _, rfl, ?_⟩
          refine ite2 (fun h5 => ?_) (fun h5 => ?_)
          · refine ⟨_, rfl, p, c, ns, rfl, hp2, fun y H3 y0 y1 hp3 o3 => ?_⟩
            exact ⟨_, _, rfl, rfl, k _ _ ⟨by omega, by omega⟩ hp3 ((o1.trans o2).trans o3)⟩
          · refine ⟨_, rfl, p, c, ns, rfl, hp2, fun y H3 y0 y1 hp3 o3 => ?_⟩
            exact k _ _ ⟨by omega, by omega⟩ hp3 ((o1.trans o2).trans o3)

theorem ok_l_clock (T : Txt K mg C_Grid C_Named C_Timed C_Item C_Piece C_Break) : Dk P w K mg base CX0 4 "_law_clock" ["_law_pool_here", "_law_moment"] spClock := by
  have D_l_take := ok_l_take (P := P) (w := w) (base := base) T
  have D_l_free := ok_l_free (P := P) (w := w) (base := base) T
  obtain ⟨f, fd, g, F, b⟩ := T.l_clock
  refine ⟨f, fd, g, F.kp, b, F.ok sc_l_clock (fun vs H Q E h => ?_) (fun cdv A outer s H vs Q E hr h => ?_)⟩
  · obtain ⟨p, c, ns, m, rfl, _⟩ := h
    rfl
  · obtain ⟨p, c, ns, m, rfl, hp, k⟩ := h
    refine ⟨_, (pss_cons (ps_set (i := 2) sc_l_clock.nd rfl (Or.inl rfl) (pe_d D_l_take (hr.mono (by decide)) pass0 (by rfl) (pa_cons (pv 0) (pa_cons pe_int pa_nil))))
  (pss_cons (ps_if (pt_cmpR op_eq (pv 2) pe_int (nomark _))
  (pss_one (ps_ret pe_non))
  pss_nil)
  (pss_cons (ps_if (pt_cmpR op_eq (pv 2) pe_int (nomark _))
  (pss_one (ps_ret (pe_d D_l_free (hr.mono (by decide)) pass0 (by rfl) (pa_cons (pv 0) pa_nil))))
  pss_nil)
  (pss_one (ps_ret (pe_op op_sub (pe_op op_add (pv 1) (pe_d D_l_take (hr.mono (by decide)) pass0 (by rfl) (pa_cons (pv 0) (pa_cons pe_int pa_nil)))) pe_int)))))), ?_⟩
    refine ⟨_, rfl, p, c, ns, _, rfl, hp, by decide, by decide +kernel, fun r H1 r0 r1 hp1 o1 => ?_⟩
    refine ⟨_, rfl, rfl, _, rfl, ?_⟩
    refine ite2 (fun h2 => ?_) (fun h2 => ?_)
    · exact k _ _ (.inl rfl) hp1 o1
    · refine ⟨_, rfl, rfl, _, rfl, ?_⟩
      refine ite2 (fun h3 => ?_) (fun h3 => ?_)
      · refine ⟨_, rfl, p, c, ns, rfl, hp1, fun y H3 _ hp3 o3 => ?_⟩
        exact k _ _ (.inr ⟨_, rfl⟩) hp3 (o1.trans o3)
      · refine ⟨_, rfl, _, rfl, p, c, ns, _, rfl, hp1, by decide, by decide +kernel, fun q H2 q0 q1 hp2 o2 => ?_⟩
        exact ⟨_, _, rfl, rfl, _, _, rfl, rfl, k _ _ (.inr ⟨_, rfl⟩) hp2 (o1.trans o2)⟩

theorem ok_l_wait (T : Txt K mg C_Grid C_Named C_Timed C_Item C_Piece C_Break) : Dk P w K mg base CX0 4 "_law_wait" ["_law_pool_here"] (spDraw fun _ => True) := by
  have D_l_take := ok_l_take (P := P) (w := w) (base := base) T
  have D_l_free := ok_l_free (P := P) (w := w) (base := base) T
  obtain ⟨f, fd, g, F, b⟩ := T.l_wait
  refine ⟨f, fd, g, F.kp, b, F.ok sc_l_wait (fun vs H Q E h => ?_) (fun cdv A outer s H vs Q E hr h => ?_)⟩
  · obtain ⟨p, c, ns, rfl, _⟩ := h
    rfl
  · obtain ⟨p, c, ns, rfl, hp, k⟩ := h
    refine ⟨_, (pss_cons (ps_set (i := 1) sc_l_wait.nd rfl (Or.inl rfl) (pe_op op_sub (pe_d D_l_take (hr.mono (by decide)) pass0 (by rfl) (pa_cons (pv 0) (pa_cons pe_int pa_nil))) pe_int))
  (pss_cons (ps_if (pt_cmpR op_eq (pe_d D_l_take (hr.mono (by decide)) pass0 (by rfl) (pa_cons (pv 0) (pa_cons pe_int pa_nil))) pe_int (nomark _))
  (pss_one (ps_set (i := 1) sc_l_wait.nd rfl (Or.inl rfl) (pe_d D_l_free (hr.mono (by decide)) pass0 (by rfl) (pa_cons (pv 0) pa_nil))))
  pss_nil)
  (pss_one (ps_ret (pv 1))))), ?_⟩
    refine ⟨_, rfl, p, c, ns, _, rfl, hp, by decide, by decide +kernel, fun r H1 r0 r1 hp1 o1 => ?_⟩
    refine ⟨_, _, rfl, rfl, _, rfl, p, c, ns, _, rfl, hp1, by decide, by decide +kernel, fun q H2 q0 q1 hp2 o2 => ?_⟩
    refine ⟨rfl, _, rfl, ?_⟩
    refine ite2 (fun h2 => ?_) (fun h2 => ?_)
    · refine ⟨_, rfl, p, c, ns, rfl, hp2, fun y H3 _ hp3 o3 => ?_⟩
      exact ⟨_, rfl, k _ _ trivial hp3 ((o1.trans o2).trans o3)⟩
    · exact ⟨_, rfl, k _ _ trivial hp2 (o1.trans o2)⟩

theorem ok_l_more (T : Txt K mg C_Grid C_Named C_Timed C_Item C_Piece C_Break) : Dk P w K mg base CX0 3 "_law_more" ["_law_pool_here"] (spDraw fun r => 0 ≤ r) := by
  have D_l_take := ok_l_take (P := P) (w := w) (base := base) T
  have D_l_big := ok_l_big (P := P) (w := w) (base := base) T
  obtain ⟨f, fd, g, F, b⟩ := T.l_more
  refine ⟨f, fd, g, F.kp, b, F.ok sc_l_more (fun vs H Q E h => ?_) (fun cdv A outer s H vs Q E hr h => ?_)⟩
  · obtain ⟨p, c, ns, rfl, _⟩ := h
    rfl
  · obtain ⟨p, c, ns, rfl, hp, k⟩ := h
    refine ⟨_, (pss_cons (ps_set (i := 1) sc_l_more.nd rfl (Or.inl rfl) (pe_d D_l_take (hr.mono (by decide)) pass0 (by rfl) (pa_cons (pv 0) (pa_cons pe_int pa_nil))))
  (pss_cons (ps_if (pt_cmpR op_eq (pe_d D_l_take (hr.mono (by decide)) pass0 (by rfl) (pa_cons (pv 0) (pa_cons pe_int pa_nil))) pe_int (nomark _))
  (pss_one (ps_set (i := 1) sc_l_more.nd rfl (Or.inl rfl) (pe_d D_l_big (hr.mono (by decide)) pass0 (by rfl) (pa_cons (pv 0) pa_nil))))
  pss_nil)
  (pss_one (ps_ret (pv 1))))), ?_⟩
    refine ⟨_, rfl, p, c, ns, _, rfl, hp, by decide, by decide +kernel, fun r H1 r0 r1 hp1 o1 => ?_⟩
    refine ⟨_, rfl, p, c, ns, _, rfl, hp1, by decide, by decide +kernel, fun q H2 q0 q1 hp2 o2 => ?_⟩
    refine ⟨rfl, _, rfl, ?_⟩
    refine ite2 (fun h2 => ?_) (fun h2 => ?_)
    · refine ⟨_, rfl, p, c, ns, rfl, hp2, fun y H3 y0 y1 hp3 o3 => ?_⟩
      exact ⟨_, rfl, k _ _ y0 hp3 ((o1.trans o2).trans o3)⟩
    · exact ⟨_, rfl, k _ _ r0 hp2 (o1.trans o2)⟩

theorem ok_is_name (T : Txt K mg C_Grid C_Named C_Timed C_Item C_Piece C_Break) : Dk P w K mg base CX0 1 "is_name" ["text"] spIsName := by
  obtain ⟨f, fd, g, F, b⟩ := T.is_name
  refine ⟨f, fd, g, F.kp, b, F.ok sc_is_name (fun vs H Q E h => ?_) (fun cdv A outer s H vs Q E hr h => ?_)⟩
  · obtain ⟨z, rfl, _⟩ := h
    rfl
  · obtain ⟨z, rfl, hz, k⟩ := h
    refine ⟨_, (pss_cons (ps_if (PW.pt (pw_or (pt_not (pt_chain op_le op_le pe_int (pe_callB call_len_str (by rfl) T.b_len (by decide +kernel) (pa_cons (pv 0) pa_nil)) (C8.pe_gc (by rfl) T.v_MOST_SIGNS))) (pw_or1 (pt_cmpR op_notIn_sign (pe_item_str (pv 0) pe_int (fun _ _ => rfl)) (C8.pe_gc (by rfl) T.v_LETTERS) (by rfl)))))
  (pss_one (ps_ret pe_bl))
  pss_nil)
  (pss_one (ps_ret (pe_callB (cr_all rfl) (by rfl) T.b_all (by decide +kernel) (pa_cons (pe_lc (own := [("sign", 1)]) (g := gName 1) (tt := tYes) (by rfl) sc_is_name.nd (pi_str (pv 0)) (blkOk_by (own := [("sign", 1)]) (N := ["text", "sign"]) (sc := defScope s_is_name) (by decide +kernel)) (fun _ _ _ _ _ => pg_name (i := 1) sc_is_name.nd rfl (Or.inl rfl)) (fun _ _ _ _ _ => pts_nil) (fun _ _ _ _ _ => (pe_or (pe_cmpR op_in_sign (pv 1) (C8.pe_gc (by rfl) T.v_LETTERS) (by rfl)) (pe_one (pe_cmpR op_in_sign (pv 1) (C8.pe_gc (by rfl) T.v_DIGITS) (by rfl)))))) pa_nil))))), ?_⟩
    have hsz : z.length ≤ sizeLine := Nat.le_trans hz (by decide)
    have hnB : nameB z = (decide (1 ≤ z.cps.size) && (decide (z.cps.size ≤ 12) && (decide (z.cps.getD 0 0 ∈ letS.cps.toList) && z.cps.toList.all signB))) := rfl
    have no : nameB z = false → Q (.bl false) H := fun e => by have q := k H (Same.refl H); rw [e] at q; exact q
    have hl : z.length = z.cps.size := rfl
    -- if not 1 <= len(text) <= MOST_SIGNS or text[0] not in LETTERS: return False
    refine ⟨_, rfl, z, rfl, hsz, _, _, rfl, rfl, _, rfl, ?_⟩
    refine ite2 (fun h1 => ?_) (fun h1 => ?_)
    · refine ⟨_, _, rfl, rfl, _, rfl, ?_⟩
      have h1' : (1 : Int) ≤ (z.length : Int) := of_decide_eq_true h1
      by_cases h2 : (z.length : Int) ≤ 12
      · rw [decide_eq_true h2]
        refine iteF ?_
        have hs1 : 0 < z.cps.size := by omega
        have hc : z.cps[(0 : Int).toNat]? = some (z.cps.getD 0 0) := by
          show z.cps[0]? = _
          rw [Array.getElem?_eq_getElem hs1]
          simp [Array.getD, hs1]
        refine ⟨_, rfl, z, 0, _, rfl, rfl, by decide, by decide, by omega, hc, _, _, rfl, rfl, _, rfl, ?_⟩
        by_cases h3 : z.cps.getD 0 0 ∈ letS.cps.toList
        · have e3 : decide (z.cps.getD 0 0 ∈ ("abcdefghijklmnopqrstuvwxyz" : Str).cps.toList) = true := decide_eq_true h3
          rw [e3]
          refine iteF ?_
          -- return all([sign in LETTERS or sign in DIGITS for sign in text])
          refine ⟨_, rfl, z, rfl, fun D hD => ?_⟩
          refine lc_text (fun i H' => H' = upd H D (.lst ((z.cps.toList.take i).map fun c => .bl (signB c)))) (by simp) ?_ ?_
          · rintro i c H' hc rfl
            refine ⟨rfl, ?_⟩
            have hi : i < z.cps.size := (Array.getElem?_eq_some_iff.mp hc).1
            have hcl : z.cps.toList[i]? = some c := by rw [← hc]; exact Array.getElem?_toList.symm ▸ rfl
            have ht : (z.cps.toList.take (i + 1)).map (fun c => V.bl (signB c)) = (z.cps.toList.take i).map (fun c => V.bl (signB c)) ++ [.bl (signB c)] := by
              rw [List.take_succ, hcl]
              simp
            have fin : ∀ b : Bool, b = signB c → ∃ acc, upd H D (.lst ((z.cps.toList.take i).map fun c => .bl (signB c))) D = some (.lst acc) ∧ acc.length < sizeLine ∧
                upd (upd H D (.lst ((z.cps.toList.take i).map fun c => .bl (signB c)))) D (.lst (acc ++ [.bl b])) = upd H D (.lst ((z.cps.toList.take (i + 1)).map fun c => .bl (signB c))) := fun b e => by
              refine ⟨_, upd_same, ?_, ?_⟩
              · rw [List.length_map, List.length_take]
                exact Nat.lt_of_le_of_lt (Nat.min_le_left _ _) (by omega)
              · rw [e, ht, upd_upd]
            refine ⟨_, rfl, c, _, rfl, rfl, _, rfl, ?_⟩
            refine ite2 (fun q => ?_) (fun q => ?_)
            · exact fin _ (by unfold signB; rw [show decide (c ∈ letS.cps.toList) = true from q]; rfl)
            · refine ⟨_, rfl, c, _, rfl, rfl, ?_⟩
              have q' : decide (c ∈ letS.cps.toList) = false := Bool.eq_false_iff.mpr q
              exact fin _ (by unfold signB; rw [q', Bool.false_or]; rfl)
          · rintro H' rfl
            refine ⟨D, z.cps.toList.map signB, rfl, SqL.of (xs := (z.cps.toList.map signB).map V.bl) ?_, ?_⟩
            · rw [upd_same, List.map_map, List.take_of_length_le (by rw [Array.length_toList]; exact Nat.le_refl _)]
              rfl
            · have e : nameB z = (z.cps.toList.map signB).all id := by
                rw [hnB, decide_eq_true (by omega : 1 ≤ z.cps.size), decide_eq_true (by omega : z.cps.size ≤ 12), decide_eq_true h3, List.all_map]
                rfl
              rw [← e]
              exact k _ (Same.new hD)
        · have e3 : decide (z.cps.getD 0 0 ∈ ("abcdefghijklmnopqrstuvwxyz" : Str).cps.toList) = false := decide_eq_false h3
          rw [e3]
          refine iteT (no ?_)
          rw [hnB, decide_eq_false h3]
          simp
      · rw [decide_eq_false h2]
        refine iteT (no ?_)
        rw [hnB, decide_eq_false (by omega : ¬ z.cps.size ≤ 12)]
        simp
    · refine ⟨_, rfl, ?_⟩
      refine iteT (no ?_)
      have h1' : ¬ (1 : Int) ≤ (z.length : Int) := fun e => h1 (decide_eq_true e)
      rw [hnB, decide_eq_false (by omega : ¬ 1 ≤ z.cps.size)]
      rfl

theorem ok_Grid_first_bar (T : Txt K mg C_Grid C_Named C_Timed C_Item C_Piece C_Break) : Me P w K mg base CX0 1 C_Grid "first_bar" ["self", "tick"] (spFirstBar C_Grid) := by
  obtain ⟨f, fd, M, F, b⟩ := T.m_Grid_first_bar
  refine ⟨f, fd, M, b, F.ok sc_Grid_first_bar (fun vs H Q E h => ?_) (fun cdv A outer s H vs Q E hr h => ?_)⟩
  · obtain ⟨g, s, o, t, rfl, _⟩ := h
    rfl
  · obtain ⟨g, s, o, t, rfl, ⟨hs, dx, hg⟩, k⟩ := h
    refine ⟨_, (pss_one (ps_ret (pe_op op_add (pv 1) (pe_op op_mod (pe_op op_sub (pe_fld (pv 0) rfl) (pv 1)) (pe_fld (pv 0) rfl))))), ?_⟩
    exact ⟨_, rfl, _, rfl, g, C_Grid, dx, _, _, rfl, hg, T.c_Grid, T.n_Grid_offset, rfl, _, rfl, _, _, rfl, rfl, _, rfl, g, C_Grid, dx, _, _, rfl, hg, T.c_Grid, T.n_Grid_step, rfl, _, _, rfl, rfl, hs, _, _, rfl, rfl, k⟩

theorem ok_Grid_init0 (T : Txt K mg C_Grid C_Named C_Timed C_Item C_Piece C_Break) : MkD P w K mg base CX0 1 "Grid" C_Grid ["self", "step", "offset"] [] (spGrid0 C_Grid) := by
  obtain ⟨f, fd, ds, M, F, vd, b⟩ := T.i3_Grid
  refine ⟨f, fd, ds, T.g_Grid, M, b, vd, F.ok sc_Grid_init (fun vs H Q E h => ?_) (fun cdv A outer s H vs Q E hr h => ?_)⟩
  · obtain ⟨p, dx, s, o, rfl, _⟩ := h
    rfl
  · obtain ⟨p, dx, st, o, rfl, hp, hs, k⟩ := h
    refine ⟨_, (pss_cons (ps_if (pt_cmpR op_lt (pv 1) pe_int (nomark _))
  (pss_one ps_never)
  pss_nil)
  (pss_cons (ps_fld (pv 0) (pv 1) rfl)
  (pss_one (ps_fld (pv 0) (pe_op op_mod (pv 2) (pv 1)) rfl)))), ?_⟩
    refine ⟨_, rfl, _, _, rfl, rfl, _, rfl, ?_⟩
    refine ite2 (fun q => ?_) (fun _ => ?_)
    · have q' : st < 1 := of_decide_eq_true q
      omega
    refine ⟨_, rfl, _, rfl, p, C_Grid, dx, _, rfl, hp, T.c_Grid, T.n_Grid_step, (by show 0 < 1000; decide), ?_⟩
    refine ⟨_, rfl, _, rfl, _, _, rfl, rfl, (by show 0 < st; omega), _, rfl, p, C_Grid, dx, _, rfl, upd_same, T.c_Grid, T.n_Grid_offset, (by show 1 < 1000; decide), ?_⟩
    exact k _ ⟨by omega, dx, upd_same⟩ (Off.upd.trans Off.upd)

theorem ok_Named_init0 (T : Txt K mg C_Grid C_Named C_Timed C_Item C_Piece C_Break) : Cf P w K mg base CX0 2 C_Named "__init__" ["self", "name"] (spNamed0 K) := by
  have D_is_name := ok_is_name (P := P) (w := w) (base := base) T
  obtain ⟨mc, f, fd, r, a, F, b⟩ := T.q_Named_init
  refine ⟨mc, f, fd, r, a, F.kp, b, F.ok sc_Named_init (fun vs H Q E h => ?_) (fun cdv A outer s H vs Q E hr h => ?_)⟩
  · obtain ⟨p, C, dx, fs, z, rfl, _⟩ := h
    rfl
  · obtain ⟨p, C, dx, fs, z, rfl, hp, hC, hn, hz, hzl, hfs, k⟩ := h
    refine ⟨_, (pss_cons (ps_if (pt_not (pt_val (pe_d D_is_name (hr.mono (by decide)) pass0 (by rfl) (pa_cons (pv 1) pa_nil))))
  (pss_one ps_never)
  pss_nil)
  (pss_one (ps_fld (pv 0) (pv 1) rfl))), ?_⟩
    refine ⟨_, rfl, z, rfl, by omega, fun H1 s1 => ?_⟩
    refine ⟨true, by rw [hz], iteF ?_⟩
    refine ⟨_, rfl, _, rfl, p, C, dx, fs, rfl, s1 _ _ hp, hC, hn, by omega, ?_⟩
    exact k _ upd_same ((But.of_same s1).trans But.upd)

theorem fn_Timed_init0 (T : Txt K mg C_Grid C_Named C_Timed C_Item C_Piece C_Break) {f : Addr} {fd : FuncData} (F : FunD K "__init__" "Timed.__init__" (defArgs s_Timed_init) (defBody s_Timed_init) (defScope s_Timed_init) [.non, .int 0] [] f fd) : FnOk P w K mg base CX0 1 f fd ["self", "grid", "minute", "delay"] (spTimed0 K) := by
  refine F.ok sc_Timed_init (fun vs H Q E h => ?_) (fun cdv A outer s H vs Q E hr h => ?_)
  · obtain ⟨p, C, dx, fs, g, m, d, rfl, _⟩ := h
    rfl
  · obtain ⟨p, C, dx, fs, g, m, d, rfl, hp, hC, n1, n2, n3, d0, d8, hfs, k⟩ := h
    obtain ⟨mc, u, r1, r2⟩ := T.k_Timed_MOST_DELAY
    refine ⟨_, (pss_cons (ps_if (pt_not (pt_chain op_le op_le pe_int (pv 3) (ClX.pe_cval (C8.pe_gc (v := .ref C_Timed) (by rfl) ⟨_, T.g_Timed, rfl⟩))))
  (pss_one ps_never)
  pss_nil)
  (pss_cons (ps_fld (pv 0) (pv 1) rfl)
  (pss_cons (ps_fld (pv 0) (pv 2) rfl)
  (pss_one (ps_fld (pv 0) (pv 3) rfl))))), ?_⟩
    refine ⟨_, rfl, _, _, rfl, rfl, true, bl_t d0, iteT ⟨C_Timed, mc, _, u, rfl, r1, r2, _, _, rfl, rfl, true, bl_t d8, iteF ?_⟩⟩
    have l1 := @putF_length "grid" g fs
    have l2 := @putF_length "minute" m (putF "grid" g fs)
    refine ⟨_, rfl, _, rfl, p, C, dx, fs, rfl, hp, hC, n1, by omega, ?_⟩
    refine ⟨_, rfl, _, rfl, p, C, dx, _, rfl, upd_same, hC, n2, by omega, ?_⟩
    refine ⟨_, rfl, _, rfl, p, C, dx, _, rfl, upd_same, hC, n3, by omega, ?_⟩
    exact k _ upd_same ((Off.upd.trans Off.upd).trans Off.upd)
theorem ok_Timed_init0 (T : Txt K mg C_Grid C_Named C_Timed C_Item C_Piece C_Break) : Cf P w K mg base CX0 1 C_Timed "__init__" ["self", "grid", "minute", "delay"] (spTimed0 K) := by
  obtain ⟨mc, f, fd, ds, r, a, F, vd, b⟩ := T.q4_Timed
  cases vd
  exact ⟨mc, f, fd, r, a, F.kp, b, fn_Timed_init0 T F⟩
theorem mk_Timed_init0 (T : Txt K mg C_Grid C_Named C_Timed C_Item C_Piece C_Break) : MkD P w K mg base CX0 1 "Timed" C_Timed ["self", "grid", "minute", "delay"] [] (spTimed0 K) := by
  obtain ⟨f, fd, ds, M, F, vd, b⟩ := T.i4_Timed
  exact ⟨f, fd, ds, T.g_Timed, M, b, vd, fn_Timed_init0 T F⟩

theorem fn_Item_init0 (T : Txt K mg C_Grid C_Named C_Timed C_Item C_Piece C_Break) {f : Addr} {fd : FuncData} (F : Fun K "__init__" "Item.__init__" s_Item_init f fd) : FnOk P w K mg base CX0 3 f fd ["self", "name", "grid", "minute", "delay"] (spItem0 K) := by
  have S_Named_init := ok_Named_init0 (P := P) (w := w) (base := base) T
  have S_Timed_init := ok_Timed_init0 (P := P) (w := w) (base := base) T
  refine F.ok sc_Item_init (fun vs H Q E h => ?_) (fun cdv A outer s H vs Q E hr h => ?_)
  · obtain ⟨p, C, dx, fs, z, g, m, d, rfl, _⟩ := h
    rfl
  · obtain ⟨p, C, dx, fs, z, g, m, d, rfl, hp, hC, hz, hzl, d0, d8, hfs, k⟩ := h
    refine ⟨_, (pss_cons (ps_expr (pe_cf S_Named_init (hr.mono (by decide)) pass0 (C8.pe_gc (v := .ref C_Named) (by rfl) ⟨_, T.g_Named, rfl⟩) (pa_cons (pv 0) (pa_cons (pv 1) pa_nil))))
  (pss_one (ps_expr (pe_cf S_Timed_init (hr.mono (by decide)) pass0 (C8.pe_gc (v := .ref C_Timed) (by rfl) ⟨_, T.g_Timed, rfl⟩) (pa_cons (pv 0) (pa_cons (pv 2) (pa_cons (pv 3) (pa_cons (pv 4) pa_nil)))))))), ?_⟩
    have l1 := @putF_length "name" (.str z) fs
    refine ⟨rfl, _, rfl, _, rfl, p, C, dx, fs, z, rfl, hp, hC.c, hC.n, hz, hzl, by omega, fun H1 h1 b1 => ?_⟩
    refine ⟨rfl, _, rfl, _, rfl, _, rfl, _, rfl, p, C, dx, _, g, m, d, rfl, h1, hC.c, hC.g, hC.m, hC.d, d0, d8, by omega, fun H2 h2 o2 => ?_⟩
    exact k _ h2 (b1.trans fun b o e hb => by rw [o2 b hb]; exact e)
theorem ok_Item_init0 (T : Txt K mg C_Grid C_Named C_Timed C_Item C_Piece C_Break) : CfK P w K mg base CX0 3 C_Item "__init__" ["self", "name", "grid", "minute", "delay"] 2 ["grid", "minute", "delay"] (spItem0 K) := by
  obtain ⟨mc, f, fd, r, a, F, b⟩ := T.q_Item_init
  exact ⟨mc, f, fd, r, a, F.kp, b, fn_Item_init0 T F⟩
theorem mk_Item_init0 (T : Txt K mg C_Grid C_Named C_Timed C_Item C_Piece C_Break) : MkK P w K mg base CX0 3 "Item" C_Item ["self", "name", "grid", "minute", "delay"] 2 ["grid", "minute", "delay"] (spItem0 K) := by
  obtain ⟨f, fd, M, F, b⟩ := T.i_Item
  exact ⟨f, fd, T.g_Item, M, b, fn_Item_init0 T F⟩

theorem mk_Piece_init0 (T : Txt K mg C_Grid C_Named C_Timed C_Item C_Piece C_Break) : MkK P w K mg base CX0 4 "Piece" C_Piece ["self", "name", "grid", "least", "most", "minute", "delay"] 2 ["grid", "least", "most", "minute", "delay"] (spPiece0 K) := by
  have S_Item_init := ok_Item_init0 (P := P) (w := w) (base := base) T
  obtain ⟨f, fd, M, F, b⟩ := T.i_Piece
  refine ⟨f, fd, T.g_Piece, M, b, F.ok sc_Piece_init (fun vs H Q E h => ?_) (fun cdv A outer s H vs Q E hr h => ?_)⟩
  · obtain ⟨p, C, dx, z, g, m, l, t, d, rfl, _⟩ := h
    rfl
  · obtain ⟨p, C, dx, z, g, m, l, t, d, rfl, hp, hC, n1, n2, hz, hzl, d0, d8, l1, lt, t8, k⟩ := h
    obtain ⟨mc, u, r1, r2⟩ := T.k_Piece_MOST_SPREAD
    refine ⟨_, (pss_cons (ps_expr (pe_cfK S_Item_init (hr.mono (by decide)) pass0 (C8.pe_gc (v := .ref C_Item) (by rfl) ⟨_, T.g_Item, rfl⟩) (pa_cons (pv 0) (pa_cons (pv 1) pa_nil)) (pk_cons (pv 2) (pk_cons (pv 5) (pk_cons (pv 6) pk_nil)))))
  (pss_cons (ps_if (pt_cmpR op_lt (pv 3) pe_int (nomark _))
  (pss_one ps_never)
  pss_nil)
  (pss_cons (ps_if (pt_not (pt_chain op_le op_le (pv 3) (pv 4) (pe_op op_add (pv 3) (ClX.pe_cval (C8.pe_gc (v := .ref C_Piece) (by rfl) ⟨_, T.g_Piece, rfl⟩)))))
  (pss_one ps_never)
  pss_nil)
  (pss_cons (ps_fld (pv 0) (pv 3) rfl)
  (pss_one (ps_fld (pv 0) (pv 4) rfl)))))), ?_⟩
    refine ⟨rfl, _, rfl, _, rfl, _, rfl, _, rfl, _, rfl, rfl, rfl, p, C, dx, [], z, g, m, d, rfl, hp, hC, hz, hzl, d0, d8, by decide, fun H1 h1 b1 => ?_⟩
    refine ⟨_, rfl, _, _, rfl, rfl, false, bl_f (by omega), iteF ?_⟩
    refine ⟨_, rfl, _, rfl, _, _, rfl, rfl, true, bl_t lt, iteT ⟨_, rfl, C_Piece, mc, _, u, rfl, r1, r2, _, _, rfl, rfl, _, _, rfl, rfl, true, bl_t t8, iteF ?_⟩⟩
    refine ⟨_, rfl, _, rfl, p, C, dx, _, rfl, h1, hC.c, n1, (by exact Nat.lt_of_le_of_lt (putI_length z g m d) (by decide)), ?_⟩
    refine ⟨_, rfl, _, rfl, p, C, dx, _, rfl, upd_same, hC.c, n2, (by exact Nat.lt_of_le_of_lt (Nat.le_trans putF_length (Nat.succ_le_succ (putI_length z g m d))) (by decide)), ?_⟩
    exact k _ upd_same (b1.trans (But.upd.trans But.upd))

theorem mk_Break_init0 (T : Txt K mg C_Grid C_Named C_Timed C_Item C_Piece C_Break) : MkK P w K mg base CX0 4 "Break" C_Break ["self", "name", "grid", "minute", "places", "unit", "delay", "patience"] 2 ["grid", "minute", "places", "unit", "delay", "patience"] (spBreak0 K) := by
  have S_Item_init := ok_Item_init0 (P := P) (w := w) (base := base) T
  obtain ⟨f, fd, M, F, b⟩ := T.i_Break
  refine ⟨f, fd, T.g_Break, M, b, F.ok sc_Break_init (fun vs H Q E h => ?_) (fun cdv A outer s H vs Q E hr h => ?_)⟩
  · obtain ⟨p, C, dx, z, g, m, n, u, d, y, rfl, _⟩ := h
    rfl
  · obtain ⟨p, C, dx, z, g, m, n, u, d, y, rfl, hp, hC, n1, n2, n3, hz, hzl, d0, d8, a1, a2, a3, a4, a5, k⟩ := h
    obtain ⟨mc, c1, r1, r2⟩ := T.k_Break_MOST_PLACES
    obtain ⟨mc2, c2, r3, r4⟩ := T.k_Break_MOST_PATIENCE
    refine ⟨_, (pss_cons (ps_expr (pe_cfK S_Item_init (hr.mono (by decide)) pass0 (C8.pe_gc (v := .ref C_Item) (by rfl) ⟨_, T.g_Item, rfl⟩) (pa_cons (pv 0) (pa_cons (pv 1) pa_nil)) (pk_cons (pv 2) (pk_cons (pv 3) (pk_cons (pv 6) pk_nil)))))
  (pss_cons (ps_if (pt_not (pt_chain op_le op_le pe_int (pv 4) (ClX.pe_cval (C8.pe_gc (v := .ref C_Break) (by rfl) ⟨_, T.g_Break, rfl⟩))))
  (pss_one ps_never)
  pss_nil)
  (pss_cons (ps_if (pt_cmpR op_lt (pv 5) pe_int (nomark _))
  (pss_one ps_never)
  pss_nil)
  (pss_cons (ps_if (pt_not (pt_chain op_le op_le pe_int (pv 7) (ClX.pe_cval (C8.pe_gc (v := .ref C_Break) (by rfl) ⟨_, T.g_Break, rfl⟩))))
  (pss_one ps_never)
  pss_nil)
  (pss_cons (ps_fld (pv 0) (pv 4) rfl)
  (pss_cons (ps_fld (pv 0) (pv 5) rfl)
  (pss_one (ps_fld (pv 0) (pv 7) rfl)))))))), ?_⟩
    refine ⟨rfl, _, rfl, _, rfl, _, rfl, _, rfl, _, rfl, rfl, rfl, p, C, dx, [], z, g, m, d, rfl, hp, hC, hz, hzl, d0, d8, by decide, fun H1 h1 b1 => ?_⟩
    refine ⟨_, rfl, _, _, rfl, rfl, true, bl_t a1, iteT ⟨C_Break, mc, _, c1, rfl, r1, r2, _, _, rfl, rfl, true, bl_t a2, iteF ?_⟩⟩
    refine ⟨_, rfl, _, _, rfl, rfl, false, bl_f (by omega), iteF ?_⟩
    refine ⟨_, rfl, _, _, rfl, rfl, true, bl_t a4, iteT ⟨C_Break, mc2, _, c2, rfl, r3, r4, _, _, rfl, rfl, true, bl_t a5, iteF ?_⟩⟩
    refine ⟨_, rfl, _, rfl, p, C, dx, _, rfl, h1, hC.c, n1, (by exact Nat.lt_of_le_of_lt (putI_length z g m d) (by decide)), ?_⟩
    refine ⟨_, rfl, _, rfl, p, C, dx, _, rfl, upd_same, hC.c, n2, (by exact Nat.lt_of_le_of_lt (Nat.le_trans putF_length (Nat.succ_le_succ (putI_length z g m d))) (by decide)), ?_⟩
    refine ⟨_, rfl, _, rfl, p, C, dx, _, rfl, upd_same, hC.c, n3, (by exact Nat.lt_of_le_of_lt (Nat.le_trans putF_length (Nat.succ_le_succ (Nat.le_trans putF_length (Nat.succ_le_succ (putI_length z g m d))))) (by decide)), ?_⟩
    exact k _ upd_same (b1.trans (But.upd.trans (But.upd.trans But.upd)))

theorem ok_begin_at (T : Txt K mg C_Grid C_Named C_Timed C_Item C_Piece C_Break) {C : Addr} (M : Mf K C "begin_at" "Timed.begin_at" s_Timed_begin_at ["self", "moment", "delay"]) : Me P w K mg base CX0 2 C "begin_at" ["self", "moment", "delay"] (spBegin K C C_Grid) := by
  have M_Grid_first_bar := ok_Grid_first_bar (P := P) (w := w) (base := base) T
  obtain ⟨f, fd, M, F, b⟩ := M
  refine ⟨f, fd, M, b, F.ok sc_Timed_begin_at (fun vs H Q E h => ?_) (fun cdv A outer s H vs Q E hr h => ?_)⟩
  · obtain ⟨a, g, dx, fs, m, mo, de, s, o, rfl, _⟩ := h
    rfl
  · obtain ⟨a, g, dx, fs, m, mo, de, st, o, rfl, ha, hC, n1, n2, l1, l2, hm, hg, k⟩ := h
    refine ⟨_, (pss_cons (ps_set (i := 3) sc_Timed_begin_at.nd rfl (Or.inl rfl) (pe_ifExp (pt_cmpR op_isN (pe_fld (pv 0) rfl) pe_non (nomark _)) (pv 1) (pe_callB (call_max2 rfl) (by rfl) T.b_max (by decide +kernel) (pa_cons (pv 1) (pa_cons (pe_fld (pv 0) rfl) pa_nil)))))
  (pss_one (ps_ret (pe_me M_Grid_first_bar T.c_Grid (hr.mono (by decide)) pass0 (pe_fld (pv 0) rfl) (pa_cons (pe_op op_add (pv 3) (pv 2)) pa_nil))))), ?_⟩
    obtain ⟨hs, dg, hgg⟩ := id hg
    have fin : ∀ x : Int, x = startOf m mo → tMeth C_Grid "first_bar" (spFirstBar C_Grid) [] E0 (tFld K (tVar 0) "grid") (tCons (tOp (rI0 fun i j => .int (i + j)) (tVar 3) (tVar 2)) tNil) [some (.ref a), some (.int mo), some (.int de), some (.int x)] H Q := fun x hx => by
      refine ⟨_, rfl, a, C, dx, fs, _, rfl, ha, hC, n1, l1, g, dg, _, rfl, hgg, rfl, _, rfl, _, rfl, _, _, rfl, rfl, g, st, o, _, rfl, hg, ?_⟩
      rw [hx]
      exact k
    refine ⟨_, rfl, a, C, dx, fs, m, rfl, ha, hC, n2, l2, rfl, _, rfl, ?_⟩
    rcases hm with rfl | ⟨i, rfl⟩
    · refine ite2 (fun _ => ?_) (fun q => absurd rfl (fun z => q (decide_eq_true z)))
      exact ⟨_, rfl, fin mo rfl⟩
    · refine ite2 (fun q => nomatch (of_decide_eq_true q)) (fun _ => ?_)
      exact ⟨_, rfl, _, rfl, a, C, dx, fs, _, rfl, ha, hC, n2, l2, _, _, rfl, fin _ rfl⟩

theorem ok_l_asked (T : Txt K mg C_Grid C_Named C_Timed C_Item C_Piece C_Break) : Dk P w K mg base CX0 3 "_law_asked" ["_law_item", "_law_step_here", "_law_offset", "_law_clock_here", "_law_rows"] (spAsked K s_Timed_begin_at C_Grid) := by
  have D_l_is_int := ok_l_is_int (P := P) (w := w) (base := base) T
  obtain ⟨f, fd, g, F, b⟩ := T.l_asked
  refine ⟨f, fd, g, F.kp, b, F.ok sc_l_asked (fun vs H Q E h => ?_) (fun cdv A outer s H vs Q E hr h => ?_)⟩
  · obtain ⟨it, g, r, m, st, o, as, q0, q1, q2, q3, q4, q5, q6, q7, q8, rfl, _⟩ := h
    rfl
  · obtain ⟨it, g, r, m, st, o, as, q0, q1, q2, q3, q4, q5, q6, q7, q8, rfl, hit, hm, hg, hr0, hrows, B1, B2, B3, B4, B5, k⟩ := h
    obtain ⟨C, dx, fs, hi, hC, hM, n1, n2, l1, l2, l3⟩ := id hit
    have M_begin := ok_begin_at (P := P) (w := w) (base := base) T hM
    refine ⟨_, (pss_cons (ps_set (i := 5) sc_l_asked.nd rfl (Or.inl rfl) (pe_lst pa_nil))
  (pss_cons (ps_for PassesOwn.never rfl (pi_list (pv 4)) (pg_tup (by rfl) (pgs_cons (pg_name (i := 6) sc_l_asked.nd rfl (Or.inl rfl)) (pgs_cons (pg_name (i := 7) sc_l_asked.nd rfl (Or.inl rfl)) pgs_nil)))
  (pss_cons (ps_set (i := 8) sc_l_asked.nd rfl (Or.inl rfl) (pv 6))
  (C8.pss_cut (ps_if (pt_cmpR op_notN (pv 3) pe_non (nomark _))
  (pss_one (ps_set (i := 8) sc_l_asked.nd rfl (Or.inl rfl) (pe_ix ix_list (pe_callB cr_sorted (by rfl) T.b_sorted (by decide +kernel) (pa_cons (pe_lst (pa_cons (pv 6) (pa_cons (pv 3) pa_nil))) pa_nil)) pe_int (fun _ _ => rfl))))
  pss_nil)
  (pss_cons (ps_set (i := 9) sc_l_asked.nd rfl (Or.inl rfl) (pe_me M_begin hC (hr.mono (by decide)) pass0 (pv 0) (pa_cons (pv 6) (pa_cons (pv 7) pa_nil))))
  (pss_cons (ps_if (PW.pt (pw_or (pt_not (pt_val (pe_d D_l_is_int (hr.mono (by decide)) pass0 (by rfl) (pa_cons (pv 9) pa_nil)))) (pw_or1 (pt_not (pt_chain op_le op_lt pe_int (pe_op op_sub (pe_op op_sub (pv 9) (pv 8)) (pv 7)) (pv 1))))))
  (pss_one (ps_ret pe_bl))
  pss_nil)
  (pss_cons (ps_if (pt_cmpR op_ne (pe_op op_mod (pe_callTy call_int1 (by rfl) T.b_int (by decide +kernel) (pa_cons (pe_op op_sub (pv 9) (pv 2)) pa_nil)) (pv 1)) pe_int (nomark _))
  (pss_one (ps_ret pe_bl))
  pss_nil)
  (pss_one (ps_expr (pe_bm PySem.F.plainAttrs_list PySem.F.slot_list_append PySem.F.type_list_append mt_append (pv 5) (pa_cons (pv 9) pa_nil))))))))))
  (pss_cons (ps_if (PW.pt (pw_or (pt_cmpR op_lt (pe_ix ix_list (pv 5) pe_int (fun _ _ => rfl)) (pe_ix ix_list (pv 5) pe_int (fun _ _ => rfl)) (nomark _)) (pw_or (pt_cmpR op_lt (pe_ix ix_list (pv 5) pe_int (fun _ _ => rfl)) (pe_ix ix_list (pv 5) pe_int (fun _ _ => rfl)) (nomark _)) (pw_or (pt_cmpR op_lt (pe_ix ix_list (pv 5) pe_int (fun _ _ => rfl)) (pe_ix ix_list (pv 5) pe_int (fun _ _ => rfl)) (nomark _)) (pw_or1 (pt_cmpR op_lt (pe_ix ix_list (pv 5) pe_int (fun _ _ => rfl)) (pe_ix ix_list (pv 5) pe_int (fun _ _ => rfl)) (nomark _)))))))
  (pss_one (ps_ret pe_bl))
  pss_nil)
  (pss_one (ps_ret (pe_cmpR op_eq (pe_ix ix_list (pv 5) (pe_un un_neg pe_int) (fun _ _ => rfl)) (pe_ix ix_list (pv 5) pe_int (fun _ _ => rfl)) (nomark _))))))), ?_⟩
    have hst : 0 < st := hg.1
    refine ⟨by decide, fun b hb => ?_⟩
    have hl : as.length = 9 := hrows.len
    refine ⟨_, rfl, r, rfl, ⟨_, SqL.of ((Same.new hb) _ _ hr0)⟩, for_list (K := K) (a := r) (xs := as.map V.ref) (fun i σ H' => ∃ (x6 x7 x8 x9 : Option V), σ = [some (.ref it), some (.int st), some (.int o), some m, some (.ref r), some (.ref b), x6, x7, x8, x9] ∧ Same H H' ∧
      H' b = some (.lst (([q0, q1, q2, q3, q4, q5, q6, q7, q8].take i).map fun q => .int (barOf st (o % st) (startOf m q.1 + q.2))))) ⟨_, _, _, _, rfl, Same.new hb, upd_same⟩ (fun i σ H' _ ⟨_, _, _, _, _, s1, _⟩ => SqL.of (s1 _ _ hr0)) ?_ ?_⟩
    · rintro i x σ H1 hx ⟨x6, x7, x8, x9, rfl, s1, hb1⟩
      obtain ⟨a, q, rfl, hq, ha⟩ := (hrows.same s1).at_ hx
      refine ⟨a, _, rfl, SqT.of ha, rfl, _, _, rfl, _, _, rfl, rfl, ?_⟩
      refine ⟨_, rfl, ?_⟩
      -- start: the cut
      refine ⟨fun σ H' => ∃ x9 : Option V, σ = [some (.ref it), some (.int st), some (.int o), some m, some (.ref r), some (.ref b), some (.int q.1), some (.int q.2), some (.int (startOf m q.1)), x9] ∧ Same H1 H', ?_, ?_⟩
      · rcases hm with rfl | ⟨y, rfl⟩
        · refine ⟨_, rfl, rfl, _, rfl, ?_⟩
          exact iteF ⟨_, rfl, Same.refl _⟩
        · refine ⟨_, rfl, rfl, _, rfl, iteT ?_⟩
          refine ⟨_, rfl, _, rfl, (by show 2 ≤ sizeLine; decide), fun d hd => ⟨d, [q.1, y], rfl, SqL.of (by exact upd_same), (by show 2 < 64; decide), fun l e pm pw he => ?_⟩⟩
          have el := sorted_two pm pw
          subst el
          exact ⟨e, _, _, _, rfl, rfl, SqL.of upd_same, rfl, _, rfl, (Same.new hd).trans (Same.new he)⟩
      · rintro σ H2 ⟨y9, rfl, s2⟩
        have s02 := s1.trans s2
        refine ⟨_, rfl, it, dx, fs, rfl, s02 _ _ hi, l3, _, rfl, _, rfl, it, g, dx, fs, m, _, _, st, o % st, rfl, s02 _ _ hi, hC, n1, n2, l1, l2, hm, hg.same s02, ?_⟩
        have bg := bar_ge (o := o % st) (t := startOf m q.1 + q.2) hst
        have bm := bar_mod (o := o % st) (o' := o) (t := startOf m q.1 + q.2) (off_mod (o := o) (s := st))
        generalize hB : barOf st (o % st) (startOf m q.1 + q.2) = B at bg bm
        refine ⟨_, rfl, .int _, _, true, false, rfl, .base (.int _), kInt, kIntB, true, rfl, iteF ?_⟩
        refine ⟨_, rfl, _, rfl, _, _, rfl, rfl, _, rfl, _, _, rfl, rfl, _, _, rfl, rfl, true, bl_t (by omega), iteT ⟨_, rfl, _, _, rfl, rfl, true, bl_t (by omega), iteF ?_⟩⟩
        refine ⟨_, rfl, _, rfl, _, _, rfl, rfl, .inl ⟨_, rfl, _, rfl, _, _, rfl, rfl, hst, rfl, false, ble_f (congrArg V.int bm), iteF ?_⟩⟩
        refine ⟨_, rfl, .inl ⟨rfl, _, SqL.of (s2 _ _ hb1)⟩, _, rfl, b, _, _, rfl, rfl, s2 _ _ hb1, ?_, ?_⟩
        · rw [List.length_map, List.length_take]
          exact Nat.lt_of_le_of_lt (Nat.min_le_right _ _) (by show 9 < sizeLine; decide)
        · refine ⟨_, _, _, _, rfl, fun b' o' e => ?_, ?_⟩
          · have nb : b' ≠ b := fun z => by rw [z, hb] at e; cases e
            rw [upd_ne nb]
            exact s02 _ _ e
          · rw [upd_same, List.take_succ, hq, ← hB]
            simp
    · rintro σ H1 ⟨x6, x7, x8, x9, rfl, s1, hb1⟩
      have hb9 : H1 b = some (.lst [.int (barOf st (o % st) (startOf m q0.1 + q0.2)), .int (barOf st (o % st) (startOf m q1.1 + q1.2)), .int (barOf st (o % st) (startOf m q2.1 + q2.2)), .int (barOf st (o % st) (startOf m q3.1 + q3.2)),
          .int (barOf st (o % st) (startOf m q4.1 + q4.2)), .int (barOf st (o % st) (startOf m q5.1 + q5.2)), .int (barOf st (o % st) (startOf m q6.1 + q6.2)), .int (barOf st (o % st) (startOf m q7.1 + q7.2)), .int (barOf st (o % st) (startOf m q8.1 + q8.2))]) := by
        rw [hb1, List.length_map, hl]
        rfl
      rw [B5] at hb9
      refine ⟨_, rfl, b, _, _, _, rfl, rfl, SqL.of hb9, rfl, _, rfl, b, _, _, _, rfl, rfl, SqL.of hb9, rfl, _, _, rfl, rfl, false, bl_f (by omega), iteF ?_⟩
      refine ⟨_, rfl, b, _, _, _, rfl, rfl, SqL.of hb9, rfl, _, rfl, b, _, _, _, rfl, rfl, SqL.of hb9, rfl, _, _, rfl, rfl, false, bl_f (by omega), iteF ?_⟩
      refine ⟨_, rfl, b, _, _, _, rfl, rfl, SqL.of hb9, rfl, _, rfl, b, _, _, _, rfl, rfl, SqL.of hb9, rfl, _, _, rfl, rfl, false, bl_f (by omega), iteF ?_⟩
      refine ⟨_, rfl, b, _, _, _, rfl, rfl, SqL.of hb9, rfl, _, rfl, b, _, _, _, rfl, rfl, SqL.of hb9, rfl, _, _, rfl, rfl, false, bl_f (by omega), iteF ?_⟩
      refine ⟨_, rfl, _, rfl, b, _, _, _, rfl, rfl, SqL.of hb9, rfl, _, rfl, b, _, _, _, rfl, rfl, SqL.of hb9, rfl, rfl, ?_⟩
      have e : V.bl (decide (V.int (barOf st (o % st) (startOf m q0.1 + q0.2)) = V.int (barOf st (o % st) (startOf m q0.1 + q0.2)))) = V.bl true := bl_t rfl
      rw [e]
      exact k _ s1

theorem ok_law (T : Txt K mg C_Grid C_Named C_Timed C_Item C_Piece C_Break) : ∀ (f : Addr) (fd : FuncData), Fun K "law" "law" s_law f fd → FnOk P w K mg base CX0 6 f fd ["_law_script"] (spLaw K) := by
  intro f fd F
  have D_l_take := ok_l_take (P := P) (w := w) (base := base) T
  have D_l_pool := ok_l_pool (P := P) (w := w) (base := base) T
  have D_l_step := ok_l_step (P := P) (w := w) (base := base) T
  have D_l_shift := ok_l_shift (P := P) (w := w) (base := base) T
  have D_l_free := ok_l_free (P := P) (w := w) (base := base) T
  have D_l_clock := ok_l_clock (P := P) (w := w) (base := base) T
  have D_l_wait := ok_l_wait (P := P) (w := w) (base := base) T
  have D_l_more := ok_l_more (P := P) (w := w) (base := base) T
  have D_l_asked := ok_l_asked (P := P) (w := w) (base := base) T
  have D_Grid := ok_Grid_init0 (P := P) (w := w) (base := base) T
  have D_Timed := mk_Timed_init0 (P := P) (w := w) (base := base) T
  have D_Item := mk_Item_init0 (P := P) (w := w) (base := base) T
  have D_Piece := mk_Piece_init0 (P := P) (w := w) (base := base) T
  have D_Break := mk_Break_init0 (P := P) (w := w) (base := base) T
  refine F.ok sc_law (fun vs H Q E h => ?_) (fun cdv A outer s H vs Q E hr h => ?_)
  · obtain ⟨a, ns, rfl, _⟩ := h
    rfl
  · obtain ⟨a, ns, rfl, hS, hlen, k⟩ := h
    refine ⟨_, (pss_cons (ps_set (i := 1) sc_law.nd rfl (Or.inl rfl) (pe_d D_l_pool (hr.mono (by decide)) pass0 (by rfl) (pa_cons (pv 0) pa_nil)))
  (pss_cons (ps_set (i := 2) sc_law.nd rfl (Or.inl rfl) (pe_d D_l_step (hr.mono (by decide)) pass0 (by rfl) (pa_cons (pv 1) pa_nil)))
  (pss_cons (ps_set (i := 3) sc_law.nd rfl (Or.inl rfl) (pe_d D_l_shift (hr.mono (by decide)) pass0 (by rfl) (pa_cons (pv 1) (pa_cons (pv 2) pa_nil))))
  (pss_cons (ps_set (i := 4) sc_law.nd rfl (Or.inl rfl) (pe_d D_l_free (hr.mono (by decide)) pass0 (by rfl) (pa_cons (pv 1) pa_nil)))
  (pss_cons (ps_set (i := 5) sc_law.nd rfl (Or.inl rfl) (pe_d D_l_clock (hr.mono (by decide)) pass0 (by rfl) (pa_cons (pv 1) (pa_cons (pv 4) pa_nil))))
  (pss_cons (ps_set (i := 6) sc_law.nd rfl (Or.inl rfl) (pe_d D_l_take (hr.mono (by decide)) pass0 (by rfl) (pa_cons (pv 1) (pa_cons pe_int pa_nil))))
  (pss_cons (ps_set (i := 7) sc_law.nd rfl (Or.inl rfl) (pe_d D_l_wait (hr.mono (by decide)) pass0 (by rfl) (pa_cons (pv 1) pa_nil)))
  (pss_cons (ps_set (i := 8) sc_law.nd rfl (Or.inl rfl) (pe_op op_add (pv 4) (pe_d D_l_more (hr.mono (by decide)) pass0 (by rfl) (pa_cons (pv 1) pa_nil))))
  (pss_cons (ps_set (i := 9) sc_law.nd rfl (Or.inl rfl) (pe_op op_add (pv 7) (pe_d D_l_take (hr.mono (by decide)) pass0 (by rfl) (pa_cons (pv 1) (pa_cons pe_int pa_nil)))))
  (pss_cons (ps_set (i := 10) sc_law.nd rfl (Or.inl rfl) (pv 4))
  (C8.pss_cut (ps_if (pt_cmpR op_notN (pv 5) pe_non (nomark _))
  (pss_one (ps_set (i := 10) sc_law.nd rfl (Or.inl rfl) (pe_ix ix_list (pe_callB cr_sorted (by rfl) T.b_sorted (by decide +kernel) (pa_cons (pe_lst (pa_cons (pv 4) (pa_cons (pv 5) pa_nil))) pa_nil)) pe_int (fun _ _ => rfl))))
  pss_nil)
  (C8.pss_cut (ps_set (i := 11) sc_law.nd rfl (Or.inl rfl) (pe_op op_add (pv 10) (pe_op op_mod (pe_callTy call_int1 (by rfl) T.b_int (by decide +kernel) (pa_cons (pe_op op_sub (pv 3) (pv 10)) pa_nil)) (pv 2))))
  (pss_cons (ps_set (i := 12) sc_law.nd rfl (Or.inl rfl) (pe_lst (pa_cons (pe_tup (pa_cons (pv 4) (pa_cons (pv 7) pa_nil))) (pa_cons (pe_tup (pa_cons (pv 8) (pa_cons (pv 7) pa_nil))) (pa_cons (pe_tup (pa_cons (pv 8) (pa_cons (pv 9) pa_nil))) (pa_cons (pe_tup (pa_cons (pv 4) (pa_cons (pv 9) pa_nil))) (pa_cons (pe_tup (pa_cons pe_int (pa_cons pe_int pa_nil))) (pa_cons (pe_tup (pa_cons (pv 11) (pa_cons pe_int pa_nil))) pa_nil))))))))
  (pss_cons (ps_set (i := 12) sc_law.nd rfl (Or.inl rfl) (pe_op op_cat (pv 12) (pe_lst (pa_cons (pe_tup (pa_cons (pe_op op_add (pv 11) pe_int) (pa_cons pe_int pa_nil))) (pa_cons (pe_tup (pa_cons (pe_op op_add (pv 11) pe_int) (pa_cons (pe_un un_neg pe_int) pa_nil))) (pa_cons (pe_tup (pa_cons (pv 4) (pa_cons (pv 7) pa_nil))) pa_nil))))))
  (pss_cons (ps_set (i := 13) sc_law.nd rfl (Or.inl rfl) (pe_mkd D_Grid (hr.mono (by decide)) pass0 (by rfl) (pa_cons (pv 2) (pa_cons (pv 3) pa_nil))))
  (pss_cons (ps_set (i := 14) sc_law.nd rfl (Or.inl rfl) (pe_lst (pa_cons (pe_mkd D_Timed (hr.mono (by decide)) pass0 (by rfl) (pa_cons (pv 13) (pa_cons (pv 5) (pa_cons (pv 6) pa_nil)))) (pa_cons (pe_mkK D_Item (hr.mono (by decide)) pass0 (by rfl) (pa_cons pe_str pa_nil) (pk_cons (pv 13) (pk_cons (pv 5) (pk_cons (pv 6) pk_nil)))) pa_nil))))
  (pss_cons (ps_expr (pe_bm PySem.F.plainAttrs_list PySem.F.slot_list_append PySem.F.type_list_append mt_append (pv 14) (pa_cons (pe_mkK D_Piece (hr.mono (by decide)) pass0 (by rfl) (pa_cons pe_str pa_nil) (pk_cons (pv 13) (pk_cons pe_int (pk_cons pe_int (pk_cons (pv 5) (pk_cons (pv 6) pk_nil)))))) pa_nil)))
  (C8.pss_cut (ps_if (pt_cmpR op_notN (pv 5) pe_non (nomark _))
  (pss_cons (ps_asg (pe_tup (pa_cons (pv 5) (pa_cons pe_int pa_nil))) (pg_sub (pv 12) pe_int set_list))
  (pss_one (ps_expr (pe_bm PySem.F.plainAttrs_list PySem.F.slot_list_append PySem.F.type_list_append mt_append (pv 14) (pa_cons (pe_mkK D_Break (hr.mono (by decide)) pass0 (by rfl) (pa_cons pe_str pa_nil) (pk_cons (pv 13) (pk_cons (pv 5) (pk_cons pe_int (pk_cons pe_int (pk_cons (pv 6) (pk_cons pe_int pk_nil))))))) pa_nil)))))
  pss_nil)
  (pss_cons (ps_for PassesOwn.never rfl (pi_range1 rfl T.b_range (pa_cons pe_int pa_nil)) (pg_name (i := 15) sc_law.nd rfl (Or.inl rfl))
  (pss_one (ps_for PassesOwn.never rfl (pi_list (pv 14)) (pg_name (i := 16) sc_law.nd rfl (Or.inl rfl))
  (pss_one (ps_if (pt_not (pt_val (pe_d D_l_asked (hr.mono (by decide)) pass0 (by rfl) (pa_cons (pv 16) (pa_cons (pv 2) (pa_cons (pv 3) (pa_cons (pv 5) (pa_cons (pv 12) pa_nil))))))))
  (pss_one (ps_ret pe_bl))
  pss_nil)))))
  (pss_one (ps_ret pe_bl))))))))))))))))))))), ?_⟩
    refine ⟨_, rfl, a, ns, rfl, hS, hlen, fun p c H0 hp0 _ _ _ => ?_⟩
    refine ⟨_, rfl, p, c, ns, rfl, hp0, fun st H1 Gs hp1 _ => ?_⟩
    refine ⟨_, rfl, _, rfl, p, c, ns, st, rfl, hp1, Gs, fun off H2 Go hp2 _ => ?_⟩
    refine ⟨_, rfl, p, c, ns, rfl, hp2, fun mo H3 Gm hp3 _ => ?_⟩
    refine ⟨_, rfl, _, rfl, p, c, ns, mo, rfl, hp3, fun m H4 hm hp4 _ => ?_⟩
    refine ⟨_, rfl, p, c, ns, _, rfl, hp4, by decide, by decide +kernel, fun lt H5 d0 d8 hp5 _ => ?_⟩
    refine ⟨_, rfl, p, c, ns, rfl, hp5, fun wt H6 _ hp6 _ => ?_⟩
    refine ⟨_, rfl, _, rfl, p, c, ns, rfl, hp6, fun more H7 Gr hp7 _ => ⟨_, _, rfl, rfl, ?_⟩⟩
    refine ⟨_, rfl, _, rfl, p, c, ns, _, rfl, hp7, by decide, by decide +kernel, fun lo H8 l0 l9 hp8 _ => ⟨_, _, rfl, rfl, ?_⟩⟩
    refine ⟨_, rfl, ?_⟩
    have hst : 1 ≤ st := Gs.1
    -- start
    refine ⟨fun σ H' => σ = [some (.ref a), some (.ref p), some (.int st), some (.int off), some (.int mo), some m, some (.int lt), some (.int wt), some (.int (mo + more)), some (.int (wt + lo)), some (.int (startOf m mo)), none, none, none, none, none, none], ?_, ?_⟩
    · rcases hm with rfl | ⟨y, rfl⟩
      · exact ⟨_, rfl, rfl, _, rfl, iteF rfl⟩
      · refine ⟨_, rfl, rfl, _, rfl, iteT ?_⟩
        refine ⟨_, rfl, _, rfl, (by show 2 ≤ sizeLine; decide), fun d hd => ⟨d, [mo, y], rfl, SqL.of (by exact upd_same), (by show 2 < 64; decide), fun l e pm pw he => ?_⟩⟩
        have el := sorted_two pm pw
        subst el
        exact ⟨e, _, _, _, rfl, rfl, SqL.of upd_same, rfl, rfl⟩
    rintro σ H9 rfl
    generalize hsn : startOf m mo = sn
    refine ⟨fun σ H' => σ = [some (.ref a), some (.ref p), some (.int st), some (.int off), some (.int mo), some m, some (.int lt), some (.int wt), some (.int (mo + more)), some (.int (wt + lo)), some (.int sn), some (.int (sn + (off - sn) % st)), none, none, none, none, none], ?_, ?_⟩
    · exact ⟨_, rfl, _, rfl, _, rfl, _, _, rfl, rfl, .inl ⟨_, rfl, _, rfl, _, _, rfl, rfl, (by show 0 < st; omega), _, _, rfl, rfl, rfl⟩⟩
    rintro σ H10 rfl
    generalize hbar : sn + (off - sn) % st = bar
    -- the rows
    refine ⟨_, rfl, _, rfl, (by show 2 ≤ sizeLine; decide), fun t0 n0 => ?_⟩
    refine ⟨_, rfl, _, rfl, (by show 2 ≤ sizeLine; decide), fun t1 n1 => ?_⟩
    refine ⟨_, rfl, _, rfl, (by show 2 ≤ sizeLine; decide), fun t2 n2 => ?_⟩
    refine ⟨_, rfl, _, rfl, (by show 2 ≤ sizeLine; decide), fun t3 n3 => ?_⟩
    refine ⟨(by show 2 ≤ sizeLine; decide), fun t4 n4 => ?_⟩
    refine ⟨_, rfl, (by show 2 ≤ sizeLine; decide), fun t5 n5 => ?_⟩
    have s0 := Same.new (o := .tup [.int mo, .int wt]) n0
    have s1 := Same.new (o := .tup [.int (mo + more), .int wt]) n1
    have s2 := Same.new (o := .tup [.int (mo + more), .int (wt + lo)]) n2
    have s3 := Same.new (o := .tup [.int mo, .int (wt + lo)]) n3
    have s4 := Same.new (o := .tup [.int 0, .int 0]) n4
    have s5 := Same.new (o := .tup [.int bar, .int 0]) n5
    refine ⟨(by show 6 ≤ sizeLine; decide), fun r1 m1 => ?_⟩
    have s6 := Same.new (o := .lst [.ref t0, .ref t1, .ref t2, .ref t3, .ref t4, .ref t5]) m1
    refine ⟨_, rfl, _, rfl, _, _, rfl, rfl, (by show 2 ≤ sizeLine; decide), fun t6 n6 => ?_⟩
    have s7 := Same.new (o := .tup [.int (bar + 1), .int 0]) n6
    refine ⟨_, rfl, _, _, rfl, rfl, _, rfl, (by show 2 ≤ sizeLine; decide), fun t7 n7 => ?_⟩
    have s8 := Same.new (o := .tup [.int (bar + 1), .int (-1)]) n7
    refine ⟨_, rfl, _, rfl, (by show 2 ≤ sizeLine; decide), fun t8 n8 => ?_⟩
    have s9 := Same.new (o := .tup [.int mo, .int wt]) n8
    refine ⟨(by show 3 ≤ sizeLine; decide), fun r2 m2 => ?_⟩
    have s10 := Same.new (o := .lst [.ref t6, .ref t7, .ref t8]) m2
    refine ⟨r1, r2, _, _, rfl, rfl, s10 _ _ (s9 _ _ (s8 _ _ (s7 _ _ upd_same))), upd_same, (by show 9 ≤ sizeLine; decide), fun r3 m3 => ?_⟩
    have s11 := Same.new (o := .lst [.ref t0, .ref t1, .ref t2, .ref t3, .ref t4, .ref t5, .ref t6, .ref t7, .ref t8]) m3
    -- the grid
    refine ⟨_, rfl, _, rfl, fun g dg ng ndg neg => ⟨g, dg, st, off, rfl, upd_same, hst, fun HG hG oG => ⟨rfl, ?_⟩⟩⟩
    have sG := Same.inst (C := C_Grid) ng ndg (But.of_off oG)
    have f0 := sG _ _ (s11 _ _ (s10 _ _ (s9 _ _ (s8 _ _ (s7 _ _ (s6 _ _ (s5 _ _ (s4 _ _ (s3 _ _ (s2 _ _ (s1 _ _ upd_same)))))))))))
    have f1 := sG _ _ (s11 _ _ (s10 _ _ (s9 _ _ (s8 _ _ (s7 _ _ (s6 _ _ (s5 _ _ (s4 _ _ (s3 _ _ (s2 _ _ upd_same))))))))))
    have f2 := sG _ _ (s11 _ _ (s10 _ _ (s9 _ _ (s8 _ _ (s7 _ _ (s6 _ _ (s5 _ _ (s4 _ _ (s3 _ _ upd_same)))))))))
    have f3 := sG _ _ (s11 _ _ (s10 _ _ (s9 _ _ (s8 _ _ (s7 _ _ (s6 _ _ (s5 _ _ (s4 _ _ upd_same))))))))
    have f4 := sG _ _ (s11 _ _ (s10 _ _ (s9 _ _ (s8 _ _ (s7 _ _ (s6 _ _ (s5 _ _ upd_same)))))))
    have f5 := sG _ _ (s11 _ _ (s10 _ _ (s9 _ _ (s8 _ _ (s7 _ _ (s6 _ _ upd_same))))))
    have f6 := sG _ _ (s11 _ _ (s10 _ _ (s9 _ _ (s8 _ _ upd_same))))
    have f7 := sG _ _ (s11 _ _ (s10 _ _ (s9 _ _ upd_same)))
    have f8 := sG _ _ (s11 _ _ (s10 _ _ upd_same))
    have fr := sG _ _ upd_same
    clear s0 s1 s2 s3 s4 s5 s6 s7 s8 s9 s10 s11 sG
    -- the items
    have IT : ItemC K C_Timed ∨ True := .inr trivial
    have II : ItemC K C_Item := ⟨T.c_Item, T.n_Item_name, T.n_Item_grid, T.n_Item_minute, T.n_Item_delay⟩
    have IP : ItemC K C_Piece := ⟨T.c_Piece, T.n_Piece_name, T.n_Piece_grid, T.n_Piece_minute, T.n_Piece_delay⟩
    have IB : ItemC K C_Break := ⟨T.c_Break, T.n_Break_name, T.n_Break_grid, T.n_Break_minute, T.n_Break_delay⟩
    have dl : lt ≤ 8 := by omega
    refine ⟨_, rfl, _, rfl, _, rfl, fun x1 e1 a1 b1 c1 => ⟨x1, C_Timed, e1, [], .ref g, m, lt, rfl, upd_same, T.c_Timed, T.n_Timed_grid, T.n_Timed_minute, T.n_Timed_delay, d0, dl, by decide, fun J1 h1 o1 => ⟨rfl, ?_⟩⟩⟩
    have u1 := Same.inst (C := C_Timed) a1 b1 (But.of_off o1)
    refine ⟨_, rfl, _, rfl, _, rfl, rfl, rfl, fun x2 e2 a2 b2 c2 => ⟨x2, C_Item, e2, [], "item", .ref g, m, lt, rfl, upd_same, II, by decide +kernel, by decide +kernel, d0, dl, by decide, fun J2 h2 k2 => ⟨rfl, ?_⟩⟩⟩
    have u2 := Same.inst (C := C_Item) a2 b2 k2
    refine ⟨(by show 2 ≤ sizeLine; decide), fun il nl => ?_⟩
    have u3 := Same.new (o := .lst [.ref x1, .ref x2]) nl
    refine ⟨_, rfl, .inl ⟨rfl, _, SqL.of upd_same⟩, _, rfl, _, rfl, _, rfl, rfl, rfl, fun x3 e3 a3 b3 c3 => ⟨x3, C_Piece, e3, "piece", .ref g, m, 2, 3, lt, rfl, upd_same, IP, T.n_Piece_least, T.n_Piece_most, by decide +kernel, by decide +kernel, d0, dl, by decide, by decide, by decide, fun J3 h3 k3 => ⟨rfl, ?_⟩⟩⟩
    have u4 := Same.inst (C := C_Piece) a3 b3 k3
    have fl := u4 _ _ upd_same
    refine ⟨il, _, _, rfl, rfl, fl, (by show 2 < sizeLine; decide), ?_⟩
    have i1 : ItAt K s_Timed_begin_at J3 x1 g m := ⟨C_Timed, e1, _, u4 _ _ (u3 _ _ (u2 _ _ h1)), T.c_Timed, T.m_Timed_begin_at, T.n_Timed_grid, T.n_Timed_minute, putT_grid, putT_min, putT_no rfl⟩
    have i2 : ItAt K s_Timed_begin_at J3 x2 g m := ⟨C_Item, e2, _, u4 _ _ (u3 _ _ h2), T.c_Item, T.m_Item_begin_at, T.n_Item_grid, T.n_Item_minute, putT_grid, putT_min, putI_no⟩
    have i3 : ItAt K s_Timed_begin_at J3 x3 g m := ⟨C_Piece, e3, _, h3, T.c_Piece, T.m_Piece_begin_at, T.n_Piece_grid, T.n_Piece_minute, (look_ne (by decide +kernel)).trans ((look_ne (by decide +kernel)).trans putT_grid),
      (look_ne (by decide +kernel)).trans ((look_ne (by decide +kernel)).trans putT_min), (look_ne (by decide +kernel)).trans ((look_ne (by decide +kernel)).trans putI_no)⟩
    have sJ : Same HG J3 := ((u1.trans u2).trans u3).trans u4
    have rows0 : RowsIn HG [t0, t1, t2, t3, t4, t5, t6, t7, t8] [(mo, wt), (mo + more, wt), (mo + more, wt + lo), (mo, wt + lo), (0, 0), (bar, 0), (bar + 1, 0), (bar + 1, -1), (mo, wt)] := ⟨f0, f1, f2, f3, f4, f5, f6, f7, f8, trivial⟩
    have rows1 := rows0.same sJ
    have fr1 := sJ _ _ fr
    have nri : r3 ≠ il := ne_of_none (u2 _ _ (u1 _ _ fr)) nl
    have gJ := hG.same sJ
    -- a clock: one row, one item more
    refine ⟨fun σ H' => σ = [some (.ref a), some (.ref p), some (.int st), some (.int off), some (.int mo), some m, some (.int lt), some (.int wt), some (.int (mo + more)), some (.int (wt + lo)), some (.int sn), some (.int bar), some (.ref r3), some (.ref g), some (.ref il), none, none] ∧
      ∃ (as ts : List Addr) (q4 : Int × Int), H' il = some (.lst (as.map V.ref)) ∧ (∀ b, b ∈ as → ItAt K s_Timed_begin_at H' b g m) ∧ GridAt C_Grid H' g st (off % st) ∧ H' r3 = some (.lst (ts.map V.ref)) ∧
        RowsIn H' ts [(mo, wt), (mo + more, wt), (mo + more, wt + lo), (mo, wt + lo), q4, (bar, 0), (bar + 1, 0), (bar + 1, -1), (mo, wt)], ?_, ?_⟩
    · have v1 : ∀ b, b ∈ [x1, x2, x3] → ItAt K s_Timed_begin_at (upd J3 il (.lst [.ref x1, .ref x2, .ref x3])) b g m := fun b hb => by
        simp only [List.mem_cons, List.not_mem_nil, or_false] at hb
        rcases hb with rfl | rfl | rfl
        · exact i1.keep fl
        · exact i2.keep fl
        · exact i3.keep fl
      have gJ2 : GridAt C_Grid (upd J3 il (.lst [.ref x1, .ref x2, .ref x3])) g st (off % st) := gJ.keep fl
      have rJ2 : (upd J3 il (.lst [.ref x1, .ref x2, .ref x3])) r3 = some (.lst [.ref t0, .ref t1, .ref t2, .ref t3, .ref t4, .ref t5, .ref t6, .ref t7, .ref t8]) := (upd_ne nri).trans fr1
      have rowsJ2 : RowsIn (upd J3 il (.lst [.ref x1, .ref x2, .ref x3])) _ _ := rows1.keep fl
      rcases hm with rfl | ⟨y, rfl⟩
      · refine ⟨_, rfl, rfl, _, rfl, iteF ?_⟩
        exact ⟨rfl, [x1, x2, x3], [t0, t1, t2, t3, t4, t5, t6, t7, t8], (0, 0), upd_same, v1, gJ2, rJ2, rowsJ2⟩
      · refine ⟨_, rfl, rfl, _, rfl, iteT ?_⟩
        refine ⟨_, rfl, (by show 2 ≤ sizeLine; decide), fun t nt => ?_⟩
        have w1 := Same.new (o := .tup [.int y, .int 0]) nt
        have rJ3 := w1 _ _ rJ2
        refine ⟨_, rfl, r3, _, _, 4, rfl, rfl, rJ3, rfl, ?_⟩
        have lJ3 := w1 _ _ (upd_same (H := J3) (a := il) (o := .lst [.ref x1, .ref x2, .ref x3]))
        have gJ4 := (gJ2.same w1).keep (u := .lst [.ref t0, .ref t1, .ref t2, .ref t3, .ref t, .ref t5, .ref t6, .ref t7, .ref t8]) rJ3
        have lJ4 := (upd_ne (o := .lst [.ref t0, .ref t1, .ref t2, .ref t3, .ref t, .ref t5, .ref t6, .ref t7, .ref t8]) nri.symm).trans lJ3
        have rowsJ3 := rowsJ2.same w1
        have rowsJ4 : RowsIn (upd (upd J3 il (.lst [.ref x1, .ref x2, .ref x3])) t (.tup [.int y, .int 0])) [t0, t1, t2, t3, t, t5, t6, t7, t8] [(mo, wt), (mo + more, wt), (mo + more, wt + lo), (mo, wt + lo), (y, 0), (bar, 0), (bar + 1, 0), (bar + 1, -1), (mo, wt)] :=
          ⟨rowsJ3.1, rowsJ3.2.1, rowsJ3.2.2.1, rowsJ3.2.2.2.1, upd_same, rowsJ3.2.2.2.2.2⟩
        have rowsJ5 := rowsJ4.keep (u := .lst [.ref t0, .ref t1, .ref t2, .ref t3, .ref t, .ref t5, .ref t6, .ref t7, .ref t8]) rJ3
        refine ⟨_, rfl, .inl ⟨rfl, _, SqL.of lJ4⟩, _, rfl, _, rfl, _, rfl, rfl, rfl, fun x4 e4 a4 b4 c4 => ⟨x4, C_Break, e4, "slot", .ref g, .int y, 2, 3, lt, 4, rfl, upd_same, IB, T.n_Break_places, T.n_Break_unit, T.n_Break_patience, by decide +kernel, by decide +kernel, d0, dl, by decide, by decide, by decide, by decide, by decide, fun J4 h4 k4 => ⟨rfl, ?_⟩⟩⟩
        have u6 := Same.inst (C := C_Break) a4 b4 k4
        have lJ6 := u6 _ _ lJ4
        refine ⟨il, _, _, rfl, rfl, lJ6, (by show 3 < sizeLine; decide), ?_⟩
        have i4 : ItAt K s_Timed_begin_at J4 x4 g (.int y) := ⟨C_Break, e4, _, h4, T.c_Break, T.m_Break_begin_at, T.n_Break_grid, T.n_Break_minute, (look_ne (by decide +kernel)).trans ((look_ne (by decide +kernel)).trans ((look_ne (by decide +kernel)).trans putT_grid)),
          (look_ne (by decide +kernel)).trans ((look_ne (by decide +kernel)).trans ((look_ne (by decide +kernel)).trans putT_min)), (look_ne (by decide +kernel)).trans ((look_ne (by decide +kernel)).trans ((look_ne (by decide +kernel)).trans putI_no))⟩
        refine ⟨rfl, [x1, x2, x3, x4], [t0, t1, t2, t3, t, t5, t6, t7, t8], (y, 0), upd_same, fun b hb => ?_, (gJ4.same u6).keep lJ6, (upd_ne nri).trans (u6 _ _ upd_same), (rowsJ5.same u6).keep lJ6⟩
        have hb' : b = x1 ∨ b = x2 ∨ b = x3 ∨ b = x4 := by simpa using hb
        have old : b ∈ [x1, x2, x3] → ItAt K s_Timed_begin_at (upd J4 il (.lst [.ref x1, .ref x2, .ref x3, .ref x4])) b g (.int y) := fun q => (((v1 b q).same w1).keep rJ3 |>.same u6).keep lJ6
        rcases hb' with rfl | rfl | rfl | rfl
        · exact old (by simp)
        · exact old (by simp)
        · exact old (by simp)
        · exact i4.keep lJ6
    · rintro σ H' ⟨rfl, as, ts, q4, hil, hit, hgg, hrr, hrows⟩
      refine ⟨2, rfl, by decide, by decide, for_range (n := 2) (fun i σ H2 => ∃ (y15 y16 : Option V), σ = [some (.ref a), some (.ref p), some (.int st), some (.int off), some (.int mo), some m, some (.int lt), some (.int wt), some (.int (mo + more)), some (.int (wt + lo)), some (.int sn), some (.int bar), some (.ref r3), some (.ref g), some (.ref il), y15, y16] ∧ Same H' H2) ⟨_, _, rfl, Same.refl _⟩ ?_ ?_⟩
      · rintro i σ H2 hi ⟨y15, y16, rfl, z2⟩
        refine ⟨_, rfl, il, rfl, ⟨_, SqL.of (z2 _ _ hil)⟩, for_list (K := K) (a := il) (xs := as.map V.ref) (fun i σ H3 => ∃ (y15 y16 : Option V), σ = [some (.ref a), some (.ref p), some (.int st), some (.int off), some (.int mo), some m, some (.int lt), some (.int wt), some (.int (mo + more)), some (.int (wt + lo)), some (.int sn), some (.int bar), some (.ref r3), some (.ref g), some (.ref il), y15, y16] ∧ Same H' H3) ⟨_, _, rfl, z2⟩ (fun i σ H3 _ ⟨_, _, _, z3⟩ => SqL.of (z3 _ _ hil)) ?_ ?_⟩
        · rintro i x σ H3 hx ⟨y15, y16, rfl, z3⟩
          obtain ⟨b, hb, rfl⟩ : ∃ b, as[i]? = some b ∧ x = V.ref b := by
            rw [List.getElem?_map] at hx
            cases e : as[i]? with
            | none => rw [e] at hx; cases hx
            | some b => rw [e] at hx; exact ⟨b, rfl, (Option.some.inj hx).symm⟩
          have hib := hit b (List.mem_of_getElem? hb)
          refine ⟨_, rfl, _, rfl, _, rfl, _, rfl, _, rfl, b, g, r3, m, st, off, ts, _, _, _, _, _, _, _, _, _, rfl, hib.same z3, hm, hgg.same z3, z3 _ _ hrr, hrows.same z3, ?_, ?_, ?_, ?_, rfl, fun H4 z4 => ⟨true, rfl, iteF ⟨_, _, rfl, z3.trans z4⟩⟩⟩
          · refine bar_mono (by omega) ?_
            have q := start_mono (m := m) (a := mo) (b := mo + more) (by omega)
            show startOf m mo + wt ≤ startOf m (mo + more) + wt
            omega
          · refine bar_mono (by omega) ?_
            show startOf m (mo + more) + wt ≤ startOf m (mo + more) + (wt + lo)
            omega
          · refine bar_mono (by omega) ?_
            show startOf m mo + wt ≤ startOf m mo + (wt + lo)
            omega
          · refine bar_mono (by omega) ?_
            have q := start_mono (m := m) (a := mo) (b := mo + more) (by omega)
            show startOf m mo + (wt + lo) ≤ startOf m (mo + more) + (wt + lo)
            omega
        · rintro σ H3 ⟨y15, y16, rfl, z3⟩
          exact ⟨_, _, rfl, z3⟩
      · rintro σ H2 ⟨y15, y16, rfl, z2⟩
        exact k _

end
theorem all_mk {l : PySem.W.OpenLaw} {w : World} {K : PySem.W.Frag} {h : Heap} {mg : Str → Option Value} {fa : Addr} (X : K.In h) (G : h.Ns mainGlobals mg) (hfa : mg "law" = some (.ref fa))
    {C_Grid : Addr} {C_Named : Addr} {C_Timed : Addr} {C_Item : Addr} {C_Piece : Addr} {C_Break : Addr} {f1 : Addr} {od1 an1 : Option Addr} {sl1 : Array (Option Value)} {oc1 kV1 dc1 pm1 cd1 ct1 : Value} {f4 : Addr} {od4 an4 : Option Addr} {sl4 : Array (Option Value)} {oc4 kV4 dc4 pm4 cd4 ct4 : Value} {f6 : Addr} {od6 an6 : Option Addr} {sl6 : Array (Option Value)} {oc6 kV6 dc6 pm6 cd6 ct6 : Value} {f8 : Addr} {od8 an8 : Option Addr} {sl8 : Array (Option Value)} {oc8 kV8 dc8 pm8 cd8 ct8 : Value} {f11 : Addr} {od11 an11 : Option Addr} {sl11 : Array (Option Value)} {oc11 kV11 dc11 pm11 cd11 ct11 : Value} {f12 : Addr} {od12 an12 : Option Addr} {sl12 : Array (Option Value)} {oc12 kV12 dc12 pm12 cd12 ct12 : Value} {f13 : Addr} {od13 an13 : Option Addr} {sl13 : Array (Option Value)} {oc13 kV13 dc13 pm13 cd13 ct13 : Value} {f14 : Addr} {od14 an14 : Option Addr} {sl14 : Array (Option Value)} {oc14 kV14 dc14 pm14 cd14 ct14 : Value} {f15 : Addr} {od15 an15 : Option Addr} {sl15 : Array (Option Value)} {oc15 kV15 dc15 pm15 cd15 ct15 : Value} {f16 : Addr} {od16 an16 : Option Addr} {sl16 : Array (Option Value)} {oc16 kV16 dc16 pm16 cd16 ct16 : Value} {f17 : Addr} {od17 an17 : Option Addr} {sl17 : Array (Option Value)} {oc17 kV17 dc17 pm17 cd17 ct17 : Value} {u19 : Value} {u20 : Value} {u21 : Value} {f25 : Addr} {od25 an25 : Option Addr} {sl25 : Array (Option Value)} {oc25 kV25 dc25 pm25 cd25 ct25 : Value} {f26 : Addr} {od26 an26 : Option Addr} {sl26 : Array (Option Value)} {oc26 kV26 dc26 pm26 cd26 ct26 : Value} {T26 : Addr} {oT26 : Value} {dT26 : Option Addr} {iT26 : Array Value} {nT26 : Nat} {sT26 : Array (Option Value)} {f28 : Addr} {od28 an28 : Option Addr} {sl28 : Array (Option Value)} {oc28 kV28 dc28 pm28 cd28 ct28 : Value} {u30 : Value} {f31 : Addr} {od31 an31 : Option Addr} {sl31 : Array (Option Value)} {oc31 kV31 dc31 pm31 cd31 ct31 : Value} {T31 : Addr} {oT31 : Value} {dT31 : Option Addr} {iT31 : Array Value} {nT31 : Nat} {sT31 : Array (Option Value)} {f32 : Addr} {od32 an32 : Option Addr} {sl32 : Array (Option Value)} {oc32 kV32 dc32 pm32 cd32 ct32 : Value} {T32 : Addr} {oT32 : Value} {dT32 : Option Addr} {iT32 : Array Value} {nT32 : Nat} {sT32 : Array (Option Value)} {f34 : Addr} {od34 an34 : Option Addr} {sl34 : Array (Option Value)} {oc34 kV34 dc34 pm34 cd34 ct34 : Value} {f35 : Addr} {od35 an35 : Option Addr} {sl35 : Array (Option Value)} {oc35 kV35 dc35 pm35 cd35 ct35 : Value} {u37 : Value} {f38 : Addr} {od38 an38 : Option Addr} {sl38 : Array (Option Value)} {oc38 kV38 dc38 pm38 cd38 ct38 : Value} {u40 : Value} {u41 : Value} {f42 : Addr} {od42 an42 : Option Addr} {sl42 : Array (Option Value)} {oc42 kV42 dc42 pm42 cd42 ct42 : Value} {f44 : Addr} {od44 an44 : Option Addr} {sl44 : Array (Option Value)} {oc44 kV44 dc44 pm44 cd44 ct44 : Value} {f66 : Addr} {od66 an66 : Option Addr} {sl66 : Array (Option Value)} {oc66 kV66 dc66 pm66 cd66 ct66 : Value} {f67 : Addr} {od67 an67 : Option Addr} {sl67 : Array (Option Value)} {oc67 kV67 dc67 pm67 cd67 ct67 : Value} {f68 : Addr} {od68 an68 : Option Addr} {sl68 : Array (Option Value)} {oc68 kV68 dc68 pm68 cd68 ct68 : Value} {f69 : Addr} {od69 an69 : Option Addr} {sl69 : Array (Option Value)} {oc69 kV69 dc69 pm69 cd69 ct69 : Value} {f70 : Addr} {od70 an70 : Option Addr} {sl70 : Array (Option Value)} {oc70 kV70 dc70 pm70 cd70 ct70 : Value}
    (a1 : PySem.W.nsIn K mainGlobals "_law_take" = some (some (.ref f1)))
    (l1 : K.lookup f1 = some ⟨oc1, od1, .func (PySem.W.fnOf "_law_take" "_law_take" (defArgs s_l_take) (defBody s_l_take) (defScope s_l_take) .none kV1 dc1 pm1 an1 cd1 ct1), sl1⟩)
    (c1 : PySem.W.codeIn K cd1 "_law_take" = true)
    (k1 : PySem.W.keepIn K (.ref f1) = true)
    (z2 : PySem.W.nsIn K mainGlobals "int" = some none)
    (z3 : PySem.W.nsIn K mainGlobals "len" = some none)
    (a4 : PySem.W.nsIn K mainGlobals "_law_big" = some (some (.ref f4)))
    (l4 : K.lookup f4 = some ⟨oc4, od4, .func (PySem.W.fnOf "_law_big" "_law_big" (defArgs s_l_big) (defBody s_l_big) (defScope s_l_big) .none kV4 dc4 pm4 an4 cd4 ct4), sl4⟩)
    (c4 : PySem.W.codeIn K cd4 "_law_big" = true)
    (k4 : PySem.W.keepIn K (.ref f4) = true)
    (z5 : PySem.W.nsIn K mainGlobals "range" = some none)
    (a6 : PySem.W.nsIn K mainGlobals "_law_pool" = some (some (.ref f6)))
    (l6 : K.lookup f6 = some ⟨oc6, od6, .func (PySem.W.fnOf "_law_pool" "_law_pool" (defArgs s_l_pool) (defBody s_l_pool) (defScope s_l_pool) .none kV6 dc6 pm6 an6 cd6 ct6), sl6⟩)
    (c6 : PySem.W.codeIn K cd6 "_law_pool" = true)
    (k6 : PySem.W.keepIn K (.ref f6) = true)
    (z7 : PySem.W.nsIn K mainGlobals "list" = some none)
    (a8 : PySem.W.nsIn K mainGlobals "_law_is_int" = some (some (.ref f8)))
    (l8 : K.lookup f8 = some ⟨oc8, od8, .func (PySem.W.fnOf "_law_is_int" "_law_is_int" (defArgs s_l_is_int) (defBody s_l_is_int) (defScope s_l_is_int) .none kV8 dc8 pm8 an8 cd8 ct8), sl8⟩)
    (c8 : PySem.W.codeIn K cd8 "_law_is_int" = true)
    (k8 : PySem.W.keepIn K (.ref f8) = true)
    (z9 : PySem.W.nsIn K mainGlobals "isinstance" = some none)
    (z10 : PySem.W.nsIn K mainGlobals "bool" = some none)
    (a11 : PySem.W.nsIn K mainGlobals "_law_free" = some (some (.ref f11)))
    (l11 : K.lookup f11 = some ⟨oc11, od11, .func (PySem.W.fnOf "_law_free" "_law_free" (defArgs s_l_free) (defBody s_l_free) (defScope s_l_free) .none kV11 dc11 pm11 an11 cd11 ct11), sl11⟩)
    (c11 : PySem.W.codeIn K cd11 "_law_free" = true)
    (k11 : PySem.W.keepIn K (.ref f11) = true)
    (a12 : PySem.W.nsIn K mainGlobals "_law_step" = some (some (.ref f12)))
    (l12 : K.lookup f12 = some ⟨oc12, od12, .func (PySem.W.fnOf "_law_step" "_law_step" (defArgs s_l_step) (defBody s_l_step) (defScope s_l_step) .none kV12 dc12 pm12 an12 cd12 ct12), sl12⟩)
    (c12 : PySem.W.codeIn K cd12 "_law_step" = true)
    (k12 : PySem.W.keepIn K (.ref f12) = true)
    (a13 : PySem.W.nsIn K mainGlobals "_law_shift" = some (some (.ref f13)))
    (l13 : K.lookup f13 = some ⟨oc13, od13, .func (PySem.W.fnOf "_law_shift" "_law_shift" (defArgs s_l_shift) (defBody s_l_shift) (defScope s_l_shift) .none kV13 dc13 pm13 an13 cd13 ct13), sl13⟩)
    (c13 : PySem.W.codeIn K cd13 "_law_shift" = true)
    (k13 : PySem.W.keepIn K (.ref f13) = true)
    (a14 : PySem.W.nsIn K mainGlobals "_law_clock" = some (some (.ref f14)))
    (l14 : K.lookup f14 = some ⟨oc14, od14, .func (PySem.W.fnOf "_law_clock" "_law_clock" (defArgs s_l_clock) (defBody s_l_clock) (defScope s_l_clock) .none kV14 dc14 pm14 an14 cd14 ct14), sl14⟩)
    (c14 : PySem.W.codeIn K cd14 "_law_clock" = true)
    (k14 : PySem.W.keepIn K (.ref f14) = true)
    (a15 : PySem.W.nsIn K mainGlobals "_law_wait" = some (some (.ref f15)))
    (l15 : K.lookup f15 = some ⟨oc15, od15, .func (PySem.W.fnOf "_law_wait" "_law_wait" (defArgs s_l_wait) (defBody s_l_wait) (defScope s_l_wait) .none kV15 dc15 pm15 an15 cd15 ct15), sl15⟩)
    (c15 : PySem.W.codeIn K cd15 "_law_wait" = true)
    (k15 : PySem.W.keepIn K (.ref f15) = true)
    (a16 : PySem.W.nsIn K mainGlobals "_law_more" = some (some (.ref f16)))
    (l16 : K.lookup f16 = some ⟨oc16, od16, .func (PySem.W.fnOf "_law_more" "_law_more" (defArgs s_l_more) (defBody s_l_more) (defScope s_l_more) .none kV16 dc16 pm16 an16 cd16 ct16), sl16⟩)
    (c16 : PySem.W.codeIn K cd16 "_law_more" = true)
    (k16 : PySem.W.keepIn K (.ref f16) = true)
    (a17 : PySem.W.nsIn K mainGlobals "is_name" = some (some (.ref f17)))
    (l17 : K.lookup f17 = some ⟨oc17, od17, .func (PySem.W.fnOf "is_name" "is_name" (defArgs s_is_name) (defBody s_is_name) (defScope s_is_name) .none kV17 dc17 pm17 an17 cd17 ct17), sl17⟩)
    (c17 : PySem.W.codeIn K cd17 "is_name" = true)
    (k17 : PySem.W.keepIn K (.ref f17) = true)
    (z18 : PySem.W.nsIn K mainGlobals "all" = some none)
    (g19 : PySem.W.nsIn K mainGlobals "MOST_SIGNS" = some (some u19))
    (r19 : RelV (.int 12) u19)
    (g20 : PySem.W.nsIn K mainGlobals "LETTERS" = some (some u20))
    (r20 : RelV (.str "abcdefghijklmnopqrstuvwxyz") u20)
    (g21 : PySem.W.nsIn K mainGlobals "DIGITS" = some (some u21))
    (r21 : RelV (.str "0123456789") u21)
    (g22 : PySem.W.nsIn K mainGlobals "Grid" = some (some (.ref C_Grid)))
    (pg22 : PySem.W.plainGet K C_Grid Str.empty = true)
    (hd22 : PySem.W.hasDictIn K C_Grid = true)
    (po22 : PySem.W.plainOver K C_Grid = true)
    (sa22 : PySem.W.findIn K (.ref C_Grid) "__setattr__" = some (some (.builtin "object.__setattr__")))
    (n23 : PySem.W.findIn K (.ref C_Grid) "step" = some none)
    (n24 : PySem.W.findIn K (.ref C_Grid) "offset" = some none)
    (a25 : PySem.W.findIn K (.ref C_Grid) "first_bar" = some (some (.ref f25)))
    (i25 : PySem.W.isFn K (.ref f25) = true)
    (l25 : K.lookup f25 = some ⟨oc25, od25, .func (PySem.W.fnOf "first_bar" "Grid.first_bar" (defArgs s_Grid_first_bar) (defBody s_Grid_first_bar) (defScope s_Grid_first_bar) .none kV25 dc25 pm25 an25 cd25 ct25), sl25⟩)
    (c25 : PySem.W.codeIn K cd25 "Grid.first_bar" = true)
    (k25 : PySem.W.keepIn K (.ref f25) = true)
    (mk26 : PySem.W.makesIn K C_Grid = true)
    (a26 : PySem.W.findIn K (.ref C_Grid) "__init__" = some (some (.ref f26)))
    (i26 : PySem.W.isFn K (.ref f26) = true)
    (kc26 : PySem.W.keepIn K (.ref C_Grid) = true)
    (l26 : K.lookup f26 = some ⟨oc26, od26, .func (PySem.W.fnOf "__init__" "Grid.__init__" (defArgs s_Grid_init) (defBody s_Grid_init) (defScope s_Grid_init) (.ref T26) kV26 dc26 pm26 an26 cd26 ct26), sl26⟩)
    (c26 : PySem.W.codeIn K cd26 "Grid.__init__" = true)
    (k26 : PySem.W.keepIn K (.ref f26) = true)
    (lT26 : K.lookup T26 = some ⟨oT26, dT26, .seq iT26 nT26, sT26⟩)
    (vT26 : Vals [.int 0] iT26.toList)
    (g27 : PySem.W.nsIn K mainGlobals "Named" = some (some (.ref C_Named)))
    (pg27 : PySem.W.plainGet K C_Named Str.empty = true)
    (hd27 : PySem.W.hasDictIn K C_Named = true)
    (po27 : PySem.W.plainOver K C_Named = true)
    (sa27 : PySem.W.findIn K (.ref C_Named) "__setattr__" = some (some (.builtin "object.__setattr__")))
    (rd28 : PySem.W.readsIn K C_Named (.type "type") = true)
    (ga28 : PySem.W.specialIn K (.ref C_Named) "__getattribute__" = some (some (.builtin "type.__getattribute__")))
    (a28 : PySem.W.findCls K (.ref C_Named) (.type "type") "__init__" = some (.val (.ref f28)))
    (l28 : K.lookup f28 = some ⟨oc28, od28, .func (PySem.W.fnOf "__init__" "Named.__init__" (defArgs s_Named_init) (defBody s_Named_init) (defScope s_Named_init) .none kV28 dc28 pm28 an28 cd28 ct28), sl28⟩)
    (c28 : PySem.W.codeIn K cd28 "Named.__init__" = true)
    (k28 : PySem.W.keepIn K (.ref f28) = true)
    (g29 : PySem.W.nsIn K mainGlobals "Timed" = some (some (.ref C_Timed)))
    (pg29 : PySem.W.plainGet K C_Timed Str.empty = true)
    (hd29 : PySem.W.hasDictIn K C_Timed = true)
    (po29 : PySem.W.plainOver K C_Timed = true)
    (sa29 : PySem.W.findIn K (.ref C_Timed) "__setattr__" = some (some (.builtin "object.__setattr__")))
    (rd30 : PySem.W.readsIn K C_Timed (.type "type") = true)
    (ga30 : PySem.W.specialIn K (.ref C_Timed) "__getattribute__" = some (some (.builtin "type.__getattribute__")))
    (a30 : PySem.W.findCls K (.ref C_Timed) (.type "type") "MOST_DELAY" = some (.val u30))
    (r30 : RelV (.int 8) u30)
    (rd31 : PySem.W.readsIn K C_Timed (.type "type") = true)
    (ga31 : PySem.W.specialIn K (.ref C_Timed) "__getattribute__" = some (some (.builtin "type.__getattribute__")))
    (a31 : PySem.W.findCls K (.ref C_Timed) (.type "type") "__init__" = some (.val (.ref f31)))
    (l31 : K.lookup f31 = some ⟨oc31, od31, .func (PySem.W.fnOf "__init__" "Timed.__init__" (defArgs s_Timed_init) (defBody s_Timed_init) (defScope s_Timed_init) (.ref T31) kV31 dc31 pm31 an31 cd31 ct31), sl31⟩)
    (c31 : PySem.W.codeIn K cd31 "Timed.__init__" = true)
    (k31 : PySem.W.keepIn K (.ref f31) = true)
    (lT31 : K.lookup T31 = some ⟨oT31, dT31, .seq iT31 nT31, sT31⟩)
    (vT31 : Vals [.non, .int 0] iT31.toList)
    (mk32 : PySem.W.makesIn K C_Timed = true)
    (a32 : PySem.W.findIn K (.ref C_Timed) "__init__" = some (some (.ref f32)))
    (i32 : PySem.W.isFn K (.ref f32) = true)
    (kc32 : PySem.W.keepIn K (.ref C_Timed) = true)
    (l32 : K.lookup f32 = some ⟨oc32, od32, .func (PySem.W.fnOf "__init__" "Timed.__init__" (defArgs s_Timed_init) (defBody s_Timed_init) (defScope s_Timed_init) (.ref T32) kV32 dc32 pm32 an32 cd32 ct32), sl32⟩)
    (c32 : PySem.W.codeIn K cd32 "Timed.__init__" = true)
    (k32 : PySem.W.keepIn K (.ref f32) = true)
    (lT32 : K.lookup T32 = some ⟨oT32, dT32, .seq iT32 nT32, sT32⟩)
    (vT32 : Vals [.non, .int 0] iT32.toList)
    (g33 : PySem.W.nsIn K mainGlobals "Item" = some (some (.ref C_Item)))
    (pg33 : PySem.W.plainGet K C_Item Str.empty = true)
    (hd33 : PySem.W.hasDictIn K C_Item = true)
    (po33 : PySem.W.plainOver K C_Item = true)
    (sa33 : PySem.W.findIn K (.ref C_Item) "__setattr__" = some (some (.builtin "object.__setattr__")))
    (rd34 : PySem.W.readsIn K C_Item (.type "type") = true)
    (ga34 : PySem.W.specialIn K (.ref C_Item) "__getattribute__" = some (some (.builtin "type.__getattribute__")))
    (a34 : PySem.W.findCls K (.ref C_Item) (.type "type") "__init__" = some (.val (.ref f34)))
    (l34 : K.lookup f34 = some ⟨oc34, od34, .func (PySem.W.fnOf "__init__" "Item.__init__" (defArgs s_Item_init) (defBody s_Item_init) (defScope s_Item_init) .none kV34 dc34 pm34 an34 cd34 ct34), sl34⟩)
    (c34 : PySem.W.codeIn K cd34 "Item.__init__" = true)
    (k34 : PySem.W.keepIn K (.ref f34) = true)
    (mk35 : PySem.W.makesIn K C_Item = true)
    (a35 : PySem.W.findIn K (.ref C_Item) "__init__" = some (some (.ref f35)))
    (i35 : PySem.W.isFn K (.ref f35) = true)
    (kc35 : PySem.W.keepIn K (.ref C_Item) = true)
    (l35 : K.lookup f35 = some ⟨oc35, od35, .func (PySem.W.fnOf "__init__" "Item.__init__" (defArgs s_Item_init) (defBody s_Item_init) (defScope s_Item_init) .none kV35 dc35 pm35 an35 cd35 ct35), sl35⟩)
    (c35 : PySem.W.codeIn K cd35 "Item.__init__" = true)
    (k35 : PySem.W.keepIn K (.ref f35) = true)
    (g36 : PySem.W.nsIn K mainGlobals "Piece" = some (some (.ref C_Piece)))
    (pg36 : PySem.W.plainGet K C_Piece Str.empty = true)
    (hd36 : PySem.W.hasDictIn K C_Piece = true)
    (po36 : PySem.W.plainOver K C_Piece = true)
    (sa36 : PySem.W.findIn K (.ref C_Piece) "__setattr__" = some (some (.builtin "object.__setattr__")))
    (rd37 : PySem.W.readsIn K C_Piece (.type "type") = true)
    (ga37 : PySem.W.specialIn K (.ref C_Piece) "__getattribute__" = some (some (.builtin "type.__getattribute__")))
    (a37 : PySem.W.findCls K (.ref C_Piece) (.type "type") "MOST_SPREAD" = some (.val u37))
    (r37 : RelV (.int 8) u37)
    (mk38 : PySem.W.makesIn K C_Piece = true)
    (a38 : PySem.W.findIn K (.ref C_Piece) "__init__" = some (some (.ref f38)))
    (i38 : PySem.W.isFn K (.ref f38) = true)
    (kc38 : PySem.W.keepIn K (.ref C_Piece) = true)
    (l38 : K.lookup f38 = some ⟨oc38, od38, .func (PySem.W.fnOf "__init__" "Piece.__init__" (defArgs s_Piece_init) (defBody s_Piece_init) (defScope s_Piece_init) .none kV38 dc38 pm38 an38 cd38 ct38), sl38⟩)
    (c38 : PySem.W.codeIn K cd38 "Piece.__init__" = true)
    (k38 : PySem.W.keepIn K (.ref f38) = true)
    (g39 : PySem.W.nsIn K mainGlobals "Break" = some (some (.ref C_Break)))
    (pg39 : PySem.W.plainGet K C_Break Str.empty = true)
    (hd39 : PySem.W.hasDictIn K C_Break = true)
    (po39 : PySem.W.plainOver K C_Break = true)
    (sa39 : PySem.W.findIn K (.ref C_Break) "__setattr__" = some (some (.builtin "object.__setattr__")))
    (rd40 : PySem.W.readsIn K C_Break (.type "type") = true)
    (ga40 : PySem.W.specialIn K (.ref C_Break) "__getattribute__" = some (some (.builtin "type.__getattribute__")))
    (a40 : PySem.W.findCls K (.ref C_Break) (.type "type") "MOST_PLACES" = some (.val u40))
    (r40 : RelV (.int 12) u40)
    (rd41 : PySem.W.readsIn K C_Break (.type "type") = true)
    (ga41 : PySem.W.specialIn K (.ref C_Break) "__getattribute__" = some (some (.builtin "type.__getattribute__")))
    (a41 : PySem.W.findCls K (.ref C_Break) (.type "type") "MOST_PATIENCE" = some (.val u41))
    (r41 : RelV (.int 64) u41)
    (mk42 : PySem.W.makesIn K C_Break = true)
    (a42 : PySem.W.findIn K (.ref C_Break) "__init__" = some (some (.ref f42)))
    (i42 : PySem.W.isFn K (.ref f42) = true)
    (kc42 : PySem.W.keepIn K (.ref C_Break) = true)
    (l42 : K.lookup f42 = some ⟨oc42, od42, .func (PySem.W.fnOf "__init__" "Break.__init__" (defArgs s_Break_init) (defBody s_Break_init) (defScope s_Break_init) .none kV42 dc42 pm42 an42 cd42 ct42), sl42⟩)
    (c42 : PySem.W.codeIn K cd42 "Break.__init__" = true)
    (k42 : PySem.W.keepIn K (.ref f42) = true)
    (z43 : PySem.W.nsIn K mainGlobals "max" = some none)
    (a44 : PySem.W.nsIn K mainGlobals "_law_asked" = some (some (.ref f44)))
    (l44 : K.lookup f44 = some ⟨oc44, od44, .func (PySem.W.fnOf "_law_asked" "_law_asked" (defArgs s_l_asked) (defBody s_l_asked) (defScope s_l_asked) .none kV44 dc44 pm44 an44 cd44 ct44), sl44⟩)
    (c44 : PySem.W.codeIn K cd44 "_law_asked" = true)
    (k44 : PySem.W.keepIn K (.ref f44) = true)
    (z45 : PySem.W.nsIn K mainGlobals "sorted" = some none)
    (n46 : PySem.W.findIn K (.ref C_Timed) "grid" = some none)
    (n47 : PySem.W.findIn K (.ref C_Timed) "minute" = some none)
    (n48 : PySem.W.findIn K (.ref C_Timed) "delay" = some none)
    (n49 : PySem.W.findIn K (.ref C_Item) "grid" = some none)
    (n50 : PySem.W.findIn K (.ref C_Item) "minute" = some none)
    (n51 : PySem.W.findIn K (.ref C_Item) "delay" = some none)
    (n52 : PySem.W.findIn K (.ref C_Piece) "grid" = some none)
    (n53 : PySem.W.findIn K (.ref C_Piece) "minute" = some none)
    (n54 : PySem.W.findIn K (.ref C_Piece) "delay" = some none)
    (n55 : PySem.W.findIn K (.ref C_Break) "grid" = some none)
    (n56 : PySem.W.findIn K (.ref C_Break) "minute" = some none)
    (n57 : PySem.W.findIn K (.ref C_Break) "delay" = some none)
    (n58 : PySem.W.findIn K (.ref C_Item) "name" = some none)
    (n59 : PySem.W.findIn K (.ref C_Piece) "name" = some none)
    (n60 : PySem.W.findIn K (.ref C_Break) "name" = some none)
    (n61 : PySem.W.findIn K (.ref C_Piece) "least" = some none)
    (n62 : PySem.W.findIn K (.ref C_Piece) "most" = some none)
    (n63 : PySem.W.findIn K (.ref C_Break) "places" = some none)
    (n64 : PySem.W.findIn K (.ref C_Break) "unit" = some none)
    (n65 : PySem.W.findIn K (.ref C_Break) "patience" = some none)
    (a66 : PySem.W.findIn K (.ref C_Timed) "begin_at" = some (some (.ref f66)))
    (i66 : PySem.W.isFn K (.ref f66) = true)
    (l66 : K.lookup f66 = some ⟨oc66, od66, .func (PySem.W.fnOf "begin_at" "Timed.begin_at" (defArgs s_Timed_begin_at) (defBody s_Timed_begin_at) (defScope s_Timed_begin_at) .none kV66 dc66 pm66 an66 cd66 ct66), sl66⟩)
    (c66 : PySem.W.codeIn K cd66 "Timed.begin_at" = true)
    (k66 : PySem.W.keepIn K (.ref f66) = true)
    (a67 : PySem.W.findIn K (.ref C_Item) "begin_at" = some (some (.ref f67)))
    (i67 : PySem.W.isFn K (.ref f67) = true)
    (l67 : K.lookup f67 = some ⟨oc67, od67, .func (PySem.W.fnOf "begin_at" "Timed.begin_at" (defArgs s_Timed_begin_at) (defBody s_Timed_begin_at) (defScope s_Timed_begin_at) .none kV67 dc67 pm67 an67 cd67 ct67), sl67⟩)
    (c67 : PySem.W.codeIn K cd67 "Timed.begin_at" = true)
    (k67 : PySem.W.keepIn K (.ref f67) = true)
    (a68 : PySem.W.findIn K (.ref C_Piece) "begin_at" = some (some (.ref f68)))
    (i68 : PySem.W.isFn K (.ref f68) = true)
    (l68 : K.lookup f68 = some ⟨oc68, od68, .func (PySem.W.fnOf "begin_at" "Timed.begin_at" (defArgs s_Timed_begin_at) (defBody s_Timed_begin_at) (defScope s_Timed_begin_at) .none kV68 dc68 pm68 an68 cd68 ct68), sl68⟩)
    (c68 : PySem.W.codeIn K cd68 "Timed.begin_at" = true)
    (k68 : PySem.W.keepIn K (.ref f68) = true)
    (a69 : PySem.W.findIn K (.ref C_Break) "begin_at" = some (some (.ref f69)))
    (i69 : PySem.W.isFn K (.ref f69) = true)
    (l69 : K.lookup f69 = some ⟨oc69, od69, .func (PySem.W.fnOf "begin_at" "Timed.begin_at" (defArgs s_Timed_begin_at) (defBody s_Timed_begin_at) (defScope s_Timed_begin_at) .none kV69 dc69 pm69 an69 cd69 ct69), sl69⟩)
    (c69 : PySem.W.codeIn K cd69 "Timed.begin_at" = true)
    (k69 : PySem.W.keepIn K (.ref f69) = true)
    (a70 : PySem.W.nsIn K mainGlobals "law" = some (some (.ref f70)))
    (l70 : K.lookup f70 = some ⟨oc70, od70, .func (PySem.W.fnOf "law" "law" (defArgs s_law) (defBody s_law) (defScope s_law) .none kV70 dc70 pm70 an70 cd70 ct70), sl70⟩)
    (c70 : PySem.W.codeIn K cd70 "law" = true)
    (k70 : PySem.W.keepIn K (.ref f70) = true)
    : ∃ fd : FuncData, (∀ (s : Shared) (v : Value), BindsTo s fd ⟨[v], []⟩ [("_law_script", v)]) ∧ ∀ base : Heap, K.In base → base.Ns mainGlobals mg → FnOk l.prog w K mg base CX0 6 fa fd ["_law_script"] (spLaw K) := by
  have T : Txt K mg C_Grid C_Named C_Timed C_Item C_Piece C_Break :=
    ⟨⟨f1, _, PySem.W.mg_of X G a1, (fun_mk (st := s_l_take) l1 c1 k1), (fun_mk (st := s_l_take) l1 c1 k1).binds (ps := ["_law_pool_here", "_law_size"]) fun _ _ _ _ _ _ us hl => match us, hl with | [_, _], _ => rfl⟩,
     PySem.W.mg_none_of X G z2,
     PySem.W.mg_none_of X G z3,
     ⟨f4, _, PySem.W.mg_of X G a4, (fun_mk (st := s_l_big) l4 c4 k4), (fun_mk (st := s_l_big) l4 c4 k4).binds (ps := ["_law_pool_here"]) fun _ _ _ _ _ _ us hl => match us, hl with | [_], _ => rfl⟩,
     PySem.W.mg_none_of X G z5,
     ⟨f6, _, PySem.W.mg_of X G a6, (fun_mk (st := s_l_pool) l6 c6 k6), (fun_mk (st := s_l_pool) l6 c6 k6).binds (ps := ["_law_script"]) fun _ _ _ _ _ _ us hl => match us, hl with | [_], _ => rfl⟩,
     PySem.W.mg_none_of X G z7,
     ⟨f8, _, PySem.W.mg_of X G a8, (fun_mk (st := s_l_is_int) l8 c8 k8), (fun_mk (st := s_l_is_int) l8 c8 k8).binds (ps := ["_law_x"]) fun _ _ _ _ _ _ us hl => match us, hl with | [_], _ => rfl⟩,
     PySem.W.mg_none_of X G z9,
     PySem.W.mg_none_of X G z10,
     ⟨f11, _, PySem.W.mg_of X G a11, (fun_mk (st := s_l_free) l11 c11 k11), (fun_mk (st := s_l_free) l11 c11 k11).binds (ps := ["_law_pool_here"]) fun _ _ _ _ _ _ us hl => match us, hl with | [_], _ => rfl⟩,
     ⟨f12, _, PySem.W.mg_of X G a12, (fun_mk (st := s_l_step) l12 c12 k12), (fun_mk (st := s_l_step) l12 c12 k12).binds (ps := ["_law_pool_here"]) fun _ _ _ _ _ _ us hl => match us, hl with | [_], _ => rfl⟩,
     ⟨f13, _, PySem.W.mg_of X G a13, (fun_mk (st := s_l_shift) l13 c13 k13), (fun_mk (st := s_l_shift) l13 c13 k13).binds (ps := ["_law_pool_here", "_law_step_here"]) fun _ _ _ _ _ _ us hl => match us, hl with | [_, _], _ => rfl⟩,
     ⟨f14, _, PySem.W.mg_of X G a14, (fun_mk (st := s_l_clock) l14 c14 k14), (fun_mk (st := s_l_clock) l14 c14 k14).binds (ps := ["_law_pool_here", "_law_moment"]) fun _ _ _ _ _ _ us hl => match us, hl with | [_, _], _ => rfl⟩,
     ⟨f15, _, PySem.W.mg_of X G a15, (fun_mk (st := s_l_wait) l15 c15 k15), (fun_mk (st := s_l_wait) l15 c15 k15).binds (ps := ["_law_pool_here"]) fun _ _ _ _ _ _ us hl => match us, hl with | [_], _ => rfl⟩,
     ⟨f16, _, PySem.W.mg_of X G a16, (fun_mk (st := s_l_more) l16 c16 k16), (fun_mk (st := s_l_more) l16 c16 k16).binds (ps := ["_law_pool_here"]) fun _ _ _ _ _ _ us hl => match us, hl with | [_], _ => rfl⟩,
     ⟨f17, _, PySem.W.mg_of X G a17, (fun_mk (st := s_is_name) l17 c17 k17), (fun_mk (st := s_is_name) l17 c17 k17).binds (ps := ["text"]) fun _ _ _ _ _ _ us hl => match us, hl with | [_], _ => rfl⟩,
     PySem.W.mg_none_of X G z18,
     ⟨u19, PySem.W.mg_of X G g19, r19⟩,
     ⟨u20, PySem.W.mg_of X G g20, r20⟩,
     ⟨u21, PySem.W.mg_of X G g21, r21⟩,
     PySem.W.mg_of X G g22,
     ⟨pg22, hd22, po22, sa22⟩,
     n23,
     n24,
     ⟨f25, _, ⟨a25, i25, k25⟩, (fun_mk (st := s_Grid_first_bar) l25 c25 k25), (fun_mk (st := s_Grid_first_bar) l25 c25 k25).binds (ps := ["self", "tick"]) fun _ _ _ _ _ _ us hl => match us, hl with | [_, _], _ => rfl⟩,
     ifD_mk ⟨mk26, a26, i26, kc26⟩ l26 c26 k26 lT26 vT26 3 (by simp) (by rfl) (fun T kV doc pm an cdv ct us its h1 h2 => match us, h1, its, h2 with | [_, _, _], _, [_], _ => ⟨_, rfl, rfl⟩),
     PySem.W.mg_of X G g27,
     ⟨pg27, hd27, po27, sa27⟩,
     ⟨_, f28, _, ⟨rd28, ga28⟩, a28, (fun_mk (st := s_Named_init) l28 c28 k28), (fun_mk (st := s_Named_init) l28 c28 k28).binds (ps := ["self", "name"]) fun _ _ _ _ _ _ us hl => match us, hl with | [_, _], _ => rfl⟩,
     PySem.W.mg_of X G g29,
     ⟨pg29, hd29, po29, sa29⟩,
     ⟨_, u30, ⟨rd30, ga30⟩, ⟨a30, r30⟩⟩,
     sfD_mk ⟨rd31, ga31⟩ a31 l31 c31 k31 lT31 vT31 4 (by simp) (by rfl) (fun T kV doc pm an cdv ct us its h1 h2 => match us, h1, its, h2 with | [_, _, _, _], _, [_, _], _ => ⟨_, rfl, rfl⟩),
     ifD_mk ⟨mk32, a32, i32, kc32⟩ l32 c32 k32 lT32 vT32 4 (by simp) (by rfl) (fun T kV doc pm an cdv ct us its h1 h2 => match us, h1, its, h2 with | [_, _, _, _], _, [_, _], _ => ⟨_, rfl, rfl⟩),
     PySem.W.mg_of X G g33,
     ⟨pg33, hd33, po33, sa33⟩,
     ⟨_, f34, _, ⟨rd34, ga34⟩, a34, (fun_mk (st := s_Item_init) l34 c34 k34), ⟨fun s us ws _ h1 h2 => match us, h1, ws, h2 with | [_, _], _, [_, _, _], _ => .of_eq rfl, fun r1 r2 => r1.append r2⟩⟩,
     ⟨f35, _, ⟨mk35, a35, i35, kc35⟩, (fun_mk (st := s_Item_init) l35 c35 k35), ⟨fun s us ws _ h1 h2 => match us, h1, ws, h2 with | [_, _], _, [_, _, _], _ => .of_eq rfl, fun r1 r2 => r1.append r2⟩⟩,
     PySem.W.mg_of X G g36,
     ⟨pg36, hd36, po36, sa36⟩,
     ⟨_, u37, ⟨rd37, ga37⟩, ⟨a37, r37⟩⟩,
     ⟨f38, _, ⟨mk38, a38, i38, kc38⟩, (fun_mk (st := s_Piece_init) l38 c38 k38), ⟨fun s us ws _ h1 h2 => match us, h1, ws, h2 with | [_, _], _, [_, _, _, _, _], _ => .of_eq rfl, fun r1 r2 => r1.append r2⟩⟩,
     PySem.W.mg_of X G g39,
     ⟨pg39, hd39, po39, sa39⟩,
     ⟨_, u40, ⟨rd40, ga40⟩, ⟨a40, r40⟩⟩,
     ⟨_, u41, ⟨rd41, ga41⟩, ⟨a41, r41⟩⟩,
     ⟨f42, _, ⟨mk42, a42, i42, kc42⟩, (fun_mk (st := s_Break_init) l42 c42 k42), ⟨fun s us ws _ h1 h2 => match us, h1, ws, h2 with | [_, _], _, [_, _, _, _, _, _], _ => .of_eq rfl, fun r1 r2 => r1.append r2⟩⟩,
     PySem.W.mg_none_of X G z43,
     ⟨f44, _, PySem.W.mg_of X G a44, (fun_mk (st := s_l_asked) l44 c44 k44), (fun_mk (st := s_l_asked) l44 c44 k44).binds (ps := ["_law_item", "_law_step_here", "_law_offset", "_law_clock_here", "_law_rows"]) fun _ _ _ _ _ _ us hl => match us, hl with | [_, _, _, _, _], _ => rfl⟩,
     PySem.W.mg_none_of X G z45,
     n46,
     n47,
     n48,
     n49,
     n50,
     n51,
     n52,
     n53,
     n54,
     n55,
     n56,
     n57,
     n58,
     n59,
     n60,
     n61,
     n62,
     n63,
     n64,
     n65,
     ⟨f66, _, ⟨a66, i66, k66⟩, (fun_mk (st := s_Timed_begin_at) l66 c66 k66), (fun_mk (st := s_Timed_begin_at) l66 c66 k66).binds (ps := ["self", "moment", "delay"]) fun _ _ _ _ _ _ us hl => match us, hl with | [_, _, _], _ => rfl⟩,
     ⟨f67, _, ⟨a67, i67, k67⟩, (fun_mk (st := s_Timed_begin_at) l67 c67 k67), (fun_mk (st := s_Timed_begin_at) l67 c67 k67).binds (ps := ["self", "moment", "delay"]) fun _ _ _ _ _ _ us hl => match us, hl with | [_, _, _], _ => rfl⟩,
     ⟨f68, _, ⟨a68, i68, k68⟩, (fun_mk (st := s_Timed_begin_at) l68 c68 k68), (fun_mk (st := s_Timed_begin_at) l68 c68 k68).binds (ps := ["self", "moment", "delay"]) fun _ _ _ _ _ _ us hl => match us, hl with | [_, _, _], _ => rfl⟩,
     ⟨f69, _, ⟨a69, i69, k69⟩, (fun_mk (st := s_Timed_begin_at) l69 c69 k69), (fun_mk (st := s_Timed_begin_at) l69 c69 k69).binds (ps := ["self", "moment", "delay"]) fun _ _ _ _ _ _ us hl => match us, hl with | [_, _, _], _ => rfl⟩,
     ⟨f70, _, PySem.W.mg_of X G a70, (fun_mk (st := s_law) l70 c70 k70), (fun_mk (st := s_law) l70 c70 k70).binds (ps := ["_law_script"]) fun _ _ _ _ _ _ us hl => match us, hl with | [_], _ => rfl⟩⟩
  obtain ⟨f, fd, g, F, b⟩ := T.law
  obtain rfl : f = fa := Value.ref.inj (Option.some.inj (g.symm.trans hfa))
  refine ⟨fd, fun s v => ?_, fun base _ _ => (ok_law (P := l.prog) (w := w) (base := base) T) f fd F⟩
  obtain ⟨oc, od, kV, doc, pm, an, cdv, ct, osl, rfl, lk, hcd⟩ := F.ex
  exact .of_eq rfl
theorem walk {l : PySem.W.OpenLaw} {q : Program} {loose : List Str} {XP : (Str → Option Value) → Heap → Prop} {YP : World → Heap → Prop} {d : DefRec} {K : Params → PySem.W.Frag} (hn : l.most = some 63) (hdf : d.params.defaults = [])
    (hY : ∀ (w : World) (h : Heap), YP w h → (K w.params).In h)
    (F : ∀ (w : World) (mg : Str → Option Value) (fa : Addr) (h : Heap), (K w.params).In h → h.Ns mainGlobals mg → mg d.name = some (.ref fa) →
      ∃ fd : FuncData, (∀ (s : Shared) (u : Value), BindsTo s fd ⟨[u], []⟩ [("_law_script", u)]) ∧ ∀ base : Heap, (K w.params).In base → base.Ns mainGlobals mg → FnOk l.prog w (K w.params) mg base CX0 6 fa fd ["_law_script"] (spLaw (K w.params))) :
    PySem.W.WalkO q loose XP YP l.row.toRowW d [] (fun f vs => PySem.call f vs) :=
  L2.walk_of (n := 63) (k := 6) (x := "_law_script") (CX := fun _ => CX0) (sp := fun w => spLaw (K w.params)) hn (by decide) hdf ⟨rfl, by decide, by decide⟩ hY F (fun _ _ a ns hl _ hS => ⟨a, ns, rfl, hS, hl, fun _ => rfl⟩) fun _ _ _ _ _ z => z
end Brk.K08
open PySem PySem.W PyProof.Rows in
set_option maxRecDepth 100000 in
set_option maxHeartbeats 0 in
theorem PySem.Challenge.cw_barbreaks_k08_begin_at_holds : PySem.Challenge.rw_barbreaks_k08_begin_at.Holds := by
  w_on; o_law; k_head; (case hw => w_witness2)
  k_fill
  refine Brk.K08.walk (l := PySem.Challenge.rw_barbreaks_k08_begin_at) rfl rfl (fun w h Y => PySem.W.kIn_of Y) ?F
  case F =>
    intro w mg fa h KX G hmg
    refine' Brk.K08.all_mk KX G hmg ?a1 ?l1 ?c1 ?k1 ?z2 ?z3 ?a4 ?l4 ?c4 ?k4 ?z5 ?a6 ?l6 ?c6 ?k6 ?z7 ?a8 ?l8 ?c8 ?k8 ?z9 ?z10 ?a11 ?l11 ?c11 ?k11 ?a12 ?l12 ?c12 ?k12 ?a13 ?l13 ?c13 ?k13 ?a14 ?l14 ?c14 ?k14 ?a15 ?l15 ?c15 ?k15 ?a16 ?l16 ?c16 ?k16 ?a17 ?l17 ?c17 ?k17 ?z18 ?g19 ?r19 ?g20 ?r20 ?g21 ?r21 ?g22 ?pg22 ?hd22 ?po22 ?sa22 ?n23 ?n24 ?a25 ?i25 ?l25 ?c25 ?k25 ?mk26 ?a26 ?i26 ?kc26 ?l26 ?c26 ?k26 ?lT26 ?vT26 ?g27 ?pg27 ?hd27 ?po27 ?sa27 ?rd28 ?ga28 ?a28 ?l28 ?c28 ?k28 ?g29 ?pg29 ?hd29 ?po29 ?sa29 ?rd30 ?ga30 ?a30 ?r30 ?rd31 ?ga31 ?a31 ?l31 ?c31 ?k31 ?lT31 ?vT31 ?mk32 ?a32 ?i32 ?kc32 ?l32 ?c32 ?k32 ?lT32 ?vT32 ?g33 ?pg33 ?hd33 ?po33 ?sa33 ?rd34 ?ga34 ?a34 ?l34 ?c34 ?k34 ?mk35 ?a35 ?i35 ?kc35 ?l35 ?c35 ?k35 ?g36 ?pg36 ?hd36 ?po36 ?sa36 ?rd37 ?ga37 ?a37 ?r37 ?mk38 ?a38 ?i38 ?kc38 ?l38 ?c38 ?k38 ?g39 ?pg39 ?hd39 ?po39 ?sa39 ?rd40 ?ga40 ?a40 ?r40 ?rd41 ?ga41 ?a41 ?r41 ?mk42 ?a42 ?i42 ?kc42 ?l42 ?c42 ?k42 ?z43 ?a44 ?l44 ?c44 ?k44 ?z45 ?n46 ?n47 ?n48 ?n49 ?n50 ?n51 ?n52 ?n53 ?n54 ?n55 ?n56 ?n57 ?n58 ?n59 ?n60 ?n61 ?n62 ?n63 ?n64 ?n65 ?a66 ?i66 ?l66 ?c66 ?k66 ?a67 ?i67 ?l67 ?c67 ?k67 ?a68 ?i68 ?l68 ?c68 ?k68 ?a69 ?i69 ?l69 ?c69 ?k69 ?a70 ?l70 ?c70 ?k70
    (case a1 => k_is)
    (case l1 => k_is)
    (case c1 => k_is)
    (case k1 => k_is)
    (case z2 => k_is)
    (case z3 => k_is)
    (case a4 => k_is)
    (case l4 => k_is)
    (case c4 => k_is)
    (case k4 => k_is)
    (case z5 => k_is)
    (case a6 => k_is)
    (case l6 => k_is)
    (case c6 => k_is)
    (case k6 => k_is)
    (case z7 => k_is)
    (case a8 => k_is)
    (case l8 => k_is)
    (case c8 => k_is)
    (case k8 => k_is)
    (case z9 => k_is)
    (case z10 => k_is)
    (case a11 => k_is)
    (case l11 => k_is)
    (case c11 => k_is)
    (case k11 => k_is)
    (case a12 => k_is)
    (case l12 => k_is)
    (case c12 => k_is)
    (case k12 => k_is)
    (case a13 => k_is)
    (case l13 => k_is)
    (case c13 => k_is)
    (case k13 => k_is)
    (case a14 => k_is)
    (case l14 => k_is)
    (case c14 => k_is)
    (case k14 => k_is)
    (case a15 => k_is)
    (case l15 => k_is)
    (case c15 => k_is)
    (case k15 => k_is)
    (case a16 => k_is)
    (case l16 => k_is)
    (case c16 => k_is)
    (case k16 => k_is)
    (case a17 => k_is)
    (case l17 => k_is)
    (case c17 => k_is)
    (case k17 => k_is)
    (case z18 => k_is)
    (case g19 => k_is)
    (case r19 => exact ⟨_, rfl⟩)
    (case g20 => k_is)
    (case r20 => exact ⟨_, rfl⟩)
    (case g21 => k_is)
    (case r21 => exact ⟨_, rfl⟩)
    (case g22 => k_is)
    (case pg22 => k_is)
    (case hd22 => k_is)
    (case po22 => k_is)
    (case sa22 => k_is)
    (case n23 => k_is)
    (case n24 => k_is)
    (case a25 => k_is)
    (case i25 => k_is)
    (case l25 => k_is)
    (case c25 => k_is)
    (case k25 => k_is)
    (case mk26 => k_is)
    (case a26 => k_is)
    (case i26 => k_is)
    (case kc26 => k_is)
    (case l26 => k_is)
    (case c26 => k_is)
    (case k26 => k_is)
    (case lT26 => k_is)
    (case vT26 => exact (.cons (by first | exact ⟨_, rfl⟩ | rfl) .nil))
    (case g27 => k_is)
    (case pg27 => k_is)
    (case hd27 => k_is)
    (case po27 => k_is)
    (case sa27 => k_is)
    (case rd28 => k_is)
    (case ga28 => k_is)
    (case a28 => k_is)
    (case l28 => k_is)
    (case c28 => k_is)
    (case k28 => k_is)
    (case g29 => k_is)
    (case pg29 => k_is)
    (case hd29 => k_is)
    (case po29 => k_is)
    (case sa29 => k_is)
    (case rd30 => k_is)
    (case ga30 => k_is)
    (case a30 => k_is)
    (case r30 => exact ⟨_, rfl⟩)
    (case rd31 => k_is)
    (case ga31 => k_is)
    (case a31 => k_is)
    (case l31 => k_is)
    (case c31 => k_is)
    (case k31 => k_is)
    (case lT31 => k_is)
    (case vT31 => exact (.cons (by first | exact ⟨_, rfl⟩ | rfl) (.cons (by first | exact ⟨_, rfl⟩ | rfl) .nil)))
    (case mk32 => k_is)
    (case a32 => k_is)
    (case i32 => k_is)
    (case kc32 => k_is)
    (case l32 => k_is)
    (case c32 => k_is)
    (case k32 => k_is)
    (case lT32 => k_is)
    (case vT32 => exact (.cons (by first | exact ⟨_, rfl⟩ | rfl) (.cons (by first | exact ⟨_, rfl⟩ | rfl) .nil)))
    (case g33 => k_is)
    (case pg33 => k_is)
    (case hd33 => k_is)
    (case po33 => k_is)
    (case sa33 => k_is)
    (case rd34 => k_is)
    (case ga34 => k_is)
    (case a34 => k_is)
    (case l34 => k_is)
    (case c34 => k_is)
    (case k34 => k_is)
    (case mk35 => k_is)
    (case a35 => k_is)
    (case i35 => k_is)
    (case kc35 => k_is)
    (case l35 => k_is)
    (case c35 => k_is)
    (case k35 => k_is)
    (case g36 => k_is)
    (case pg36 => k_is)
    (case hd36 => k_is)
    (case po36 => k_is)
    (case sa36 => k_is)
    (case rd37 => k_is)
    (case ga37 => k_is)
    (case a37 => k_is)
    (case r37 => exact ⟨_, rfl⟩)
    (case mk38 => k_is)
    (case a38 => k_is)
    (case i38 => k_is)
    (case kc38 => k_is)
    (case l38 => k_is)
    (case c38 => k_is)
    (case k38 => k_is)
    (case g39 => k_is)
    (case pg39 => k_is)
    (case hd39 => k_is)
    (case po39 => k_is)
    (case sa39 => k_is)
    (case rd40 => k_is)
    (case ga40 => k_is)
    (case a40 => k_is)
    (case r40 => exact ⟨_, rfl⟩)
    (case rd41 => k_is)
    (case ga41 => k_is)
    (case a41 => k_is)
    (case r41 => exact ⟨_, rfl⟩)
    (case mk42 => k_is)
    (case a42 => k_is)
    (case i42 => k_is)
    (case kc42 => k_is)
    (case l42 => k_is)
    (case c42 => k_is)
    (case k42 => k_is)
    (case z43 => k_is)
    (case a44 => k_is)
    (case l44 => k_is)
    (case c44 => k_is)
    (case k44 => k_is)
    (case z45 => k_is)
    (case n46 => k_is)
    (case n47 => k_is)
    (case n48 => k_is)
    (case n49 => k_is)
    (case n50 => k_is)
    (case n51 => k_is)
    (case n52 => k_is)
    (case n53 => k_is)
    (case n54 => k_is)
    (case n55 => k_is)
    (case n56 => k_is)
    (case n57 => k_is)
    (case n58 => k_is)
    (case n59 => k_is)
    (case n60 => k_is)
    (case n61 => k_is)
    (case n62 => k_is)
    (case n63 => k_is)
    (case n64 => k_is)
    (case n65 => k_is)
    (case a66 => k_is)
    (case i66 => k_is)
    (case l66 => k_is)
    (case c66 => k_is)
    (case k66 => k_is)
    (case a67 => k_is)
    (case i67 => k_is)
    (case l67 => k_is)
    (case c67 => k_is)
    (case k67 => k_is)
    (case a68 => k_is)
    (case i68 => k_is)
    (case l68 => k_is)
    (case c68 => k_is)
    (case k68 => k_is)
    (case a69 => k_is)
    (case i69 => k_is)
    (case l69 => k_is)
    (case c69 => k_is)
    (case k69 => k_is)
    (case a70 => k_is)
    (case l70 => k_is)
    (case c70 => k_is)
    (case k70 => k_is)
#print axioms PySem.Challenge.cw_barbreaks_k08_begin_at_holds
