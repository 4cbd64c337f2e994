import PyProof.Rows.All
import Wide.All
import OpenK.AllK
import Wide.FinOn
import HandS.ForMost
import HandS.Wide
import HandS.IsInst
import HandS.Codes
import HandS.ClsMeth
import HandS.Defaults
import HandS.MakeKw
import HandS.MakeKwOnly
import HandS.Property
import HandS.WordsExc
import HandS.Exc
import HandS.ExcInit
import HandS.ExcIs
import HandS.ExcField
import KE.KExcIs
import HandS.Small
import HandS.StrMore
import HandS.Walk
import HandS.Iter
import KE.DataEq
import OpenK.KOps
import OpenK.KMeth
import HandS.TryOnly
import HandS.Conv
import HandS.ExcOwn
import KE.GoesEnum
import HandS.SortKw
import KE.DatumOrd
import PyProof.LongRange
import HandS.TupAny
import PySem.Challenge.RW_barbreaks_k45_cover_bounds
set_option Elab.async false
set_option linter.all false
set_option maxRecDepth 100000
/-! Own words over the hand layer: a def of the module with its promise, in one Prop. -/
namespace Brk
open PySem L2

/-- the module's name x holds a def that keeps the promise sp by at most level k -/
def Dk (P : Program) (w : World) (K : PySem.W.Frag) (mg : Str → Option Value) (base : Heap) (CX : CXT) (k : Nat) (x : Str) (ps : List Str) (sp : Sp) : Prop :=
  ∃ (f : Addr) (fd : FuncData), mg x = some (.ref f) ∧ PySem.W.keepIn K (.ref f) = true ∧ Binds K fd ps [] ∧ FnOk P w K mg base CX k f fd ps sp
/-- the module's name x holds the def whose text is st -/
def Df (K : PySem.W.Frag) (mg : Str → Option Value) (x : Str) (st : Stmt) (ps : List Str) : Prop :=
  ∃ (f : Addr) (fd : FuncData), mg x = some (.ref f) ∧ Fun K x x st f fd ∧ Binds K fd ps []
section
variable {X : Cx} {CX : CXT} {k : Nat} {ps : List Str} {sp : Sp} {E : XK} {x : Str} {p pos : Pos} {e : Expr} {es : List Expr} {t : TA}
theorem pe_d (D : Dk X.prog X.w X.K X.mg X.base CX k x ps sp) (hr : Room k X.A) (hx : Passes CX X E) (hg : Gl X x) (ha : PA X (e :: es) t)
    (hdb : (x == ("__debug__" : Str)) = false := by decide) (he : starEach (e :: es) X.env = (false, eval e X.env) :: starEach es X.env := by rfl) (hpl : (backTo pos (starEach es X.env)).any (·.1) = false := by rfl) :
    PE X (.Call (.Name x p) (e :: es) [] pos) (tCall sp [] E t) := by
  obtain ⟨f, fd, hm, hk, hb, F⟩ := D
  exact pe_call F hr hg hm hk hb .nil hx ha hdb he hpl
end
theorem Dk.mono {P : Program} {w : World} {K : PySem.W.Frag} {mg : Str → Option Value} {base : Heap} {CX : CXT} {k : Nat} {x : Str} {ps : List Str} {sp sp' : Sp} (D : Dk P w K mg base CX k x ps sp)
    (h : ∀ f fd, FnOk P w K mg base CX k f fd ps sp → FnOk P w K mg base CX k f fd ps sp') : Dk P w K mg base CX k x ps sp' := by
  obtain ⟨f, fd, a, b, c, F⟩ := D
  exact ⟨f, fd, a, b, c, h f fd F⟩

theorem bl_t {p : Prop} [Decidable p] (h : p) : V.bl (decide p) = V.bl true := by rw [decide_eq_true h]
theorem bl_f {p : Prop} [Decidable p] (h : ¬ p) : V.bl (decide p) = V.bl false := by rw [decide_eq_false h]
theorem pos_m7 : (0 : Int) < 2147483647 := by decide
theorem pos_m9 : (0 : Int) < 2147483399 := by decide
/-! ### heaps -/
/-- only what stands at p may have changed -/
def Off (p : Addr) (H H' : Hp) : Prop := ∀ b, b ≠ p → H' b = H b
theorem Off.refl {p : Addr} {H : Hp} : Off p H H := fun _ _ => rfl
theorem Off.trans {p : Addr} {H H1 H2 : Hp} (a : Off p H H1) (b : Off p H1 H2) : Off p H H2 := fun c hc => (b c hc).trans (a c hc)
theorem Off.upd {p : Addr} {H : Hp} {o : HO} : Off p H (upd H p o) := fun _ hb => upd_ne hb

/-! ### the script's pool: a list of four ints and the list of the script's numbers -/
def PL (c : Addr) (l : List V) : Prop := ∃ z i t d : Int, 0 ≤ i ∧ l = [.int z, .int i, .int t, .int d, .ref c]
structure Pool (ns : List Int) (c : Addr) (H : Hp) (p : Addr) : Prop where
  at_ : ∃ l, H p = some (.lst l) ∧ PL c l
  cells : H c = some (.lst (ns.map V.int))
theorem Pool.off {ns : List Int} {c : Addr} {H H' : Hp} {p q : Addr} (h : Pool ns c H p) (o : Off q H H') (h1 : p ≠ q) (h2 : c ≠ q) : Pool ns c H' p := by
  obtain ⟨⟨l, a, b⟩, d⟩ := h
  exact ⟨⟨l, (o p h1).trans a, b⟩, (o c h2).trans d⟩
theorem Pool.ne {ns : List Int} {c : Addr} {H : Hp} {p : Addr} (h : Pool ns c H p) : c ≠ p := by
  obtain ⟨⟨l, a, z, i, t, d, _, rfl⟩, b⟩ := h
  intro e
  rw [e, a] at b
  have q := HO.lst.inj (Option.some.inj b)
  have m : V.ref c ∈ ns.map V.int := by rw [← q]; simp
  simp at m
theorem Pool.same {ns : List Int} {c : Addr} {H H' : Hp} {p : Addr} (h : Pool ns c H p) (s : Same H H') : Pool ns c H' p := by
  obtain ⟨⟨l, a, b⟩, d⟩ := h
  exact ⟨⟨l, s _ _ a, b⟩, s _ _ d⟩
theorem Pool.upd {ns : List Int} {c : Addr} {H : Hp} {p : Addr} {l : List V} (h : Pool ns c H p) (hl : PL c l) : Pool ns c (L2.upd H p (.lst l)) p :=
  ⟨⟨l, upd_same, hl⟩, (upd_ne h.ne).trans h.cells⟩
theorem ints_at {ns : List Int} {i : Nat} {y : V} (h : (ns.map V.int)[i]? = some y) : ∃ z, ns[i]? = some z ∧ y = V.int z := by
  rw [List.getElem?_map] at h
  cases e : ns[i]? with
  | none => rw [e] at h; cases h
  | some z => rw [e] at h; exact ⟨z, rfl, (Option.some.inj h).symm⟩
theorem atI_ge {α : Type} {xs : List α} {i : Int} {v : α} (h0 : 0 ≤ i) (h : xs[i.toNat]? = some v) : atI xs i = some v := by
  have e : i = (i.toNat : Int) := by omega
  rw [e]
  exact atI_nat h

/-! ### promises of the drawing helpers -/
/-- a draw: the pool at p is asked; the answer is good; nothing but the pool's own list is another -/
def spTake : Sp := fun vs H Q _ => ∃ (p c : Addr) (ns : List Int) (n : Int), vs = [.ref p, .int n] ∧ Pool ns c H p ∧ 0 < n ∧ n.natAbs.log2 < 9000 ∧
  ∀ (r : Int) (H' : Hp), 0 ≤ r → r < n → Pool ns c H' p → Off p H H' → Q (.int r) H'
def spBig : Sp := fun vs H Q _ => ∃ (p c : Addr) (ns : List Int), vs = [.ref p] ∧ Pool ns c H p ∧
  ∀ (r : Int) (H' : Hp), 0 ≤ r → r < 10 ^ 27 → Pool ns c H' p → Off p H H' → Q (.int r) H'
/-- a draw by the pool alone; by the pool and a number -/
def spDraw (G : Int → Prop) : Sp := fun vs H Q _ => ∃ (p c : Addr) (ns : List Int), vs = [.ref p] ∧ Pool ns c H p ∧ ∀ (r : Int) (H' : Hp), G r → Pool ns c H' p → Off p H H' → Q (.int r) H'
def spDraw2 (A : Int → Prop) (G : Int → Int → Prop) : Sp := fun vs H Q _ => ∃ (p c : Addr) (ns : List Int) (s : Int), vs = [.ref p, .int s] ∧ Pool ns c H p ∧ A s ∧ ∀ (r : Int) (H' : Hp), G s r → Pool ns c H' p → Off p H H' → Q (.int r) H'
def GFree (r : Int) : Prop := -10 ^ 27 < r ∧ r < 10 ^ 27
def GStep (r : Int) : Prop := 1 ≤ r ∧ r ≤ 10 ^ 27
theorem log2_27 {n : Int} (h : 1 ≤ n) (h2 : n ≤ 10 ^ 27) : n.natAbs.log2 < 9000 := by
  have e : n.natAbs ≠ 0 := by omega
  refine (Nat.log2_lt e).mpr (Nat.lt_of_lt_of_le (m := 2 ^ 90) (by omega) (Nat.pow_le_pow_right (by decide) (by decide)))
/-- isinstance(x, int) and (not isinstance(x, bool)) -/
def spIsInt (K : PySem.W.Frag) : Sp := fun vs H Q _ => ∃ (x : V) (t : Value) (b1 b2 : Bool), vs = [x] ∧ TyX K H x t ∧ PySem.W.kitOne K t (.type "int") = some b1 ∧ PySem.W.kitOne K t (.type "bool") = some b2 ∧ Q (.bl (b1 && !b2)) H
theorem kInt {K : PySem.W.Frag} : PySem.W.kitOne K (.type "int") (.type "int") = some true := kit_ty (by decide +kernel)
theorem kIntB {K : PySem.W.Frag} : PySem.W.kitOne K (.type "int") (.type "bool") = some false := kit_ty (by decide +kernel)
theorem isInt_int {K : PySem.W.Frag} {H : Hp} {Q : VK} {E : XK} {i : Int} (h : Q (.bl true) H) : spIsInt K [.int i] H Q E := ⟨.int i, _, true, false, rfl, .base (.int i), kit_ty (by decide +kernel), kit_ty (by decide +kernel), h⟩
def spPool (K : PySem.W.Frag) : Sp := fun vs H Q _ => ∃ (a : Addr) (ns : List Int), vs = [.ref a] ∧ SqL K H a (ns.map V.int) ∧ ns.length ≤ 63 ∧
  ∀ (p c : Addr) (H' : Hp), Pool ns c H' p → H p = none → H c = none → Same H H' → Q (.ref p) H'

/-! ### classes: methods, makers, defs read off a class -/
/-- the class at C has the method m, a def whose text is st -/
def Mf (K : PySem.W.Frag) (C : Addr) (m qual : Str) (st : Stmt) (ps : List Str) : Prop := ∃ (f : Addr) (fd : FuncData), Meth K C m f ∧ Fun K m qual st f fd ∧ Binds K fd ps []
/-- .. and it keeps the promise sp -/
def Me (P : Program) (w : World) (K : PySem.W.Frag) (mg : Str → Option Value) (base : Heap) (CX : CXT) (k : Nat) (C : Addr) (m : Str) (ps : List Str) (sp : Sp) : Prop :=
  ∃ (f : Addr) (fd : FuncData), Meth K C m f ∧ Binds K fd ps [] ∧ FnOk P w K mg base CX k f fd ps sp
/-- the class of the name x, at C, is made by an __init__ that keeps sp, its last parameters filled by dvs -/
def MkD (P : Program) (w : World) (K : PySem.W.Frag) (mg : Str → Option Value) (base : Heap) (CX : CXT) (k : Nat) (x : Str) (C : Addr) (ps : List Str) (dvs : List V) (sp : Sp) : Prop :=
  ∃ (f : Addr) (fd : FuncData) (ds : List Value), mg x = some (.ref C) ∧ Mk K C f ∧ Binds K fd ps ds ∧ Vals dvs ds ∧ FnOk P w K mg base CX k f fd ps sp
section
variable {X : Cx} {CX : CXT} {k : Nat} {ps : List Str} {sp : Sp} {dvs : List V} {E : XK} {x m : Str} {C : Addr} {p pos apos : Pos} {o e : Expr} {es : List Expr} {ta : TE} {t : TA}
theorem pe_me {pl : Sem Bool} (M : Me X.prog X.w X.K X.mg X.base CX k C m ps sp) (c : Cls X.K C) (hr : Room k X.A) (hx : Passes CX X E) (he : PE X o ta) (ha : PA X (e :: es) t)
    (hst : starEach (e :: es) X.env = (false, eval e X.env) :: starEach es X.env := by rfl) (hpl : (backTo pos (starEach es X.env)).any (·.1) = false := by rfl)
    (ht : eval (.Call (.Attribute o m apos) (e :: es) [] pos) X.env = (do
      let ov ← eval o X.env
      standAt apos.atName
      let (f, first) ← holding [ov] (getMethod ov m pl)
      callWith pos f first (backTo pos (starEach (e :: es) X.env)) (backToKw pos (keywordEach [] X.env))) := by rfl) :
    PE X (.Call (.Attribute o m apos) (e :: es) [] pos) (tMeth C m sp [] E ta t) := by
  obtain ⟨f, fd, hm, hb, F⟩ := M
  exact pe_meth (pl := pl) he c hm F hr hb .nil hx ha hst hpl ht
theorem pe_mkd (M : MkD X.prog X.w X.K X.mg X.base CX k x C ps dvs sp) (hr : Room (k + 1) X.A) (hx : Passes CX X E) (hg : Gl X x) (ha : PA X (e :: es) t)
    (hdb : (x == ("__debug__" : Str)) = false := by decide) (he : starEach (e :: es) X.env = (false, eval e X.env) :: starEach es X.env := by rfl) (hpl : (backTo pos (starEach es X.env)).any (·.1) = false := by rfl) :
    PE X (.Call (.Name x p) (e :: es) [] pos) (tMake C sp dvs E t) := by
  obtain ⟨f, fd, ds, hm, M, hb, hd, F⟩ := M
  exact pe_make M F hr hg hm hb hd hx ha hdb he hpl
/-- C.m(e, ..), m a plain def of the class at C -/
theorem pe_cfn {mc : Value} {f : Addr} {fd : FuncData} {pl : Sem Bool} (he : PE X o ta) (r : ClX.CRead X.K C mc) (ca : PySem.W.findCls X.K (.ref C) mc m = some (.val (.ref f))) (hk : PySem.W.keepIn X.K (.ref f) = true) (hb : Binds X.K fd ps [])
    (F : FnOk X.prog X.w X.K X.mg X.base CX k f fd ps sp) (hr : Room k X.A) (hx : Passes CX X E) (ha : PA X (e :: es) t)
    (hst : starEach (e :: es) X.env = (false, eval e X.env) :: starEach es X.env := by rfl) (hpl : (backTo pos (starEach es X.env)).any (·.1) = false := by rfl)
    (ht : eval (.Call (.Attribute o m apos) (e :: es) [] pos) X.env = (do
      let ov ← eval o X.env
      standAt apos.atName
      let (f, first) ← holding [ov] (getMethod ov m pl)
      callWith pos f first (backTo pos (starEach (e :: es) X.env)) (backToKw pos (keywordEach [] X.env))) := by rfl) :
    PE X (.Call (.Attribute o m apos) (e :: es) [] pos) (fun σ H Q => ta σ H fun x H1 => x = .ref C ∧ t σ H1 fun vs H2 => sp (vs ++ []) H2 Q E) := by
  constructor
  intro pins s σ H Q I h
  refine PySem.W.methodCall_KW (pl := pl) (thn (he.run pins s σ H _ I h) fun u s1 hh => ?_) ht
  obtain ⟨v, H1, I1, rv, ev, q⟩ := hh
  subst ev
  obtain rfl : u = Value.ref C := rv
  refine PySem.W.method_cls I1.kIn r.ga ?_
  refine PySem.W.cls_value I1.kIn r.rd ca rfl ?_
  have J := I1.tok (s1.toks + 1)
  refine PySem.W.callWith_K (first := []) (h₀ := X.base) I1.ok.mod.kin hk ?_ hst hpl
  refine thn (ha.run pos pins _ σ H1 _ J q) fun us s2 hh2 => ?_
  obtain ⟨vs, H2, I2, rr, q2⟩ := hh2
  exact ⟨I2.kIn, run_fn F hr hb .nil hx I2 rr q2⟩
end

/-- the class at C gives out its def m when it is asked by its own name; the text st -/
def Sf (K : PySem.W.Frag) (C : Addr) (m qual : Str) (st : Stmt) (ps : List Str) : Prop := ∃ (mc : Value) (f : Addr) (fd : FuncData), ClX.CRead K C mc ∧ PySem.W.findCls K (.ref C) mc m = some (.val (.ref f)) ∧ Fun K m qual st f fd ∧ Binds K fd ps []
def Cf (P : Program) (w : World) (K : PySem.W.Frag) (mg : Str → Option Value) (base : Heap) (CX : CXT) (k : Nat) (C : Addr) (m : Str) (ps : List Str) (sp : Sp) : Prop :=
  ∃ (mc : Value) (f : Addr) (fd : FuncData), ClX.CRead K C mc ∧ PySem.W.findCls K (.ref C) mc m = some (.val (.ref f)) ∧ PySem.W.keepIn K (.ref f) = true ∧ Binds K fd ps [] ∧ FnOk P w K mg base CX k f fd ps sp
section
variable {X : Cx} {CX : CXT} {k : Nat} {ps : List Str} {sp : Sp} {E : XK} {m : Str} {C : Addr} {pos apos : Pos} {o e : Expr} {es : List Expr} {ta : TE} {t : TA}
theorem pe_cf {pl : Sem Bool} (M : Cf X.prog X.w X.K X.mg X.base CX k C m ps sp) (hr : Room k X.A) (hx : Passes CX X E) (he : PE X o ta) (ha : PA X (e :: es) t)
    (hst : starEach (e :: es) X.env = (false, eval e X.env) :: starEach es X.env := by rfl) (hpl : (backTo pos (starEach es X.env)).any (·.1) = false := by rfl)
    (ht : eval (.Call (.Attribute o m apos) (e :: es) [] pos) X.env = (do
      let ov ← eval o X.env
      standAt apos.atName
      let (f, first) ← holding [ov] (getMethod ov m pl)
      callWith pos f first (backTo pos (starEach (e :: es) X.env)) (backToKw pos (keywordEach [] X.env))) := by rfl) :
    PE X (.Call (.Attribute o m apos) (e :: es) [] pos) (fun σ H Q => ta σ H fun x H1 => x = .ref C ∧ t σ H1 fun vs H2 => sp (vs ++ []) H2 Q E) := by
  obtain ⟨mc, f, fd, r, ca, hk, hb, F⟩ := M
  exact pe_cfn (pl := pl) he r ca hk hb F hr hx ha hst hpl ht
end
/-- a call that writes n values and then the keywords ks, in the parameters' order -/
abbrev KA (K : PySem.W.Frag) (fd : FuncData) (ps : List Str) (n : Nat) (ks : List Str) : Prop := KBn K fd ps n ks (fun us ws => us ++ ws) (fun vs zs => vs ++ zs)
def CfK (P : Program) (w : World) (K : PySem.W.Frag) (mg : Str → Option Value) (base : Heap) (CX : CXT) (k : Nat) (C : Addr) (m : Str) (ps : List Str) (n : Nat) (ks : List Str) (sp : Sp) : Prop :=
  ∃ (mc : Value) (f : Addr) (fd : FuncData), ClX.CRead K C mc ∧ PySem.W.findCls K (.ref C) mc m = some (.val (.ref f)) ∧ PySem.W.keepIn K (.ref f) = true ∧ KA K fd ps n ks ∧ FnOk P w K mg base CX k f fd ps sp
def SfK (K : PySem.W.Frag) (C : Addr) (m qual : Str) (st : Stmt) (ps : List Str) (n : Nat) (ks : List Str) : Prop := ∃ (mc : Value) (f : Addr) (fd : FuncData), ClX.CRead K C mc ∧ PySem.W.findCls K (.ref C) mc m = some (.val (.ref f)) ∧ Fun K m qual st f fd ∧ KA K fd ps n ks
def MkK (P : Program) (w : World) (K : PySem.W.Frag) (mg : Str → Option Value) (base : Heap) (CX : CXT) (k : Nat) (x : Str) (C : Addr) (ps : List Str) (n : Nat) (ks : List Str) (sp : Sp) : Prop :=
  ∃ (f : Addr) (fd : FuncData), mg x = some (.ref C) ∧ Mk K C f ∧ KA K fd ps n ks ∧ FnOk P w K mg base CX k f fd ps sp
def IfK (K : PySem.W.Frag) (C : Addr) (qual : Str) (st : Stmt) (ps : List Str) (n : Nat) (ks : List Str) : Prop := ∃ (f : Addr) (fd : FuncData), Mk K C f ∧ Fun K "__init__" qual st f fd ∧ KA K fd ps n ks
section
variable {X : Cx} {CX : CXT} {k n : Nat} {ps ks : List Str} {sp : Sp} {E : XK} {x m : Str} {C : Addr} {p pos apos : Pos} {o e : Expr} {es : List Expr} {kws : List Keyword} {ta : TE} {t tk : TA}
theorem pe_cfK {pl : Sem Bool} (M : CfK X.prog X.w X.K X.mg X.base CX k C m ps n ks sp) (hr : Room k X.A) (hx : Passes CX X E) (he : PE X o ta) (ha : PA X (e :: es) t) (hkw : PK X kws tk)
    (hall : (backToKw pos (keywordEach kws X.env)).all (·.1.isSome) = true := by rfl) (hks : (backToKw pos (keywordEach kws X.env)).filterMap (·.1) = ks := by rfl)
    (hst : starEach (e :: es) X.env = (false, eval e X.env) :: starEach es X.env := by rfl)
    (hpl : ((backTo pos (starEach (e :: es) X.env)).any (·.1) || (backToKw pos (keywordEach kws X.env)).any (·.1.isNone)) = false := by rfl)
    (ht : eval (.Call (.Attribute o m apos) (e :: es) kws pos) X.env = (do
      let ov ← eval o X.env
      standAt apos.atName
      let (f, first) ← holding [ov] (getMethod ov m pl)
      callWith pos f first (backTo pos (starEach (e :: es) X.env)) (backToKw pos (keywordEach kws X.env))) := by rfl) :
    PE X (.Call (.Attribute o m apos) (e :: es) kws pos) (fun σ H Q => ta σ H fun x H1 => x = .ref C ∧ t σ H1 fun vs H2 => tk σ H2 fun zs H3 => vs.length = n ∧ zs.length = ks.length ∧ sp (vs ++ zs) H3 Q E) := by
  obtain ⟨mc, f, fd, r, ca, hk, hb, F⟩ := M
  constructor
  intro pins s σ H Q I h
  refine PySem.W.methodCall_KW (pl := pl) (thn (he.run pins s σ H _ I h) fun u s1 hh => ?_) ht
  obtain ⟨v, H1, I1, rv, ev, q⟩ := hh
  subst ev
  obtain rfl : u = Value.ref C := rv
  refine PySem.W.method_cls I1.kIn r.ga ?_
  refine PySem.W.cls_value I1.kIn r.rd ca rfl ?_
  have J := I1.tok (s1.toks + 1)
  refine PySem.W.callWith_KW (first := []) (h₀ := X.base) I1.ok.mod.kin hk hall ?_ hpl hst
  refine thn (ha.run pos pins _ σ H1 _ J q) fun us s2 hh2 => ?_
  obtain ⟨vs, H2, I2, rr, q2⟩ := hh2
  refine thn (hkw.run pos pins s2 σ H2 _ I2 q2) fun ws s3 hh3 => ?_
  obtain ⟨zs, H3, I3, rz, l1, l2, q3⟩ := hh3
  refine ⟨I3.kIn, ?_⟩
  rw [hks]
  exact run_fnN F hr hb hx I3 rr rz l1 l2 q3
theorem pe_mkK (M : MkK X.prog X.w X.K X.mg X.base CX k x C ps (n + 1) ks sp) (hr : Room (k + 1) X.A) (hx : Passes CX X E) (hg : Gl X x) (ha : PA X (e :: es) t) (hkw : PK X kws tk)
    (hall : (backToKw pos (keywordEach kws X.env)).all (·.1.isSome) = true := by rfl) (hks : (backToKw pos (keywordEach kws X.env)).filterMap (·.1) = ks := by rfl)
    (hdb : (x == ("__debug__" : Str)) = false := by decide) (he : starEach (e :: es) X.env = (false, eval e X.env) :: starEach es X.env := by rfl)
    (hpl : ((backTo pos (starEach (e :: es) X.env)).any (·.1) || (backToKw pos (keywordEach kws X.env)).any (·.1.isNone)) = false := by rfl) :
    PE X (.Call (.Name x p) (e :: es) kws pos) (tMakeN C n ks.length sp (fun vs zs => vs ++ zs) E t tk) := by
  obtain ⟨f, fd, hm, M, hb, F⟩ := M
  exact pe_makeN M F hr hg hm hb hx ha hkw hall hks hdb he hpl
end
def If0 (K : PySem.W.Frag) (C : Addr) (qual : Str) (st : Stmt) (ps : List Str) : Prop := ∃ (f : Addr) (fd : FuncData), Mk K C f ∧ Fun K "__init__" qual st f fd ∧ Binds K fd ps []
/-- an __init__ with written defaults dvs, those behind the first j filled in by a call -/
def IfD (K : PySem.W.Frag) (C : Addr) (qual : Str) (st : Stmt) (ps : List Str) (dvs : List V) (j : Nat) : Prop := ∃ (f : Addr) (fd : FuncData) (ds : List Value), Mk K C f ∧ FunD K "__init__" qual (defArgs st) (defBody st) (defScope st) dvs [] f fd ∧ Vals (dvs.drop j) ds ∧ Binds K fd ps ds
theorem ifD_mk {K : PySem.W.Frag} {C f T : Addr} {qual : Str} {st : Stmt} {ps : List Str} {dvs : List V} {j : Nat} {oc kV doc pm cdv ct oT : Value} {od an dT : Option Addr} {osl sT : Array (Option Value)} {its : Array Value} {nT : Nat} (M : Mk K C f)
    (l : K.lookup f = some ⟨oc, od, .func (PySem.W.fnOf "__init__" qual (defArgs st) (defBody st) (defScope st) (.ref T) kV doc pm an cdv ct), osl⟩) (c : PySem.W.codeIn K cdv qual = true) (k : PySem.W.keepIn K (.ref f) = true)
    (lT : K.lookup T = some ⟨oT, dT, .seq its nT, sT⟩) (vT : Vals dvs its.toList) (n : Nat) (hd : dvs ≠ []) (hn : n + (dvs.length - j) = ps.length)
    (h : ∀ (T : Addr) (kV doc pm : Value) (an : Option Addr) (cdv ct : Value) (us its : List Value), us.length = n → its.length = dvs.length →
      ∃ k, bindArgs (PySem.W.fnOf "__init__" qual (defArgs st) (defBody st) (defScope st) (.ref T) kV doc pm an cdv ct) ⟨us, []⟩ = seqItems? (.ref T) >>= k ∧ k (some its.toArray) = pure (ps.zip (us ++ its.drop j))) : IfD K C qual st ps dvs j := by
  have F : FunD K "__init__" qual (defArgs st) (defBody st) (defScope st) dvs [] f (PySem.W.fnOf "__init__" qual (defArgs st) (defBody st) (defScope st) (.ref T) kV doc pm an cdv ct) :=
    ⟨⟨oc, od, _, kV, doc, pm, an, cdv, ct, osl, rfl, l, c, .inr ⟨hd, T, _, its.toList, nT, rfl, lT, rfl, vT⟩, .inl rfl⟩, k⟩
  obtain ⟨ds, a, b⟩ := F.binds1 n j hd hn h
  exact ⟨f, _, ds, M, F, a, b⟩
def SfD (K : PySem.W.Frag) (C : Addr) (qual : Str) (st : Stmt) (ps : List Str) (dvs : List V) (j : Nat) : Prop := ∃ (mc : Value) (f : Addr) (fd : FuncData) (ds : List Value), ClX.CRead K C mc ∧ PySem.W.findCls K (.ref C) mc "__init__" = some (.val (.ref f)) ∧
  FunD K "__init__" qual (defArgs st) (defBody st) (defScope st) dvs [] f fd ∧ Vals (dvs.drop j) ds ∧ Binds K fd ps ds
theorem sfD_mk {K : PySem.W.Frag} {C f T : Addr} {qual : Str} {st : Stmt} {ps : List Str} {dvs : List V} {j : Nat} {oc kV doc pm cdv ct oT : Value} {od an dT : Option Addr} {osl sT : Array (Option Value)} {its : Array Value} {nT : Nat} {mc : Value} (r : ClX.CRead K C mc) (ca : PySem.W.findCls K (.ref C) mc "__init__" = some (.val (.ref f)))
    (l : K.lookup f = some ⟨oc, od, .func (PySem.W.fnOf "__init__" qual (defArgs st) (defBody st) (defScope st) (.ref T) kV doc pm an cdv ct), osl⟩) (c : PySem.W.codeIn K cdv qual = true) (k : PySem.W.keepIn K (.ref f) = true)
    (lT : K.lookup T = some ⟨oT, dT, .seq its nT, sT⟩) (vT : Vals dvs its.toList) (n : Nat) (hd : dvs ≠ []) (hn : n + (dvs.length - j) = ps.length)
    (h : ∀ (T : Addr) (kV doc pm : Value) (an : Option Addr) (cdv ct : Value) (us its : List Value), us.length = n → its.length = dvs.length →
      ∃ k, bindArgs (PySem.W.fnOf "__init__" qual (defArgs st) (defBody st) (defScope st) (.ref T) kV doc pm an cdv ct) ⟨us, []⟩ = seqItems? (.ref T) >>= k ∧ k (some its.toArray) = pure (ps.zip (us ++ its.drop j))) : SfD K C qual st ps dvs j := by
  have F : FunD K "__init__" qual (defArgs st) (defBody st) (defScope st) dvs [] f (PySem.W.fnOf "__init__" qual (defArgs st) (defBody st) (defScope st) (.ref T) kV doc pm an cdv ct) :=
    ⟨⟨oc, od, _, kV, doc, pm, an, cdv, ct, osl, rfl, l, c, .inr ⟨hd, T, _, its.toList, nT, rfl, lT, rfl, vT⟩, .inl rfl⟩, k⟩
  obtain ⟨ds, a, b⟩ := F.binds1 n j hd hn h
  exact ⟨mc, f, _, ds, r, ca, F, a, b⟩
/-- a constant of the class, asked by the class's name -/
def Kc (K : PySem.W.Frag) (C : Addr) (f : Str) (v : V) : Prop := ∃ (mc u : Value), ClX.CRead K C mc ∧ ClX.CVal K C mc f v u

/-! ### lists of signs -/
/-- a comprehension over a text's signs -/
theorem lc_text {x : Str} {g : TG} {tt : TT} {te : TE} {vs : List Nat} {σ : St} {H1 : Hp} {D : Addr} {Qd : Hp → Prop} (Pv : Nat → Hp → Prop) (h0 : Pv 0 (L2.upd H1 D (.lst [])))
    (hs : ∀ (i : Nat) (c : Nat) (H : Hp), x.cps[i]? = some c → Pv i H → g (.str ⟨#[c]⟩) (wipe σ vs) H fun σ2 H2 => wipe σ2 vs = wipe σ vs ∧ tt σ2 H2 fun b H3 =>
      if b = true then te σ2 H3 fun y H4 => ∃ acc, H4 D = some (.lst acc) ∧ acc.length < sizeLine ∧ Pv (i + 1) (L2.upd H4 D (.lst (acc ++ [y]))) else Pv (i + 1) H3) (hd : ∀ H, Pv x.cps.size H → Qd H) :
    ∃ W : Nat → Nat → Hp → Prop, (∃ m, W 0 m (L2.upd H1 D (.lst []))) ∧ ∀ i m H, W i m H →
      ((Its x).stop i H ∧ Qd H) ∨ ((Its x).go i H ∧ ∃ Nx : Hp → Prop, (∀ H', Nx H' → ∃ m', m' < m ∧ W (i + 1) m' H') ∧ ∀ y H', (Its x).yld i H y H' → g y (wipe σ vs) H' fun σ2 H2 => wipe σ2 vs = wipe σ vs ∧ tt σ2 H2 fun b H3 =>
        if b = true then te σ2 H3 fun y H4 => ∃ acc, H4 D = some (.lst acc) ∧ acc.length < sizeLine ∧ Nx (L2.upd H4 D (.lst (acc ++ [y]))) else Nx H3) := by
  refine ⟨fun i m H => m + i = x.cps.size ∧ Pv i H, ⟨x.cps.size, rfl, h0⟩, ?_⟩
  intro i m H hh
  obtain ⟨hm, p⟩ := hh
  by_cases z : m = 0
  · subst z
    have e : i = x.cps.size := by omega
    subst e
    exact Or.inl ⟨Nat.le_refl _, hd H p⟩
  · refine Or.inr ⟨by show i < x.cps.size; omega, Pv (i + 1), fun H' p' => ⟨m - 1, by omega, by omega, p'⟩, ?_⟩
    intro y H' yy
    obtain ⟨e, c, hc, ey⟩ := yy
    subst e ey
    exact hs i c _ hc p

/-! ### what else stays -/
/-- all that was tracked is as it was, but for what stands at p -/
def But (p : Addr) (H H' : Hp) : Prop := ∀ b o, H b = some o → b ≠ p → H' b = some o
theorem But.of_same {p : Addr} {H H' : Hp} (s : Same H H') : But p H H' := fun b o e _ => s b o e
theorem But.of_off {p : Addr} {H H' : Hp} (s : Off p H H') : But p H H' := fun b o e hb => by rw [s b hb]; exact e
theorem But.trans {p : Addr} {H H1 H2 : Hp} (a : But p H H1) (b : But p H1 H2) : But p H H2 := fun c o e hc => b c o (a c o e hc) hc
theorem But.upd {p : Addr} {H : Hp} {o : HO} : But p H (L2.upd H p o) := fun b u e hb => by rw [upd_ne hb]; exact e
theorem Same.new {H : Hp} {p : Addr} {o : HO} (h : H p = none) : Same H (L2.upd H p o) := fun b u e => by rw [upd_ne (ne_of_none e h)]; exact e
/-- a new instance and its __init__, which leaves all but the instance -/
theorem Same.inst {H H1 : Hp} {x dx C : Addr} (nx : H x = none) (nd : H dx = none) (k : But x (L2.upd (L2.upd H dx (.own x)) x (.ins C dx [])) H1) : Same H H1 := Same.made nx nd k
/-! ### names -/
def letS : Str := "abcdefghijklmnopqrstuvwxyz"
def digS : Str := "0123456789"
def signB (c : Nat) : Bool := decide (c ∈ letS.cps.toList) || decide (c ∈ digS.cps.toList)
/-- 1 to 12 small letters and digits, a letter first -/
def nameB (z : Str) : Bool := decide (1 ≤ z.cps.size) && (decide (z.cps.size ≤ 12) && (decide (z.cps.getD 0 0 ∈ letS.cps.toList) && z.cps.toList.all signB))
def spIsName : Sp := fun vs H Q _ => ∃ (z : Str), vs = [.str z] ∧ z.length ≤ 100000 ∧ ∀ H', Same H H' → Q (.bl (nameB z)) H'

/-! ### items -/
def barOf (s o t : Int) : Int := t + (o - t) % s
/-- a Grid at g -/
def GridAt (C : Addr) (H : Hp) (g : Addr) (s o : Int) : Prop := 0 < s ∧ ∃ dx, H g = some (.ins C dx [("step", .int s), ("offset", .int o)])
theorem GridAt.same {C : Addr} {H H' : Hp} {g : Addr} {s o : Int} (h : GridAt C H g s o) (e : Same H H') : GridAt C H' g s o := by
  obtain ⟨a, dx, b⟩ := h
  exact ⟨a, dx, e _ _ b⟩
def startOf (m : V) (mo : Int) : Int := match m with
  | .int i => if i > mo then i else mo
  | _ => mo
def spGrid0 (C : Addr) : Sp := fun vs H Q _ => ∃ (p dx : Addr) (s o : Int), vs = [.ref p, .int s, .int o] ∧ H p = some (.ins C dx []) ∧ 1 ≤ s ∧ ∀ H', GridAt C H' p s (o % s) → Off p H H' → Q .non H'
def spFirstBar (C : Addr) : Sp := fun vs H Q _ => ∃ (g : Addr) (s o t : Int), vs = [.ref g, .int t] ∧ GridAt C H g s o ∧ Q (.int (barOf s o t)) H
def spNamed0 (K : PySem.W.Frag) : Sp := fun vs H Q _ => ∃ (p C dx : Addr) (fs : List (Str × V)) (z : Str), vs = [.ref p, .str z] ∧ H p = some (.ins C dx fs) ∧ Cls K C ∧ NoAttr K C "name" ∧ nameB z = true ∧ z.length ≤ 1000 ∧ fs.length < 100 ∧
  ∀ H', H' p = some (.ins C dx (putF "name" (.str z) fs)) → But p H H' → Q .non H'
def putT (g m d : V) (fs : List (Str × V)) : List (Str × V) := putF "delay" d (putF "minute" m (putF "grid" g fs))
def spTimed0 (K : PySem.W.Frag) : Sp := fun vs H Q _ => ∃ (p C dx : Addr) (fs : List (Str × V)) (g m : V) (d : Int), vs = [.ref p, g, m, .int d] ∧ H p = some (.ins C dx fs) ∧ Cls K C ∧ NoAttr K C "grid" ∧ NoAttr K C "minute" ∧ NoAttr K C "delay" ∧
  0 ≤ d ∧ d ≤ 8 ∧ fs.length < 100 ∧ ∀ H', H' p = some (.ins C dx (putT g m (.int d) fs)) → Off p H H' → Q .non H'
structure ItemC (K : PySem.W.Frag) (C : Addr) : Prop where
  c : Cls K C
  n : NoAttr K C "name"
  g : NoAttr K C "grid"
  m : NoAttr K C "minute"
  d : NoAttr K C "delay"
def putI (z : Str) (g m d : V) (fs : List (Str × V)) : List (Str × V) := putT g m d (putF "name" (.str z) fs)
def spItem0 (K : PySem.W.Frag) : Sp := fun vs H Q _ => ∃ (p C dx : Addr) (fs : List (Str × V)) (z : Str) (g m : V) (d : Int), vs = [.ref p, .str z, g, m, .int d] ∧ H p = some (.ins C dx fs) ∧ ItemC K C ∧ nameB z = true ∧ z.length ≤ 1000 ∧
  0 ≤ d ∧ d ≤ 8 ∧ fs.length < 90 ∧ ∀ H', H' p = some (.ins C dx (putI z g m (.int d) fs)) → But p H H' → Q .non H'
theorem putF_length {f : Str} {v : V} : ∀ {fs : List (Str × V)}, (putF f v fs).length ≤ fs.length + 1
  | [] => Nat.le_refl _
  | q :: r => by
    unfold putF
    split
    · exact Nat.le_succ _
    · exact Nat.succ_le_succ putF_length
theorem putI_length (z : Str) (g m : V) (d : Int) : (putI z g m (.int d) []).length ≤ 4 := by
  have a1 := @putF_length "name" (.str z) []
  have a2 := @putF_length "grid" g (putF "name" (.str z) [])
  have a3 := @putF_length "minute" m (putF "grid" g (putF "name" (.str z) []))
  have a4 := @putF_length "delay" (.int d) (putF "minute" m (putF "grid" g (putF "name" (.str z) [])))
  have a0 : ([] : List (Str × V)).length = 0 := rfl
  show (putF "delay" (.int d) (putF "minute" m (putF "grid" g (putF "name" (.str z) [])))).length ≤ 4
  omega
def spPiece0 (K : PySem.W.Frag) : Sp := fun vs H Q _ => ∃ (p C dx : Addr) (z : Str) (g m : V) (l t d : Int), vs = [.ref p, .str z, g, .int l, .int t, m, .int d] ∧ H p = some (.ins C dx []) ∧ ItemC K C ∧ NoAttr K C "least" ∧ NoAttr K C "most" ∧ nameB z = true ∧ z.length ≤ 1000 ∧
  0 ≤ d ∧ d ≤ 8 ∧ 1 ≤ l ∧ l ≤ t ∧ t ≤ l + 8 ∧ ∀ H', H' p = some (.ins C dx (putF "most" (.int t) (putF "least" (.int l) (putI z g m (.int d) [])))) → But p H H' → Q .non H'
def spBreak0 (K : PySem.W.Frag) : Sp := fun vs H Q _ => ∃ (p C dx : Addr) (z : Str) (g m : V) (n u d y : Int), vs = [.ref p, .str z, g, m, .int n, .int u, .int d, .int y] ∧ H p = some (.ins C dx []) ∧ ItemC K C ∧ NoAttr K C "places" ∧ NoAttr K C "unit" ∧ NoAttr K C "patience" ∧ nameB z = true ∧ z.length ≤ 1000 ∧
  0 ≤ d ∧ d ≤ 8 ∧ 1 ≤ n ∧ n ≤ 12 ∧ 1 ≤ u ∧ 1 ≤ y ∧ y ≤ 64 ∧ ∀ H', H' p = some (.ins C dx (putF "patience" (.int y) (putF "unit" (.int u) (putF "places" (.int n) (putI z g m (.int d) []))))) → But p H H' → Q .non H'
/-- an item at a: its grid g, its minute m; its class knows begin_at, whose text is st -/
def ItAt (K : PySem.W.Frag) (st : Stmt) (H : Hp) (a g : Addr) (m : V) : Prop := ∃ (C dx : Addr) (fs : List (Str × V)), H a = some (.ins C dx fs) ∧ Cls K C ∧ Mf K C "begin_at" "Timed.begin_at" st ["self", "moment", "delay"] ∧ NoAttr K C "grid" ∧ NoAttr K C "minute" ∧
  fs.lookup ("grid" : Str) = some (.ref g) ∧ fs.lookup ("minute" : Str) = some m ∧ fs.lookup ("begin_at" : Str) = none
theorem ItAt.same {K : PySem.W.Frag} {st : Stmt} {H H' : Hp} {a g : Addr} {m : V} (h : ItAt K st H a g m) (e : Same H H') : ItAt K st H' a g m := by
  obtain ⟨C, dx, fs, h1, r⟩ := h
  exact ⟨C, dx, fs, e _ _ h1, r⟩
def MinOk (m : V) : Prop := m = .non ∨ ∃ i, m = .int i
def spBegin (K : PySem.W.Frag) (C CG : Addr) : Sp := fun vs H Q _ => ∃ (a g dx : Addr) (fs : List (Str × V)) (m : V) (mo de s o : Int), vs = [.ref a, .int mo, .int de] ∧ H a = some (.ins C dx fs) ∧ Cls K C ∧ NoAttr K C "grid" ∧ NoAttr K C "minute" ∧
  fs.lookup ("grid" : Str) = some (.ref g) ∧ fs.lookup ("minute" : Str) = some m ∧ MinOk m ∧ GridAt CG H g s o ∧ Q (.int (barOf s o (startOf m mo + de))) H
theorem sorted_two {a b : Int} {l : List Int} (p : l.Perm [a, b]) (s : l.Pairwise (· ≤ ·)) : l = [if b > a then a else b, if b > a then b else a] := by
  have hl : l.length = 2 := p.length_eq
  match l, hl, p, s with
  | [x, y], _, p, s =>
    have hxy : x ≤ y := by
      have q := (List.pairwise_cons.mp s).1 y (List.mem_singleton.mpr rfl)
      exact q
    have hx : x = a ∨ x = b := by
      have q := p.mem_iff (a := x)
      simpa using q
    rcases hx with e | e
    · subst e
      have q : [y].Perm [b] := (List.perm_cons x).mp p
      have ey : y = b := by simpa using q.mem_iff (a := y)
      subst ey
      by_cases c : y > x
      · rw [if_pos c, if_pos c]
      · rw [if_neg c, if_neg c]
        have z : x = y := by omega
        rw [z]
    · subst e
      have q : [y].Perm [a] := (List.perm_cons x).mp (p.trans (List.Perm.swap x a []))
      have ey : y = a := by simpa using q.mem_iff (a := y)
      subst ey
      by_cases c : x > y
      · omega
      · rw [if_neg c, if_neg c]
/-- tuples of two ints at the addresses -/
def RowsIn (H : Hp) : List Addr → List (Int × Int) → Prop
  | [], [] => True
  | a :: as, q :: qs => H a = some (.tup [.int q.1, .int q.2]) ∧ RowsIn H as qs
  | _, _ => False
theorem RowsIn.same {H H' : Hp} (s : Same H H') : ∀ {as : List Addr} {qs : List (Int × Int)}, RowsIn H as qs → RowsIn H' as qs
  | [], [], _ => trivial
  | _ :: _, _ :: _, h => ⟨s _ _ h.1, RowsIn.same s h.2⟩
  | [], _ :: _, h => h.elim
  | _ :: _, [], h => h.elim
theorem RowsIn.at_ {H : Hp} : ∀ {as : List Addr} {qs : List (Int × Int)} {i : Nat} {x : V}, RowsIn H as qs → (as.map V.ref)[i]? = some x → ∃ a q, x = .ref a ∧ qs[i]? = some q ∧ H a = some (.tup [.int q.1, .int q.2])
  | [], _, i, x, _, e => by simp at e
  | a :: as, q :: qs, 0, x, h, e => ⟨a, q, by simpa using e.symm, rfl, h.1⟩
  | a :: as, q :: qs, i + 1, x, h, e => by
    obtain ⟨b, r, e1, e2, e3⟩ := RowsIn.at_ (i := i) h.2 (by simpa using e)
    exact ⟨b, r, e1, by simpa using e2, e3⟩
  | _ :: _, [], _, _, h, _ => h.elim
theorem RowsIn.len {H : Hp} : ∀ {as : List Addr} {qs : List (Int × Int)}, RowsIn H as qs → as.length = qs.length
  | [], [], _ => rfl
  | _ :: _, _ :: _, h => congrArg Nat.succ (RowsIn.len h.2)
  | [], _ :: _, h => h.elim
  | _ :: _, [], h => h.elim
theorem bar_ge {s o t : Int} (hs : 0 < s) : 0 ≤ barOf s o t - t ∧ barOf s o t - t < s := by
  unfold barOf
  have h1 := Int.emod_nonneg (o - t) (by omega : s ≠ 0)
  have h2 := Int.emod_lt_of_pos (o - t) hs
  omega
theorem bar_mod {s o o' t : Int} (h : (o - o') % s = 0) : (barOf s o t - o') % s = 0 := by
  unfold barOf
  have e : t + (o - t) % s - o' = (o - o') - s * ((o - t) / s) := by
    have q := Int.emod_add_mul_ediv (o - t) s
    omega
  rw [e, Int.sub_mul_emod_self_left]
  exact h
/-- the first bar is not earlier for a later tick -/
theorem bar_mono {s o t t' : Int} (hs : 0 < s) (h : t ≤ t') : barOf s o t ≤ barOf s o t' := by
  have a := bar_ge (o := o) (t := t) hs
  have b := bar_ge (o := o) (t := t') hs
  have d : (barOf s o t - barOf s o t') % s = 0 := by
    have h1 : (barOf s o t - o) % s = 0 := bar_mod (by simp)
    have h2 : (barOf s o t' - o) % s = 0 := bar_mod (by simp)
    have e : barOf s o t - barOf s o t' = (barOf s o t - o) - (barOf s o t' - o) := by omega
    rw [e, Int.sub_emod, h1, h2]
    simp
  by_cases c : barOf s o t ≤ barOf s o t'
  · exact c
  · have h3 : 0 < barOf s o t - barOf s o t' := by omega
    have h4 : barOf s o t - barOf s o t' < s := by omega
    rw [Int.emod_eq_of_lt (by omega) h4] at d
    omega
theorem start_mono {m : V} {a b : Int} (h : a ≤ b) : startOf m a ≤ startOf m b := by
  unfold startOf
  split
  · split <;> split <;> omega
  · exact h
theorem off_mod {o s : Int} : (o % s - o) % s = 0 := by
  have e : o % s - o = 0 - s * (o / s) := by
    have q := Int.emod_add_mul_ediv o s
    omega
  rw [e, Int.sub_mul_emod_self_left]
  simp
def spAsked (K : PySem.W.Frag) (st : Stmt) (CG : Addr) : Sp := fun vs H Q _ => ∃ (it g r : Addr) (m : V) (s o : Int) (as : List Addr) (q0 q1 q2 q3 q4 q5 q6 q7 q8 : Int × Int), vs = [.ref it, .int s, .int o, m, .ref r] ∧ ItAt K st H it g m ∧ MinOk m ∧ GridAt CG H g s (o % s) ∧
  H r = some (.lst (as.map V.ref)) ∧ RowsIn H as [q0, q1, q2, q3, q4, q5, q6, q7, q8] ∧
  barOf s (o % s) (startOf m q0.1 + q0.2) ≤ barOf s (o % s) (startOf m q1.1 + q1.2) ∧ barOf s (o % s) (startOf m q1.1 + q1.2) ≤ barOf s (o % s) (startOf m q2.1 + q2.2) ∧
  barOf s (o % s) (startOf m q0.1 + q0.2) ≤ barOf s (o % s) (startOf m q3.1 + q3.2) ∧ barOf s (o % s) (startOf m q3.1 + q3.2) ≤ barOf s (o % s) (startOf m q2.1 + q2.2) ∧ q8 = q0 ∧ ∀ H', Same H H' → Q (.bl true) H'
theorem keepU {H : Hp} {b p : Addr} {o o' u : HO} (hb : H b = some o) (hp : H p = some o') (h : o ≠ o') : L2.upd H p u b = some o := by
  have n : b ≠ p := fun z => by
    rw [z, hp] at hb
    exact h (Option.some.inj hb).symm
  rw [upd_ne n]
  exact hb
theorem RowsIn.keep {H : Hp} {p : Addr} {xs : List V} {u : HO} (hp : H p = some (.lst xs)) : ∀ {as : List Addr} {qs : List (Int × Int)}, RowsIn H as qs → RowsIn (L2.upd H p u) as qs
  | [], [], _ => trivial
  | _ :: _, _ :: _, h => ⟨keepU h.1 hp (by intro z; cases z), RowsIn.keep hp h.2⟩
  | [], _ :: _, h => h.elim
  | _ :: _, [], h => h.elim
theorem ItAt.keep {K : PySem.W.Frag} {st : Stmt} {H : Hp} {a g p : Addr} {m : V} {xs : List V} {u : HO} (h : ItAt K st H a g m) (hp : H p = some (.lst xs)) : ItAt K st (L2.upd H p u) a g m := by
  obtain ⟨C, dx, fs, h1, r⟩ := h
  exact ⟨C, dx, fs, keepU h1 hp (by intro z; cases z), r⟩
theorem GridAt.keep {C : Addr} {H : Hp} {g p : Addr} {s o : Int} {xs : List V} {u : HO} (h : GridAt C H g s o) (hp : H p = some (.lst xs)) : GridAt C (L2.upd H p u) g s o := by
  obtain ⟨a, dx, b⟩ := h
  exact ⟨a, dx, keepU b hp (by intro z; cases z)⟩
theorem look_put {f : Str} {v : V} {fs : List (Str × V)} : (putF f v fs).lookup f = some v := by rw [lookup_putF, if_pos rfl]
theorem look_ne {f g : Str} {v : V} {fs : List (Str × V)} (h : ¬ g = f) : (putF f v fs).lookup g = fs.lookup g := by rw [lookup_putF, if_neg h]
theorem putT_grid {g m d : V} {fs : List (Str × V)} : (putT g m d fs).lookup ("grid" : Str) = some g := by
  unfold putT
  rw [look_ne (by decide +kernel), look_ne (by decide +kernel), look_put]
theorem putT_min {g m d : V} {fs : List (Str × V)} : (putT g m d fs).lookup ("minute" : Str) = some m := by
  unfold putT
  rw [look_ne (by decide +kernel), look_put]
theorem putT_no {g m d : V} {fs : List (Str × V)} (h : fs.lookup ("begin_at" : Str) = none) : (putT g m d fs).lookup ("begin_at" : Str) = none := by
  unfold putT
  rw [look_ne (by decide +kernel), look_ne (by decide +kernel), look_ne (by decide +kernel), h]
theorem putI_no {z : Str} {g m d : V} : (putI z g m d []).lookup ("begin_at" : Str) = none := by
  unfold putI
  refine putT_no ?_
  rw [look_ne (by decide +kernel)]
  rfl
theorem ble_f {a b : V} (h : a = b) : V.bl (!decide (a = b)) = V.bl false := by rw [decide_eq_true h]; rfl
def spClock : Sp := fun vs H Q _ => ∃ (p c : Addr) (ns : List Int) (m : Int), vs = [.ref p, .int m] ∧ Pool ns c H p ∧ ∀ (r : V) (H' : Hp), MinOk r → Pool ns c H' p → Off p H H' → Q r H'
def spLaw (K : PySem.W.Frag) : Sp := fun vs H Q _ => ∃ (a : Addr) (ns : List Int), vs = [.ref a] ∧ SqL K H a (ns.map V.int) ∧ ns.length ≤ 63 ∧ ∀ H', Q (.bl true) H'
end Brk

set_option Elab.async false
set_option linter.all false
set_option maxRecDepth 100000
set_option maxHeartbeats 4000000
/-! Own rules: an exception that an except suite keeps in a name, asked behind the try. -/
namespace Brk
open PySem PySem.Spec PyProof.Rows L2

/-- at a stands a caught exception of the class cls with the dict d -/
def ExH (cls : Value) (d : Option Addr) (a : Addr) : HO := .ext fun g => ∃ (ob : Obj) (ws : Array Value), g.get? a = some ob ∧ Zc cls d ob ∧ ob.data = .fields ws
theorem exH_ok {P : Program} {w : World} {H : Hp} {g : Heap} {a : Addr} {cls : Value} {d : Option Addr} {ob : Obj} {ws : Array Value} (e : g.get? a = some ob) (z : Zc cls d ob) (f : ob.data = .fields ws) : ObjOk P w H g a (ExH cls d a) := by
  refine ⟨⟨ob, ws, e, z, f⟩, ⟨ob, e⟩, ?_⟩
  intro g1 g2 hh keep
  obtain ⟨o1, w1, q1, q2⟩ := hh
  exact ⟨o1, w1, keep o1 q1, q2⟩
theorem exH_at {P : Program} {w : World} {H : Hp} {g : Heap} {a : Addr} {cls : Value} {d : Option Addr} (ok : HOk P w H g) (e : H a = some (ExH cls d a)) : ∃ (ob : Obj) (ws : Array Value), g.get? a = some ob ∧ Zc cls d ob ∧ ob.data = .fields ws :=
  (show ObjOk P w H g a (.ext fun g => ∃ (ob : Obj) (ws : Array Value), g.get? a = some ob ∧ Zc cls d ob ∧ ob.data = .fields ws) from ok a _ e).1
section
variable {X : Cx} {pins : List (Addr × Obj)} {σ : L2.St} {H : Hp} {s : Shared} {a : Addr} {o : HO}
/-- what stands at a, made since the frame began, is tracked from now on -/
theorem inv_hold (I : Inv X pins σ H s) (hx : X.ex = []) (old : X.s_0.heap.get? a = none) (na : H a = none) (nl : a ≠ X.env.locals) (nc : ∀ x c, X.env.cells.lookup x = some c → c ≠ a) (np : ∀ q ∈ X.pn ++ pins, q.1 ≠ a)
    (here : ObjOk X.prog X.w (L2.upd H a o) s.heap a o) : Inv X pins σ (L2.upd H a o) s := by
  have away : ∀ b u, X.s_0.heap.get? b = some u → b ≠ a := by
    intro b u e z
    rw [z, old] at e
    cases e
  refine ⟨I.ok, I.os, I.bare, ⟨I.base.keep, I.base.slot, ?_, I.base.there, ?_, ?_, ?_⟩, I.loc, I.cell, ?_, ?_, ?_, ?_, I.len⟩
  · intro b u e n hn
    rw [upd_ne (away b u e)]
    exact I.base.free b u e n hn
  · intro b xs e
    have q := I.base.tups b xs e
    rw [upd_ne (ne_of_none q na)]
    exact q
  · intro b u v e
    have q := I.base.frzs b u v e
    rw [upd_ne (ne_of_none q na)]
    exact q
  · intro b qs e
    obtain ⟨m, q⟩ := I.base.tbls b qs e
    exact ⟨m, by rw [upd_ne (ne_of_none q na)]; exact q⟩
  · rw [upd_ne nl.symm]
    exact I.free
  · intro x c e
    rw [upd_ne (nc x c e)]
    exact I.freeC x c e
  · intro q hq
    obtain ⟨e1, e2, e3⟩ := I.pin q hq
    exact ⟨e1, by rw [upd_ne (np q hq)]; exact e2, e3⟩
  · intro b u e
    by_cases hb : b = a
    · subst hb
      rw [upd_same] at e
      cases e
      exact here
    · rw [upd_ne hb] at e
      exact (I.hok b u e).stay (fun _ _ _ q => q) (fun c q => by rw [upd_ne (ne_of_none q na)]; exact q) fun c xs q => by rw [upd_ne (ne_of_none q na)]; exact q
end

/-- what such a try wishes of an exception of its body: the clause is its own, and the suite goes through to its end; behind it the exception is tracked -/
def wHold (K : PySem.W.Frag) (c : Value) (i : Nat) (ts : Addr → Value → Option Addr → TS) (D : Ends) : WX := fun cls d σ H =>
  PySem.W.exmOne K cls c = some true ∧ ∀ a, H a = none → ts a cls d { nx := fun σ1 H1 => D.nx (σ1.set i none) (L2.upd H1 a (ExH cls d a)), rt := fun _ _ => False, bk := fun _ _ => False, ct := fun _ _ => False } (σ.set i (some (.ref a))) H
section
variable {X : Cx} {x n : Str} {c : Value} {i : Nat} {body suite : List Stmt} {b0 : Stmt} {np pos pos1 : Pos} {tb : WX → TS} {ts : Addr → Value → Option Addr → TS}
/-- try: body / except x as n: suite, where the suite may hand the exception to a name -/
theorem ps_try_hold (hst : X.stack = X.env :: X.outer) (hfr : X.env.frame = some X.env.locals) (hnd : X.N.Nodup) (hslot : X.N[i]? = some n) (hloc : X.env.kindOf n = some .local) (hnm : Names X x c) (hex : X.ex = [])
    (hbody : ∀ (W : WX) (pn : List (Addr × Obj)) (xe : Value → Shared → Prop), Takes (X.tr pn xe) W → PassesOwn (model X.prog X.w) X.A X.env xe → PSs (X.tr pn xe) body (tb W))
    (hsuite : ∀ (a : Addr) (ob : Obj) (cls : Value) (d : Option Addr) (pn : List (Addr × Obj)), Zc cls d ob → (∃ ws, ob.data = .fields ws) → PSs (X.suite a ((a, ob) :: pn)) (b0 :: suite) (ts a cls d)) :
    PS X (.Try body [.ExceptHandler (some (.Name x np)) (some n) (b0 :: suite) pos1] [] [] pos) (fun D σ H => tb (wHold X.K c i ts D) D σ H) := by
  constructor
  intro pins s σ H D I h
  have good := I.ok
  have frames : X.A.frames = some (X.env :: X.outer) := by rw [good.frames, hst]
  refine wpAny_Try_except (wpAny_mono ((hbody (wHold X.K c i ts D) (X.pn ++ pins) (fun ex sh => wpAny (model X.prog X.w) X.A (noteFrame ex X.env)
    (fun _ sh1 => wpAny (model X.prog X.w) X.A (setFlight ex none) (fun _ sh2 => wpAny (model X.prog X.w) X.A (handleBy ex X.env [.ExceptHandler (some (.Name x np)) (some n) (b0 :: suite) pos1]) (SP X pins D) X.xe sh2) X.xe sh1) X.xe sh) ?_ PassesOwn.looking).run [] s σ H D (I.toTry _) h) ?_ fun _ _ z => z)
  · intro v sh air
    obtain ⟨a, B, sI, pinsI, σI, HI, cls, d, rfl, JI, ground, slots, sky, na, os, bare, caught, then_⟩ := air
    have J : Inv X pins σI HI sI := JI.ofTry good
    have sky2 : Sky B (X.env :: X.outer) a (Zc cls d) X.env.locals sh.heap := hst ▸ sky
    show wpAny _ _ (noteFrame (.ref a) X.env) _ _ _
    refine Sky.land Zc.steady frames hfr sky2 ?_
    intro g3 fly3 slots3
    have J3 : Inv X pins σI HI { sh with heap := g3 } := J.landed ground fly3.1 (slots.trans slots3) os bare
    obtain ⟨ob3, ws3, at3, z3, f3⟩ := fly3.there
    have nofr : a ∉ frs (X.env :: X.outer) := by
      intro hm
      obtain ⟨_, o1, e1, e2⟩ := (fly3.2.2.1).mem hm
      rw [at3] at e1
      cases e1
      exact e2 _ f3
    have nL : a ≠ X.env.locals := by
      intro z
      exact nofr (List.mem_filterMap.mpr ⟨X.env, List.mem_cons_self, by rw [hfr, z]⟩)
    have nF : a ∉ X.fs := by
      intro hm
      obtain ⟨e, he, q⟩ := List.mem_filterMap.mp hm
      exact nofr (List.mem_filterMap.mpr ⟨e, List.mem_cons_of_mem _ he, q⟩)
    have newI : sI.heap.get? a = none := by
      cases q : sI.heap.get? a with
      | none => rfl
      | some u =>
        have z := ground a u q (by rw [hst]; exact nofr)
        rw [fly3.2.1] at z
        cases z
    have new0 : X.s_0.heap.get? a = none := by
      cases q : X.s_0.heap.get? a with
      | none => rfl
      | some u =>
        obtain ⟨u2, q2⟩ := J.base.there a u q (by rw [hex]; exact fun z => nomatch z)
        rw [newI] at q2
        cases q2
    have S3 := J3.suite at3 f3 na nL nF
    refine wpAny_handleBy_cons (codeAny_handlers_test ?_) (by intro q; cases q)
    have kind : PySem.W.Looks (model X.prog X.w) g3 (typeOf (.ref a)) cls := by
      intro A Q E s1 keep q
      exact wpAny_typeOf_ref (keep _ _ at3) (by rw [z3.1]; exact q)
    have match_ := PySem.W.exm_one (M := model X.prog X.w) (J3.kIn) kind caught
    have named : ∀ {Q : Value → Shared → Prop} {E : Value → Shared → Prop}, Q c { sh with heap := g3 } → wpAny (model X.prog X.w) (X.A.mark (some (.ref a))) (eval (.Name x np) X.env) Q E { sh with heap := g3 } := by
      intro Q E q
      obtain ⟨hg, hdbg, hm | ⟨hm, hv, hnn⟩⟩ := hnm
      · exact ld_glob (X := X.suite a ((a, ob3) :: (X.pn ++ pins))) S3 hg hm q hdbg
      · exact ld_blt (X := X.suite a ((a, ob3) :: (X.pn ++ pins))) S3 hg hm hv q hnn hdbg
    refine named (match_.here (codeAny_handlers_suite_as (HandSPX.lands_againZ fly3 ?_)))
    intro g4 fly4 slots4
    have J4 : Inv X pins σI HI { sh with heap := g4 } := J.landed ground fly4.1 ((slots.trans slots3).trans slots4) os bare
    obtain ⟨ob4, ws4, at4, z4, f4⟩ := fly4.there
    have S4 := J4.suite at4 f4 na nL nF
    refine store_ok (X := X.suite a ((a, ob4) :: (X.pn ++ pins))) (v := .ref a) S4 hnd hslot (.inl hloc) rfl (fun s5 S5 => ?_) (.inr hloc)
    refine wpAny_mono ((hsuite a ob4 cls d (X.pn ++ pins) z4 ⟨_, f4⟩).run [] s5 _ HI _ S5 (then_ a na)) ?_ fun _ _ z => False.elim z
    intro fl s6 q6
    cases fl with
    | next =>
      obtain ⟨σ6, H6, S6, q⟩ := q6
      refine gone_ok (X := X.suite a ((a, ob4) :: (X.pn ++ pins))) S6 hnd hslot hloc ?_
      intro s7 S7
      obtain ⟨at7, na7, _⟩ := S7.pin (a, ob4) (List.mem_append_left _ List.mem_cons_self)
      refine ⟨_, _, inv_hold (S7.unsuite good) hex new0 na7 nL ?_ ?_ (exH_ok at7 z4 f4), q⟩
      · intro y cc e z
        obtain ⟨u, o1, e1, e2⟩ := S7.cell y cc e
        rw [z, at7] at e1
        cases e1
        rw [f4] at e2
        cases e2
      · intro p hp z
        have e1 := (J.pin p hp).1
        rw [z, newI] at e1
        cases e1
    | brk =>
      obtain ⟨_, _, _, z⟩ := q6
      exact z.elim
    | cont =>
      obtain ⟨_, _, _, z⟩ := q6
      exact z.elim
    | ret u =>
      obtain ⟨_, _, _, _, _, z⟩ := q6
      exact z.elim
  · intro fl s1 q1
    cases fl with
    | next =>
      obtain ⟨σ1, H1, J1, q⟩ := q1
      exact wpAny_execs_nil ⟨σ1, H1, J1.ofTry good, q⟩
    | brk =>
      obtain ⟨σ1, H1, J1, q⟩ := q1
      exact ⟨σ1, H1, J1.ofTry good, q⟩
    | cont =>
      obtain ⟨σ1, H1, J1, q⟩ := q1
      exact ⟨σ1, H1, J1.ofTry good, q⟩
    | ret u =>
      obtain ⟨v1, σ1, H1, J1, r1, q⟩ := q1
      exact ⟨v1, σ1, H1, J1.ofTry good, r1, q⟩
end
end Brk
namespace Brk
open PySem PySem.Spec PyProof.Rows L2
/-- the object at a, an instance of the exception class at D, its dict (none, or tracked) -/
theorem exH_inst {X : Cx} {pins : List (Addr × Obj)} {σ : L2.St} {H : Hp} {s : Shared} {a D : Addr} {d : Option Addr} (I : Inv X pins σ H s) (e : H a = some (ExH (.ref D) d a)) (hd : d = none ∨ ∃ dd fs, d = some dd ∧ H dd = some (.xd fs)) :
    ∃ (ob : Obj) (od : Option Obj), PySem.W.InstAt s.heap a ob D od := by
  obtain ⟨ob, ws, e1, e2, e3⟩ := exH_at I.hok e
  rcases hd with rfl | ⟨dd, fs, rfl, hdd⟩
  · exact ⟨ob, none, e1, e2.1, by unfold PySem.W.notCls; rw [e3] <;> rfl, by rw [e2.2]; trivial⟩
  · obtain ⟨mA, hns, _⟩ := (show ObjOk X.prog X.w H s.heap dd (.xd fs) from I.hok dd _ hdd)
    obtain ⟨od, ho, _⟩ := lookIn_ns hns
    exact ⟨ob, some od, e1, e2.1, by unfold PySem.W.notCls; rw [e3] <;> rfl, by rw [e2.2]; exact ho⟩
/-- the held exception at a in H -/
def HeldAt (H : Hp) (a D : Addr) : Prop := ∃ d, H a = some (ExH (.ref D) d a) ∧ (d = none ∨ ∃ dd fs, d = some dd ∧ H dd = some (.xd fs))
section
variable {X : Cx}
theorem call_isH : CallR X (.builtin "isinstance") (fun xs H Q => ∃ (a D : Addr) (c : V) (cv : Value) (b : Bool), xs = [.ref a, c] ∧ ClsV c cv ∧ HeldAt H a D ∧ ExcC X.K D ∧ PySem.W.kitOne X.K (.ref D) cv = some b ∧ Q (.bl b) H) := by
  intro pins s σ H xs us Q I r h
  obtain ⟨a, D, c, cv, b, rfl, k, ⟨d, ha, hd⟩, C, e, q⟩ := h
  obtain ⟨u1, u2, rfl, r1, r2⟩ := vals2 r
  have e2 := k.eq r2
  subst e2
  cases r1
  obtain ⟨ob, od, J⟩ := exH_inst I ha hd
  have hcl : (PySem.W.clsIn X.K D).isSome = true := by
    obtain ⟨cd, hc, _⟩ := PySem.W.any_some C.hd
    rw [hc]
    rfl
  exact PySem.W.kia_one (PySem.W.kitx_exc hcl C.hg C.hk C.hs C.ha C.hn C.ht C.hm) I.kIn J e (fun z => nomatch z) fun tk => ⟨.bl b, H, I.tok tk, rfl, q⟩
theorem call_isHT : CallR X (.builtin "isinstance") (fun xs H Q => ∃ (a D tp : Addr) (cs : List V) (ws : List Value) (b : Bool), xs = [.ref a, .ref tp] ∧ H tp = some (.tup cs) ∧ Paired ClsV cs ws ∧ HeldAt H a D ∧ ExcC X.K D ∧ PySem.W.kitAny X.K (.ref D) ws = some b ∧ Q (.bl b) H) := by
  intro pins s σ H xs us Q I r h
  obtain ⟨a, D, tp, cs, ws, b, rfl, hT, k, ⟨d, ha, hd⟩, C, e, q⟩ := h
  obtain ⟨u1, u2, rfl, r1, r2⟩ := vals2 r
  cases (show u2 = Value.ref tp from r2)
  cases (show u1 = Value.ref a from r1)
  obtain ⟨ob, od, J⟩ := exH_inst I ha hd
  obtain ⟨_, its, rv, o, h1, h2, n, h3⟩ := (show ObjOk X.prog X.w H s.heap tp (.tup cs) from I.hok tp _ hT)
  have e3 := ClsV.all k rv
  subst e3
  obtain ⟨oc, od2, dt, sl⟩ := o
  dsimp only at h2 h3
  subst h2 h3
  have hcl : (PySem.W.clsIn X.K D).isSome = true := by
    obtain ⟨cd, hc, _⟩ := PySem.W.any_some C.hd
    rw [hc]
    rfl
  exact PySem.W.kia_tup (PySem.W.kitx_exc hcl C.hg C.hk C.hs C.ha C.hn C.ht C.hm) I.kIn J h1 e (fun z => nomatch z) fun tk => ⟨.bl b, H, I.tok tk, rfl, q⟩
/-- e.n, e a held exception -/
theorem pe_xh {e : Expr} {te : TE} {pos : Pos} {n : Str} (he : PE X e te) (hb : attributeBase e n X.env (eval e X.env) = eval e X.env := by rfl) :
    PE X (.Attribute e n pos) (fun σ H Q => te σ H fun x H1 => ∃ (a C dd : Addr) (fs : List (Str × V)) (v : V), x = .ref a ∧ H1 a = some (ExH (.ref C) (some dd) a) ∧ H1 dd = some (.xd fs) ∧ XfC X.K C ∧ PySem.W.findIn X.K (.ref C) n = some none ∧ fs.lookup n = some v ∧ Q v H1) := by
  constructor
  intro pins s σ H Q I h
  refine attr_of hb (thn (he.run pins s σ H _ I h) ?_)
  intro u s1 hh
  obtain ⟨x, H1, I1, rx, a, C, dd, fs, v, ex, ha, hdd, T, hno, l, q⟩ := hh
  subst ex
  obtain rfl : u = Value.ref a := rx
  obtain ⟨ob, ws, e1, e2, e3⟩ := exH_at I1.hok ha
  obtain ⟨mA, hns, hr⟩ := (show ObjOk X.prog X.w H1 s1.heap dd (.xd fs) from I1.hok dd _ hdd)
  obtain ⟨od, ho, hl⟩ := lookIn_ns hns
  obtain ⟨u, hu, ru⟩ := RelO.some_of (v := v) (o := mA n) (by rw [← l]; exact hr n)
  have J : PySem.W.InstAt s1.heap a ob C (some od) := ⟨e1, e2.1, by unfold PySem.W.notCls; rw [e3] <;> rfl, by rw [e2.2]; exact ho⟩
  exact HandSPX.exc_get I1.kIn J T.ga T.gg T.exC (PySem.W.findObj_own T.hdC hno rfl (by rw [hl, hu])) (handed_of ru) ⟨v, H1, I1.tok _, ru, q⟩
end

/-! ### own error classes with an __init__ of one field, of two -/
def spEr1 (C : Addr) (f : Str) : Sp := fun vs H Q _ => ∃ (a : Addr) (v : V), vs = [.ref a, v] ∧ H a = some (exo a C none) ∧ ∀ dx, H dx = none → dx ≠ a → Q .non (L2.upd (L2.upd H dx (exd dx [(f, v)])) a (exo a C (some dx)))
def spEr2 (C : Addr) (f g : Str) : Sp := fun vs H Q _ => ∃ (a : Addr) (v w : V), vs = [.ref a, v, w] ∧ H a = some (exo a C none) ∧ ∀ dx, H dx = none → dx ≠ a → Q .non (L2.upd (L2.upd (L2.upd H dx (exd dx [(f, v)])) a (exo a C (some dx))) dx (exd dx [(g, w), (f, v)]))
/-- the error class of the name x, at C, whose __init__ keeps sp -/
structure ErC (P : Program) (w : World) (K : PySem.W.Frag) (mg : Str → Option Value) (base : Heap) (x : Str) (C : Addr) (ps : List Str) (sp : Sp) : Prop where
  T : OexC K C
  m : mg x = some (.ref C)
  ex : ∃ (fI : Addr) (fd : FuncData), PySem.W.findIn K (.ref C) "__init__" = some (some (.ref fI)) ∧ PySem.W.typeIn K (.ref fI) = some (.type "function") ∧ Binds K fd ps [] ∧ FnOk P w K mg base CX0 1 fI fd ps sp
/-- .. as the text gives it -/
structure ErF (K : PySem.W.Frag) (mg : Str → Option Value) (x : Str) (C : Addr) (qual : Str) (st : Stmt) (ps : List Str) : Prop where
  T : OexC K C
  m : mg x = some (.ref C)
  ex : ∃ (fI : Addr) (fd : FuncData), PySem.W.findIn K (.ref C) "__init__" = some (some (.ref fI)) ∧ PySem.W.typeIn K (.ref fI) = some (.type "function") ∧ Binds K fd ps [] ∧ Fun K "__init__" qual st fI fd
theorem del_made {H : Hp} {a d : Addr} {o1 o2 o3 o4 : HO} (ha : H a = none) (hd : H d = none) (n : d ≠ a) : L2.upd (del (L2.upd (L2.upd (L2.upd H a o1) d o2) a o3) a) d o4 = L2.upd H d o4 := by
  funext b
  by_cases h1 : b = d
  · rw [h1, upd_same, upd_same]
  · rw [upd_ne h1, upd_ne h1]
    by_cases h2 : b = a
    · rw [h2, del_same, ha]
    · rw [del_ne h2, upd_ne h2, upd_ne h1, upd_ne h2]
theorem del_made2 {H : Hp} {a d : Addr} {o1 o2 o3 o4 o5 : HO} (ha : H a = none) (hd : H d = none) (n : d ≠ a) : L2.upd (del (L2.upd (L2.upd (L2.upd (L2.upd H a o1) d o2) a o3) d o5) a) d o4 = L2.upd H d o4 := by
  funext b
  by_cases h1 : b = d
  · rw [h1, upd_same, upd_same]
  · rw [upd_ne h1, upd_ne h1]
    by_cases h2 : b = a
    · rw [h2, del_same, ha]
    · rw [del_ne h2, upd_ne h1, upd_ne h2, upd_ne h1, upd_ne h2]

section
variable {X : Cx} {x : Str} {C : Addr} {ps : List Str} {sp : Sp} {e : Expr} {es : List Expr} {ta : TA} {p pos : Pos}
theorem pmk_er (R : ErC X.prog X.w X.K X.mg X.base x C ps sp) (hr : Room 2 X.A) (hg : Gl X x) (ha : PA X (e :: es) ta)
    (hdb : (x == ("__debug__" : Str)) = false := by decide) (hs : starEach (e :: es) X.env = (false, eval e X.env) :: starEach es X.env := by rfl) (hpl : (backTo pos (starEach es X.env)).any (·.1) = false := by rfl) :
    PMk X (.Call (.Name x p) (e :: es) [] pos) (tMkO C sp [] ta) := by
  obtain ⟨fI, fd, i1, i2, hb, F⟩ := R.ex
  exact pmk_oex R.T i1 i2 F hr hb .nil (fun _ _ _ _ _ _ _ z => z.elim) hg R.m ha hdb hs hpl
/-- f(e, ..), where what f raises is wished for at the slots -/
theorem pe_dS {k : Nat} {E : L2.St → XK} (D : Dk X.prog X.w X.K X.mg X.base (L2.CX X.prog X.w) k x ps sp) (hr : Room k X.A) (hx : ∀ σ, PassesAt (L2.CX X.prog X.w) X σ (E σ)) (hg : Gl X x) (ha : PA X (e :: es) ta)
    (hdb : (x == ("__debug__" : Str)) = false := by decide) (hs : starEach (e :: es) X.env = (false, eval e X.env) :: starEach es X.env := by rfl) (hpl : (backTo pos (starEach es X.env)).any (·.1) = false := by rfl) :
    PE X (.Call (.Name x p) (e :: es) [] pos) (tCallS sp E ta) := by
  obtain ⟨f, fd, hm, hk, hb, F⟩ := D
  exact pe_callS F hr hg hm hk hb hx ha hdb hs hpl
end
theorem look1 {f : Str} {v : V} : List.lookup f [(f, v)] = some v := by simp [List.lookup]
theorem exc_xf {K : PySem.W.Frag} {D : Addr} (h : ExcC K D) : XfC K D := ⟨h.hg, h.hk, h.hs, h.hd⟩
theorem kitAny_no {K : PySem.W.Frag} {t c : Value} {cs : List Value} (h : PySem.W.kitOne K t c = some false) (r : PySem.W.kitAny K t cs = some false) : PySem.W.kitAny K t (c :: cs) = some false := kitAny_cons h (fun _ => r) fun z => nomatch z
theorem HeldAt.same {H H' : Hp} {a D : Addr} (h : HeldAt H a D) (s : Same H H') : HeldAt H' a D := by
  obtain ⟨d, e, q⟩ := h
  refine ⟨d, s _ _ e, ?_⟩
  rcases q with q | ⟨dd, fs, e1, e2⟩
  · exact .inl q
  · exact .inr ⟨dd, fs, e1, s _ _ e2⟩
theorem kStr {K : PySem.W.Frag} : PySem.W.kitOne K (.type "str") (.type "str") = some true := kit_ty (by decide +kernel)
end Brk

set_option Elab.async false
set_option linter.all false
set_option maxRecDepth 100000
set_option maxHeartbeats 4000000
/-! Own words about texts: written numbers. -/
namespace Brk
open PySem PySem.Spec PyProof.Rows L2
/-! ### written numbers, as lists of signs -/
def digL (l : List Nat) : Bool := l.all fun c => decide (48 ≤ c ∧ c ≤ 57)
theorem digL_all {l : List Nat} : digL l = true ↔ NumText.AllDigits l := by
  unfold digL NumText.AllDigits
  simp
/-- the digits behind a minus -/
def bodyL : List Nat → List Nat
  | 45 :: r => r
  | l => l
def negL : List Nat → Bool
  | 45 :: _ => true
  | _ => false
def valL (l : List Nat) : Option Int :=
  if 1 ≤ (bodyL l).length ∧ (bodyL l).length ≤ 40 then
    if digL (bodyL l) = true then
      if (bodyL l).head? = some 48 ∧ (negL l = true ∨ 1 < (bodyL l).length) then none
      else some (if negL l = true then 0 - (NumText.digitsVal (bodyL l) : Int) else (NumText.digitsVal (bodyL l) : Int))
    else none
  else none
def numberB (l : List Nat) : Bool :=
  if l = [48] then true else decide (1 ≤ (bodyL l).length) && (decide ((bodyL l).length ≤ 40) && (!decide ((bodyL l).head? = some 48) && digL (bodyL l)))
theorem number_val (l : List Nat) : numberB l = (valL l).isSome := by
  unfold numberB valL
  by_cases h0 : l = [48]
  · subst h0
    decide
  · rw [if_neg h0]
    by_cases h1 : 1 ≤ (bodyL l).length ∧ (bodyL l).length ≤ 40
    · rw [if_pos h1, decide_eq_true h1.1, decide_eq_true h1.2]
      by_cases h2 : digL (bodyL l) = true
      · rw [if_pos h2, h2]
        by_cases h3 : (bodyL l).head? = some 48
        · rw [decide_eq_true h3]
          by_cases h4 : negL l = true ∨ 1 < (bodyL l).length
          · rw [if_pos ⟨h3, h4⟩]
            rfl
          · exfalso
            have h5 : ¬ negL l = true := fun z => h4 (.inl z)
            have h6 : ¬ 1 < (bodyL l).length := fun z => h4 (.inr z)
            have e : bodyL l = l := by
              unfold bodyL
              split
              · exact absurd rfl h5
              · rfl
            rw [e] at h3 h6 h1
            match l, h3, h6, h1 with
            | [x], h3, _, _ =>
              have ex : x = 48 := by simpa using h3
              exact h0 (by rw [ex])
            | [], _, _, h1 => simp at h1
            | _ :: _ :: _, _, h6, _ => simp at h6
        · rw [decide_eq_false h3, if_neg (fun z => h3 z.1)]
          rfl
      · rw [if_neg h2, Bool.eq_false_iff.mpr h2]
        simp
    · rw [if_neg h1]
      by_cases h2 : 1 ≤ (bodyL l).length
      · rw [decide_eq_true h2, decide_eq_false (fun z => h1 ⟨h2, z⟩)]
        rfl
      · rw [decide_eq_false h2]
        rfl
/-- digits without a needless zero ahead are the signs of their value -/
theorem num_of_digits : ∀ (n : Nat) (l : List Nat), l.length = n → NumText.AllDigits l → l ≠ [] → (l.head? = some 48 → l.length = 1) → TL.numL (NumText.digitsVal l) = l ∧ (l.head? ≠ some 48 → 1 ≤ NumText.digitsVal l) := by
  intro n
  induction n with
  | zero =>
    intro l h _ hn
    exact absurd (List.length_eq_zero_iff.mp h) hn
  | succ n ih =>
    intro l h hd hn hz
    obtain ⟨r, c, rfl⟩ : ∃ r c, l = r ++ [c] := ⟨l.dropLast, l.getLast hn, (List.dropLast_concat_getLast hn).symm⟩
    have hc : 48 ≤ c ∧ c ≤ 57 := hd c (by simp)
    have hv : NumText.digitsVal (r ++ [c]) = NumText.digitsVal r * 10 + (c - 48) := by
      unfold NumText.digitsVal
      rw [List.foldl_append]
      rfl
    by_cases hr : r = []
    · subst hr
      have e : NumText.digitsVal ([] ++ [c]) = c - 48 := by rw [hv]; show 0 * 10 + (c - 48) = _; omega
      rw [e]
      constructor
      · rw [TL.numL_lt (by omega)]
        show [48 + (c - 48)] = [c]
        congr 1
        omega
      · intro q
        have : c ≠ 48 := fun z => q (by rw [z]; rfl)
        omega
    · have hrl : r.length = n := by
        rw [List.length_append, List.length_singleton] at h
        omega
      have h0 : r.head? ≠ some 48 := by
        intro q
        have q2 : (r ++ [c]).head? = some 48 := by
          rw [List.head?_append, q]
          rfl
        have z := hz q2
        rw [List.length_append, List.length_singleton] at z
        exact hr (List.length_eq_zero_iff.mp (by omega))
      obtain ⟨i1, i2⟩ := ih r hrl (fun x hx => hd x (by simp [hx])) hr (fun q => absurd q h0)
      have p := i2 h0
      rw [hv]
      constructor
      · rw [TL.numL_step (by omega)]
        have e1 : (NumText.digitsVal r * 10 + (c - 48)) / 10 = NumText.digitsVal r := by omega
        have e2 : 48 + (NumText.digitsVal r * 10 + (c - 48)) % 10 = c := by omega
        rw [e1, e2, i1]
      · intro _
        omega

/-! ### texts and their signs -/
theorem str_ext {a b : Str} (h : a.cps.toList = b.cps.toList) : a = b := by
  obtain ⟨x⟩ := a
  obtain ⟨y⟩ := b
  have e : x = y := Array.toList_inj.mp h
  rw [e]
theorem body_neg {l : List Nat} (h : negL l = true) : l = 45 :: bodyL l := by
  unfold negL at h
  split at h
  · rfl
  · exact absurd h Bool.false_ne_true
theorem body_pos {l : List Nat} (h : negL l = false) : bodyL l = l := by
  unfold negL at h
  unfold bodyL
  split at h
  · exact absurd h.symm Bool.false_ne_true
  · rfl
theorem body_len (l : List Nat) : (bodyL l).length ≤ l.length := by
  unfold bodyL
  split <;> simp
theorem val_parts {l : List Nat} {v : Int} (h : valL l = some v) : 1 ≤ (bodyL l).length ∧ (bodyL l).length ≤ 40 ∧ NumText.AllDigits (bodyL l) ∧ ((bodyL l).head? = some 48 → (bodyL l).length = 1 ∧ negL l = false) ∧
    v = (if negL l = true then 0 - (NumText.digitsVal (bodyL l) : Int) else (NumText.digitsVal (bodyL l) : Int)) := by
  unfold valL at h
  split at h
  · rename_i h1
    split at h
    · rename_i h2
      split at h
      · cases h
      · rename_i h3
        refine ⟨h1.1, h1.2, digL_all.mp h2, fun q => ?_, (Option.some.inj h).symm⟩
        constructor
        · have z : ¬ 1 < (bodyL l).length := fun z => h3 ⟨q, .inr z⟩
          have := h1.1
          omega
        · exact Bool.eq_false_iff.mpr fun z => h3 ⟨q, .inl z⟩
    · cases h
  · cases h
theorem int_of_text {z : Str} {v : Int} (h : valL z.cps.toList = some v) : intText? z = some v := by
  obtain ⟨h1, h2, h3, h4, rfl⟩ := val_parts h
  have ne : bodyL z.cps.toList ≠ [] := fun e => by rw [e] at h1; exact absurd h1 (by decide)
  have hl : z.length = z.cps.toList.length := (Array.length_toList).symm
  cases hn : negL z.cps.toList with
  | true =>
    have e := body_neg hn
    have q := intText_neg e h3 ne (by rw [hl, e, List.length_cons]; omega)
    rw [q, if_pos rfl]
    congr 1
    omega
  | false =>
    have e := body_pos hn
    rw [e] at h1 h2 h3 ne ⊢
    have q := intText_digits h3 ne (by rw [hl]; omega)
    rw [q, if_neg Bool.false_ne_true]
theorem text_of_int {z : Str} {v : Int} (h : valL z.cps.toList = some v) : Str.ofString (toString v) = z := by
  obtain ⟨h1, h2, h3, h4, rfl⟩ := val_parts h
  have ne : bodyL z.cps.toList ≠ [] := fun e => by rw [e] at h1; exact absurd h1 (by decide)
  obtain ⟨d1, d2⟩ := num_of_digits _ _ rfl h3 ne (fun q => (h4 q).1)
  refine str_ext ?_
  cases hn : negL z.cps.toList with
  | true =>
    have h0 : (bodyL z.cps.toList).head? ≠ some 48 := fun q => by
      have := (h4 q).2
      rw [hn] at this
      cases this
    have p := d2 h0
    have e := body_neg hn
    rw [if_pos rfl, PyProof.Rows.toString_neg (by omega)]
    have e2 : (0 - (0 - (NumText.digitsVal (bodyL z.cps.toList) : Int))) = ((NumText.digitsVal (bodyL z.cps.toList) : Nat) : Int) := by omega
    rw [e2, signs_ofString, String.toList_append, List.map_append, ← signs_ofString (toString _)]
    have e3 := TL.tl_num (NumText.digitsVal (bodyL z.cps.toList))
    unfold TL.tl at e3
    rw [e3, d1, e]
    rfl
  | false =>
    have e := body_pos hn
    rw [if_neg Bool.false_ne_true]
    have e3 := TL.tl_num (NumText.digitsVal (bodyL z.cps.toList))
    unfold TL.tl at e3
    rw [e3, d1, e]
theorem digits_lt : ∀ {l : List Nat}, NumText.AllDigits l → NumText.digitsVal l < 10 ^ l.length := by
  have key : ∀ (l : List Nat) (a k : Nat), NumText.AllDigits l → a < 10 ^ k → l.foldl (fun acc c => acc * 10 + (c - 48)) a < 10 ^ (k + l.length) := by
    intro l
    induction l with
    | nil => intro a k _ h; exact h
    | cons c r ih =>
      intro a k h ha
      have hc := h c (List.mem_cons_self ..)
      have q := ih (a * 10 + (c - 48)) (k + 1) (fun x hx => h x (List.mem_cons_of_mem _ hx)) (by rw [Nat.pow_succ]; omega)
      rw [List.foldl_cons, List.length_cons]
      have e : k + (r.length + 1) = k + 1 + r.length := by omega
      rw [e]
      exact q
  intro l h
  have q := key l 0 0 h (by decide)
  rw [Nat.zero_add] at q
  exact q
theorem val_small {l : List Nat} {v : Int} (h : valL l = some v) : v.natAbs.log2 < 1920 := by
  obtain ⟨h1, h2, h3, h4, rfl⟩ := val_parts h
  have q := digits_lt h3
  have b : NumText.digitsVal (bodyL l) < 10 ^ 40 := Nat.lt_of_lt_of_le q (Nat.pow_le_pow_right (by decide) h2)
  have e : (if negL l = true then 0 - (NumText.digitsVal (bodyL l) : Int) else (NumText.digitsVal (bodyL l) : Int)).natAbs = NumText.digitsVal (bodyL l) := by
    split <;> omega
  rw [e]
  by_cases z : NumText.digitsVal (bodyL l) = 0
  · rw [z]
    decide
  · exact (Nat.log2_lt z).mpr (Nat.lt_of_lt_of_le (m := 2 ^ 133) (by omega) (Nat.pow_le_pow_right (by decide) (by decide)))
/-- the first sign, the rest -/
theorem cut_first {z : Str} : decide (V.str (cutS z none (some 1)) = V.str "-") = negL z.cps.toList := by
  have e : (cutS z none (some 1)).cps.toList = z.cps.toList.take 1 := by
    unfold cutS
    rw [HT.sIx_none]
    have e1 : HT.sIx z.length z.length (some 1) = min 1 z.length := HT.sIx_nat _ _ 1
    rw [e1]
    show ((z.cps.toList.drop 0).take (min 1 z.length - 0)) = _
    rw [List.drop_zero, Nat.sub_zero]
    have hl : z.length = z.cps.toList.length := (Array.length_toList).symm
    rw [hl, List.take_eq_take_iff]
    omega
  have m : ("-" : Str).cps.toList = [45] := by decide +kernel
  cases hn : negL z.cps.toList with
  | true =>
    refine decide_eq_true ?_
    congr 1
    refine str_ext ?_
    rw [e, m, body_neg hn]
    rfl
  | false =>
    refine decide_eq_false fun q => ?_
    have q2 := congrArg (fun s : Str => s.cps.toList) (V.str.inj q)
    simp only [e, m] at q2
    cases hz : z.cps.toList with
    | nil => rw [hz] at q2; cases q2
    | cons c r =>
      rw [hz] at q2 hn
      have ec : c = 45 := by simpa using q2
      rw [ec] at hn
      cases hn
theorem cut_rest {z : Str} (h : negL z.cps.toList = true) : (cutS z (some 1) none).cps.toList = bodyL z.cps.toList := by
  have e := body_neg h
  have hl : z.length = z.cps.toList.length := (Array.length_toList).symm
  unfold cutS
  have e1 : HT.sIx z.length 0 (some 1) = min 1 z.length := HT.sIx_nat _ _ 1
  rw [e1, HT.sIx_none]
  have e2 : min 1 z.length = 1 := by rw [hl, e, List.length_cons]; omega
  rw [e2]
  show (z.cps.toList.drop 1).take (z.length - 1) = _
  rw [List.take_of_length_le (by rw [List.length_drop, ← hl]; exact Nat.le_refl _)]
  rw [e]
  rfl

theorem cut_prefix {z : Str} : (Txt.removeprefix z "-").cps.toList = bodyL z.cps.toList := by
  have hl : z.length = z.cps.toList.length := (Array.length_toList).symm
  have em : ("-" : Str) = ⟨#[45]⟩ := by decide +kernel
  unfold Txt.removeprefix
  rw [em]
  cases hn : negL z.cps.toList with
  | true =>
    have e := body_neg hn
    have h1 : Builtin.Str.subAt z ⟨#[45]⟩ 0 = true := ((StrLaws.subAt_one z 45 0).mpr (by rw [e]; rfl)).2
    rw [h1, if_pos rfl]
    have h2 : 1 ≤ z.length := by rw [hl, e, List.length_cons]; omega
    show (Txt.affix z (some (1, z.length))).cps.toList = _
    unfold Txt.affix
    have h3 : (z.length - 1 == z.length) = false := by
      rw [beq_eq_false_iff_ne]
      omega
    dsimp only
    rw [h3, if_neg Bool.false_ne_true]
    show (z.cps.extract 1 z.length).toList = _
    rw [Array.toList_extract, List.extract_eq_drop_take]
    rw [List.take_of_length_le (by rw [List.length_drop, hl]; exact Nat.le_refl _)]
    rw [e]
    rfl
  | false =>
    have h1 : Builtin.Str.subAt z ⟨#[45]⟩ 0 = false := by
      refine Bool.eq_false_iff.mpr fun q => ?_
      cases hz : z.cps.toList with
      | nil =>
        have ez : z = ⟨#[]⟩ := str_ext hz
        rw [ez] at q
        exact absurd q (by decide +kernel)
      | cons c r =>
        have q2 := (StrLaws.subAt_one z 45 0).mp ⟨by rw [hl, hz]; show 0 + 1 ≤ r.length + 1; omega, q⟩
        rw [hz] at q2 hn
        have ec : c = 45 := by simpa using q2
        rw [ec] at hn
        cases hn
    rw [h1, if_neg Bool.false_ne_true, body_pos hn]
    rfl
theorem find_dig {c : Nat} (h : 48 ≤ c ∧ c ≤ 57) : Txt.find "0123456789" ⟨#[c]⟩ = (c : Int) - 48 := by
  have q : c = 48 ∨ c = 49 ∨ c = 50 ∨ c = 51 ∨ c = 52 ∨ c = 53 ∨ c = 54 ∨ c = 55 ∨ c = 56 ∨ c = 57 := by omega
  rcases q with rfl | rfl | rfl | rfl | rfl | rfl | rfl | rfl | rfl | rfl <;> decide +kernel
theorem dig_mem {c : Nat} : c ∈ ("0123456789" : Str).cps.toList ↔ 48 ≤ c ∧ c ≤ 57 := by
  have e : ("0123456789" : Str).cps.toList = [48, 49, 50, 51, 52, 53, 54, 55, 56, 57] := by decide +kernel
  rw [e]
  simp only [List.mem_cons, List.not_mem_nil, or_false]
  omega
theorem find_no {c : Nat} (h : ¬ (48 ≤ c ∧ c ≤ 57)) : Txt.find "0123456789" ⟨#[c]⟩ = -1 := by
  have q := StrLaws.found_one "0123456789" c
  rw [decide_eq_false (fun z => h (dig_mem.mp z))] at q
  unfold Txt.find
  cases e : Builtin.Str.occurrences "0123456789" ⟨#[c]⟩ 0 ("0123456789" : Str).length 1 with
  | nil => rfl
  | cons x r =>
    rw [e] at q
    cases q
/-- a for over a text's signs -/
theorem for_text {x : Str} {g : TG} {tb : TS} {D : Ends} {σ : L2.St} {H : Hp} (Pv : Nat → L2.St → Hp → Prop) (h0 : Pv 0 σ H)
    (hs : ∀ (i c : Nat) (σ : L2.St) (H : Hp), x.cps[i]? = some c → Pv i σ H → g (.str ⟨#[c]⟩) σ H fun σ2 H2 => tb { D with nx := Pv (i + 1), ct := Pv (i + 1), bk := D.nx } σ2 H2) (hd : ∀ σ H, Pv x.cps.size σ H → D.nx σ H) :
    ∃ W : Nat → Nat → L2.St → Hp → Prop, (∃ m, W 0 m σ H) ∧ ∀ i m σ H, W i m σ H →
      ((Its x).stop i H ∧ D.nx σ H) ∨ ((Its x).go i H ∧ ∃ N : L2.St → Hp → Prop, (∀ σ' H', N σ' H' → ∃ m', m' < m ∧ W (i + 1) m' σ' H') ∧ ∀ y H', (Its x).yld i H y H' → g y σ H' fun σ2 H2 => tb { D with nx := N, ct := N, bk := D.nx } σ2 H2) := by
  refine ⟨fun i m σ H => m + i = x.cps.size ∧ Pv i σ H, ⟨x.cps.size, rfl, h0⟩, ?_⟩
  intro i m σ H hh
  obtain ⟨hm, p⟩ := hh
  by_cases z : m = 0
  · subst z
    have e : i = x.cps.size := by omega
    subst e
    exact Or.inl ⟨Nat.le_refl _, hd σ H p⟩
  · refine Or.inr ⟨by show i < x.cps.size; omega, Pv (i + 1), fun _ _ p' => ⟨m - 1, by omega, by omega, p'⟩, ?_⟩
    intro y H' yy
    obtain ⟨e, c, hc, ey⟩ := yy
    subst e ey
    exact hs i c σ _ hc p
section
variable {X : Cx}
/-- text * number: some text, of so many signs -/
theorem op_mulS : OpR X (binaryOp .Mult) (fun x y H Q => ∃ (z : Str) (i : Int), x = .str z ∧ y = .int i ∧ z.length ≤ 16 ∧ 0 ≤ i ∧ i ≤ 1000000 ∧ ∀ r : Str, (r.length : Int) = (z.length : Int) * i → Q (.str r) H) := by
  intro pins s σ H x y v u Q I rx ry h
  obtain ⟨z, i, rfl, rfl, h1, h2, h3, q⟩ := h
  obtain ⟨t, rfl⟩ := rx
  obtain ⟨t', rfl⟩ := ry
  refine PySem.W.KXi.mul rfl h1 (by omega) (by omega) fun t2 k _ e => ?_
  exact ⟨.str _, H, I.tok _, ⟨_, rfl⟩, q _ (e h2)⟩
end

def spIsNumber : Sp := fun vs H Q _ => ∃ (z : Str), vs = [.str z] ∧ z.length ≤ 100000 ∧ ∀ H', Same H H' → Q (.bl (numberB z.cps.toList)) H'

def vOpt : Option Int → V
  | some v => .int v
  | none => .non
def spValue : Sp := fun vs H Q _ => ∃ (z : Str), vs = [.str z] ∧ z.length ≤ 600 ∧ Q (vOpt (valL z.cps.toList)) H
def spReadNumber (C : Addr) : Sp := fun vs H Q E => ∃ (z : Str), vs = [.str z] ∧ z.length ≤ 600 ∧ (∀ v, valL z.cps.toList = some v → ∀ H', Same H H' → Q (.int v) H') ∧
  (valL z.cps.toList = none → ∀ H' d, Same H H' → H' d = none → E (.ref C) (some d) (L2.upd H' d (.xd [("text", .str z)])))
def spWriteNumber : Sp := fun vs H Q _ => ∃ (v : Int), vs = [.int v] ∧ v.natAbs.log2 < 1920 ∧ Q (.str (Str.ofString (toString v))) H
def spReadT : Sp := fun vs H Q _ => ∃ (z : Str), vs = [.str z] ∧ z.length ≤ 600 ∧ ∀ H', Same H H' → Q (.bl true) H'

theorem catL {a b : Str} (ha : a.length ≤ 1000) (hb : b.length ≤ 1000) : a.length + b.length ≤ sizeLine := Nat.le_trans (Nat.add_le_add ha hb) (by decide)
theorem cutS_len {z : Str} {lo hi : Option Int} : (cutS z lo hi).length ≤ z.length := by
  have h1 : (cutS z lo hi).length = ((z.cps.toList.drop (HT.sIx z.length 0 lo)).take (HT.sIx z.length z.length hi - HT.sIx z.length 0 lo)).length := by
    unfold cutS
    exact (Array.length_toList).symm
  have h2 : z.length = z.cps.toList.length := (Array.length_toList).symm
  rw [h1, h2, List.length_take, List.length_drop]
  omega
theorem str_at {z : Str} {i : Int} (h0 : 0 ≤ i) (h1 : i < z.length) : ∃ c, z.cps[i.toNat]? = some c := by
  have h : z.length = z.cps.size := rfl
  exact ⟨_, Array.getElem?_eq_getElem (by omega)⟩
theorem one_len {c : Nat} : (⟨#[c]⟩ : Str).length = 1 := rfl
theorem join_small {y : Str} (hy : y.length = 0) : ∀ {ys : List Str}, (∀ x ∈ ys, x.length ≤ 1) → (Txt.join y ys).length ≤ ys.length := by
  have key : ∀ (ys : List Str), (∀ x ∈ ys, x.length ≤ 1) → (Str.join y ys).length ≤ ys.length := by
    intro ys
    induction ys with
    | nil => intro _; exact Nat.le_refl _
    | cons a r ih =>
      intro h
      cases r with
      | nil =>
        have := h a (List.mem_singleton.mpr rfl)
        exact this
      | cons b q =>
        have i1 := ih fun x hx => h x (List.mem_cons_of_mem _ hx)
        have i2 := h a (List.mem_cons_self ..)
        show (a ++ y ++ Str.join y (b :: q)).length ≤ _
        rw [Str.length_append, Str.length_append, List.length_cons]
        omega
  intro ys h
  rw [TL.join_eq]
  exact key ys h
def spNear : Sp := fun vs H Q _ => ∃ (z : Str), vs = [.str z] ∧ z.length ≤ 100 ∧ ∀ (p : Addr) (ys : List Str) (H' : Hp), Same H H' → H' p = some (.lst (ys.map V.str)) → (∀ y ∈ ys, y.length ≤ 600) → Q (.ref p) H'
def spWritten : Sp := fun vs H Q _ => ∃ (p c : Addr) (ns : List Int), vs = [.ref p] ∧ Pool ns c H p ∧ ∀ (y : Str) (H' : Hp), y.length ≤ 60 → Pool ns c H' p → Q (.str y) H'
def spOther : Sp := fun vs H Q _ => ∃ (p c : Addr) (ns : List Int) (z : Str), vs = [.ref p, .str z] ∧ Pool ns c H p ∧ z.length ≤ 60 ∧ ∀ (y : Str) (H' : Hp), y.length ≤ 300 → Pool ns c H' p → Q (.str y) H'
end Brk

set_option Elab.async false
set_option linter.all false
set_option maxRecDepth 100000
set_option maxHeartbeats 4000000
/-! Own words: things that are made under a name, or refused for it. -/
namespace Brk
open PySem PySem.Spec PyProof.Rows L2
/-- a refused name: the new exception's dict has it -/
def RefN (CB : Addr) (z : Str) (H : Hp) (E : XK) : Prop := ∀ (H' : Hp) (d : Addr), Same H H' → H' d = some (.xd [("name", .str z)]) → E (.ref CB) (some d) H'
theorem RefN.from {CB : Addr} {z : Str} {H H1 : Hp} {E : XK} (r : RefN CB z H E) (s : Same H H1) : RefN CB z H1 E := fun H' d s' e => r H' d (s.trans s') e
def spNamedX (K : PySem.W.Frag) (CB : Addr) : Sp := fun vs H Q E => ∃ (p C dx : Addr) (fs : List (Str × V)) (z : Str), vs = [.ref p, .str z] ∧ H p = some (.ins C dx fs) ∧ Cls K C ∧ NoAttr K C "name" ∧ z.length ≤ 1000 ∧ fs.length < 100 ∧
  (nameB z = true → ∀ H', H' p = some (.ins C dx (putF "name" (.str z) fs)) → But p H H' → Q .non H') ∧ (nameB z = false → RefN CB z H E)
def spItemX (K : PySem.W.Frag) (CB : Addr) : Sp := fun vs H Q E => ∃ (p C dx : Addr) (fs : List (Str × V)) (z : Str) (g m : V) (d : Int), vs = [.ref p, .str z, g, m, .int d] ∧ H p = some (.ins C dx fs) ∧ ItemC K C ∧ z.length ≤ 1000 ∧ 0 ≤ d ∧ d ≤ 8 ∧ fs.length < 90 ∧
  (nameB z = true → ∀ H', H' p = some (.ins C dx (putI z g m (.int d) fs)) → But p H H' → Q .non H') ∧ (nameB z = false → RefN CB z H E)
/-- an instance of C at p with the name z -/
def NameAt (C p : Addr) (z : Str) (H : Hp) : Prop := ∃ (dx : Addr) (fs : List (Str × V)), H p = some (.ins C dx fs) ∧ fs.lookup ("name" : Str) = some (.str z)
theorem putI_name {z : Str} {g m d : V} {fs : List (Str × V)} : (putI z g m d fs).lookup ("name" : Str) = some (.str z) := by
  unfold putI putT
  rw [look_ne (by decide +kernel), look_ne (by decide +kernel), look_ne (by decide +kernel), look_put]
def spPieceX (K : PySem.W.Frag) (CB : Addr) : Sp := fun vs H Q E => ∃ (p C dx : Addr) (z : Str) (g m : V) (l t d : Int), vs = [.ref p, .str z, g, .int l, .int t, m, .int d] ∧ H p = some (.ins C dx []) ∧ ItemC K C ∧ NoAttr K C "least" ∧ NoAttr K C "most" ∧ z.length ≤ 1000 ∧
  0 ≤ d ∧ d ≤ 8 ∧ 1 ≤ l ∧ l ≤ t ∧ t ≤ l + 8 ∧ (nameB z = true → ∀ H', NameAt C p z H' → But p H H' → Q .non H') ∧ (nameB z = false → RefN CB z H E)
def spBreakX (K : PySem.W.Frag) (CB : Addr) : Sp := fun vs H Q E => ∃ (p C dx : Addr) (z : Str) (g m : V) (n u d y : Int), vs = [.ref p, .str z, g, m, .int n, .int u, .int d, .int y] ∧ H p = some (.ins C dx []) ∧ ItemC K C ∧ NoAttr K C "places" ∧ NoAttr K C "unit" ∧ NoAttr K C "patience" ∧ z.length ≤ 1000 ∧
  0 ≤ d ∧ d ≤ 8 ∧ 1 ≤ n ∧ n ≤ 12 ∧ 1 ≤ u ∧ 1 ≤ y ∧ y ≤ 64 ∧ (nameB z = true → ∀ H', NameAt C p z H' → But p H H' → Q .non H') ∧ (nameB z = false → RefN CB z H E)
/-! ### a house of one kind -/
def spFromOne : Sp := fun vs H Q _ => ∃ n m : Int, vs = [.int n, .int m] ∧ 1 ≤ n ∧ n ≤ m ∧ Q .non H
def spApart1 : Sp := fun vs H Q _ => ∃ n : Int, vs = [.int n] ∧ 1 ≤ n ∧ Q .non H
def spKind1 (CB : Addr) : Sp := fun vs H Q E => ∃ (l : Addr) (z : Str), vs = [.ref l] ∧ H l = some (.lst [.str z]) ∧ z.length ≤ 1000 ∧ (nameB z = true → ∀ H', Same H H' → Q .non H') ∧ (nameB z = false → RefN CB z H E)
def spSpan0 (C : Addr) : Sp := fun vs H Q _ => ∃ (p dx : Addr) (lo hi : Int), vs = [.ref p, .int lo, .int hi] ∧ H p = some (.ins C dx []) ∧ lo ≤ hi ∧ ∀ H', Off p H H' → Q .non H'
def spWays0 (K : PySem.W.Frag) : Sp := fun vs H Q _ => ∃ a : Addr, vs = [.ref a] ∧ SqT K H a [.int 0, .int 0] ∧ ∀ x H', Same H H' → Q (.ref x) H'
structure HouseC (K : PySem.W.Frag) (C : Addr) : Prop where
  c : Cls K C
  n1 : NoAttr K C "studios"
  n2 : NoAttr K C "crews"
  n3 : NoAttr K C "kinds"
  n4 : NoAttr K C "walk"
  n5 : NoAttr K C "pack"
  n6 : NoAttr K C "ahead"
  n7 : NoAttr K C "apart"
/-- a house at p whose kinds are the one text -/
def KindAt (C p : Addr) (z : Str) (H : Hp) : Prop := ∃ (dx t : Addr) (fs : List (Str × V)), H p = some (.ins C dx fs) ∧ fs.lookup ("kinds" : Str) = some (.ref t) ∧ H t = some (.tup [.str z])
def spHouseX (K : PySem.W.Frag) (C CB W1 W2 : Addr) : Sp := fun vs H Q E => ∃ (p dx l : Addr) (z : Str), vs = [.ref p, .int 1, .int 1, .ref l, .ref W1, .ref W2, .int 1, .int 1] ∧ H p = some (.ins C dx []) ∧ H l = some (.lst [.str z]) ∧ HouseC K C ∧ z.length ≤ 1000 ∧
  (nameB z = true → ∀ H', KindAt C p z H' → But p H H' → Q .non H') ∧ (nameB z = false → RefN CB z H E)
/-- what isinstance asks of an own class -/
structure OwnI (K : PySem.W.Frag) (C : Addr) : Prop where
  ha : PySem.W.findIn K (.ref C) "__class__" = some (some (.builtin "object.__class__"))
  hn : PySem.W.specialIn K (.builtin "object.__class__") "__get__" = some (some (.builtin "getset_descriptor.__get__"))
  ht : PySem.W.takesIn K (.builtin "object.__class__") = some true
  hm : PySem.W.mroIn K C (.type "object") = some true
theorem tyx_own {K : PySem.W.Frag} {H : Hp} {a C dx : Addr} {fs : List (Str × V)} (e : H a = some (.ins C dx fs)) (c : Cls K C) (o : OwnI K C) : TyX K H (.ref a) (.ref C) := .base (.ins e c o.ha o.hn o.ht o.hm)
structure NmC (K : PySem.W.Frag) (C CN : Addr) : Prop where
  c : Cls K C
  o : OwnI K C
  n : NoAttr K C "name"
  k : PySem.W.kitOne K (.ref C) (.ref CN) = some true
def spMadeX (K : PySem.W.Frag) (CN CH CB : Addr) : Sp := fun vs H Q E => ∃ (n : Int) (z : Str), vs = [.int n, .str z] ∧ 0 ≤ n ∧ n ≤ 4 ∧ z.length ≤ 1000 ∧
  (nameB z = true → ∀ x H', Same H H' → ((n ≤ 3 ∧ ∃ C, NmC K C CN ∧ NameAt C x z H') ∨ (n = 4 ∧ KindAt CH x z H')) → Q (.ref x) H') ∧ (nameB z = false → RefN CB z H E)
def spDoorX : Sp := fun vs H Q _ => ∃ (n : Int) (z : Str), vs = [.int n, .str z, .bl (nameB z)] ∧ 0 ≤ n ∧ n ≤ 4 ∧ z.length ≤ 1000 ∧ ∀ H', Same H H' → Q (.bl true) H'
def spLName : Sp := fun vs H Q _ => ∃ (z : Str), vs = [.str z] ∧ z.length ≤ 1000 ∧ Q (.bl (nameB z)) H
theorem NameAt.same {C p : Addr} {z : Str} {H H' : Hp} (h : NameAt C p z H) (s : Same H H') : NameAt C p z H' := by
  obtain ⟨dx, fs, a, b⟩ := h
  exact ⟨dx, fs, s _ _ a, b⟩
/-! ### names by place -/
theorem name_yes {z : Str} (h1 : 1 ≤ z.cps.size) (h2 : z.cps.size ≤ 12) (h : ∀ j c, z.cps[j]? = some c → signB c = true ∧ (j = 0 → c ∈ letS.cps.toList)) : nameB z = true := by
  unfold nameB
  have h0 : z.cps.getD 0 0 ∈ letS.cps.toList := by
    have e : z.cps[0]? = some (z.cps.getD 0 0) := by
      rw [Array.getElem?_eq_getElem (by omega)]
      simp [Array.getD, (by omega : 0 < z.cps.size)]
    exact (h 0 _ e).2 rfl
  rw [decide_eq_true h1, decide_eq_true h2, decide_eq_true h0]
  refine List.all_eq_true.mpr fun c hc => ?_
  obtain ⟨j, hj, e⟩ := List.getElem_of_mem hc
  rw [Array.length_toList] at hj
  exact (h j c (by rw [Array.getElem?_eq_getElem hj, ← e]; simp)).1
theorem name_no {z : Str} {j c : Nat} (hc : z.cps[j]? = some c) (h : ¬ (signB c = true ∧ (j = 0 → c ∈ letS.cps.toList))) : nameB z = false := by
  cases e : nameB z with
  | false => rfl
  | true =>
    exfalso
    unfold nameB at e
    rw [Bool.and_eq_true, Bool.and_eq_true, Bool.and_eq_true] at e
    obtain ⟨_, _, e3, e4⟩ := e
    refine h ⟨?_, fun j0 => ?_⟩
    · refine List.all_eq_true.mp e4 c ?_
      rw [← Array.getElem?_toList] at hc
      exact List.mem_of_getElem? hc
    · subst j0
      have q : z.cps.getD 0 0 = c := by
        obtain ⟨hlt, e5⟩ := Array.getElem?_eq_some_iff.mp hc
        simp [Array.getD, hlt, e5]
      rw [← q]
      exact of_decide_eq_true e3
theorem name_len {z : Str} (h : ¬ (1 ≤ z.cps.size ∧ z.cps.size ≤ 12)) : nameB z = false := by
  unfold nameB
  by_cases h1 : 1 ≤ z.cps.size
  · rw [decide_eq_false (fun h2 => h ⟨h1, h2⟩)]
    simp
  · rw [decide_eq_false h1]
    rfl
theorem find_neg {z : Str} {c : Nat} : decide (Txt.find z ⟨#[c]⟩ < 0) = !decide (c ∈ z.cps.toList) := by
  have q := StrLaws.found_one z c
  unfold Txt.find
  cases e : Builtin.Str.occurrences z ⟨#[c]⟩ 0 z.length 1 with
  | nil =>
    rw [e] at q
    rw [← q]
    rfl
  | cons x r =>
    rw [e] at q
    rw [← q]
    exact decide_eq_false (by show ¬ ((x : Nat) : Int) < 0; omega)
/-! ### a op1 b op2 c op3 d, as a test -/
def tChain3 (r r' r'' : R2) (ta tb tc td : TE) : TE := fun σ H Q => ta σ H fun x H1 => tb σ H1 fun y H2 => r x y H2 fun z H3 => ∃ k, z = .bl k ∧
  (if k = true then tc σ H3 fun w H4 => r' y w H4 fun z2 H5 => ∃ k2, z2 = .bl k2 ∧ (if k2 = true then td σ H5 fun w2 H6 => r'' w w2 H6 Q else Q (.bl false) H5) else Q (.bl false) H3)
theorem pt_chain3 {X : Cx} {a b c d : Expr} {ta tb tc td : TE} {pos : Pos} {op op' op'' : CmpOp} {r r' r'' : R2} (ho : OpR X (compareOp op) r) (ho' : OpR X (compareOp op') r') (ho'' : OpR X (compareOp op'') r'') (ha : PE X a ta) (hb : PE X b tb) (hc : PE X c tc) (hd : PE X d td)
    (hm : lastMarks [op, op', op''] [b, c, d] = false := by with_unfolding_all rfl) : PT X (.Compare a [op, op', op''] [b, c, d] pos) (tTest (tChain3 r r' r'' ta tb tc td)) := by
  refine ⟨fun pins s σ H Q I h => ?_⟩
  refine isTrue_chain (thn (ha.run pins s σ H _ I h) fun v s1 ⟨x, H1, I1, r1, q1⟩ => test_link (thn (hb.run pins s1 σ H1 _ I1 q1) fun u s2 ⟨y, H2, I2, r2, q2⟩ =>
    thn (ho pins s2 σ H2 x y v u _ I2 r1 r2 q2) fun e s3 ⟨z, H3, I3, r3, k, e0, q3⟩ => ?_)) hm
  subst e0
  cases r3
  refine wpAny_truthy_bool ?_
  cases k with
  | false =>
    obtain ⟨k', e', q'⟩ := q3
    cases e'
    exact ite_ff ⟨H3, I3, q'⟩
  | true =>
    refine ite_tt (test_link (thn (hc.run pins s3 σ H3 _ I3 q3) fun w' s4 ⟨z', H4, I4, r4, q4⟩ => thn (ho' pins s4 σ H4 y z' u w' _ I4 r2 r4 q4) fun d' s5 ⟨z2, H5, I5, r5, k2, e2, q5⟩ => ?_))
    subst e2
    cases r5
    refine wpAny_truthy_bool ?_
    cases k2 with
    | false =>
      obtain ⟨k', e', q'⟩ := q5
      cases e'
      exact ite_ff ⟨H5, I5, q'⟩
    | true =>
      refine ite_tt (test_last (thn (hd.run pins s5 σ H5 _ I5 q5) fun w2 s6 ⟨z3, H6, I6, r6, q6⟩ => thn (ho'' pins s6 σ H6 z' z3 w' w2 _ I6 r4 r6 q6) fun d2 s7 ⟨z4, H7, I7, r7, k3, e3, q7⟩ => ?_))
      subst e3
      cases r7
      exact wpAny_truthy_bool ⟨H7, I7, q7⟩
/-! ### an __init__ with keyword-only defaults -/
/-- n values and the keywords ks are written, the keyword-only defaults ms fill up -/
def IfG (K : PySem.W.Frag) (C : Addr) (qual : Str) (st : Stmt) (ps : List Str) (n : Nat) (ks : List Str) (ms : List V) : Prop := ∃ (f : Addr) (fd : FuncData) (gU : List Value → List Value → List Value), Mk K C f ∧ Fun K "__init__" qual st f fd ∧ KBn K fd ps n ks gU (fun vs zs => vs ++ (zs ++ ms))
def MkG (P : Program) (w : World) (K : PySem.W.Frag) (mg : Str → Option Value) (base : Heap) (CX : CXT) (k : Nat) (x : Str) (C : Addr) (ps : List Str) (n : Nat) (ks : List Str) (ms : List V) (sp : Sp) : Prop :=
  ∃ (f : Addr) (fd : FuncData) (gU : List Value → List Value → List Value), mg x = some (.ref C) ∧ Mk K C f ∧ KBn K fd ps n ks gU (fun vs zs => vs ++ (zs ++ ms)) ∧ FnOk P w K mg base CX k f fd ps sp
theorem ifG_mk {K : PySem.W.Frag} {C f D : Addr} {qual : Str} {st : Stmt} {ps ks : List Str} {oc doc pm cdv ct : Value} {od an : Option Addr} {osl : Array (Option Value)} (kws : List (Str × V)) (M : Mk K C f)
    (l : K.lookup f = some ⟨oc, od, .func (PySem.W.fnOf "__init__" qual (defArgs st) (defBody st) (defScope st) .none (.ref D) doc pm an cdv ct), osl⟩) (c : PySem.W.codeIn K cdv qual = true) (k : PySem.W.keepIn K (.ref f) = true)
    (hq : ∀ q ∈ kws, ∃ u, PySem.W.nsIn K D q.1 = some (some u) ∧ RelV q.2 u) (n : Nat) (hk : kws ≠ [])
    (h : ∀ (D : Addr) (doc pm : Value) (an : Option Addr) (cdv ct : Value) (us mv ws : List Value), us.length = n → mv.length = kws.length → ws.length = ks.length →
      KwChain D ((kws.map (·.1)).zip mv) (bindArgs (PySem.W.fnOf "__init__" qual (defArgs st) (defBody st) (defScope st) .none (.ref D) doc pm an cdv ct) ⟨us, ks.zip ws⟩) (ps.zip (us ++ (ws ++ mv)))) : IfG K C qual st ps n ks (kws.map (·.2)) := by
  have F : FunD K "__init__" qual (defArgs st) (defBody st) (defScope st) [] kws f (PySem.W.fnOf "__init__" qual (defArgs st) (defBody st) (defScope st) .none (.ref D) doc pm an cdv ct) :=
    ⟨⟨oc, od, _, _, doc, pm, an, cdv, ct, osl, rfl, l, c, .inl ⟨rfl, rfl⟩, .inr ⟨D, rfl, hq⟩⟩, k⟩
  obtain ⟨mv, b⟩ := F.kbinds0 n ks kws (fun us mv ws => us ++ (ws ++ mv)) hk (fun _ z => z) (fun r1 r2 r3 => r1.append (r3.append r2)) h
  exact ⟨f, _, _, M, fun_mk l c k, b⟩
section
variable {X : Cx} {CX : CXT} {k n : Nat} {ps ks : List Str} {ms : List V} {sp : Sp} {E : XK} {x : Str} {C : Addr} {p pos : Pos} {e : Expr} {es : List Expr} {kws : List Keyword} {t tk : TA}
theorem pe_mkG (M : MkG X.prog X.w X.K X.mg X.base CX k x C ps (n + 1) ks ms sp) (hr : Room (k + 1) X.A) (hx : Passes CX X E) (hg : Gl X x) (ha : PA X (e :: es) t) (hkw : PK X kws tk)
    (hall : (backToKw pos (keywordEach kws X.env)).all (·.1.isSome) = true := by rfl) (hks : (backToKw pos (keywordEach kws X.env)).filterMap (·.1) = ks := by rfl)
    (hdb : (x == ("__debug__" : Str)) = false := by decide) (he : starEach (e :: es) X.env = (false, eval e X.env) :: starEach es X.env := by rfl)
    (hpl : ((backTo pos (starEach (e :: es) X.env)).any (·.1) || (backToKw pos (keywordEach kws X.env)).any (·.1.isNone)) = false := by rfl) :
    PE X (.Call (.Name x p) (e :: es) kws pos) (tMakeK C n ks.length sp (fun vs zs => vs ++ (zs ++ ms)) E t tk) := by
  obtain ⟨f, fd, gU, hm, M, hb, F⟩ := M
  exact pe_makeK M F hr hg hm hb hx ha hkw hall hks hdb he hpl
end
theorem sqT_of {K : PySem.W.Frag} {W : Addr} {d : Option Addr} {i : Array Value} {n : Nat} {sl : Array (Option Value)} {xs : List V} (l : K.lookup W = some ⟨.type "tuple", d, .seq i n, sl⟩) (z : i.size ≤ sizeLine) (v : Vals xs i.toList) : ∀ H, SqT K H W xs := fun _ => .inr ⟨_, i, n, l, rfl, rfl, z, v⟩
/-- the __init__ of a class with one written default (a reference) and four keyword-only ones, called with four values -/
def IfW (K : PySem.W.Frag) (C : Addr) (qual : Str) (st : Stmt) (ps : List Str) (kws : List (Str × V)) (e : Addr) : Prop := ∃ (f : Addr) (fd : FuncData) (ds : List Value), Mk K C f ∧ FunD K "__init__" qual (defArgs st) (defBody st) (defScope st) [.ref e] kws f fd ∧ Vals (kws.map (·.2)) ds ∧ Binds K fd ps ds
theorem ifW_mk {K : PySem.W.Frag} {C f D T e : Addr} {qual : Str} {st : Stmt} {ps : List Str} {oc doc pm cdv ct oT : Value} {od an dT : Option Addr} {osl sT : Array (Option Value)} {iT : Array Value} {nT : Nat} (kws : List (Str × V)) (M : Mk K C f)
    (l : K.lookup f = some ⟨oc, od, .func (PySem.W.fnOf "__init__" qual (defArgs st) (defBody st) (defScope st) (.ref T) (.ref D) doc pm an cdv ct), osl⟩) (c : PySem.W.codeIn K cdv qual = true) (k : PySem.W.keepIn K (.ref f) = true)
    (lT : K.lookup T = some ⟨oT, dT, .seq iT nT, sT⟩) (vT : Vals [.ref e] iT.toList) (hq : ∀ q ∈ kws, ∃ u, PySem.W.nsIn K D q.1 = some (some u) ∧ RelV q.2 u) (n : Nat) (hk : kws ≠ []) (hn : n + kws.length = ps.length)
    (h : ∀ (T D : Addr) (doc pm : Value) (an : Option Addr) (cdv ct : Value) (us its ks : List Value), us.length = n → its.length = 1 → ks.length = kws.length →
      ∃ k, bindArgs (PySem.W.fnOf "__init__" qual (defArgs st) (defBody st) (defScope st) (.ref T) (.ref D) doc pm an cdv ct) ⟨us, []⟩ = seqItems? (.ref T) >>= k ∧ KwChain D ((kws.map (·.1)).zip ks) (k (some its.toArray)) (ps.zip (us ++ (its.drop 1 ++ ks)))) : IfW K C qual st ps kws e := by
  have F : FunD K "__init__" qual (defArgs st) (defBody st) (defScope st) [.ref e] kws f (PySem.W.fnOf "__init__" qual (defArgs st) (defBody st) (defScope st) (.ref T) (.ref D) doc pm an cdv ct) :=
    ⟨⟨oc, od, _, _, doc, pm, an, cdv, ct, osl, rfl, l, c, .inr ⟨by simp, T, _, iT.toList, nT, rfl, lT, rfl, vT⟩, .inr ⟨D, rfl, hq⟩⟩, k⟩
  obtain ⟨ds, a, b⟩ := F.binds n 1 (by simp) (by simpa using hn) (fun T D doc pm an cdv ct us its ks h1 h2 h3 => h T D doc pm an cdv ct us its ks h1 h2 h3) hk
  exact ⟨f, _, ds, M, F, by simpa using a, b⟩
theorem un_of {A : Around} {k : Nat} (hr : Room k A) : A.units + 64 < cLine := by
  have q := hr.un
  omega
theorem kBool {K : PySem.W.Frag} : PySem.W.kitOne K (.type "bool") (.type "bool") = some true := kit_ty (by decide +kernel)
theorem kTup {K : PySem.W.Frag} : PySem.W.kitOne K (.type "tuple") (.type "tuple") = some true := kit_ty (by decide +kernel)
theorem eqv_one {z : Str} : PyData.eqv (.tuple [.str z]) (.tuple [.str z]) = true := by simp [PyData.eqv, PyData.eqvAll]
/-- == of any texts, numbers, tuples and lists of such -/
def rEqP (K : PySem.W.Frag) : R2 := fun x y H Q => ∃ d e, Dp K H x d ∧ Dp K H y e ∧ d.plain = true ∧ e.plain = true ∧ d.depth + e.depth ≤ 60 ∧ Q (.bl (PyData.eqv d e)) H
theorem op_eqP {X : Cx} (hu : X.A.units + 64 < cLine) : OpR X (compareOp .Eq) (rEqP X.K) := by
  intro pins s σ H x y v u Q I rx ry h
  obtain ⟨d, e, hd, he, sd, se, hde, q⟩ := h
  obtain ⟨as, r1⟩ := Dp.reads I d x v hd rx
  obtain ⟨bs, r2⟩ := Dp.reads I e y u he ry
  exact SeqAt.eq_plain r1 r2 sd se (by omega) ⟨.bl _, H, I, rfl, q⟩
theorem pl_one {z : Str} : (PyData.tuple [.str z]).plain = true := by simp [PyData.plain, PyData.plainAll]
theorem dp_one {z : Str} : (PyData.tuple [.str z]).depth + (PyData.tuple [.str z]).depth ≤ 60 := by simp [PyData.depth, PyData.depthAll]
end Brk

set_option Elab.async false
set_option linter.all false
set_option maxRecDepth 100000
set_option maxHeartbeats 4000000
/-! Own words: drawn names (small letters and digits, a letter first, 1 to 12 of them, no two alike). -/
namespace Brk
open PySem PySem.Spec PyProof.Rows L2
theorem tl_app {a b : Str} : (a ++ b).cps.toList = a.cps.toList ++ b.cps.toList := by
  show (a.cps ++ b.cps).toList = _
  exact Array.toList_append
theorem tl_len {z : Str} : z.length = z.cps.toList.length := (Array.length_toList).symm
theorem cut_lo {z : Str} {k : Nat} : (cutS z none (some (k : Int))).cps.toList = z.cps.toList.take k := by
  unfold cutS
  rw [HT.sIx_none]
  have e1 : HT.sIx z.length z.length (some (k : Int)) = min k z.length := HT.sIx_nat _ _ k
  rw [e1]
  show ((z.cps.toList.drop 0).take (min k z.length - 0)) = _
  rw [List.drop_zero, Nat.sub_zero, tl_len, List.take_eq_take_iff]
  omega
theorem cut_hi {z : Str} {k : Nat} : (cutS z (some (k : Int)) none).cps.toList = z.cps.toList.drop k := by
  unfold cutS
  have e1 : HT.sIx z.length 0 (some (k : Int)) = min k z.length := HT.sIx_nat _ _ k
  rw [e1, HT.sIx_none]
  show (z.cps.toList.drop (min k z.length)).take (z.length - min k z.length) = _
  rw [List.take_of_length_le (by rw [List.length_drop, ← tl_len]; exact Nat.le_refl _)]
  by_cases h : k ≤ z.length
  · rw [Nat.min_eq_left h]
  · rw [Nat.min_eq_right (by omega), List.drop_eq_nil_of_le (by rw [← tl_len]; exact Nat.le_refl _), List.drop_eq_nil_of_le (by rw [← tl_len]; omega)]
/-- signs of a right name -/
def okL (cs : List Nat) : Prop := 1 ≤ cs.length ∧ cs.length ≤ 12 ∧ (∀ c ∈ cs, signB c = true) ∧ ∀ c, cs.head? = some c → c ∈ letS.cps.toList
theorem name_ok {z : Str} (h : okL z.cps.toList) : nameB z = true := by
  obtain ⟨h1, h2, h3, h4⟩ := h
  rw [Array.length_toList] at h1 h2
  refine name_yes h1 h2 fun j c hc => ?_
  have hl : z.cps.toList[j]? = some c := by rw [← hc]; exact Array.getElem?_toList.symm ▸ rfl
  refine ⟨h3 c (List.mem_of_getElem? hl), fun j0 => h4 c ?_⟩
  subst j0
  rw [List.head?_eq_getElem?]
  exact hl
theorem let_sign {c : Nat} (h : c ∈ letS.cps.toList) : signB c = true := by
  unfold signB
  rw [decide_eq_true h]
  rfl
theorem dig_sign {c : Nat} (h : c ∈ (letS ++ "0123456789").cps.toList) : signB c = true := by
  rw [tl_app] at h
  rcases List.mem_append.mp h with h | h
  · exact let_sign h
  · unfold signB
    rw [show decide (c ∈ digS.cps.toList) = true from decide_eq_true h, Bool.or_true]
theorem ok_let {cs : List Nat} (h1 : 1 ≤ cs.length) (h2 : cs.length ≤ 12) (h : ∀ c ∈ cs, c ∈ letS.cps.toList) : okL cs :=
  ⟨h1, h2, fun c hc => let_sign (h c hc), fun c hc => h c (List.mem_of_mem_head? hc)⟩
theorem ok_cons {c : Nat} {r : List Nat} (hc : c ∈ letS.cps.toList) (hr : r.length ≤ 11) (h : ∀ x ∈ r, signB x = true) : okL (c :: r) := by
  refine ⟨by rw [List.length_cons]; omega, by rw [List.length_cons]; omega, fun x hx => ?_, fun x hx => ?_⟩
  · rcases List.mem_cons.mp hx with rfl | hx
    · exact let_sign hc
    · exact h x hx
  · cases hx
    exact hc
theorem ok_first {cs : List Nat} {c : Nat} (h : okL cs) (hc : c ∈ letS.cps.toList) : okL (c :: cs.drop 1) :=
  ok_cons hc (by have := h.2.1; rw [List.length_drop]; omega) fun x hx => h.2.2.1 x (List.mem_of_mem_drop hx)
theorem ok_put {cs : List Nat} {c k : Nat} (h2 : cs.length ≤ 12) (hk : k < cs.length) (h : ∀ x ∈ cs, x ∈ letS.cps.toList) (hc : c ∈ letS.cps.toList) : okL (cs.take k ++ [c] ++ cs.drop (k + 1)) := by
  have e : (cs.take k ++ [c] ++ cs.drop (k + 1)).length = cs.length := by
    rw [List.length_append, List.length_append, List.length_take, List.length_drop, List.length_singleton]
    omega
  refine ok_let (by rw [e]; omega) (by rw [e]; exact h2) fun x hx => ?_
  rcases List.mem_append.mp hx with hx | hx
  · rcases List.mem_append.mp hx with hx | hx
    · exact h x (List.mem_of_mem_take hx)
    · rw [List.mem_singleton.mp hx]
      exact hc
  · exact h x (List.mem_of_mem_drop hx)
/-- a text of these signs, one by one -/
theorem join_chars {cs : List Nat} : (Txt.join "" (cs.map fun c => (⟨#[c]⟩ : Str))).cps.toList = cs := by
  rw [TL.join_eq]
  have e0 : ("" : Str).cps.toList = [] := by decide +kernel
  induction cs with
  | nil => exact e0
  | cons a r ih =>
    cases r with
    | nil => rfl
    | cons b q =>
      have ih' : (Str.join "" ((b :: q).map fun c => (⟨#[c]⟩ : Str))).cps.toList = b :: q := ih
      show ((⟨#[a]⟩ : Str) ++ ("" : Str) ++ Str.join "" ((b :: q).map fun c => (⟨#[c]⟩ : Str))).cps.toList = _
      rw [tl_app, tl_app, e0, ih']
      rfl
theorem let_at {k : Nat} (h : k < 26) : letS.cps[k]? = some (97 + k) := by
  have q : ∀ k : Fin 26, letS.cps[k.1]? = some (97 + k.1) := by decide +kernel
  exact q ⟨k, h⟩
theorem let_ix (v : Int) : ∃ ch, letS.cps[(v % 26).toNat]? = some ch ∧ ch ∈ letS.cps.toList ∧ ch = 97 + (v % 26).toNat := by
  have h1 := Int.emod_nonneg v (by decide : (26 : Int) ≠ 0)
  have h2 := Int.emod_lt_of_pos v (by decide : (0 : Int) < 26)
  have e := let_at (k := (v % 26).toNat) (by omega)
  refine ⟨_, e, ?_, rfl⟩
  rw [← Array.getElem?_toList] at e
  exact List.mem_of_getElem? e
theorem sg_ix (v : Int) : ∃ ch, (letS ++ "0123456789").cps[(v % 36).toNat]? = some ch ∧ ch ∈ (letS ++ "0123456789").cps.toList := by
  have h1 := Int.emod_nonneg v (by decide : (36 : Int) ≠ 0)
  have h2 := Int.emod_lt_of_pos v (by decide : (0 : Int) < 36)
  have hl : (letS ++ "0123456789").length = 36 := by decide +kernel
  obtain ⟨ch, e⟩ := str_at (z := letS ++ "0123456789") h1 (by omega)
  refine ⟨ch, e, ?_⟩
  rw [← Array.getElem?_toList] at e
  exact List.mem_of_getElem? e
theorem inV_str {z : Str} {xs : List Str} : inV (.str z) (xs.map V.str) = decide (z ∈ xs) := by
  rw [Bool.eq_iff_iff, decide_eq_true_iff]
  unfold inV
  rw [List.any_map, List.any_eq_true]
  constructor
  · rintro ⟨y, hy, e⟩
    have e' : (y == z) = true := e
    rw [← eq_of_beq e']
    exact hy
  · intro h
    exact ⟨z, h, beq_self_eq_true z⟩
theorem flat_strs {xs : List Str} : (xs.map V.str).all flatV = true := by
  rw [List.all_map]
  exact List.all_eq_true.mpr fun _ _ => rfl
/-- the t-th text that is tried in another's place -/
def cnd (tu : Int) (r : List Nat) (t : Nat) : Str := ⟨((97 + ((tu + (t : Int)) % 26).toNat) :: r).toArray⟩
theorem cnd_inj {tu : Int} {r : List Nat} {a b : Nat} (ha : a < 26) (hb : b < 26) (h : cnd tu r a = cnd tu r b) : a = b := by
  have e := congrArg (fun s : Str => s.cps.toList) h
  have e1 := (List.cons.inj (show (97 + ((tu + (a : Int)) % 26).toNat) :: r = (97 + ((tu + (b : Int)) % 26).toNat) :: r from e)).1
  omega
theorem cnd_all {tu : Int} {r : List Nat} {xs : List Str} (hx : xs.length ≤ 25) (h : ∀ t, t < 26 → cnd tu r t ∈ xs) : False := by
  have nd : ((List.range 26).map (cnd tu r)).Nodup := by
    rw [List.nodup_iff_pairwise_ne, List.pairwise_map]
    have q := (List.nodup_iff_pairwise_ne.mp (List.nodup_range (n := 26)))
    refine List.Pairwise.imp_of_mem (fun {a b} ha hb hab e => hab (cnd_inj (List.mem_range.mp ha) (List.mem_range.mp hb) e)) q
  have sb : ((List.range 26).map (cnd tu r)) ⊆ xs := fun y hy => by
    obtain ⟨t, ht, rfl⟩ := List.mem_map.mp hy
    exact h t (List.mem_range.mp ht)
  have l := List.Nodup.length_le_of_subset nd sb
  rw [List.length_map, List.length_range] at l
  omega
theorem But.updN {p l : Addr} {H H1 : Hp} {o : HO} (h : But p H H1) (nl : H l = none) : But p H (L2.upd H1 l o) := fun b u e hb => by
  rw [upd_ne (ne_of_none e nl)]
  exact h b u e hb
theorem sum_one : ∀ cs : List Nat, ((cs.map fun c => (⟨#[c]⟩ : Str)).map (·.length)).sum = cs.length
  | [] => rfl
  | c :: r => by
    have ih := sum_one r
    have e : (⟨#[c]⟩ : Str).length = 1 := rfl
    rw [List.map_cons, List.map_cons, List.sum_cons, ih, List.length_cons, e]
    omega
theorem p26 : (0 : Int) < 26 := by decide
theorem p36 : (0 : Int) < 36 := by decide
theorem p12 : (0 : Int) < 12 := by decide
def spNames : Sp := fun vs H Q _ => ∃ (p c : Addr) (ns : List Int) (m : Int), vs = [.ref p, .int m] ∧ Pool ns c H p ∧ 0 ≤ m ∧ m ≤ 25 ∧
  ∀ (l : Addr) (xs : List Str) (H' : Hp), H l = none → H' l = some (.lst (xs.map V.str)) → (xs.length : Int) = m → (∀ x ∈ xs, nameB x = true) → xs.Nodup → Pool ns c H' p → But p H H' → Q (.ref l) H'
end Brk

set_option Elab.async false
set_option linter.all false
set_option maxRecDepth 100000
set_option maxHeartbeats 4000000
/-! Own words: the first refusal that is due. -/
namespace Brk
open PySem PySem.Spec PyProof.Rows L2
/-- what is refused: the error's class, its field, the value; none: nothing -/
abbrev Du := Option (Addr × Str × V)
def duN (CB : Addr) (z : Str) : Du := if nameB z = true then none else some (CB, "name", .str z)
def duI (CN : Addr) (ok : Bool) (n : Int) : Du := if ok = true then none else some (CN, "number", .int n)
def dor : Du → Du → Du
  | none, b => b
  | some x, _ => some x
theorem dor_none {a b : Du} : dor a b = none ↔ a = none ∧ b = none := by
  cases a <;> simp [dor]
/-- a call that is through (ok), or lets the error o out; what stands at p may have been changed -/
def Out (o : Du) (p : Addr) (H : Hp) (E : XK) (ok : Prop) : Prop := (o = none → ok) ∧ ∀ D f v, o = some (D, f, v) → ∀ (H' : Hp) (d : Addr), But p H H' → H' d = some (.xd [(f, v)]) → E (.ref D) (some d) H'
theorem Out.fst {a b : Du} {p : Addr} {H : Hp} {E : XK} {ok ok' : Prop} (h : Out (dor a b) p H E ok) (k : Out b p H E ok → ok') : Out a p H E ok' := by
  refine ⟨fun e => k ?_, fun D f v e => h.2 D f v (by rw [e]; rfl)⟩
  subst e
  exact h
theorem Out.from {o : Du} {p : Addr} {H H1 : Hp} {E : XK} {ok : Prop} (h : Out o p H E ok) (b : But p H H1) : Out o p H1 E ok := ⟨h.1, fun D f v e H' d b' => h.2 D f v e H' d (b.trans b')⟩
theorem Out.imp {o : Du} {p : Addr} {H : Hp} {E : XK} {ok ok' : Prop} (h : Out o p H E ok) (k : ok → ok') : Out o p H E ok' := ⟨fun e => k (h.1 e), h.2⟩
theorem Out.num {CN : Addr} {b : Bool} {n : Int} {p : Addr} {H : Hp} {E : XK} {ok : Prop} (h : Out (duI CN b n) p H E ok) (hb : b = false) : ∀ (H' : Hp) (d : Addr), But p H H' → H' d = some (.xd [("number", .int n)]) → E (.ref CN) (some d) H' := h.2 _ _ _ (by rw [hb]; rfl)
theorem Out.yes {CN : Addr} {b : Bool} {n : Int} {p : Addr} {H : Hp} {E : XK} {ok : Prop} (h : Out (duI CN b n) p H E ok) (hb : b = true) : ok := h.1 (by rw [hb]; rfl)
theorem Out.noname {CB : Addr} {z : Str} {p : Addr} {H : Hp} {E : XK} {ok : Prop} (h : Out (duN CB z) p H E ok) (hb : nameB z = false) : RefN CB z H E := fun H' d s e => h.2 CB "name" (.str z) (by unfold duN; rw [hb]; rfl) H' d (But.of_same s) e
theorem Out.name {CB : Addr} {z : Str} {p : Addr} {H : Hp} {E : XK} {ok : Prop} (h : Out (duN CB z) p H E ok) (hb : nameB z = true) : ok := h.1 (by unfold duN; rw [hb]; rfl)
/-- lo ≤ n ≤ hi -/
def inB (lo n hi : Int) : Bool := decide (lo ≤ n) && decide (n ≤ hi)
theorem inB_t {lo n hi : Int} (a : lo ≤ n) (b : n ≤ hi) : inB lo n hi = true := by unfold inB; rw [decide_eq_true a, decide_eq_true b]; rfl
theorem inB_l {lo n hi : Int} (a : ¬ lo ≤ n) : inB lo n hi = false := by unfold inB; rw [decide_eq_false a]; rfl
theorem inB_r {lo n hi : Int} (b : ¬ n ≤ hi) : inB lo n hi = false := by unfold inB; rw [decide_eq_false b, Bool.and_false]
def dueT (CN : Addr) (d : Int) : Du := duI CN (inB 0 d 8) d
def dueI (CB CN : Addr) (z : Str) (d : Int) : Du := dor (duN CB z) (dueT CN d)
def dueP (CB CN : Addr) (z : Str) (d l t : Int) : Du := dor (dueI CB CN z d) (dor (duI CN (decide (1 ≤ l)) l) (duI CN (inB l t (l + 8)) t))
def dueB (CB CN : Addr) (z : Str) (d n u y : Int) : Du := dor (dueI CB CN z d) (dor (duI CN (inB 1 n 12) n) (dor (duI CN (decide (1 ≤ u)) u) (duI CN (inB 1 y 64) y)))
def spTimedG (K : PySem.W.Frag) (CN : Addr) : Sp := fun vs H Q E => ∃ (p C dx : Addr) (fs : List (Str × V)) (g m : V) (d : Int), vs = [.ref p, g, m, .int d] ∧ H p = some (.ins C dx fs) ∧ Cls K C ∧ NoAttr K C "grid" ∧ NoAttr K C "minute" ∧ NoAttr K C "delay" ∧ fs.length < 100 ∧
  Out (dueT CN d) p H E (∀ H', H' p = some (.ins C dx (putT g m (.int d) fs)) → But p H H' → Q .non H')
def spItemG (K : PySem.W.Frag) (CB CN : Addr) : Sp := fun vs H Q E => ∃ (p C dx : Addr) (fs : List (Str × V)) (z : Str) (g m : V) (d : Int), vs = [.ref p, .str z, g, m, .int d] ∧ H p = some (.ins C dx fs) ∧ ItemC K C ∧ z.length ≤ 1000 ∧ fs.length < 90 ∧
  Out (dueI CB CN z d) p H E (∀ H', H' p = some (.ins C dx (putI z g m (.int d) fs)) → But p H H' → Q .non H')
def putP (z : Str) (g m : V) (l t d : Int) : List (Str × V) := putF "most" (.int t) (putF "least" (.int l) (putI z g m (.int d) []))
def spPieceG (K : PySem.W.Frag) (CB CN : Addr) : Sp := fun vs H Q E => ∃ (p C dx : Addr) (z : Str) (g m : V) (l t d : Int), vs = [.ref p, .str z, g, .int l, .int t, m, .int d] ∧ H p = some (.ins C dx []) ∧ ItemC K C ∧ NoAttr K C "least" ∧ NoAttr K C "most" ∧ z.length ≤ 1000 ∧
  Out (dueP CB CN z d l t) p H E (∀ H', H' p = some (.ins C dx (putP z g m l t d)) → But p H H' → Q .non H')
def putB (z : Str) (g m : V) (n u d y : Int) : List (Str × V) := putF "patience" (.int y) (putF "unit" (.int u) (putF "places" (.int n) (putI z g m (.int d) [])))
def spBreakG (K : PySem.W.Frag) (CB CN : Addr) : Sp := fun vs H Q E => ∃ (p C dx : Addr) (z : Str) (g m : V) (n u d y : Int), vs = [.ref p, .str z, g, m, .int n, .int u, .int d, .int y] ∧ H p = some (.ins C dx []) ∧ ItemC K C ∧ NoAttr K C "places" ∧ NoAttr K C "unit" ∧ NoAttr K C "patience" ∧ z.length ≤ 1000 ∧
  Out (dueB CB CN z d n u y) p H E (∀ H', H' p = some (.ins C dx (putB z g m n u d y)) → But p H H' → Q .non H')
theorem But.made {H H1 : Hp} {a d p : Addr} (nd : H d = none) (b : But p H H1) (e : H1 d = none) {o : HO} : But p H (L2.upd H1 d o) := b.updN nd
/-! ### what a law reckons as due -/
def spEdge : Sp := fun vs H Q _ => ∃ (p c : Addr) (ns : List Int) (lo hi : Int), vs = [.ref p, .int lo, .int hi] ∧ Pool ns c H p ∧ lo ≤ hi ∧ hi - lo < 10 ^ 27 ∧ ∀ (r : Int) (H' : Hp), Pool ns c H' p → But p H H' → Q (.int r) H'
/-- a number, its least and its greatest value (none: no greatest) -/
abbrev QRow := Int × Int × Option Int
def badQ (q : QRow) : Bool := decide (q.1 < q.2.1) || (match q.2.2 with | none => false | some h => decide (q.1 > h))
def fstBad : List QRow → Option Int
  | [] => none
  | q :: r => if badQ q = true then some q.1 else fstBad r
def RowsQ (H : Hp) : List Addr → List QRow → Prop
  | [], [] => True
  | a :: as, q :: qs => H a = some (.tup [.int q.1, .int q.2.1, vOpt q.2.2]) ∧ RowsQ H as qs
  | _, _ => False
theorem RowsQ.same {H H' : Hp} (s : Same H H') : ∀ {as : List Addr} {qs : List QRow}, RowsQ H as qs → RowsQ H' as qs
  | [], [], _ => trivial
  | _ :: _, _ :: _, h => ⟨s _ _ h.1, RowsQ.same s h.2⟩
  | [], _ :: _, h => h.elim
  | _ :: _, [], h => h.elim
theorem RowsQ.len {H : Hp} : ∀ {as : List Addr} {qs : List QRow}, RowsQ H as qs → as.length = qs.length
  | [], [], _ => rfl
  | _ :: _, _ :: _, h => congrArg Nat.succ (RowsQ.len h.2)
  | [], _ :: _, h => h.elim
  | _ :: _, [], h => h.elim
theorem RowsQ.at_ {H : Hp} : ∀ {as : List Addr} {qs : List QRow} {i : Nat} {x : V}, RowsQ H as qs → (as.map V.ref)[i]? = some x → ∃ a q, x = .ref a ∧ qs[i]? = some q ∧ H a = some (.tup [.int q.1, .int q.2.1, vOpt q.2.2])
  | [], _, i, x, _, e => by simp at e
  | a :: as, q :: qs, 0, x, h, e => ⟨a, q, by simpa using e.symm, rfl, h.1⟩
  | a :: as, q :: qs, i + 1, x, h, e => by
    obtain ⟨b, r, e1, e2, e3⟩ := RowsQ.at_ (i := i) h.2 (by simpa using e)
    exact ⟨b, r, e1, by simpa using e2, e3⟩
  | _ :: _, [], _, _, h, _ => h.elim
theorem drop_at {α : Type} {l : List α} {i : Nat} {x : α} (h : l[i]? = some x) : l.drop i = x :: l.drop (i + 1) := by
  obtain ⟨h1, h2⟩ := List.getElem?_eq_some_iff.mp h
  rw [List.drop_eq_getElem_cons h1, h2]
def spDueL : Sp := fun vs H Q _ => ∃ (z : Str) (r : Addr) (as : List Addr) (qs : List QRow), vs = [.str z, .ref r] ∧ z.length ≤ 1000 ∧ H r = some (.lst (as.map V.ref)) ∧ RowsQ H as qs ∧
  (nameB z = false → ∀ t, H t = none → Q (.ref t) (L2.upd H t (.tup [.str "name", .str z]))) ∧
  (nameB z = true → ∀ n, fstBad qs = some n → ∀ t, H t = none → Q (.ref t) (L2.upd H t (.tup [.str "number", .int n]))) ∧ (nameB z = true → fstBad qs = none → Q .non H)
/-- lists of n ints at the addresses -/
def RowsL (H : Hp) (n : Nat) (as : List Addr) : Prop := ∀ a ∈ as, ∃ ys : List Int, H a = some (.lst (ys.map V.int)) ∧ ys.length = n
theorem RowsL.same {H H' : Hp} {n : Nat} {as : List Addr} (h : RowsL H n as) (s : Same H H') : RowsL H' n as := fun a ha => by
  obtain ⟨ys, e, l⟩ := h a ha
  exact ⟨ys, s _ _ e, l⟩
theorem RowsL.off {H H' : Hp} {n : Nat} {as : List Addr} {p : Addr} (h : RowsL H n as) (s : Off p H H') (hp : ∀ a ∈ as, a ≠ p) : RowsL H' n as := fun a ha => by
  obtain ⟨ys, e, l⟩ := h a ha
  exact ⟨ys, (s a (hp a ha)).trans e, l⟩
def spTurned : Sp := fun vs H Q _ => ∃ (r e : Addr) (xs : List Int) (es : List Addr), vs = [.ref r, .ref e] ∧ H r = some (.lst (xs.map V.int)) ∧ H e = some (.lst (es.map V.ref)) ∧ es.length = xs.length ∧ xs.length ≤ 10 ∧
  (∀ a ∈ es, ∃ ys : List Int, H a = some (.lst (ys.map V.int)) ∧ ys.length ≤ 10) ∧
  ∀ (l : Addr) (rows : List Addr) (H' : Hp), Same H H' → H' l = some (.lst (rows.map V.ref)) → RowsL H' xs.length rows → rows.length ≤ 100 → (∀ a ∈ rows, a ≠ l) → Q (.ref l) H'
theorem ix_of {n j : Nat} (h : j < n) : ixN n (j : Int) = some j := by
  have h1 : (0 : Int) ≤ (j : Int) := Int.natCast_nonneg j
  have h2 : (j : Int) < (n : Int) := Int.ofNat_lt.mpr h
  simp [ixN, h1, h2]
/-- the bounds of the numbers of an item: door 0 Timed, 1 Item, 2 Piece, 3 Break -/
def bQ (n a b c e : Int) : List QRow := (a, 0, some 8) :: (if n = 2 then [(b, 1, none), (c, b, some (b + 8))] else if n = 3 then [(b, 1, some 12), (c, 1, none), (e, 1, some 64)] else [])
def spBounds : Sp := fun vs H Q _ => ∃ (n : Int) (l : Addr) (a b c : Int) (rest : List Int), vs = [.int n, .ref l] ∧ H l = some (.lst ((a :: b :: c :: rest).map V.int)) ∧ (n = 3 → ∃ e, rest = [e]) ∧
  ∀ (r : Addr) (as : List Addr) (H' : Hp), Same H H' → H' r = some (.lst (as.map V.ref)) → RowsQ H' as (bQ n a b c (rest.headD 0)) → Q (.ref r) H'
theorem bad_in {lo n hi : Int} : badQ (n, lo, some hi) = !inB lo n hi := by
  unfold badQ inB
  by_cases h1 : lo ≤ n
  · by_cases h2 : n ≤ hi
    · simp [h1, h2]
    · have h3 : hi < n := by omega
      simp [h1, h2, h3]
  · have h3 : n < lo := by omega
    simp [h1, h3]
theorem bad_lo {lo n : Int} : badQ (n, lo, none) = !decide (lo ≤ n) := by
  unfold badQ
  by_cases h1 : lo ≤ n
  · simp [h1]
  · have h3 : n < lo := by omega
    simp [h1, h3]
/-- the first refusal, as the law tells it -/
def toDu (CB CN : Addr) (z : Str) (qs : List QRow) : Du := if nameB z = true then (match fstBad qs with | none => none | some n => some (CN, "number", .int n)) else some (CB, "name", .str z)
def numDu (CN : Addr) (qs : List QRow) : Du := match fstBad qs with | none => none | some n => some (CN, "number", .int n)
theorem numDu_cons {CN : Addr} {q : QRow} {r : List QRow} : numDu CN (q :: r) = dor (duI CN (!badQ q) q.1) (numDu CN r) := by
  unfold numDu duI
  cases h : badQ q <;> simp [fstBad, h, dor]
theorem dor_assoc {a b c : Du} : dor (dor a b) c = dor a (dor b c) := by
  cases a <;> rfl
theorem dor_nil {a : Du} : dor a none = a := by
  cases a <;> rfl
theorem toDu_eq {CB CN : Addr} {z : Str} {qs : List QRow} : toDu CB CN z qs = dor (duN CB z) (numDu CN qs) := by
  unfold toDu duN numDu
  cases nameB z <;> rfl
theorem dueT_eq {CN : Addr} {a b c e : Int} : dueT CN a = numDu CN (bQ 0 a b c e) := by
  show _ = numDu CN [(a, 0, some 8)]
  rw [numDu_cons, bad_in, Bool.not_not]
  exact dor_nil.symm
theorem dueI_eq {CB CN : Addr} {z : Str} {a b c e : Int} : dueI CB CN z a = toDu CB CN z (bQ 1 a b c e) := by
  rw [toDu_eq]
  show _ = dor (duN CB z) (numDu CN [(a, 0, some 8)])
  rw [numDu_cons, bad_in, Bool.not_not]
  show dor (duN CB z) (dueT CN a) = _
  rw [show numDu CN [] = none from rfl, dor_nil]
  rfl
theorem dueP_eq {CB CN : Addr} {z : Str} {a b c e : Int} : dueP CB CN z a b c = toDu CB CN z (bQ 2 a b c e) := by
  rw [toDu_eq]
  show _ = dor (duN CB z) (numDu CN [(a, 0, some 8), (b, 1, none), (c, b, some (b + 8))])
  rw [numDu_cons, numDu_cons, numDu_cons, bad_in, bad_in, bad_lo, Bool.not_not, Bool.not_not, Bool.not_not, show numDu CN [] = none from rfl, dor_nil]
  unfold dueP dueI dueT
  rw [dor_assoc]
theorem dueB_eq {CB CN : Addr} {z : Str} {a b c e : Int} : dueB CB CN z a b c e = toDu CB CN z (bQ 3 a b c e) := by
  rw [toDu_eq]
  show _ = dor (duN CB z) (numDu CN [(a, 0, some 8), (b, 1, some 12), (c, 1, none), (e, 1, some 64)])
  rw [numDu_cons, numDu_cons, numDu_cons, numDu_cons, bad_in, bad_in, bad_in, bad_lo, Bool.not_not, Bool.not_not, Bool.not_not, Bool.not_not, show numDu CN [] = none from rfl, dor_nil]
  unfold dueB dueI dueT
  rw [dor_assoc]
/-! ### keywords in another order -/
def pm {α : Type} (is : List Nat) (ws : List α) : List α := is.filterMap fun i => ws[i]?
theorem Vals.pm {vs : List V} {us : List Value} (r : Vals vs us) : ∀ is : List Nat, Vals (Brk.pm is vs) (Brk.pm is us)
  | [] => .nil
  | i :: is => by
    have ih := Vals.pm r is
    unfold Brk.pm at ih ⊢
    cases h : vs[i]? with
    | none =>
      have l := r.length
      have h2 : us[i]? = none := List.getElem?_eq_none_iff.mpr (by rw [← l]; exact List.getElem?_eq_none_iff.mp h)
      rw [List.filterMap_cons_none h, List.filterMap_cons_none h2]
      exact ih
    | some x =>
      obtain ⟨u, h2, r2⟩ := r.get h
      rw [List.filterMap_cons_some h, List.filterMap_cons_some h2]
      exact .cons r2 ih
def IfP (K : PySem.W.Frag) (C : Addr) (qual : Str) (st : Stmt) (ps : List Str) (n : Nat) (ks : List Str) (is : List Nat) : Prop := ∃ (f : Addr) (fd : FuncData), Mk K C f ∧ Fun K "__init__" qual st f fd ∧ KBn K fd ps n ks (fun us ws => us ++ pm is ws) (fun vs zs => vs ++ pm is zs)
def MkP (P : Program) (w : World) (K : PySem.W.Frag) (mg : Str → Option Value) (base : Heap) (CX : CXT) (k : Nat) (x : Str) (C : Addr) (ps : List Str) (n : Nat) (ks : List Str) (is : List Nat) (sp : Sp) : Prop :=
  ∃ (f : Addr) (fd : FuncData), mg x = some (.ref C) ∧ Mk K C f ∧ KBn K fd ps n ks (fun us ws => us ++ pm is ws) (fun vs zs => vs ++ pm is zs) ∧ FnOk P w K mg base CX k f fd ps sp
section
variable {X : Cx} {CX : CXT} {k n : Nat} {ps ks : List Str} {is : List Nat} {sp : Sp} {E : XK} {x : Str} {C : Addr} {p pos : Pos} {e : Expr} {es : List Expr} {kws : List Keyword} {t tk : TA}
theorem pe_mkP (M : MkP X.prog X.w X.K X.mg X.base CX k x C ps (n + 1) ks is sp) (hr : Room (k + 1) X.A) (hx : Passes CX X E) (hg : Gl X x) (ha : PA X (e :: es) t) (hkw : PK X kws tk)
    (hall : (backToKw pos (keywordEach kws X.env)).all (·.1.isSome) = true := by rfl) (hks : (backToKw pos (keywordEach kws X.env)).filterMap (·.1) = ks := by rfl)
    (hdb : (x == ("__debug__" : Str)) = false := by decide) (he : starEach (e :: es) X.env = (false, eval e X.env) :: starEach es X.env := by rfl)
    (hpl : ((backTo pos (starEach (e :: es) X.env)).any (·.1) || (backToKw pos (keywordEach kws X.env)).any (·.1.isNone)) = false := by rfl) :
    PE X (.Call (.Name x p) (e :: es) kws pos) (tMakeN C n ks.length sp (fun vs zs => vs ++ pm is zs) E t tk) := by
  obtain ⟨f, fd, hm, M, hb, F⟩ := M
  exact pe_makeN M F hr hg hm hb hx ha hkw hall hks hdb he hpl
end
/-! ### an item made, or the first refusal -/
def OutS (o : Du) (H : Hp) (E : XK) (ok : Prop) : Prop := (o = none → ok) ∧ ∀ D f v, o = some (D, f, v) → ∀ (H' : Hp) (d : Addr), Same H H' → H' d = some (.xd [(f, v)]) → E (.ref D) (some d) H'
theorem OutS.to {o : Du} {H : Hp} {E : XK} {ok ok' : Prop} {x dx C : Addr} (h : OutS o H E ok) (nx : H x = none) (nd : H dx = none) (k : ok → ok') : Out o x (L2.upd (L2.upd H dx (.own x)) x (.ins C dx [])) E ok' :=
  ⟨fun e => k (h.1 e), fun D f v e H' d b e2 => h.2 D f v e H' d (Same.inst nx nd b) e2⟩
/-- the refusal that is due at a door -/
def dueD (CB CN : Addr) (z : Str) (n a b c e : Int) : Du := if n = 0 then numDu CN (bQ 0 a b c e) else toDu CB CN z (bQ n a b c e)
structure TmC (K : PySem.W.Frag) (C CT : Addr) : Prop where
  c : Cls K C
  o : OwnI K C
  k : PySem.W.kitOne K (.ref C) (.ref CT) = some true
def spMade9 (K : PySem.W.Frag) (CB CN CT CK : Addr) : Sp := fun vs H Q E => ∃ (n : Int) (z : Str) (g m : V) (l : Addr) (a b c : Int) (rest : List Int), vs = [.int n, .str z, g, m, .ref l] ∧ 0 ≤ n ∧ n ≤ 3 ∧ z.length ≤ 1000 ∧ H l = some (.lst ((a :: b :: c :: rest).map V.int)) ∧ (n = 3 → ∃ e, rest = [e]) ∧
  OutS (dueD CB CN z n a b c (rest.headD 0)) H E (∀ x H', Same H H' → ((n ≤ 2 ∧ ∃ C dx fs, H' x = some (.ins C dx fs) ∧ TmC K C CT) ∨ (n = 3 ∧ ∃ dx, H' x = some (.ins CK dx (putB z g m b c a (rest.headD 0))))) → Q (.ref x) H')
def spRefd (CB CN : Addr) : Sp := fun vs H Q _ => ∃ (ex t D d : Addr) (f : Str) (v : V), vs = [.ref ex, .ref t] ∧ H ex = some (ExH (.ref D) (some d) ex) ∧ H d = some (.xd [(f, v)]) ∧ H t = some (.tup [.str f, v]) ∧
  ((D = CB ∧ f = "name" ∧ ∃ z, v = .str z) ∨ (D = CN ∧ f = "number" ∧ ∃ n, v = .int n)) ∧ ∀ H', Same H H' → Q (.bl true) H'
/-! ### properties -/
def Pf (K : PySem.W.Frag) (C : Addr) (f qual : Str) (st : Stmt) : Prop := ∃ (p g : Addr) (fd : FuncData), PropOf K C f p g ∧ Fun K f qual st g fd ∧ Binds K fd ["self"] []
def Pe (P : Program) (w : World) (K : PySem.W.Frag) (mg : Str → Option Value) (base : Heap) (CX : CXT) (k : Nat) (C : Addr) (f : Str) (sp : Sp) : Prop := ∃ (p g : Addr) (fd : FuncData), PropOf K C f p g ∧ Binds K fd ["self"] [] ∧ FnOk P w K mg base CX k g fd ["self"] sp
theorem pe_pr {X : Cx} {CX : CXT} {k : Nat} {C : Addr} {f : Str} {sp : Sp} {E : XK} {e : Expr} {pos : Pos} {ta : TE} (M : Pe X.prog X.w X.K X.mg X.base CX k C f sp) (c : Cls X.K C) (hr : Room (k + 1) X.A) (hx : Passes CX X.nox E) (he : PE X e ta)
    (hab : attributeBase e f X.env (eval e X.env) = eval e X.env := by rfl) : PE X (.Attribute e f pos) (tProp C sp [] E ta) := by
  obtain ⟨p, g, fd, hp, hb, F⟩ := M
  exact pe_prop he c hp F hr hb .nil hx hab
def spLength (C : Addr) : Sp := fun vs H Q _ => ∃ (a dx : Addr) (fs : List (Str × V)) (n u : Int), vs = [.ref a] ∧ H a = some (.ins C dx fs) ∧ fs.lookup ("places" : Str) = some (.int n) ∧ fs.lookup ("unit" : Str) = some (.int u) ∧ 1 ≤ n ∧ n ≤ 12 ∧ Q (.int (n * u)) H
def spLimit (C CG : Addr) : Sp := fun vs H Q _ => ∃ (a dx g : Addr) (fs : List (Str × V)) (y pt s o : Int), vs = [.ref a] ∧ H a = some (.ins C dx fs) ∧ fs.lookup ("grid" : Str) = some (.ref g) ∧ fs.lookup ("minute" : Str) = some (.int y) ∧ fs.lookup ("patience" : Str) = some (.int pt) ∧
  GridAt CG H g s o ∧ 1 ≤ pt ∧ pt ≤ 64 ∧ Q (.int (barOf s o y + (pt - 1) * s)) H
theorem putB_grid {z : Str} {g m : V} {n u d y : Int} : (putB z g m n u d y).lookup ("grid" : Str) = some g := by
  unfold putB putI
  rw [look_ne (by decide +kernel), look_ne (by decide +kernel), look_ne (by decide +kernel), putT_grid]
theorem putB_min {z : Str} {g m : V} {n u d y : Int} : (putB z g m n u d y).lookup ("minute" : Str) = some m := by
  unfold putB putI
  rw [look_ne (by decide +kernel), look_ne (by decide +kernel), look_ne (by decide +kernel), putT_min]
theorem putB_pat {z : Str} {g m : V} {n u d y : Int} : (putB z g m n u d y).lookup ("patience" : Str) = some (.int y) := by
  unfold putB
  rw [look_put]
theorem putB_unit {z : Str} {g m : V} {n u d y : Int} : (putB z g m n u d y).lookup ("unit" : Str) = some (.int u) := by
  unfold putB
  rw [look_ne (by decide +kernel), look_put]
theorem putB_places {z : Str} {g m : V} {n u d y : Int} : (putB z g m n u d y).lookup ("places" : Str) = some (.int n) := by
  unfold putB
  rw [look_ne (by decide +kernel), look_ne (by decide +kernel), look_put]
theorem numDu_some {CN D : Addr} {f : Str} {v : V} {qs : List QRow} (h : numDu CN qs = some (D, f, v)) : D = CN ∧ f = "number" ∧ ∃ n, v = .int n ∧ fstBad qs = some n := by
  unfold numDu at h
  cases e : fstBad qs with
  | none => rw [e] at h; cases h
  | some n =>
    rw [e] at h
    cases h
    exact ⟨rfl, rfl, n, rfl, rfl⟩
theorem toDu_some {CB CN D : Addr} {z f : Str} {v : V} {qs : List QRow} (h : toDu CB CN z qs = some (D, f, v)) : (D = CB ∧ f = "name" ∧ v = .str z ∧ nameB z = false) ∨ (D = CN ∧ f = "number" ∧ (∃ n, v = .int n ∧ fstBad qs = some n) ∧ nameB z = true) := by
  unfold toDu at h
  cases hz : nameB z with
  | false =>
    rw [hz] at h
    cases h
    exact .inl ⟨rfl, rfl, rfl, rfl⟩
  | true =>
    rw [hz, if_pos rfl] at h
    obtain ⟨a, b, c⟩ := numDu_some (CN := CN) h
    exact .inr ⟨a, b, c, rfl⟩
theorem dueD_some {CB CN D : Addr} {z f : Str} {v : V} {n a b c e : Int} (h : dueD CB CN z n a b c e = some (D, f, v)) : (D = CB ∧ f = "name" ∧ ∃ z, v = .str z) ∨ (D = CN ∧ f = "number" ∧ ∃ n, v = .int n) := by
  unfold dueD at h
  split at h
  · obtain ⟨x, y, n, q, _⟩ := numDu_some h
    exact .inr ⟨x, y, n, q⟩
  · rcases toDu_some h with ⟨x, y, q, _⟩ | ⟨x, y, ⟨n, q, _⟩, _⟩
    · exact .inl ⟨x, y, _, q⟩
    · exact .inr ⟨x, y, n, q⟩
/-- what the law reckons, as a value -/
def DueV (o : Du) (H : Hp) (dv : V) : Prop := (o = none ∧ dv = .non) ∨ ∃ D f v t, o = some (D, f, v) ∧ dv = .ref t ∧ H t = some (.tup [.str f, v])
theorem DueV.same {o : Du} {H H' : Hp} {dv : V} (h : DueV o H dv) (s : Same H H') : DueV o H' dv := by
  rcases h with h | ⟨D, f, v, t, a, b, c⟩
  · exact .inl h
  · exact .inr ⟨D, f, v, t, a, b, s _ _ c⟩
def spAsked9 : Sp := fun vs H Q _ => ∃ (n : Int) (z : Str) (gr l : Addr) (st off y a b c : Int) (rest : List Int), vs = [.int n, .str z, .ref gr, .int y, .ref l] ∧ 0 ≤ n ∧ n ≤ 3 ∧ z.length ≤ 1000 ∧ H gr = some (.tup [.int st, .int off]) ∧ 1 ≤ st ∧ H l = some (.lst ((a :: b :: c :: rest).map V.int)) ∧ (n = 3 → ∃ e, rest = [e]) ∧
  ∀ H', Same H H' → Q (.bl true) H'
theorem bQ_good {a b c e : Int} (h : fstBad (bQ 3 a b c e) = none) : (1 ≤ b ∧ b ≤ 12) ∧ 1 ≤ c ∧ 1 ≤ e ∧ e ≤ 64 := by
  have h' : fstBad [(a, 0, some 8), (b, 1, some 12), (c, 1, none), (e, 1, some 64)] = none := h
  simp only [fstBad, bad_in, bad_lo] at h'
  unfold inB at h'
  by_cases h1 : 1 ≤ b <;> by_cases h2 : b ≤ 12 <;> by_cases h3 : 1 ≤ c <;> by_cases h4 : 1 ≤ e <;> by_cases h5 : e ≤ 64 <;> by_cases h6 : 0 ≤ a <;> by_cases h7 : a ≤ 8 <;> simp [h1, h2, h3, h4, h5, h6, h7] at h' ⊢
/-- what stands behind the try -/
def TryV (K : PySem.W.Frag) (CT CK : Addr) (n : Int) (z : Str) (g m : V) (a b c e : Int) (o : Du) (H : Hp) (fv vv : V) : Prop :=
  (o = none ∧ fv = .non ∧ ∃ x, vv = .ref x ∧ ((n ≤ 2 ∧ ∃ C dx fs, H x = some (.ins C dx fs) ∧ TmC K C CT) ∨ (n = 3 ∧ ∃ dx, H x = some (.ins CK dx (putB z g m b c a e))))) ∨
  ∃ D f v ex d, o = some (D, f, v) ∧ fv = .ref ex ∧ H ex = some (ExH (.ref D) (some d) ex) ∧ H d = some (.xd [(f, v)])
theorem TryV.same {K : PySem.W.Frag} {CT CK : Addr} {n : Int} {z : Str} {g m : V} {a b c e : Int} {o : Du} {H H' : Hp} {fv vv : V} (h : TryV K CT CK n z g m a b c e o H fv vv) (s : Same H H') : TryV K CT CK n z g m a b c e o H' fv vv := by
  rcases h with ⟨h1, h2, x, h3, h⟩ | ⟨D, f, v, ex, d, h1, h2, h3, h4⟩
  · refine .inl ⟨h1, h2, x, h3, ?_⟩
    rcases h with ⟨q, C, dx, fs, e, t⟩ | ⟨q, dx, e⟩
    · exact .inl ⟨q, C, dx, fs, s _ _ e, t⟩
    · exact .inr ⟨q, dx, s _ _ e⟩
  · exact .inr ⟨D, f, v, ex, d, h1, h2, s _ _ h3, s _ _ h4⟩
theorem toDu_f {CB CN : Addr} {z : Str} {qs : List QRow} (h : nameB z = false) : toDu CB CN z qs = (some (CB, "name", .str z) : Du) := by unfold toDu; rw [h]; rfl
theorem toDu_n {CB CN : Addr} {z : Str} {qs : List QRow} {m : Int} (h : nameB z = true) (h2 : fstBad qs = some m) : toDu CB CN z qs = (some (CN, "number", .int m) : Du) := by unfold toDu; rw [h, h2]; rfl
theorem toDu_0 {CB CN : Addr} {z : Str} {qs : List QRow} (h : nameB z = true) (h2 : fstBad qs = none) : toDu CB CN z qs = none := by unfold toDu; rw [h, h2]; rfl
theorem name_le {z : Str} (h : nameB z = true) : z.length ≤ 12 := by
  by_cases q : 1 ≤ z.cps.size ∧ z.cps.size ≤ 12
  · exact q.2
  · rw [name_len q] at h
    cases h
theorem rowsL_one {H : Hp} {n : Nat} {a : Addr} {ys : List Int} (e : H a = some (.lst (ys.map V.int))) (l : ys.length = n) : ∃ ys : List Int, H a = some (.lst (ys.map V.int)) ∧ ys.length = n := ⟨ys, e, l⟩
/-- what the drawing of k09 leaves -/
structure Drawn9 (H : Hp) (gr r mx lg : Addr) (st off : Int) : Prop where
  g : H gr = some (.tup [.int st, .int off])
  r : ∃ ys : List Int, H r = some (.lst (ys.map V.int)) ∧ ys.length = 4
  m : ∃ ys : List Int, H mx = some (.lst (ys.map V.int)) ∧ ys.length = 4
  l : ∃ ys : List Int, H lg = some (.lst (ys.map V.int)) ∧ ys.length = 3
theorem Drawn9.same {H H' : Hp} {gr r mx lg : Addr} {st off : Int} (h : Drawn9 H gr r mx lg st off) (s : Same H H') : Drawn9 H' gr r mx lg st off := by
  obtain ⟨a, ⟨y1, b, b2⟩, ⟨y2, c, c2⟩, ⟨y3, d, d2⟩⟩ := h
  exact ⟨s _ _ a, ⟨y1, s _ _ b, b2⟩, ⟨y2, s _ _ c, c2⟩, ⟨y3, s _ _ d, d2⟩⟩
theorem ref_int {H : Hp} {as : List Addr} {i : Nat} {x : V} (h : (as.map V.ref)[i]? = some x) : ∃ a, a ∈ as ∧ x = .ref a := by
  rw [List.getElem?_map] at h
  cases e : as[i]? with
  | none => rw [e] at h; cases h
  | some a => rw [e] at h; exact ⟨a, List.mem_of_getElem? e, (Option.some.inj h).symm⟩
theorem three_of {ys : List Int} (h : ys.length = 3) : ∃ a b c, ys = a :: b :: c :: [] := by
  match ys, h with
  | [a, b, c], _ => exact ⟨a, b, c, rfl⟩
theorem four_of {ys : List Int} (h : ys.length = 4) : ∃ a b c d, ys = a :: b :: c :: [d] := by
  match ys, h with
  | [a, b, c, d], _ => exact ⟨a, b, c, d, rfl⟩
end Brk

set_option Elab.async false
set_option linter.all false
set_option maxRecDepth 100000
set_option maxHeartbeats 4000000
/-! Own rules: len(..) and + of an own class; a try with several clauses that name their exception; an own class's maker and method within a try. -/
namespace Brk
open PySem PySem.Spec PyProof.Rows L2
section
variable {X : Cx} {CX : CXT} {k : Nat} {ps : List Str} {sp : Sp} {E : XK} {pins : List (Addr × Obj)} {σ : L2.St} {H : Hp} {s : Shared}
/-- a def that a built-in calls -/
theorem run_in1 {f : Addr} {fd : FuncData} {us : List Value} {vs : List V} {Q : VK} (F : FnOk X.prog X.w X.K X.mg X.base CX k f fd ps sp) (room : Room (k + 1) X.A) (binds : Binds X.K fd ps []) (pass : Passes CX X E) (I : Inv X pins σ H s)
    (rel : Vals vs us) (h : sp vs H Q E) : wpAny (model X.prog X.w) X.A.in1 (call (.ref f) us) (EP X pins σ Q) X.xe s := by
  have len : us.length = ps.length := (rel.length).symm.trans (F.len _ _ _ _ h)
  have b := binds s us I.kIn (by simpa using len)
  rw [List.append_nil] at b
  refine wpAny_call (codeAny_mono (F.run X.A.in1 X.stack s H ⟨us, []⟩ us vs Q E room.in1 I.env0.in1 b rel h) ?_)
  intro o s1 hq
  cases o with
  | error e => exact pass pins σ H s e s1 I hq
  | ok fl =>
    cases fl with
    | ret u => exact I.after hq
    | next => exact hq.elim
    | brk => exact hq.elim
    | cont => exact hq.elim
/-- len(x), x of an own class with the method -/
theorem call_lenM {C : Addr} (M : Me X.prog X.w X.K X.mg X.base CX k C "__len__" ["self"] sp) (room : Room (k + 1) X.A) (pass : Passes CX X E) :
    CallR X (.builtin "len") (fun xs H Q => ∃ (a dx : Addr) (fs : List (Str × V)), xs = [.ref a] ∧ H a = some (.ins C dx fs) ∧ sp [.ref a] H (fun v H1 => ∃ n : Int, v = .int n ∧ (0 ≤ n ∧ n < 2 ^ 63) ∧ Q (.int n) H1) E) := by
  intro pins s σ H xs us Q I r h
  obtain ⟨a, dx, fs, rfl, ea, q⟩ := h
  obtain ⟨f, fd, hm, hb, F⟩ := M
  obtain ⟨u, rfl, ru⟩ := vals1 r
  obtain rfl : u = Value.ref a := ru
  obtain ⟨mA, O, _⟩ := ins_get I.hok ea
  obtain ⟨od, J, _⟩ := O.look
  obtain ⟨m, fr⟩ := I.fr
  refine PySem.W.len_K fr I.ok.mod.kin J hm.at_ hm.fn (wpAny_mono (run_in1 (us := [.ref a]) (vs := [.ref a]) F room hb pass I (.cons rfl .nil) q) ?_ fun _ _ z => z)
  intro v s1 hh
  obtain ⟨x, H1, I1, rx, n, e, hn, q1⟩ := hh
  subst e
  obtain ⟨t, rfl⟩ := rx
  exact ⟨hn, .int n, H1, I1.tok _, ⟨_, rfl⟩, q1⟩
/-- x + y, both of an own class with the method -/
theorem op_addM {C : Addr} {o2 : Str} (M : Me X.prog X.w X.K X.mg X.base CX k C "__add__" ["self", o2] sp) (room : Room k X.A) (pass : Passes CX X E) (sf : PySem.W.selfFirst X.K C = true) :
    OpR X (binaryOp .Add) (fun x y H Q => ∃ (a b dx dy : Addr) (fs gs : List (Str × V)), x = .ref a ∧ y = .ref b ∧ H a = some (.ins C dx fs) ∧ H b = some (.ins C dy gs) ∧ sp [.ref a, .ref b] H (fun v H1 => (∃ p, v = .ref p) ∧ Q v H1) E) := by
  intro pins s σ H x y v u Q I rx ry h
  obtain ⟨a, b, dx, dy, fs, gs, rfl, rfl, ea, eb, q⟩ := h
  obtain ⟨f, fd, hm, hb, F⟩ := M
  obtain rfl : v = Value.ref a := rx
  obtain rfl : u = Value.ref b := ry
  obtain ⟨mA, O, _⟩ := ins_get I.hok ea
  obtain ⟨od, J, _⟩ := O.look
  obtain ⟨mB, O2, _⟩ := ins_get I.hok eb
  obtain ⟨od2, J2, _⟩ := O2.look
  obtain ⟨m, fr⟩ := I.fr
  refine PySem.W.binop_K fr I.ok.mod.kin J J2.type sf hm.at_ hm.fn (wpAny_mono (run_fn (us := [.ref a, .ref b]) (vs := [.ref a, .ref b]) F room hb .nil pass I (.cons rfl (.cons rfl .nil)) q) ?_ fun _ _ z => z)
  intro v s1 hh
  obtain ⟨x, H1, I1, rx, ⟨p, e⟩, q1⟩ := hh
  subst e
  obtain rfl : v = Value.ref p := rx
  exact ⟨.ref p, H1, I1, rfl, q1⟩
end
section
variable {X : Cx} {CX : CXT} {k : Nat} {ps : List Str} {sp : Sp} {E : L2.St → XK} {pins : List (Addr × Obj)} {σ : L2.St} {H : Hp} {s : Shared} {C f : Addr} {fd : FuncData} {ds : List Value} {dvs : List V} {x m : Str} {p pos apos : Pos} {e o : Expr} {es : List Expr} {ta : TE} {t : TA}
/-- C(..) made, what its maker raises is wished for at the slots -/
theorem run_mkS {Q : VK} {us : List Value} {vs : List V} (M : Mk X.K C f) (F : FnOk X.prog X.w X.K X.mg X.base CX k f fd ps sp) (room : Room (k + 1) X.A) (binds : Binds X.K fd ps ds) (hd : Vals dvs ds) (pass : PassesAt CX X σ (E σ)) (I : Inv X pins σ H s) (rel : Vals vs us)
    (h : ∀ x dx, H x = none → H dx = none → dx ≠ x → sp (.ref x :: (vs ++ dvs)) (L2.upd (L2.upd H dx (.own x)) x (.ins C dx [])) (fun v H1 => v = .non ∧ Q (.ref x) H1) (E σ)) : wpAny (model X.prog X.w) X.A (call (.ref C) us) (EP X pins σ Q) X.xe s := by
  have free1 : H (s.heap.objs.size + 1) = none := I.hok.fresh (Nat.le_succ _)
  have free0 : H s.heap.objs.size = none := I.hok.fresh (Nat.le_refl _)
  have now := h (s.heap.objs.size + 1) s.heap.objs.size free1 free0 (Nat.ne_of_lt (Nat.lt_succ_self _))
  have J := Inv.made (C := C) I
  have rel2 : Vals (V.ref (s.heap.objs.size + 1) :: (vs ++ dvs)) (Value.ref (s.heap.objs.size + 1) :: (us ++ ds)) := .cons rfl (rel.append hd)
  have len : (Value.ref (s.heap.objs.size + 1) :: us ++ ds).length = ps.length := (rel2.length).symm.trans (F.len _ _ _ _ now)
  refine wpAny_call (make_map (f := f) I.kIn M.makes M.init (beq_iff_eq.mp M.fn) (codeAny_mono (F.run _ X.stack _ _ ⟨Value.ref (s.heap.objs.size + 1) :: us, []⟩ (Value.ref (s.heap.objs.size + 1) :: (us ++ ds)) _ _ (E σ) (room.make C us []) (J.env0.make C us []) (binds _ (Value.ref (s.heap.objs.size + 1) :: us) J.kIn len) rel2 now) ?_))
  intro o s1 hq
  cases o with
  | error er => exact pass pins _ _ er s1 J hq
  | ok fl =>
    cases fl with
    | ret u =>
      obtain ⟨v, H1, J1, rv, ev, q1⟩ := J.after hq
      subst ev
      exact ⟨rv, .ref _, H1, J1, rfl, q1⟩
    | next => exact hq.elim
    | brk => exact hq.elim
    | cont => exact hq.elim
def tMakeS (C : Addr) (sp : Sp) (dvs : List V) (E : L2.St → XK) (t : TA) : TE := fun σ H Q => t σ H fun vs H1 => ∀ x dx, H1 x = none → H1 dx = none → dx ≠ x →
  sp (.ref x :: (vs ++ dvs)) (L2.upd (L2.upd H1 dx (.own x)) x (.ins C dx [])) (fun v H2 => v = .non ∧ Q (.ref x) H2) (E σ)
theorem pe_mkS (M : MkD X.prog X.w X.K X.mg X.base CX k x C ps dvs sp) (room : Room (k + 1) X.A) (pass : ∀ σ, PassesAt CX X σ (E σ)) (hg : Gl X x) (ha : PA X (e :: es) t)
    (hdb : (x == ("__debug__" : Str)) = false := by decide) (hs : starEach (e :: es) X.env = (false, eval e X.env) :: starEach es X.env := by rfl) (hpl : (backTo pos (starEach es X.env)).any (·.1) = false := by rfl) :
    PE X (.Call (.Name x p) (e :: es) [] pos) (tMakeS C sp dvs E t) := by
  obtain ⟨f, fd, ds, hm, M, hb, hd, F⟩ := M
  constructor
  intro pins s σ H Q I h
  refine wpAny_Call_Name_kw (ld_glob I hg hm (PySem.W.callWith_K (h₀ := X.base) I.ok.mod.kin M.kp (thn (ha.run pos pins s σ H _ I h) ?_) hs hpl) hdb)
  intro us s1 hh
  obtain ⟨vs, H1, I1, rr, q⟩ := hh
  exact ⟨I1.kIn, run_mkS M F room hb hd (pass σ) I1 rr q⟩
def tMethS (C : Addr) (m : Str) (sp : Sp) (E : L2.St → XK) (ta : TE) (t : TA) : TE := fun σ H Q => ta σ H fun x H1 => ∃ (a dx : Addr) (fs : List (Str × V)), x = .ref a ∧ H1 a = some (.ins C dx fs) ∧ fs.lookup m = none ∧ t σ H1 fun vs H2 => sp (x :: vs) H2 Q (E σ)
theorem pe_meS {pl : Sem Bool} (M : Me X.prog X.w X.K X.mg X.base CX k C m ps sp) (c : Cls X.K C) (room : Room k X.A) (pass : ∀ σ, PassesAt CX X σ (E σ)) (he : PE X o ta) (ha : PA X (e :: es) t)
    (hs : starEach (e :: es) X.env = (false, eval e X.env) :: starEach es X.env := by rfl) (hpl : (backTo pos (starEach es X.env)).any (·.1) = false := by rfl)
    (ht : eval (.Call (.Attribute o m apos) (e :: es) [] pos) X.env = (do
      let ov ← eval o X.env
      standAt apos.atName
      let (f, first) ← holding [ov] (getMethod ov m pl)
      callWith pos f first (backTo pos (starEach (e :: es) X.env)) (backToKw pos (keywordEach [] X.env))) := by rfl) :
    PE X (.Call (.Attribute o m apos) (e :: es) [] pos) (tMethS C m sp E ta t) := by
  obtain ⟨f, fd, hm, hb, F⟩ := M
  constructor
  intro pins s σ H Q I h
  refine PySem.W.methodCall_KW (pl := pl) (thn (he.run pins s σ H _ I h) ?_) ht
  intro u s1 hh
  obtain ⟨x, H1, I1, rx, a, dx, fs, ex, ea, l, q⟩ := hh
  subst ex
  obtain rfl : u = Value.ref a := rx
  refine getmeth_ok I1 ea c hm l (PySem.W.callWith_K (first := [.ref a]) (h₀ := X.base) I1.ok.mod.kin hm.kp (thn (ha.run pos pins s1 σ H1 _ I1 q) ?_) hs hpl)
  intro us s2 hh2
  obtain ⟨vs, H2, I2, rr, q2⟩ := hh2
  exact ⟨I2.kIn, run_fnS (us := .ref a :: us) (vs := .ref a :: vs) F room hb (pass σ) I2 (.cons rfl rr) q2⟩
end

/-! ### a try whose clauses name their exceptions -/
/-- the wish: the first clause that takes the exception; its suite goes through; behind it the name is gone -/
def wHolds (K : PySem.W.Frag) (D : Ends) : List (Value × Nat × (Addr → Value → Option Addr → TS)) → WX
  | [] => fun _ _ _ _ => False
  | (c, i, ts) :: l => fun cls d σ H => ∃ b, PySem.W.exmOne K cls c = some b ∧
      (b = true → ∀ a, H a = none → ts a cls d { nx := fun σ1 H1 => D.nx (σ1.set i none) H1, rt := fun _ _ => False, bk := fun _ _ => False, ct := fun _ _ => False } (σ.set i (some (.ref a))) H) ∧ (b = false → wHolds K D l cls d σ H)
inductive HdsH (X : Cx) : List ExceptHandler → List (Value × Nat × (Addr → Value → Option Addr → TS)) → Prop
  | nil : HdsH X [] []
  | cons {x n : Str} {c : Value} {i : Nat} {ts : Addr → Value → Option Addr → TS} {b0 : Stmt} {suite : List Stmt} {np pos1 : Pos} {hds : List ExceptHandler} {l : List (Value × Nat × (Addr → Value → Option Addr → TS))}
      (hslot : X.N[i]? = some n) (hloc : X.env.kindOf n = some .local) (hnm : Names X x c)
      (hsuite : ∀ (a : Addr) (ob : Obj) (cls : Value) (d : Option Addr) (pn : List (Addr × Obj)), Zc cls d ob → (∃ ws, ob.data = .fields ws) → PSs (X.suite a ((a, ob) :: pn)) (b0 :: suite) (ts a cls d)) (r : HdsH X hds l) :
      HdsH X (.ExceptHandler (some (.Name x np)) (some n) (b0 :: suite) pos1 :: hds) ((c, i, ts) :: l)
section
variable {X : Cx} {body : List Stmt} {h0 : ExceptHandler} {hds : List ExceptHandler} {l : List (Value × Nat × (Addr → Value → Option Addr → TS))} {pos : Pos} {tb : WX → TS}
theorem ps_try_holds (hst : X.stack = X.env :: X.outer) (hfr : X.env.frame = some X.env.locals) (hnd : X.N.Nodup) (hex : X.ex = [])
    (hbody : ∀ (W : WX) (pn : List (Addr × Obj)) (xe : Value → Shared → Prop), Takes (X.tr pn xe) W → PassesOwn (model X.prog X.w) X.A X.env xe → PSs (X.tr pn xe) body (tb W)) (hh : HdsH X (h0 :: hds) l) :
    PS X (.Try body (h0 :: hds) [] [] pos) (fun D σ H => tb (wHolds X.K D l) D σ H) := by
  constructor
  intro pins s σ H D I h
  have good := I.ok
  have frames : X.A.frames = some (X.env :: X.outer) := by rw [good.frames, hst]
  refine wpAny_Try_except (wpAny_mono ((hbody (wHolds X.K D l) (X.pn ++ pins) (fun ex sh => wpAny (model X.prog X.w) X.A (noteFrame ex X.env)
    (fun _ sh1 => wpAny (model X.prog X.w) X.A (setFlight ex none) (fun _ sh2 => wpAny (model X.prog X.w) X.A (handleBy ex X.env (h0 :: hds)) (SP X pins D) X.xe sh2) X.xe sh1) X.xe sh) ?_ PassesOwn.looking).run [] s σ H D (I.toTry _) h) ?_ fun _ _ z => z)
  · intro v sh air
    obtain ⟨a, B, sI, pinsI, σI, HI, cls, d, rfl, JI, ground, slots, sky, na, os, bare, wish⟩ := air
    have J : Inv X pins σI HI sI := JI.ofTry good
    have sky2 : Sky B (X.env :: X.outer) a (Zc cls d) X.env.locals sh.heap := hst ▸ sky
    show wpAny _ _ (noteFrame (.ref a) X.env) _ _ _
    refine Sky.land Zc.steady frames hfr sky2 ?_
    intro g3 fly3 slots3
    have J3 : Inv X pins σI HI { sh with heap := g3 } := J.landed ground fly3.1 (slots.trans slots3) os bare
    obtain ⟨ob3, ws3, at3, z3, f3⟩ := fly3.there
    have nofr : a ∉ frs (X.env :: X.outer) := by
      intro hm
      obtain ⟨_, o1, e1, e2⟩ := (fly3.2.2.1).mem hm
      rw [at3] at e1
      cases e1
      exact e2 _ f3
    have nL : a ≠ X.env.locals := by
      intro z
      exact nofr (List.mem_filterMap.mpr ⟨X.env, List.mem_cons_self, by rw [hfr, z]⟩)
    have nF : a ∉ X.fs := by
      intro hm
      obtain ⟨e, he, q⟩ := List.mem_filterMap.mp hm
      exact nofr (List.mem_filterMap.mpr ⟨e, List.mem_cons_of_mem _ he, q⟩)
    have S3 := J3.suite at3 f3 na nL nF
    have kind : PySem.W.Looks (model X.prog X.w) g3 (typeOf (.ref a)) cls := by
      intro A Q E s1 keep q
      exact wpAny_typeOf_ref (keep _ _ at3) (by rw [z3.1]; exact q)
    have each : ∀ {hs : List ExceptHandler} {ll : List (Value × Nat × (Addr → Value → Option Addr → TS))}, HdsH X hs ll → wHolds X.K D ll cls d σI HI →
        wpAny (model X.prog X.w) X.A (handleBy (.ref a) X.env hs) (SP X pins D) X.xe { sh with heap := g3 } := by
      intro hs ll hk
      induction hk with
      | nil => intro w; exact w.elim
      | @cons x n c i ts b0 suite np pos1 hs2 l2 hslot hloc hnm hsuite r ih =>
        intro w
        obtain ⟨b, caught, yes, no⟩ := w
        refine wpAny_handleBy_cons (codeAny_handlers_test ?_) (by intro q; cases q)
        have match_ := PySem.W.exm_one (M := model X.prog X.w) (J3.kIn) kind caught
        have named : ∀ {Q : Value → Shared → Prop} {E : Value → Shared → Prop}, Q c { sh with heap := g3 } → wpAny (model X.prog X.w) (X.A.mark (some (.ref a))) (eval (.Name x np) X.env) Q E { sh with heap := g3 } := by
          intro Q E q
          obtain ⟨hg, hdbg, hm | ⟨hm, hv, hnn⟩⟩ := hnm
          · exact ld_glob (X := X.suite a ((a, ob3) :: (X.pn ++ pins))) S3 hg hm q hdbg
          · exact ld_blt (X := X.suite a ((a, ob3) :: (X.pn ++ pins))) S3 hg hm hv q hnn hdbg
        refine named (match_.here ?_)
        cases b with
        | false => exact ih (no rfl)
        | true =>
          refine codeAny_handlers_suite_as (HandSPX.lands_againZ fly3 ?_)
          intro g4 fly4 slots4
          have J4 : Inv X pins σI HI { sh with heap := g4 } := J.landed ground fly4.1 ((slots.trans slots3).trans slots4) os bare
          obtain ⟨ob4, ws4, at4, z4, f4⟩ := fly4.there
          have S4 := J4.suite at4 f4 na nL nF
          refine store_ok (X := X.suite a ((a, ob4) :: (X.pn ++ pins))) (v := .ref a) S4 hnd hslot (.inl hloc) rfl (fun s5 S5 => ?_) (.inr hloc)
          refine wpAny_mono ((hsuite a ob4 cls d (X.pn ++ pins) z4 ⟨_, f4⟩).run [] s5 _ HI _ S5 (yes rfl a na)) ?_ fun _ _ z => False.elim z
          intro fl s6 q6
          cases fl with
          | next =>
            obtain ⟨σ6, H6, S6, q⟩ := q6
            refine gone_ok (X := X.suite a ((a, ob4) :: (X.pn ++ pins))) S6 hnd hslot hloc ?_
            intro s7 S7
            exact ⟨_, _, S7.unsuite good, q⟩
          | brk =>
            obtain ⟨_, _, _, z⟩ := q6
            exact z.elim
          | cont =>
            obtain ⟨_, _, _, z⟩ := q6
            exact z.elim
          | ret u =>
            obtain ⟨_, _, _, _, _, z⟩ := q6
            exact z.elim
    exact each hh wish
  · intro fl s1 q1
    cases fl with
    | next =>
      obtain ⟨σ1, H1, J1, q⟩ := q1
      exact wpAny_execs_nil ⟨σ1, H1, J1.ofTry good, q⟩
    | brk =>
      obtain ⟨σ1, H1, J1, q⟩ := q1
      exact ⟨σ1, H1, J1.ofTry good, q⟩
    | cont =>
      obtain ⟨σ1, H1, J1, q⟩ := q1
      exact ⟨σ1, H1, J1.ofTry good, q⟩
    | ret u =>
      obtain ⟨v1, σ1, H1, J1, r1, q⟩ := q1
      exact ⟨v1, σ1, H1, J1.ofTry good, r1, q⟩
end

/-! ### the exception that a suite holds -/
section
variable {X : Cx} {a : Addr} {ob : Obj} {cls : Value} {d : Option Addr} {pn : List (Addr × Obj)}
theorem suite_inst {pins : List (Addr × Obj)} {σ : L2.St} {H : Hp} {s : Shared} {D : Addr} (hz : Zc cls d ob) (hf : ∃ ws, ob.data = .fields ws) (I : Inv (X.suite a ((a, ob) :: pn)) pins σ H s) (e : cls = .ref D) (hd : ∃ dd fs, d = some dd ∧ H dd = some (.xd fs)) :
    ∃ od : Option Obj, PySem.W.InstAt s.heap a ob D od := by
  obtain ⟨at_, _⟩ := I.pin (a, ob) (List.mem_append_left _ List.mem_cons_self)
  obtain ⟨ws, f⟩ := hf
  obtain ⟨dd, fs, rfl, hdd⟩ := hd
  obtain ⟨mA, hns, _⟩ := (show ObjOk X.prog X.w H s.heap dd (.xd fs) from I.hok dd _ hdd)
  obtain ⟨od, ho, _⟩ := lookIn_ns hns
  exact ⟨some od, at_, hz.1.trans e, by unfold PySem.W.notCls; rw [f] <;> rfl, by rw [hz.2]; exact ho⟩
theorem call_isS (hz : Zc cls d ob) (hf : ∃ ws, ob.data = .fields ws) : CallR (X.suite a ((a, ob) :: pn)) (.builtin "isinstance")
    (fun xs H Q => ∃ (D : Addr) (c : V) (cv : Value) (b : Bool), xs = [.ref a, c] ∧ cls = .ref D ∧ ClsV c cv ∧ (∃ dd fs, d = some dd ∧ H dd = some (.xd fs)) ∧ ExcC X.K D ∧ PySem.W.kitOne X.K (.ref D) cv = some b ∧ Q (.bl b) H) := by
  intro pins s σ H xs us Q I r h
  obtain ⟨D, c, cv, b, rfl, ec, k, hd, C, e, q⟩ := h
  obtain ⟨u1, u2, rfl, r1, r2⟩ := vals2 r
  have e2 := k.eq r2
  subst e2
  cases r1
  obtain ⟨od, J⟩ := suite_inst hz hf I ec hd
  have hcl : (PySem.W.clsIn X.K D).isSome = true := by
    obtain ⟨cd, hc, _⟩ := PySem.W.any_some C.hd
    rw [hc]
    rfl
  exact PySem.W.kia_one (PySem.W.kitx_exc hcl C.hg C.hk C.hs C.ha C.hn C.ht C.hm) I.kIn J e (fun z => nomatch z) fun tk => ⟨.bl b, H, I.tok tk, rfl, q⟩
/-- e.n -/
theorem pe_xs {e : Expr} {te : TE} {pos : Pos} {n : Str} (hz : Zc cls d ob) (hf : ∃ ws, ob.data = .fields ws) (he : PE (X.suite a ((a, ob) :: pn)) e te) (hb : attributeBase e n X.env (eval e X.env) = eval e X.env := by rfl) :
    PE (X.suite a ((a, ob) :: pn)) (.Attribute e n pos) (fun σ H Q => te σ H fun x H1 => ∃ (D dd : Addr) (fs : List (Str × V)) (v : V), x = .ref a ∧ cls = .ref D ∧ d = some dd ∧ H1 dd = some (.xd fs) ∧ ExcC X.K D ∧ PySem.W.findIn X.K (.ref D) n = some none ∧ fs.lookup n = some v ∧ Q v H1) := by
  constructor
  intro pins s σ H Q I h
  refine attr_of hb (thn (he.run pins s σ H _ I h) ?_)
  intro u s1 hh
  obtain ⟨x, H1, I1, rx, D, dd, fs, v, ex, ec, ed, hdd, T, hno, l, q⟩ := hh
  subst ex
  obtain rfl : u = Value.ref a := rx
  obtain ⟨mA, hns, hr⟩ := (show ObjOk X.prog X.w H1 s1.heap dd (.xd fs) from I1.hok dd _ hdd)
  obtain ⟨od, ho, hl⟩ := lookIn_ns hns
  obtain ⟨u, hu, ru⟩ := RelO.some_of (v := v) (o := mA n) (by rw [← l]; exact hr n)
  obtain ⟨at_, _⟩ := I1.pin (a, ob) (List.mem_append_left _ List.mem_cons_self)
  obtain ⟨ws, f⟩ := hf
  have J : PySem.W.InstAt s1.heap a ob D (some od) := ⟨at_, hz.1.trans ec, by unfold PySem.W.notCls; rw [f] <;> rfl, by rw [hz.2, ed]; exact ho⟩
  exact HandSPX.exc_get I1.kIn J (exc_xf T).ga (exc_xf T).gg (exc_xf T).exC (PySem.W.findObj_own (exc_xf T).hdC hno rfl (by rw [hl, hu])) (handed_of ru) ⟨v, H1, I1.tok _, ru, q⟩
end
end Brk

set_option Elab.async false
set_option linter.all false
set_option maxRecDepth 100000
set_option maxHeartbeats 4000000
/-! Own words: data that is compared, bands. -/
namespace Brk
open PySem L2
theorem passNo {X : Cx} {E : XK} (h : ∀ cls d H, ¬ E cls d H) : Passes (L2.CX X.prog X.w) X E := fun _ _ _ _ _ _ _ ⟨_, _, _, _, _, _, _, _, _, _, _, _, w⟩ => (h _ _ _ w).elim
abbrev passE {X : Cx} : Passes (L2.CX X.prog X.w) X E0 := passNo (fun _ _ _ z => z)

/-! ### data that is compared -/
def okD : Nat → PyData → Bool
  | _, .none => true
  | _, .bool _ => true
  | _, .int _ => true
  | _, .str _ => true
  | _, .dict _ => false
  | 0, .list _ => false
  | 0, .tuple _ => false
  | n + 1, .list ds => decide (ds.length ≤ 1000000) && ds.all (okD n)
  | n + 1, .tuple ds => decide (ds.length ≤ 1000000) && ds.all (okD n)
theorem okD_list {n : Nat} {ds : List PyData} (h : okD n (.list ds) = true) : ∃ m, n = m + 1 ∧ ds.length ≤ 1000000 ∧ ∀ d ∈ ds, okD m d = true := by
  cases n with
  | zero => cases h
  | succ m =>
    unfold okD at h
    rw [Bool.and_eq_true] at h
    exact ⟨m, rfl, of_decide_eq_true h.1, List.all_eq_true.mp h.2⟩
theorem okD_tuple {n : Nat} {ds : List PyData} (h : okD n (.tuple ds) = true) : ∃ m, n = m + 1 ∧ ds.length ≤ 1000000 ∧ ∀ d ∈ ds, okD m d = true := by
  cases n with
  | zero => cases h
  | succ m =>
    unfold okD at h
    rw [Bool.and_eq_true] at h
    exact ⟨m, rfl, of_decide_eq_true h.1, List.all_eq_true.mp h.2⟩
theorem okD_mkL {n : Nat} {ds : List PyData} (h : ds.length ≤ 1000000) (k : ∀ d ∈ ds, okD n d = true) : okD (n + 1) (.list ds) = true := by
  unfold okD
  rw [decide_eq_true h, List.all_eq_true.mpr k]
  rfl
theorem okD_mkT {n : Nat} {ds : List PyData} (h : ds.length ≤ 1000000) (k : ∀ d ∈ ds, okD n d = true) : okD (n + 1) (.tuple ds) = true := by
  unfold okD
  rw [decide_eq_true h, List.all_eq_true.mpr k]
  rfl
theorem plainAll_of {ds : List PyData} (h : ∀ d ∈ ds, d.plain = true) : PyData.plainAll ds = true := by
  induction ds with
  | nil => rfl
  | cons d ds ih => rw [PyData.plainAll, h d List.mem_cons_self, ih fun e he => h e (List.mem_cons_of_mem _ he)]; rfl
theorem depthAll_of {n : Nat} {ds : List PyData} (h : ∀ d ∈ ds, d.depth ≤ n) : PyData.depthAll ds ≤ n := by
  induction ds with
  | nil => simp [PyData.depthAll]
  | cons d ds ih =>
    have a := h d List.mem_cons_self
    have b := ih fun e he => h e (List.mem_cons_of_mem _ he)
    simp only [PyData.depthAll]
    omega
theorem okD_plain : ∀ (n : Nat) (d : PyData), okD n d = true → d.plain = true ∧ d.depth ≤ n
  | _, .none, _ => ⟨rfl, by simp [PyData.depth]⟩
  | _, .bool _, _ => ⟨rfl, by simp [PyData.depth]⟩
  | _, .int _, _ => ⟨rfl, by simp [PyData.depth]⟩
  | _, .str _, _ => ⟨rfl, by simp [PyData.depth]⟩
  | 0, .dict _, h => by simp [okD] at h
  | _ + 1, .dict _, h => by simp [okD] at h
  | 0, .list _, h => by simp [okD] at h
  | 0, .tuple _, h => by simp [okD] at h
  | n + 1, .list ds, h => by
    obtain ⟨m, e, _, k⟩ := okD_list h
    cases e
    refine ⟨by simp only [PyData.plain]; exact plainAll_of fun d hd => (okD_plain n d (k d hd)).1, ?_⟩
    have q := depthAll_of fun d hd => (okD_plain n d (k d hd)).2
    simp only [PyData.depth]
    omega
  | n + 1, .tuple ds, h => by
    obtain ⟨m, e, _, k⟩ := okD_tuple h
    cases e
    refine ⟨by simp only [PyData.plain]; exact plainAll_of fun d hd => (okD_plain n d (k d hd)).1, ?_⟩
    have q := depthAll_of fun d hd => (okD_plain n d (k d hd)).2
    simp only [PyData.depth]
    omega
def rEqK (K : PySem.W.Frag) : R2 := fun x y H Q => ∃ d e, Dp K H x d ∧ Dp K H y e ∧ okD 8 d = true ∧ okD 8 e = true ∧ Q (.bl (PyData.eqv d e)) H
def rNeK (K : PySem.W.Frag) : R2 := fun x y H Q => ∃ d e, Dp K H x d ∧ Dp K H y e ∧ okD 8 d = true ∧ okD 8 e = true ∧ Q (.bl (!PyData.eqv d e)) H
theorem op_eqK {X : Cx} (hu : X.A.units + 64 < cLine) : OpR X (compareOp .Eq) (rEqK X.K) := by
  intro pins s σ H x y v u Q I rx ry h
  obtain ⟨d, e, hd, he, sd, se, q⟩ := h
  obtain ⟨as, r1⟩ := Dp.reads I d x v hd rx
  obtain ⟨bs, r2⟩ := Dp.reads I e y u he ry
  have p1 := okD_plain _ _ sd
  have p2 := okD_plain _ _ se
  exact SeqAt.eq_plain r1 r2 p1.1 p2.1 (by omega) ⟨.bl _, H, I, rfl, q⟩
theorem op_neK {X : Cx} (hu : X.A.units + 64 < cLine) : OpR X (compareOp .NotEq) (rNeK X.K) := by
  intro pins s σ H x y v u Q I rx ry h
  obtain ⟨d, e, hd, he, sd, se, q⟩ := h
  obtain ⟨as, r1⟩ := Dp.reads I d x v hd rx
  obtain ⟨bs, r2⟩ := Dp.reads I e y u he ry
  have p1 := okD_plain _ _ sd
  have p2 := okD_plain _ _ se
  exact SeqAt.ne_plain r1 r2 p1.1 p2.1 (by omega) ⟨.bl _, H, I, rfl, q⟩
theorem okD_mono {n m : Nat} (h : n ≤ m) : ∀ {d : PyData}, okD n d = true → okD m d = true := by
  induction n generalizing m with
  | zero =>
    intro d hd
    cases d <;> first | (cases m <;> rfl) | (simp [okD] at hd)
  | succ n ih =>
    intro d hd
    obtain ⟨m, rfl⟩ : ∃ k, m = k + 1 := ⟨m - 1, by omega⟩
    cases d with
    | list ds =>
      obtain ⟨k, e, l, q⟩ := okD_list hd
      cases e
      exact okD_mkL l fun d hd => ih (by omega) (q d hd)
    | tuple ds =>
      obtain ⟨k, e, l, q⟩ := okD_tuple hd
      cases e
      exact okD_mkT l fun d hd => ih (by omega) (q d hd)
    | dict _ => simp [okD] at hd
    | none => rfl
    | bool _ => rfl
    | int _ => rfl
    | str _ => rfl
theorem tyx_sqL {K : PySem.W.Frag} {H : Hp} {a : Addr} {xs : List V} (h : SqL K H a xs) : TyX K H (.ref a) (.type "list") := by
  rcases h with (h | ⟨o, h⟩) | ⟨o, its, n, hk, hc, _⟩
  · exact .base (.lst h)
  · exact .base (.frz h)
  · exact .kList hk hc
theorem tyx_sqT {K : PySem.W.Frag} {H : Hp} {a : Addr} {xs : List V} (h : SqT K H a xs) : TyX K H (.ref a) (.type "tuple") := by
  rcases h with (h | ⟨o, h⟩) | ⟨o, its, n, hk, hc, _⟩
  · exact .base (.tup h)
  · exact .fTuple h
  · exact .kTuple hk hc
theorem sqL_same {K : PySem.W.Frag} {H H' : Hp} {a : Addr} {xs : List V} (h : SqL K H a xs) (s : Same H H') : SqL K H' a xs := by
  rcases h with (h | ⟨o, h⟩) | h
  · exact .inl (.inl (s _ _ h))
  · exact .inl (.inr ⟨o, s _ _ h⟩)
  · exact .inr h
theorem sqT_same {K : PySem.W.Frag} {H H' : Hp} {a : Addr} {xs : List V} (h : SqT K H a xs) (s : Same H H') : SqT K H' a xs := by
  rcases h with (h | ⟨o, h⟩) | h
  · exact .inl (.inl (s _ _ h))
  · exact .inl (.inr ⟨o, s _ _ h⟩)
  · exact .inr h
theorem DpAll.len {K : PySem.W.Frag} {H : Hp} : ∀ {vs : List V} {ds : List PyData}, DpAll K H vs ds → vs.length = ds.length
  | _, _, .nil => rfl
  | _, _, .cons _ r => congrArg Nat.succ (DpAll.len r)
theorem DpAll.at_ {K : PySem.W.Frag} {H : Hp} : ∀ {vs : List V} {ds : List PyData} {i : Nat}, DpAll K H vs ds → i < ds.length → ∃ v d, vs[i]? = some v ∧ ds[i]? = some d ∧ Dp K H v d
  | _, _, _, .nil, h => absurd h (Nat.not_lt_zero _)
  | _, _, 0, .cons a _, _ => ⟨_, _, rfl, rfl, a⟩
  | _, _, i + 1, .cons _ r, h => by
    obtain ⟨v, d, e1, e2, q⟩ := DpAll.at_ (i := i) r (Nat.lt_of_succ_lt_succ h)
    exact ⟨v, d, by simpa using e1, by simpa using e2, q⟩
mutual
theorem Dp.same {K : PySem.W.Frag} {H H' : Hp} (s : Same H H') : ∀ {v : V} {d : PyData}, Dp K H v d → Dp K H' v d
  | _, _, .non => .non
  | _, _, .bl b => .bl b
  | _, _, .int i => .int i
  | _, _, .str x => .str x
  | _, _, .lst h r => .lst (sqL_same h s) (DpAll.same s r)
  | _, _, .tup h r => .tup (sqT_same h s) (DpAll.same s r)
theorem DpAll.same {K : PySem.W.Frag} {H H' : Hp} (s : Same H H') : ∀ {vs : List V} {ds : List PyData}, DpAll K H vs ds → DpAll K H' vs ds
  | _, _, .nil => .nil
  | _, _, .cons a r => .cons (Dp.same s a) (DpAll.same s r)
end
theorem dpInts {K : PySem.W.Frag} {H : Hp} : ∀ {es : List Int}, DpAll K H (es.map V.int) (es.map PyData.int)
  | [] => .nil
  | _ :: _ => .cons (.int _) dpInts
theorem okInts {es : List Int} {n : Nat} : ∀ d ∈ es.map PyData.int, okD n d = true := by
  intro d hd
  obtain ⟨x, _, rfl⟩ := List.mem_map.mp hd
  cases n <;> rfl
/-- two values of the same data -/
def spSame (K : PySem.W.Frag) (n : Nat) : Sp := fun vs H Q _ => ∃ (x y : V) (d : PyData), vs = [x, y] ∧ Dp K H x d ∧ Dp K H y d ∧ okD n d = true ∧ Q (.bl true) H

/-! ### bands -/
abbrev iV (es : List Int) : List V := es.map V.int
def EndsOk (n : Int) (es : List Int) : Prop := (es.length : Int) = n ∧ ∀ (i : Nat) (x : Int), es[i]? = some x → (i : Int) ≤ x ∧ x < n ∧ ∀ y, es[i + 1]? = some y → x ≤ y
/-- the end ahead of place i, 0 ahead of the first -/
def ahead (es : List Int) (i : Nat) : Int := if i = 0 then 0 else es.getD (i - 1) 0
def badE (es : List Int) (i : Nat) : Bool := decide (es.getD i 0 < (i : Int)) || (decide ((es.length : Int) ≤ es.getD i 0) || decide (es.getD i 0 < ahead es i))
inductive BD
  | fine | many | at_ (i : Nat)
def bandDue (es : List Int) : BD := if 60 < es.length then .many else match (List.range es.length).find? (badE es) with | some i => .at_ i | none => .fine
theorem due_many {es : List Int} (h : 60 < es.length) : bandDue es = .many := by unfold bandDue; rw [if_pos h]
theorem find_range {p : Nat → Bool} {n i : Nat} (hi : i < n) (h : p i = true) (k : ∀ j, j < i → p j = false) : (List.range n).find? p = some i := by
  rw [List.find?_range_eq_some]
  exact ⟨h, List.mem_range.mpr hi, fun j hj => by rw [k j hj]; rfl⟩
theorem due_at {es : List Int} {i : Nat} (h : es.length ≤ 60) (hi : i < es.length) (hb : badE es i = true) (k : ∀ j, j < i → badE es j = false) : bandDue es = .at_ i := by
  unfold bandDue
  rw [if_neg (by omega), find_range hi hb k]
theorem due_fine {es : List Int} (h : es.length ≤ 60) (k : ∀ j, j < es.length → badE es j = false) : bandDue es = .fine := by
  unfold bandDue
  rw [if_neg (by omega), List.find?_eq_none.mpr fun j hj => by rw [k j (List.mem_range.mp hj)]; exact Bool.false_ne_true]
theorem getD_at {es : List Int} {i : Nat} {x : Int} (h : es[i]? = some x) : es.getD i 0 = x := by
  rw [List.getD_eq_getElem?_getD, h]
  rfl
theorem EndsOk.fine {n : Int} {es : List Int} (h : EndsOk n es) (hn : n ≤ 60) : bandDue es = .fine := by
  obtain ⟨hl, h⟩ := h
  refine due_fine (by omega) fun j hj => ?_
  have e : es[j]? = some es[j] := List.getElem?_eq_getElem hj
  obtain ⟨h1, h2, _⟩ := h j _ e
  unfold badE
  rw [getD_at e, decide_eq_false (by omega), decide_eq_false (by omega)]
  unfold ahead
  by_cases z : j = 0
  · rw [if_pos z, decide_eq_false (by omega)]
    rfl
  · rw [if_neg z]
    have e2 : es[j - 1]? = some (es[j - 1]'(by omega)) := List.getElem?_eq_getElem (by omega)
    have q := (h (j - 1) _ e2).2.2 es[j] (by rw [Nat.sub_add_cancel (by omega)]; exact e)
    rw [getD_at e2, decide_eq_false (by omega)]
    rfl
/-- what is told of ends that are refused -/
def dueD2 (es : List Int) : PyData := match bandDue es with
  | .many => .list [.str "many", .str "things", .int 60, .bool true, .bool true, .bool false, .bool false, .bool false]
  | .at_ i => .list [.str "end", .int (i : Nat), .bool true, .bool true, .bool false, .bool false, .bool false]
  | .fine => .list []
/-- a band at b -/
def BandAt (CB : Addr) (H : Hp) (b : Addr) (es : List Int) : Prop := ∃ dx t, H b = some (.ins CB dx [("ends", .ref t)]) ∧ H t = some (.tup (iV es))
theorem BandAt.same {CB : Addr} {H H' : Hp} {b : Addr} {es : List Int} (h : BandAt CB H b es) (s : Same H H') : BandAt CB H' b es := by
  obtain ⟨dx, t, e1, e2⟩ := h
  exact ⟨dx, t, s _ _ e1, s _ _ e2⟩
/-- all but the list or dict at p stays: so does a band -/
theorem BandAt.but {CB p : Addr} {H H' : Hp} {b : Addr} {es : List Int} {xs : List V} (h : BandAt CB H b es) (s : But p H H') (hp : H p = some (.lst xs)) : BandAt CB H' b es := by
  obtain ⟨dx, t, e1, e2⟩ := h
  refine ⟨dx, t, s _ _ e1 ?_, s _ _ e2 ?_⟩
  · rintro rfl
    rw [hp] at e1
    cases e1
  · rintro rfl
    rw [hp] at e2
    cases e2
/-- what is handed to a Band -/
def SqIn (H : Hp) (r : Addr) (es : List Int) : Prop := H r = some (.lst (iV es)) ∨ H r = some (.tup (iV es))
theorem SqIn.sq {K : PySem.W.Frag} {H : Hp} {r : Addr} {es : List Int} (h : SqIn H r es) : SqL K H r (iV es) ∨ SqT K H r (iV es) := h.imp SqL.of SqT.of
def xNum (CN : Addr) (n : Int) (H : Hp) (E : XK) : Prop := ∀ (H' : Hp) (d : Addr), Same H H' → H' d = some (.xd [("number", .int n)]) → E (.ref CN) (some d) H'
def xEnd (CE : Addr) (i : Nat) (H : Hp) (E : XK) : Prop := ∀ (H' : Hp) (d : Addr), Same H H' → H' d = some (.xd [("index", .int (i : Nat))]) → E (.ref CE) (some d) H'
def xMany (CT : Addr) (H : Hp) (E : XK) : Prop := ∀ (H' : Hp) (d : Addr), Same H H' → H' d = some (.xd [("most", .int 60), ("what", .str "things")]) → E (.ref CT) (some d) H'
theorem xNum.from {CN : Addr} {n : Int} {H H1 : Hp} {E : XK} (h : xNum CN n H E) (s : Same H H1) : xNum CN n H1 E := fun H' d s' e => h H' d (s.trans s') e
theorem xEnd.from {CE : Addr} {i : Nat} {H H1 : Hp} {E : XK} (h : xEnd CE i H E) (s : Same H H1) : xEnd CE i H1 E := fun H' d s' e => h H' d (s.trans s') e
theorem xMany.from {CT : Addr} {H H1 : Hp} {E : XK} (h : xMany CT H E) (s : Same H H1) : xMany CT H1 E := fun H' d s' e => h H' d (s.trans s') e
def spThings (CT : Addr) : Sp := fun vs H Q E => ∃ n : Int, vs = [.int n] ∧ (n ≤ 60 → Q .non H) ∧ (60 < n → xMany CT H E)
def spCkEnds (CE : Addr) : Sp := fun vs H Q E => ∃ (r : Addr) (es : List Int), vs = [.ref r] ∧ SqIn H r es ∧ es.length ≤ 60 ∧ (bandDue es = .fine → ∀ H', Same H H' → Q .non H') ∧ (∀ i, bandDue es = .at_ i → xEnd CE i H E)
def spFromZ (CN : Addr) : Sp := fun vs H Q E => ∃ n m : Int, vs = [.int n, .int m] ∧ (0 ≤ n ∧ n ≤ m → Q .non H) ∧ (¬ (0 ≤ n ∧ n ≤ m) → xNum CN n H E)
/-- a Band is made, or refused -/
def spBand (CB CT CE : Addr) : Sp := fun vs H Q E => ∃ (p dx r : Addr) (es : List Int), vs = [.ref p, .ref r] ∧ H p = some (.ins CB dx []) ∧ SqIn H r es ∧ es.length ≤ 1000 ∧
  (bandDue es = .fine → ∀ t H', H' p = some (.ins CB dx [("ends", .ref t)]) → H' t = some (.tup (iV es)) → But p H H' → Q .non H') ∧ (bandDue es = .many → xMany CT H E) ∧ (∀ i, bandDue es = .at_ i → xEnd CE i H E)
def mxI (i k : Int) : Int := if k > i then k else i
def mnI (i k : Int) : Int := if k < i then k else i
def nearE (es : List Int) (i k : Int) : Bool := decide (mxI i k ≤ es.getD (mnI i k).toNat 0)
def inN (es : List Int) (i : Int) : Prop := 0 ≤ i ∧ i < es.length
def spNearB (CB CN : Addr) : Sp := fun vs H Q E => ∃ (b : Addr) (es : List Int) (i k : Int), vs = [.ref b, .int i, .int k] ∧ BandAt CB H b es ∧ (inN es i → inN es k → Q (.bl (nearE es i k)) H) ∧ (¬ inN es i → xNum CN i H E) ∧ (inN es i → ¬ inN es k → xNum CN k H E)
def spLenB (CB : Addr) : Sp := fun vs H Q _ => ∃ (b : Addr) (es : List Int), vs = [.ref b] ∧ BandAt CB H b es ∧ Q (.int es.length) H
theorem near_at {es : List Int} {i k : Int} (hi : inN es i) (hk : inN es k) : atI es (mnI i k) = some (es.getD (mnI i k).toNat 0) := by
  obtain ⟨a1, a2⟩ := hi
  obtain ⟨b1, b2⟩ := hk
  have e1 : 0 ≤ mnI i k := by unfold mnI; split <;> omega
  have e2 : (mnI i k).toNat < es.length := by unfold mnI; split <;> omega
  refine atI_ge e1 ?_
  rw [List.getD_eq_getElem?_getD, List.getElem?_eq_getElem e2]
  rfl
theorem near_atV {es : List Int} {i k : Int} (hi : inN es i) (hk : inN es k) : atI (iV es) (mnI i k) = some (.int (es.getD (mnI i k).toNat 0)) := by
  obtain ⟨a1, a2⟩ := hi
  obtain ⟨b1, b2⟩ := hk
  have e1 : 0 ≤ mnI i k := by unfold mnI; split <;> omega
  have e2 : (mnI i k).toNat < es.length := by unfold mnI; split <;> omega
  refine atI_ge e1 ?_
  rw [List.getElem?_map, List.getD_eq_getElem?_getD, List.getElem?_eq_getElem e2]
  rfl
/-! ### the law's own helpers -/
def spEndsL : Sp := fun vs H Q _ => ∃ (p c : Addr) (ns : List Int) (n : Int), vs = [.ref p, .int n] ∧ Pool ns c H p ∧ 0 ≤ n ∧ n ≤ 100 ∧
  ∀ (l : Addr) (es : List Int) (H' : Hp), EndsOk n es → H' l = some (.lst (iV es)) → H l = none → Pool ns c H' p → But p H H' → Q (.ref l) H'
def spSpoil : Sp := fun vs H Q _ => ∃ (p c r : Addr) (ns : List Int) (es : List Int), vs = [.ref p, .ref r] ∧ Pool ns c H p ∧ H r = some (.lst (iV es)) ∧ r ≠ p ∧ es.length ≤ 100 ∧
  ∀ (l : Addr) (ws : List Int) (H' : Hp), ws.length = es.length → H' l = some (.lst (iV ws)) → H l = none → Pool ns c H' p → But p H H' → Q (.ref l) H'
def spNearL : Sp := fun vs H Q _ => ∃ (r : Addr) (es : List Int) (i k : Int), vs = [.ref r, .int i, .int k] ∧ H r = some (.lst (iV es)) ∧ inN es i ∧ inN es k ∧ Q (.bl (nearE es i k)) H
def spDueL2 (K : PySem.W.Frag) : Sp := fun vs H Q _ => ∃ (r : Addr) (es : List Int), vs = [.ref r] ∧ H r = some (.lst (iV es)) ∧ es.length ≤ 1000 ∧ ∀ (l : Addr) (H' : Hp), Dp K H' (.ref l) (dueD2 es) → Same H H' → Q (.ref l) H'
def spMadeB (K : PySem.W.Frag) (CB : Addr) : Sp := fun vs H Q _ => ∃ (r : Addr) (es : List Int), vs = [.ref r] ∧ SqIn H r es ∧ es.length ≤ 1000 ∧
  ∀ (l t : Addr) (bv : V) (H' : Hp), H' l = some (.lst [.ref t, bv]) → Dp K H' (.ref t) (dueD2 es) → (bandDue es = .fine → ∃ b, bv = .ref b ∧ BandAt CB H' b es) → Same H H' → Q (.ref l) H'
/-- what is told when near is asked -/
def askD (es : List Int) (i k : Int) : PyData := if 0 ≤ i ∧ i < es.length then (if 0 ≤ k ∧ k < es.length then .list [.list [], .bool (nearE es i k)] else .list [.list [.int k, .bool true, .bool true, .bool false, .bool false, .bool false], .none])
  else .list [.list [.int i, .bool true, .bool true, .bool false, .bool false, .bool false], .none]
def spAskB (K : PySem.W.Frag) (CB : Addr) : Sp := fun vs H Q _ => ∃ (b : Addr) (es : List Int) (i k : Int), vs = [.ref b, .int i, .int k] ∧ BandAt CB H b es ∧ es.length ≤ 1000 ∧ ∀ (l : Addr) (H' : Hp), Dp K H' (.ref l) (askD es i k) → Same H H' → Q (.ref l) H'
def spNearK (CB : Addr) : Sp := fun vs H Q _ => ∃ (b r : Addr) (es : List Int) (i k : Int), vs = [.ref b, .ref r, .int i, .int k] ∧ BandAt CB H b es ∧ H r = some (.lst (iV es)) ∧ es.length ≤ 1000 ∧ ∀ H', Same H H' → Q (.bl true) H'
def spBothK (CB : Addr) : Sp := fun vs H Q _ => ∃ (p c bs ls b0 b1 e0 e1 : Addr) (ns : List Int) (x0 x1 : List Int), vs = [.ref p, .ref bs, .ref ls] ∧ Pool ns c H p ∧ bs ≠ p ∧ ls ≠ p ∧ e0 ≠ p ∧ e1 ≠ p ∧ H bs = some (.lst [.ref b0, .ref b1]) ∧ H ls = some (.lst [.ref e0, .ref e1]) ∧
  BandAt CB H b0 x0 ∧ BandAt CB H b1 x1 ∧ H e0 = some (.lst (iV x0)) ∧ H e1 = some (.lst (iV x1)) ∧ x0.length ≤ 100 ∧ x1.length ≤ 100 ∧ ∀ H', Pool ns c H' p → But p H H' → Q (.bl true) H'
def spShown (CB : Addr) : Sp := fun vs H Q _ => ∃ (b r : Addr) (es : List Int), vs = [.ref b, .ref r] ∧ BandAt CB H b es ∧ H r = some (.lst (iV es)) ∧ es.length ≤ 1000 ∧ ∀ H', Same H H' → Q (.bl true) H'
end Brk
namespace Brk
open PySem L2
theorem But.free {p e : Addr} {H H1 : Hp} (b : But p H H1) (n : H1 e = none) (ne : e ≠ p) : H e = none := by
  cases q : H e with
  | none => rfl
  | some o =>
    have z := b e o q ne
    rw [n] at z
    cases z
theorem iV_snoc {es : List Int} {z : Int} : iV (es ++ [z]) = iV es ++ [.int z] := by unfold iV; rw [List.map_append]; rfl
def EndsPre (n : Int) (es : List Int) : Prop := ∀ (i : Nat) (x : Int), es[i]? = some x → (i : Int) ≤ x ∧ x < n ∧ ∀ y, es[i + 1]? = some y → x ≤ y
theorem EndsPre.snoc {n z : Int} {es : List Int} {i : Nat} (h : EndsPre n es) (hl : es.length = i) (h1 : (i : Int) ≤ z) (h2 : z < n) (h3 : ∀ x, 0 < i → es[i - 1]? = some x → x ≤ z) : EndsPre n (es ++ [z]) := by
  intro j x hx
  by_cases hj : j < es.length
  · rw [List.getElem?_append_left hj] at hx
    obtain ⟨a, b, c⟩ := h j x hx
    refine ⟨a, b, fun y hy => ?_⟩
    by_cases hj2 : j + 1 < es.length
    · rw [List.getElem?_append_left hj2] at hy
      exact c y hy
    · have e : j + 1 = es.length := by omega
      rw [List.getElem?_append_right (by omega), e, Nat.sub_self] at hy
      have e2 : y = z := by simpa using hy.symm
      rw [e2]
      refine h3 x (by omega) ?_
      rw [show i - 1 = j by omega]
      exact hx
  · have hlt := (List.getElem?_eq_some_iff.mp hx).1
    rw [List.length_append, List.length_singleton] at hlt
    have e : j = es.length := by omega
    rw [List.getElem?_append_right (by omega), e, Nat.sub_self] at hx
    have e2 : x = z := by simpa using hx.symm
    subst e2
    refine ⟨by omega, h2, fun y hy => ?_⟩
    have hlt2 := (List.getElem?_eq_some_iff.mp hy).1
    rw [List.length_append, List.length_singleton] at hlt2
    omega
end Brk
namespace Brk
open PySem L2
section
variable {X : Cx} {K : PySem.W.Frag}
/-! rules that name K, for a comprehension's block -/
theorem call_lenC (hK : X.K = K) : CallR X (.builtin "len") (fun xs H Q => ∃ p ys, xs = [.ref p] ∧ (SqL K H p ys ∨ SqT K H p ys) ∧ Q (.int ys.length) H) := by
  subst hK
  exact call_len_seq
theorem ix_listC (hK : X.K = K) : IxR X (rIxL K) := by
  subst hK
  exact ix_list
theorem ix_tupC (hK : X.K = K) : IxR X (rIxT K) := by
  subst hK
  exact ix_tup
end
end Brk
namespace Brk
open PySem L2
def rgI (a b : Int) : List Int := (List.range (b - a).toNat).map fun i => a + (i : Nat)
theorem rgV_iV {a b : Int} : rgV a b = iV (rgI a b) := by
  unfold rgV rgI iV
  rw [List.map_map]
  rfl
theorem rgI_len {a b : Int} : (rgI a b).length = (b - a).toNat := by
  unfold rgI
  rw [List.length_map, List.length_range]
theorem iV_app {xs ys : List Int} : iV xs ++ iV ys = iV (xs ++ ys) := by
  unfold iV
  rw [List.map_append]
end Brk
namespace Brk
open PySem L2
theorem ne_refl {d : PyData} (h : d.plain = true) : V.bl (!PyData.eqv d d) = V.bl false := by rw [SeqAt.eqv_refl_plain d h]; rfl
theorem okDue {es : List Int} : okD 1 (dueD2 es) = true := by
  unfold dueD2
  split <;> rfl
theorem plL {es : List Int} : (PyData.list (es.map PyData.int)).plain = true := by
  simp only [PyData.plain]
  refine plainAll_of fun d hd => ?_
  obtain ⟨x, _, rfl⟩ := List.mem_map.mp hd
  rfl
theorem okLi {es : List Int} (h : es.length ≤ 1000000) : okD 8 (.list (es.map PyData.int)) = true := okD_mkL (by rw [List.length_map]; exact h) okInts
theorem cut60 {es : List Int} : cutV (iV es) none (some 60) = iV (es.take 60) := by
  have e : HT.sIx (iV es).length (iV es).length (some 60) = min 60 (iV es).length := HT.sIx_nat _ _ 60
  unfold cutV
  rw [e, HT.sIx_none, Nat.sub_zero, List.drop_zero]
  unfold iV
  rw [List.map_take, List.length_map]
  by_cases h : es.length ≤ 60
  · rw [List.take_of_length_le (by rw [List.length_map]; omega), List.take_of_length_le (by rw [List.length_map]; omega)]
  · rw [Nat.min_eq_left (by omega)]
def clip (x : Int) : Int := if 59 < x then 59 else x
theorem clip_ok {n : Int} {es : List Int} (h : EndsOk n es) (hn : n ≤ 61) : EndsOk (min n 60) ((es.take 60).map clip) := by
  obtain ⟨hl, h⟩ := h
  have ll : ((es.take 60).map clip).length = min 60 es.length := by rw [List.length_map, List.length_take]
  refine ⟨by rw [ll]; omega, ?_⟩
  intro i x hx
  have hi : i < ((es.take 60).map clip).length := (List.getElem?_eq_some_iff.mp hx).1
  rw [ll] at hi
  have get : ∀ j, j < 60 → ((es.take 60).map clip)[j]? = (es[j]?).map clip := fun j hj => by rw [List.getElem?_map, List.getElem?_take, if_pos hj]
  rw [get i (by omega)] at hx
  have hx0 : es[i]? = some (es[i]'(by omega)) := List.getElem?_eq_getElem (by omega)
  rw [hx0] at hx
  have hxe : clip (es[i]'(by omega)) = x := by simpa using hx
  obtain ⟨a1, a2, a3⟩ := h i _ hx0
  unfold clip at hxe
  refine ⟨?_, ?_, fun y hy => ?_⟩
  · split at hxe <;> omega
  · split at hxe <;> omega
  · have hj : i + 1 < ((es.take 60).map clip).length := (List.getElem?_eq_some_iff.mp hy).1
    rw [ll] at hj
    rw [get (i + 1) (by omega)] at hy
    have hy0 : es[i + 1]? = some (es[i + 1]'(by omega)) := List.getElem?_eq_getElem (by omega)
    rw [hy0] at hy
    have hye : clip (es[i + 1]'(by omega)) = y := by simpa using hy
    have q := a3 _ hy0
    unfold clip at hye
    split at hxe <;> split at hye <;> omega
theorem EndsOk.len {n : Int} {es : List Int} (h : EndsOk n es) : (es.length : Int) = n := h.1
end Brk
namespace Brk
open PySem L2
theorem take_snoc {α : Type} {l : List α} {i : Nat} {x : α} (h : l[i]? = some x) : l.take i ++ [x] = l.take (i + 1) := by
  rw [List.take_add_one, h]
  rfl
end Brk
namespace Brk
open PySem L2
theorem pg_tupC {X : Cx} {K : PySem.W.Frag} {pos : Pos} {es : List Expr} {k : Nat} {t : TGs} {n : Nat} (hK : X.K = K) (hc : X.calm = true) (h : PGs X es t)
    (hn : (assignEach es X.env).length = n := by rfl) (one : (assignEach es X.env).findIdx? (·.1) = none := by rfl) : PG X (.Tuple es k pos) (gTup K n t) := by
  subst hK
  exact pg_tup hc h hn one
end Brk

set_option Elab.async false
set_option linter.all false
set_option maxRecDepth 100000
set_option maxHeartbeats 4000000
/-! Own rules: enumerate over a tuple. -/
namespace PySem
open Sem (wp)
theorem enumOf_new {v : Value} {o : Obj} {Hv : Heap → Prop} (B : Begins v o Hv) :
    Meets (Builtin.«enumerate.__new__» ⟨[.type "enumerate", v], []⟩) (fun _ R s0 => Hv s0.heap ∧
      R (.ok (.ret (.ref (s0.heap.push o).objs.size))) { s0 with heap := (s0.heap.push o).push ({ cls := .type "enumerate", data := .fields #[.none, .bool false, .ref s0.heap.objs.size, rawInt 0, .none, .none] } : Obj) }) :=
  .of_wp fun P W A0 R s0 hh => by
    obtain ⟨g0, gen0, dr0, tk0, os0⟩ := s0
    obtain ⟨hv, hh⟩ := hh
    have sub0 := sub_enumerate
    have begin_ : ∀ {A' : Around} {E : Value → Shared → Prop} {Q : Value → Shared → Prop}, Q (.ref g0.objs.size) ⟨g0.push o, gen0, dr0, tk0, os0⟩ → wpAny (model P W) A' (pyIter v) Q E ⟨g0, gen0, dr0, tk0, os0⟩ :=
      fun z => B.iter P W _ _ ⟨g0, gen0, dr0, tk0, os0⟩ _ hv z
    wp_walk using begin_
    refine wpAny_stack_any fun stk => wpAny_pure ?_
    split
    · rename_i c0 _ _ _ _ _
      cases (c0 == Value.type "enumerate")
      · wp_walk using begin_
        exact ⟨_, rfl, hh⟩
      · wp_walk using begin_
        exact ⟨_, rfl, hh⟩
    · wp_walk using begin_
      exact ⟨_, rfl, hh⟩
theorem enumOf_call {P : Program} {W : World} {A : Around} {E : Value → Shared → Prop} {s0 : Shared} {v : Value} {o : Obj} {Hv : Heap → Prop} {Q : Value → Shared → Prop} (B : Begins v o Hv) (hv : Hv s0.heap)
    (then_ : ∀ g, IsEnum g (s0.heap.objs.size + 1) s0.heap.objs.size 0 .none → g.get? s0.heap.objs.size = some o → (∀ b u, s0.heap.get? b = some u → g.get? b = some u) → Q (.ref (s0.heap.objs.size + 1)) { s0 with heap := g }) :
    wpAny (model P W) A (call (.type "enumerate") [v]) Q E s0 := by
  refine callType_new F.called_enumerate (by decide) (F.typeCall_enumerate_1 _) (F.newCall_enumerate_1 _) (fun ob => F.args_object_init_2 ob _) F.entry_enumerate_new (enumOf_new B) ⟨hv, ?_⟩
  have size1 : (s0.heap.push o).objs.size = s0.heap.objs.size + 1 := Heap.size_push ..
  have at1 := Heap.get?_push_size (s0.heap.push o) (o := ({ cls := .type "enumerate", data := .fields #[.none, .bool false, .ref s0.heap.objs.size, rawInt 0, .none, .none] } : Obj)) rfl
  show _ ∧ _
  rw [size1] at at1 ⊢
  have en : IsEnum ((s0.heap.push o).push ({ cls := .type "enumerate", data := .fields #[.none, .bool false, .ref s0.heap.objs.size, rawInt 0, .none, .none] } : Obj)) (s0.heap.objs.size + 1) s0.heap.objs.size 0 .none := at1
  exact ⟨⟨_, en, rfl⟩, then_ _ en (Heap.get?_push_of_some _ (Heap.get?_push_size _ B.free)) fun b u z => Heap.get?_push_of_some _ (Heap.get?_push_of_some _ z)⟩
end PySem
namespace Brk
open PySem PySem.Spec PyProof.Rows L2
/-- the tuple at a, each item in a new pair with its place -/
def IteT (K : PySem.W.Frag) (a : Addr) : It :=
  ⟨fun i H => ∃ (xs : List V) (x : V), SqT K H a xs ∧ xs[i]? = some x, fun i H v H' => ∃ t x, v = .ref t ∧ H t = none ∧ H' = L2.upd H t (.tup [.int (i : Nat), x]) ∧ ∀ xs, SqT K H a xs → xs[i]? = some x, fun i H => ∃ xs : List V, SqT K H a xs ∧ xs.length ≤ i⟩
theorem Inv.tup_inj {X : Cx} {pins : List (Addr × Obj)} {σ : L2.St} {H : Hp} {s : Shared} {a : Addr} {xs ys : List V} (I : Inv X pins σ H s) (h : SqT X.K H a xs) (h' : SqT X.K H a ys) : xs = ys := by
  obtain ⟨us, r, ⟨o, e, _, n, d⟩, _⟩ := I.tuple h
  obtain ⟨ws, r', ⟨o', e', _, n', d'⟩, _⟩ := I.tuple h'
  rw [e] at e'
  cases e'
  rw [d] at d'
  injection d' with d1 _
  have eq : us = ws := by simpa using congrArg Array.toList d1
  subst eq
  exact r.inj r'
theorem turn_enumT {P : Program} {W : World} {K : PySem.W.Frag} {elts : List Expr} {kk : Nat} {tpos : Pos} (a e it : Addr) :
    Turn P W K (.Tuple elts kk tpos) (IteT K a) [e, it] e (fun i h => (∃ old, IsEnum h e it ((i : Nat) : Int) old) ∧ h.IsTupleIter it a i ∧ e ≠ it) where
  mem := List.mem_cons_self
  obj := fun i h st b hb => by
    obtain ⟨⟨old, he⟩, ⟨o, ho, hc, hd⟩, _⟩ := st
    rcases List.mem_cons.mp hb with z | z
    · rw [z]
      exact ⟨_, he, fun v q => nomatch q⟩
    · rw [List.mem_singleton.mp z]
      exact ⟨o, ho, fun v q => by rw [hd] at q; cases q⟩
  keep := fun i h h' st k => ⟨⟨st.1.choose, k e (by simp) _ st.1.choose_spec⟩, st.2.1.at fun o q => k it (by simp) o q, st.2.2⟩
  item := by
    intro X hP hw hK calm i pins s σ H E I hf st hg
    subst hP hw hK
    obtain ⟨⟨old, he⟩, hit, hne⟩ := st
    obtain ⟨xs, x, hq, hx⟩ := hg
    obtain ⟨its, rv, p, _⟩ := I.tuple hq
    obtain ⟨u, hu, ru⟩ := rv.get hx
    have size_e : e < s.heap.objs.size := Heap.lt_size he
    have size_it : it < s.heap.objs.size := by
      obtain ⟨_, q, _⟩ := hit
      exact Heap.lt_size q
    have a_it : a ≠ it := by
      intro z
      obtain ⟨o1, q1, c1, _⟩ := id p
      obtain ⟨o2, q2, c2, _⟩ := id hit
      rw [z, q2] at q1
      cases q1
      rw [c1] at c2
      exact absurd c2 (by decide)
    have e_a : e ≠ a := by
      intro z
      obtain ⟨o1, q1, c1, _⟩ := id p
      have q2 := he
      unfold IsEnum at q2
      rw [z, q1] at q2
      cases q2
      have c2 : (Value.type "enumerate") = Value.type "tuple" := c1
      exact absurd c2 (by decide)
    have hi : i < its.toArray.size := by
      have q := (List.getElem?_eq_some_iff.mp hu).1
      simpa using q
    have calm0 : X.A.in1.handled = none := I.ok.hd calm
    refine wpAny_pyNext_enum_itemC (Draws.tuple calm0 it a a_it its.toArray) he ⟨hit, p⟩ hi hne (by simp [hne, e_a]) ?_
    intro y g tk hy out st2 hT _ keep
    have ey : y = u := by
      have q : its.toArray[i]? = some y := hy
      rw [List.getElem?_toArray, hu] at q
      exact (Option.some.inj q).symm
    subst ey
    refine ⟨_, rfl, wpAny_letOwnedTupleGo_enum (s := { s with heap := g, toks := tk + 1 }) out fun g2 he2 same => ?_⟩
    have hT2 : g2.get? s.heap.objs.size = some { cls := .type "tuple", data := .seq #[.int i tk, y] } := (same.2 _ (Nat.ne_of_gt size_e)).trans hT
    have here : ObjOk X.prog X.w (L2.upd H s.heap.objs.size (.tup [.int (i : Nat), x])) g2 s.heap.objs.size (.tup [.int (i : Nat), x]) :=
      ⟨by show 2 ≤ sizeLine; decide, [.int i tk, y], .cons ⟨_, rfl⟩ (.cons ru .nil), ⟨_, hT2, rfl, _, rfl⟩⟩
    have J : Inv X pins σ (L2.upd H s.heap.objs.size (.tup [.int (i : Nat), x])) { s with heap := g2, toks := tk + 1 } :=
      I.turnedNew (ch := [e, it]) (fun b o hb q => (same.2 b (fun z => hb (by simp [z]))).trans (keep b o (fun z => hb (by simp [z])) (fun z => hb (by simp [z])) q)) hf (Nat.le_refl _) here
    refine ⟨.ref s.heap.objs.size, _, J, rfl, ⟨_, x, rfl, I.hok.fresh (Nat.le_refl _), rfl, fun ys hy => by rw [Inv.tup_inj I hy hq]; exact hx⟩, ⟨⟨y, ?_⟩, st2.1.at fun o q => (same.2 it (Ne.symm hne)).trans q, hne⟩, ?_⟩
    · have e1 : ((i + 1 : Nat) : Int) = (i : Int) + 1 := by omega
      rw [e1]
      exact he2
    · intro b hb
      have hlt : b < s.heap.objs.size := by
        rcases List.mem_cons.mp hb with z | z
        · rw [z]
          exact size_e
        · rw [List.mem_singleton.mp z]
          exact size_it
      rw [upd_ne (Nat.ne_of_lt hlt)]
      exact (hf b hb).1
  done := by
    intro X hP hw hK calm i pins s σ H E I hf st hg
    subst hP hw hK
    obtain ⟨⟨old, he⟩, hit, hne⟩ := st
    obtain ⟨xs, hq, hx⟩ := hg
    obtain ⟨its, rv, p, _⟩ := I.tuple hq
    obtain ⟨f0, f1, f2, f3, f4, f5⟩ := hf it (by simp)
    have a_it : a ≠ it := by
      intro z
      obtain ⟨o1, q1, c1, _⟩ := id p
      obtain ⟨o2, q2, c2, _⟩ := id hit
      rw [z, q2] at q1
      cases q1
      rw [c1] at c2
      exact absurd c2 (by decide)
    have calm0 : X.A.in1.handled = none := I.ok.hd calm
    have len := rv.length
    have none_ : its.toArray[i]? = none := by
      rw [List.getElem?_toArray]
      exact List.getElem?_eq_none (by omega)
    have D : Draws X.prog X.w X.A.in1 it [it, a] i (fun _ _ => False) (fun j h => j = i ∧ h.IsTupleIter it a i ∧ h.IsTuple a its.toArray) :=
      { live := fun _ _ st => ⟨_, st.2.1.choose_spec.1⟩,
        frame := fun _ _ _ st k => ⟨st.1, st.2.1.at fun o z => k it (by simp) o z, st.2.2.at fun o z => k a (by simp) o z⟩,
        item := fun j _ _ _ hj st _ => absurd st.1 (Nat.ne_of_lt hj),
        done := fun _ _ _ st hE => wpAny_nextOf_tuple_end calm0 st.2.1 st.2.2 none_ hE }
    exact wpAny_pyNext_enum_endD D he ⟨rfl, hit, p⟩ fun g hx => ⟨rfl, I.turned (t' := s.toks) (fun b o hb q => hx b o hb q) f0 f1 f3 f4 f5⟩
  self := fun A i s Q E st h => wpAny_pyIter_enum st.1.choose_spec h
def iEnumT (K : PySem.W.Frag) (ta : TA) : TI := fun σ H R => ta σ H fun vs H1 => ∃ (a : Addr) (xs : List V), vs = [.ref a] ∧ SqT K H1 a xs ∧ R (IteT K a) H1
theorem pi_enumT {X : Cx} {e : Expr} {ta : TA} {p pos tpos : Pos} {elts : List Expr} {kk : Nat} (hg : Gl X "enumerate") (hm : X.mg "enumerate" = none) (ha : PA X [e] ta) (one : starEach [e] X.env = [(false, eval e X.env)] := by rfl) :
    PI X (.Tuple elts kk tpos) (.Call (.Name "enumerate" p) [e] [] pos) (iEnumT X.K ta) := by
  constructor
  intro pins s σ H R I h
  refine Call_ (ld_blt I hg hm boot_enumerate (PyProof.Rows.callWith_type1 (thn (ha.run pos pins s σ H _ I h) ?_) one rfl))
  intro us s1 hh
  obtain ⟨vs, H1, I1, r1, a, xs, ex, hq, q⟩ := hh
  subst ex
  cases r1 with
  | cons r rr =>
    cases rr
    cases r
    obtain ⟨its, rv, p', _⟩ := I1.tuple hq
    refine enumOf_call (begins_tuple a its.toArray) p' fun g he at0 keep => wpAny_pyIter_enum he ?_
    have I2 : Inv X pins σ H1 { s1 with heap := g } := I1.kept (t' := s1.toks) keep
    refine ⟨s1.heap.objs.size + 1, [s1.heap.objs.size + 1, s1.heap.objs.size], _, _, H1, rfl, I2, turn_enumT a _ _, ⟨⟨.none, he⟩, ⟨_, at0, rfl, rfl⟩, Nat.succ_ne_self _⟩, ?_, q⟩
    intro b hb
    have hle : s1.heap.objs.size ≤ b := by
      rcases List.mem_cons.mp hb with z | z
      · rw [z]
        exact Nat.le_add_right _ _
      · rw [List.mem_singleton.mp z]
        exact Nat.le_refl _
    exact I1.fpOk hle (I1.hok.fresh hle)
theorem walk_enumT {K : PySem.W.Frag} {a : Addr} {xs : List V} : Walk (IteT K a) xs.length (fun H => SqT K H a xs) (YPair (fun i => some (.int (i : Nat))) (fun i => xs[i]?)) := by
  refine ⟨fun i H hi q => ⟨xs, xs[i], q, by simp [hi]⟩, fun H q => ⟨xs, q, Nat.le_refl _⟩, ?_⟩
  intro i H v H' _ q y
  obtain ⟨t, x, h1, h2, h3, h4⟩ := y
  exact ⟨t, .int (i : Nat), x, h1, h2, h3, rfl, h4 xs q⟩
end Brk

set_option Elab.async false
set_option linter.all false
set_option maxRecDepth 100000
set_option maxHeartbeats 4000000
/-! Own words: chains by first fit, and peeled one after the other. -/
namespace Brk
open PySem L2
/-! ### plain -/
def okC (es cs : List Int) (t : Int) : Bool := match cs.getLast? with | none => true | some l => decide (es.getD l.toNat 0 < t)
def ffIns (es : List Int) : List (List Int) → Int → List (List Int)
  | [], _ => []
  | cs :: r, t => if okC es cs t = true then (cs ++ [t]) :: r else cs :: ffIns es r t
def things (n : Nat) : List Int := (List.range n).map fun i => ((i : Nat) : Int)
def ff (es : List Int) (n : Nat) : List (List Int) := (things es.length).foldl (ffIns es) (List.replicate n [])
def peelOne (es : List Int) : List Int → List Int → List Int × List Int
  | ch, [] => (ch, [])
  | ch, t :: ts => if okC es ch t = true then peelOne es (ch ++ [t]) ts else ((peelOne es ch ts).1, t :: (peelOne es ch ts).2)
def peel (es : List Int) : Nat → List Int → List (List Int)
  | 0, _ => []
  | n + 1, left => (peelOne es [] left).1 :: peel es n (peelOne es [] left).2
theorem ff_cons (es : List Int) : ∀ (ts : List Int) (cs : List Int) (r : List (List Int)), ts.foldl (ffIns es) (cs :: r) = (peelOne es cs ts).1 :: (peelOne es cs ts).2.foldl (ffIns es) r
  | [], _, _ => rfl
  | t :: ts, cs, r => by
    rw [List.foldl_cons]
    unfold ffIns peelOne
    by_cases h : okC es cs t = true
    · rw [if_pos h, if_pos h]
      exact ff_cons es ts (cs ++ [t]) r
    · rw [if_neg h, if_neg h]
      rw [ff_cons es ts cs (ffIns es r t)]
      rfl
theorem ff_nil (es : List Int) : ∀ ts : List Int, ts.foldl (ffIns es) [] = []
  | [] => rfl
  | t :: ts => by rw [List.foldl_cons]; exact ff_nil es ts
theorem ff_peel (es : List Int) : ∀ (n : Nat) (ts : List Int), ts.foldl (ffIns es) (List.replicate n []) = peel es n ts
  | 0, ts => ff_nil es ts
  | n + 1, ts => by
    rw [List.replicate_succ, ff_cons, ff_peel es n]
    rfl
theorem peelOne_snoc (es : List Int) : ∀ (ts : List Int) (ch : List Int) (t : Int), peelOne es ch (ts ++ [t]) = if okC es (peelOne es ch ts).1 t = true then ((peelOne es ch ts).1 ++ [t], (peelOne es ch ts).2) else ((peelOne es ch ts).1, (peelOne es ch ts).2 ++ [t])
  | [], ch, t => by
    show peelOne es ch [t] = _
    unfold peelOne
    by_cases h : okC es ch t = true
    · rw [if_pos h, if_pos h]
      rfl
    · rw [if_neg h, if_neg h]
      rfl
  | u :: ts, ch, t => by
    show peelOne es ch (u :: (ts ++ [t])) = _
    unfold peelOne
    by_cases h : okC es ch u = true
    · rw [if_pos h, if_pos h]
      exact peelOne_snoc es ts _ t
    · rw [if_neg h, if_neg h, peelOne_snoc es ts ch t]
      by_cases h2 : okC es (peelOne es ch ts).1 t = true
      · rw [if_pos h2, if_pos h2]
      · rw [if_neg h2, if_neg h2]
        rfl
def leftAt (es : List Int) : Nat → List Int → List Int
  | 0, l => l
  | n + 1, l => leftAt es n (peelOne es [] l).2
theorem peel_snoc (es : List Int) : ∀ (n : Nat) (l : List Int), peel es (n + 1) l = peel es n l ++ [(peelOne es [] (leftAt es n l)).1]
  | 0, l => rfl
  | n + 1, l => by
    show (peelOne es [] l).1 :: peel es (n + 1) (peelOne es [] l).2 = _
    rw [peel_snoc es n]
    rfl
theorem leftAt_snoc (es : List Int) : ∀ (n : Nat) (l : List Int), leftAt es (n + 1) l = (peelOne es [] (leftAt es n l)).2
  | 0, l => rfl
  | n + 1, l => leftAt_snoc es n (peelOne es [] l).2
theorem peel_take (es : List Int) : ∀ (n m : Nat) (l : List Int), m ≤ n → (peel es n l).take m = peel es m l
  | _, 0, _, _ => rfl
  | 0, m + 1, _, h => absurd h (Nat.not_succ_le_zero _)
  | n + 1, m + 1, l, h => by
    show (peelOne es [] l).1 :: (peel es n (peelOne es [] l).2).take m = _
    rw [peel_take es n m _ (Nat.le_of_succ_le_succ h)]
    rfl
theorem peel_len (es : List Int) : ∀ (n : Nat) (l : List Int), (peel es n l).length = n
  | 0, _ => rfl
  | n + 1, l => congrArg Nat.succ (peel_len es n _)
/-- what is peeled are the things themselves -/
theorem peelOne_mem (es : List Int) (P : Int → Prop) : ∀ (ts ch : List Int), (∀ x ∈ ch, P x) → (∀ x ∈ ts, P x) → (∀ x ∈ (peelOne es ch ts).1, P x) ∧ ∀ x ∈ (peelOne es ch ts).2, P x
  | [], ch, h1, _ => ⟨h1, fun x hx => by cases hx⟩
  | t :: ts, ch, h1, h2 => by
    have ht := h2 t List.mem_cons_self
    have hts : ∀ x ∈ ts, P x := fun x hx => h2 x (List.mem_cons_of_mem _ hx)
    unfold peelOne
    split
    · refine peelOne_mem es P ts (ch ++ [t]) (fun x hx => ?_) hts
      rcases List.mem_append.mp hx with hx | hx
      · exact h1 x hx
      · rw [List.mem_singleton.mp hx]
        exact ht
    · obtain ⟨a, b⟩ := peelOne_mem es P ts ch h1 hts
      refine ⟨a, fun x hx => ?_⟩
      rcases List.mem_cons.mp hx with rfl | hx
      · exact ht
      · exact b x hx
theorem peelOne_len (es : List Int) : ∀ (ts ch : List Int), (peelOne es ch ts).1.length ≤ ch.length + ts.length ∧ (peelOne es ch ts).2.length ≤ ts.length
  | [], ch => ⟨Nat.le_refl _, Nat.le_refl _⟩
  | t :: ts, ch => by
    unfold peelOne
    split
    · have := peelOne_len es ts (ch ++ [t])
      rw [List.length_append, List.length_singleton] at this
      rw [List.length_cons]
      omega
    · have := peelOne_len es ts ch
      simp only [List.length_cons]
      omega
theorem leftAt_mem (es : List Int) (P : Int → Prop) : ∀ (n : Nat) (l : List Int), (∀ x ∈ l, P x) → ∀ x ∈ leftAt es n l, P x
  | 0, _, h => h
  | n + 1, l, h => leftAt_mem es P n _ (peelOne_mem es P l [] (fun x hx => by cases hx) h).2
theorem leftAt_len (es : List Int) : ∀ (n : Nat) (l : List Int), (leftAt es n l).length ≤ l.length
  | 0, _ => Nat.le_refl _
  | n + 1, l => Nat.le_trans (leftAt_len es n _) (peelOne_len es l []).2
theorem peel_lens (es : List Int) : ∀ (n : Nat) (l : List Int), ∀ cs ∈ peel es n l, cs.length ≤ l.length
  | 0, _, cs, h => by cases h
  | n + 1, l, cs, h => by
    have q := peelOne_len es l []
    rcases List.mem_cons.mp h with rfl | h
    · have := q.1
      simpa using this
    · exact Nat.le_trans (peel_lens es n _ cs h) q.2
theorem things_mem {n : Nat} : ∀ x ∈ things n, 0 ≤ x ∧ x < n := fun x hx => by
  unfold things at hx
  obtain ⟨i, hi, rfl⟩ := List.mem_map.mp hx
  have := List.mem_range.mp hi
  omega
theorem things_len {n : Nat} : (things n).length = n := by
  unfold things
  rw [List.length_map, List.length_range]
theorem things_rg {n : Nat} : rgI 0 (n : Int) = things n := by
  unfold rgI things
  rw [Int.sub_zero, Int.toNat_natCast]
  congr 1
  funext i
  exact Int.zero_add _
theorem ffIns_at (es : List Int) {t : Int} : ∀ {css : List (List Int)} {j : Nat} {cs : List Int}, css[j]? = some cs → okC es cs t = true → (∀ (i : Nat) (c : List Int), i < j → css[i]? = some c → okC es c t = false) → ffIns es css t = css.set j (cs ++ [t])
  | [], j, cs, h, _, _ => by simp at h
  | c :: r, 0, cs, h, ok, _ => by
    have e : c = cs := by simpa using h
    subst e
    unfold ffIns
    rw [if_pos ok]
    rfl
  | c :: r, j + 1, cs, h, ok, no => by
    have n0 := no 0 c (Nat.succ_pos _) rfl
    unfold ffIns
    rw [n0, if_neg Bool.false_ne_true, ffIns_at es (by simpa using h) ok fun i d hi hd => no (i + 1) d (Nat.succ_lt_succ hi) (by simpa using hd)]
    rfl
theorem ffIns_no (es : List Int) {t : Int} : ∀ {css : List (List Int)}, (∀ (i : Nat) (c : List Int), css[i]? = some c → okC es c t = false) → ffIns es css t = css
  | [], _ => rfl
  | c :: r, no => by
    have n0 := no 0 c rfl
    unfold ffIns
    rw [n0, if_neg Bool.false_ne_true, ffIns_no es fun i d hd => no (i + 1) d (by simpa using hd)]
theorem ffIns_len (es : List Int) : ∀ (css : List (List Int)) (t : Int), (ffIns es css t).length = css.length
  | [], _ => rfl
  | cs :: r, t => by
    unfold ffIns
    split
    · rfl
    · rw [List.length_cons, ffIns_len es r t]; rfl
/-- all things of the chains are below n, and no chain has more than n -/
def Below (n : Int) (css : List (List Int)) : Prop := ∀ cs ∈ css, (cs.length : Int) ≤ n ∧ ∀ x ∈ cs, 0 ≤ x ∧ x < n
theorem ffIns_below (es : List Int) {t : Int} (ht : 0 ≤ t) : ∀ {css : List (List Int)}, Below t css → Below (t + 1) (ffIns es css t)
  | [], _ => fun cs h => by cases h
  | cs :: r, hb => by
    have up : Below (t + 1) (cs :: r) := fun c hc => ⟨by have := (hb c hc).1; omega, fun x hx => by have := (hb c hc).2 x hx; omega⟩
    unfold ffIns
    split
    · intro c hc
      rcases List.mem_cons.mp hc with rfl | hc
      · refine ⟨by have := (hb cs List.mem_cons_self).1; rw [List.length_append, List.length_singleton]; omega, fun x hx => ?_⟩
        rcases List.mem_append.mp hx with hx | hx
        · exact (up cs List.mem_cons_self).2 x hx
        · rw [List.mem_singleton.mp hx]
          omega
      · exact up c (List.mem_cons_of_mem _ hc)
    · intro c hc
      rcases List.mem_cons.mp hc with rfl | hc
      · exact up c List.mem_cons_self
      · exact ffIns_below es ht (css := r) (fun c hc => hb c (List.mem_cons_of_mem _ hc)) c hc
theorem things_succ {n : Nat} : things (n + 1) = things n ++ [(n : Int)] := by
  unfold things
  rw [List.range_succ, List.map_append]
  rfl
/-! ### lists of lists at addresses -/
def RowsC (H : Hp) : List Addr → List (List Int) → Prop
  | [], [] => True
  | a :: as, cs :: r => H a = some (.lst (iV cs)) ∧ RowsC H as r
  | _, _ => False
theorem RowsC.mono {H H' : Hp} : ∀ {as : List Addr} {css : List (List Int)}, RowsC H as css → (∀ a ∈ as, H' a = H a) → RowsC H' as css
  | [], [], _, _ => trivial
  | a :: as, _ :: _, h, s => ⟨(s a List.mem_cons_self).trans h.1, RowsC.mono h.2 fun b hb => s b (List.mem_cons_of_mem _ hb)⟩
  | [], _ :: _, h, _ => h.elim
  | _ :: _, [], h, _ => h.elim
theorem RowsC.same {H H' : Hp} (s : Same H H') : ∀ {as : List Addr} {css : List (List Int)}, RowsC H as css → RowsC H' as css
  | [], [], _ => trivial
  | _ :: _, _ :: _, h => ⟨s _ _ h.1, RowsC.same s h.2⟩
  | [], _ :: _, h => h.elim
  | _ :: _, [], h => h.elim
theorem RowsC.len {H : Hp} : ∀ {as : List Addr} {css : List (List Int)}, RowsC H as css → as.length = css.length
  | [], [], _ => rfl
  | _ :: _, _ :: _, h => congrArg Nat.succ (RowsC.len h.2)
  | [], _ :: _, h => h.elim
  | _ :: _, [], h => h.elim
theorem RowsC.at_ {H : Hp} : ∀ {as : List Addr} {css : List (List Int)} {i : Nat}, RowsC H as css → i < as.length → ∃ a cs, as[i]? = some a ∧ css[i]? = some cs ∧ H a = some (.lst (iV cs))
  | [], _, i, _, hi => absurd hi (Nat.not_lt_zero _)
  | a :: as, cs :: r, 0, h, _ => ⟨a, cs, rfl, rfl, h.1⟩
  | a :: as, cs :: r, i + 1, h, hi => by
    obtain ⟨b, c, e1, e2, e3⟩ := RowsC.at_ (i := i) h.2 (Nat.lt_of_succ_lt_succ hi)
    exact ⟨b, c, by simpa using e1, by simpa using e2, e3⟩
  | _ :: _, [], _, h, _ => h.elim
theorem RowsC.snoc {H : Hp} {b : Addr} {c : List Int} : ∀ {as : List Addr} {css : List (List Int)}, RowsC H as css → H b = some (.lst (iV c)) → RowsC H (as ++ [b]) (css ++ [c])
  | [], [], _, e => ⟨e, trivial⟩
  | _ :: _, _ :: _, h, e => ⟨h.1, RowsC.snoc h.2 e⟩
  | [], _ :: _, h, _ => h.elim
  | _ :: _, [], h, _ => h.elim
/-- the j-th list becomes another -/
theorem RowsC.set {H H' : Hp} {c : List Int} : ∀ {as : List Addr} {css : List (List Int)} {j : Nat} {a : Addr}, RowsC H as css → as.Nodup → as[j]? = some a → H' a = some (.lst (iV c)) → Off a H H' → RowsC H' as (css.set j c)
  | [], _, j, a, _, _, e, _, _ => by simp at e
  | b :: as, cs :: r, 0, a, h, nd, e, e2, o => by
    have eb : b = a := by simpa using e
    subst eb
    refine ⟨e2, RowsC.mono h.2 fun x hx => o x ?_⟩
    rintro rfl
    exact (List.nodup_cons.mp nd).1 hx
  | b :: as, cs :: r, j + 1, a, h, nd, e, e2, o => by
    have e' : as[j]? = some a := by simpa using e
    have nb : b ≠ a := by
      rintro rfl
      exact (List.nodup_cons.mp nd).1 (List.mem_of_getElem? e')
    exact ⟨(o b nb).trans h.1, RowsC.set h.2 (List.nodup_cons.mp nd).2 e' e2 o⟩
  | _ :: _, [], _, _, h, _, _, _, _ => h.elim
theorem RowsC.take {H : Hp} : ∀ {as : List Addr} {css : List (List Int)} (n : Nat), RowsC H as css → RowsC H (as.take n) (css.take n)
  | [], [], n, _ => by simp; trivial
  | _ :: _, _ :: _, 0, _ => trivial
  | _ :: _, _ :: _, n + 1, h => ⟨h.1, RowsC.take n h.2⟩
  | [], _ :: _, _, h => h.elim
  | _ :: _, [], _, h => h.elim
def dC (css : List (List Int)) : PyData := .list (css.map fun cs => .list (cs.map PyData.int))
theorem RowsC.dp {K : PySem.W.Frag} {H : Hp} : ∀ {as : List Addr} {css : List (List Int)}, RowsC H as css → DpAll K H (as.map V.ref) (css.map fun cs => .list (cs.map PyData.int))
  | [], [], _ => .nil
  | _ :: _, _ :: _, h => .cons (.lst (SqL.of h.1) dpInts) (RowsC.dp h.2)
  | [], _ :: _, h => h.elim
  | _ :: _, [], h => h.elim
theorem refs_at {as : List Addr} {i : Nat} {x : V} (h : (as.map V.ref)[i]? = some x) : ∃ a, as[i]? = some a ∧ x = .ref a := by
  rw [List.getElem?_map] at h
  cases e : as[i]? with
  | none => rw [e] at h; cases h
  | some z => rw [e] at h; exact ⟨z, rfl, (Option.some.inj h).symm⟩
theorem refs_ix {as : List Addr} {i : Nat} {a : Addr} (h : as[i]? = some a) : atI (as.map V.ref) ((i : Nat) : Int) = some (.ref a) := atI_nat (by rw [List.getElem?_map, h]; rfl)
/-- a list of lists at l, all new since H0 -/
structure ChAt (H0 H : Hp) (l : Addr) (as : List Addr) (css : List (List Int)) : Prop where
  at_ : H l = some (.lst (as.map V.ref))
  rows : RowsC H as css
  nd : (l :: as).Nodup
  new : ∀ a ∈ l :: as, H0 a = none
theorem ChAt.same {H0 H H' : Hp} {l : Addr} {as : List Addr} {css : List (List Int)} (h : ChAt H0 H l as css) (s : Same H H') : ChAt H0 H' l as css := ⟨s _ _ h.at_, h.rows.same s, h.nd, h.new⟩
theorem ChAt.dp {K : PySem.W.Frag} {H0 H : Hp} {l : Addr} {as : List Addr} {css : List (List Int)} (h : ChAt H0 H l as css) : Dp K H (.ref l) (dC css) := .lst (SqL.of h.at_) h.rows.dp
theorem snoc_or {α : Type} (l : List α) : l = [] ∨ ∃ i x, l = i ++ [x] := by
  rcases List.eq_nil_or_concat l with h | ⟨i, x, h⟩
  · exact .inl h
  · exact .inr ⟨i, x, by rw [h, List.concat_eq_append]⟩
theorem okC_snoc {es i : List Int} {l t : Int} : okC es (i ++ [l]) t = decide (es.getD l.toNat 0 < t) := by
  unfold okC
  rw [List.getLast?_append]
  rfl
theorem near_okC {es i : List Int} {l t : Int} (h : l < t) : nearE es l t = !okC es (i ++ [l]) t := by
  rw [okC_snoc]
  unfold nearE mxI mnI
  rw [if_pos h, if_neg (by omega)]
  by_cases q : es.getD l.toNat 0 < t
  · rw [decide_eq_true q, decide_eq_false (by omega)]
    rfl
  · rw [decide_eq_false q, decide_eq_true (by omega)]
    rfl
def szC (css : List (List Int)) : Int := (css.map fun cs => ((cs.length : Nat) : Int)).sum
def inR (n : Int) : Prop := 0 ≤ n ∧ n ≤ 60
def tD (n : Int) : PyData := .list [.int n, .bool true, .bool true, .bool false, .bool false, .bool false]
def spFirst (CB : Addr) : Sp := fun vs H Q _ => ∃ (b fd : Addr) (es : List Int) (as : List Addr) (css : List (List Int)) (t : Int), vs = [.ref b, .ref fd, .int t] ∧ BandAt CB H b es ∧ H fd = some (.lst (as.map V.ref)) ∧ RowsC H as css ∧ Below t css ∧ 0 ≤ t ∧ t < es.length ∧ es.length ≤ 1000 ∧
  (∀ (j : Nat) (cs : List Int), css[j]? = some cs → okC es cs t = true → (∀ (i : Nat) (c : List Int), i < j → css[i]? = some c → okC es c t = false) → ∀ H', Same H H' → Q (.int (j : Nat)) H') ∧ ((∀ (i : Nat) (c : List Int), css[i]? = some c → okC es c t = false) → ∀ H', Same H H' → Q .non H')
def spChains (CB CN : Addr) : Sp := fun vs H Q E => ∃ (b : Addr) (es : List Int) (n : Int), vs = [.ref b, .int n] ∧ BandAt CB H b es ∧ es.length ≤ 1000 ∧ (inR n → ∀ (fd : Addr) (as : List Addr) (H' : Hp), ChAt H H' fd as (ff es n.toNat) → Same H H' → Q (.ref fd) H') ∧ (¬ inR n → xNum CN n H E)
def spMost (CB CN : Addr) : Sp := fun vs H Q E => ∃ (b : Addr) (es : List Int) (n : Int), vs = [.ref b, .int n] ∧ BandAt CB H b es ∧ es.length ≤ 1000 ∧ (inR n → ∀ H', Same H H' → Q (.int (szC (ff es n.toNat))) H') ∧ (¬ inR n → xNum CN n H E)
def spPeeled : Sp := fun vs H Q _ => ∃ (r : Addr) (es : List Int) (n : Int), vs = [.ref r, .int n] ∧ H r = some (.lst (iV es)) ∧ es.length ≤ 1000 ∧ 0 ≤ n ∧ n ≤ 1000 ∧ (∀ x ∈ es, 0 ≤ x ∧ x < es.length) ∧ ∀ (l : Addr) (as : List Addr) (H' : Hp), ChAt H H' l as (peel es n.toNat (things es.length)) → Same H H' → Q (.ref l) H'
def spChained (K : PySem.W.Frag) (CB : Addr) : Sp := fun vs H Q _ => ∃ (b : Addr) (es : List Int) (n : Int), vs = [.ref b, .int n] ∧ BandAt CB H b es ∧ es.length ≤ 1000 ∧ ∀ (l t : Addr) (gv : V) (td : PyData) (H' : Hp), H' l = some (.lst [.ref t, gv]) → Dp K H' (.ref t) td →
  (inR n → td = .list [] ∧ ∃ fd as, gv = .ref fd ∧ ChAt H H' fd as (ff es n.toNat)) → (¬ inR n → td = tD n ∧ gv = .non) → Same H H' → Q (.ref l) H'
def spCounted (K : PySem.W.Frag) (CB : Addr) : Sp := fun vs H Q _ => ∃ (b : Addr) (es : List Int) (n : Int), vs = [.ref b, .int n] ∧ BandAt CB H b es ∧ es.length ≤ 1000 ∧ ∀ (l : Addr) (cd : PyData) (H' : Hp), Dp K H' (.ref l) cd →
  (inR n → cd = .list [.list [], .int (szC (ff es n.toNat))]) → (¬ inR n → cd = .list [tD n, .none]) → Same H H' → Q (.ref l) H'
def spBothA (CB : Addr) : Sp := fun vs H Q _ => ∃ (b dl : Addr) (es : List Int) (n : Int) (as : List Addr), vs = [.ref b, .int n, .ref dl] ∧ BandAt CB H b es ∧ es.length ≤ 1000 ∧ inR n ∧ H dl = some (.lst (as.map V.ref)) ∧ RowsC H as (ff es n.toNat) ∧ ∀ H', Same H H' → Q (.bl true) H'
def spKeptC (CB : Addr) : Sp := fun vs H Q _ => ∃ (b r : Addr) (es : List Int) (n fw : Int), vs = [.ref b, .ref r, .int n, .int fw] ∧ BandAt CB H b es ∧ H r = some (.lst (iV es)) ∧ es.length ≤ 1000 ∧ (∀ x ∈ es, 0 ≤ x ∧ x < es.length) ∧ ∀ H', Same H H' → Q (.bl true) H'
theorem okDC {css : List (List Int)} {n : Nat} (h : css.length ≤ 1000000) (k : ∀ cs ∈ css, cs.length ≤ 1000000) : okD (n + 2) (dC css) = true := by
  unfold dC
  refine okD_mkL (by rw [List.length_map]; exact h) fun d hd => ?_
  obtain ⟨cs, hcs, rfl⟩ := List.mem_map.mp hd
  exact okD_mkL (by rw [List.length_map]; exact k cs hcs) okInts
theorem ff_lens {es : List Int} {n : Nat} : (ff es n).length = n ∧ ∀ cs ∈ ff es n, cs.length ≤ es.length := by
  unfold ff
  rw [ff_peel]
  refine ⟨peel_len es n _, fun cs h => ?_⟩
  have := peel_lens es n _ cs h
  rw [things_len] at this
  exact this
theorem cutRefs {as : List Addr} {m : Nat} (h : m ≤ as.length) : cutV (as.map V.ref) none (some (m : Int)) = (as.take m).map V.ref := by
  unfold cutV
  rw [HT.sIx_nat, HT.sIx_none, Nat.sub_zero, List.drop_zero, List.length_map, Nat.min_eq_left h, List.map_take]
end Brk
namespace Brk
open PySem L2
theorem cutRefsI {as : List Addr} {m : Int} (h0 : 0 ≤ m) (h : m ≤ as.length) : cutV (as.map V.ref) none (some m) = (as.take m.toNat).map V.ref := by
  have e : m = ((m.toNat : Nat) : Int) := by omega
  rw [e, cutRefs (by omega), Int.toNat_natCast]
end Brk
namespace Brk
open PySem L2
/-- some number, drawn -/
def spNumB : Sp := fun vs H Q _ => ∃ (p c : Addr) (ns : List Int), vs = [.ref p] ∧ Pool ns c H p ∧ ∀ (r : Int) (H' : Hp), Pool ns c H' p → But p H H' → Q (.int r) H'
end Brk

set_option Elab.async false
set_option linter.all false
set_option maxRecDepth 100000
set_option maxHeartbeats 4000000
/-! Own words: the fewest chains; groups. -/
namespace Brk
open PySem L2
theorem maxOf_int : ∀ (ys : List Int) (y : Int), PySem.W.maxOf y ys ∈ y :: ys ∧ ∀ x ∈ y :: ys, x ≤ PySem.W.maxOf y ys
  | [], y => ⟨List.mem_cons_self, fun x hx => by rw [List.mem_singleton.mp hx]; exact Int.le_refl _⟩
  | z :: ys, y => by
    have e : PySem.W.maxOf y (z :: ys) = PySem.W.maxOf (if y < z then z else y) ys := by
      unfold PySem.W.maxOf
      rw [List.foldl_cons]
      congr 1
      by_cases h : y < z
      · rw [if_pos h, if_pos (by simpa [PySem.W.DatumOrd.lt] using h)]
      · rw [if_neg h, if_neg (by simpa [PySem.W.DatumOrd.lt] using h)]
    rw [e]
    obtain ⟨a, b⟩ := maxOf_int ys (if y < z then z else y)
    have c := b _ List.mem_cons_self
    have c2 : y ≤ PySem.W.maxOf (if y < z then z else y) ys ∧ z ≤ PySem.W.maxOf (if y < z then z else y) ys := by
      revert c
      generalize PySem.W.maxOf (if y < z then z else y) ys = m
      intro c
      constructor <;> (split at c <;> omega)
    refine ⟨?_, fun x hx => ?_⟩
    · rcases List.mem_cons.mp a with h | h
      · rw [h]
        split
        · exact List.mem_cons_of_mem _ List.mem_cons_self
        · exact List.mem_cons_self
      · exact List.mem_cons_of_mem _ (List.mem_cons_of_mem _ h)
    · rcases List.mem_cons.mp hx with rfl | hx
      · exact c2.1
      · rcases List.mem_cons.mp hx with rfl | hx
        · exact c2.2
        · exact b x (List.mem_cons_of_mem _ hx)
/-- max(xs, default=d) of whole numbers -/
theorem cr_maxD {X : Cx} (hc : X.calm = true) (hu : X.A.units + 64 < cLine) : CallRK X (.builtin "max") [Str.ofString "default"] (fun xs zs H Q => ∃ (a : Addr) (ns : List Int) (d : Int), xs = [.ref a] ∧ zs = [.int d] ∧ SqL X.K H a (iV ns) ∧ (ns = [] → Q (.int d) H) ∧ ∀ m, m ∈ ns → (∀ x ∈ ns, x ≤ m) → Q (.int m) H) := by
  intro pins s σ H xs zs us ws Q I r rz h
  obtain ⟨a, ns, d, rfl, rfl, hs, q0, q1⟩ := h
  obtain ⟨its, rv, hl, _⟩ := I.list hs
  obtain rfl := Vals.ref1 r
  obtain ⟨w1, rfl, e1⟩ := vals1 rz
  obtain ⟨t, rfl⟩ : ∃ t, w1 = Value.int d t := e1
  have hold : PySem.W.HoldAll s.heap its.toArray.toList ns := by
    simpa using PySem.W.HoldAll.of_ints rv.ints
  refine PySem.W.max_list_datum_default (I.ok.hd hc) hl.isList hold (by show X.A.units + 1 + 0 < cLine; omega) (fun e h' tk k => ⟨.int d, H, I.kept k, ⟨_, rfl⟩, q0 e⟩) fun y ys i v h' tk e hi hv k => ?_
  subst e
  obtain ⟨as, rd⟩ := hv
  obtain ⟨m1, m2⟩ := maxOf_int ys y
  change Reads _ _ (PyData.int (PySem.W.maxOf y ys)) _ at rd
  generalize PySem.W.maxOf y ys = m at *
  cases rd with
  | int _ t2 => exact ⟨.int m, H, I.kept k, ⟨_, rfl⟩, q1 m m1 m2⟩
/-! ### counting -/
theorem sub_len {α : Type} [DecidableEq α] : ∀ {l1 l2 : List α}, l1.Nodup → (∀ x ∈ l1, x ∈ l2) → l1.length ≤ l2.length
  | [], _, _, _ => Nat.zero_le _
  | a :: l1, l2, nd, sub => by
    obtain ⟨na, nd⟩ := List.nodup_cons.mp nd
    have ha := sub a List.mem_cons_self
    have q := sub_len (l2 := l2.erase a) nd fun x hx => (List.mem_erase_of_ne (by rintro rfl; exact na hx)).mpr (sub x (List.mem_cons_of_mem _ hx))
    rw [List.length_erase_of_mem ha] at q
    have := List.length_pos_of_mem ha
    rw [List.length_cons]
    omega
theorem mem_things {n : Nat} {x : Int} : x ∈ things n ↔ 0 ≤ x ∧ x < n := by
  refine ⟨things_mem x, fun ⟨h0, h1⟩ => ?_⟩
  unfold things
  exact List.mem_map.mpr ⟨x.toNat, List.mem_range.mpr (by omega), by omega⟩
theorem things_nodup {n : Nat} : (things n).Nodup := by
  unfold things
  rw [List.nodup_iff_pairwise_ne, List.pairwise_map]
  have := List.nodup_range (n := n)
  rw [List.nodup_iff_pairwise_ne] at this
  exact this.imp fun h e => h (by omega)
/-- the ints from a to b -/
theorem rgI_mem {a b x : Int} : x ∈ rgI a b ↔ a ≤ x ∧ x < b := by
  unfold rgI
  constructor
  · intro h
    obtain ⟨i, hi, rfl⟩ := List.mem_map.mp h
    have := List.mem_range.mp hi
    omega
  · rintro ⟨h0, h1⟩
    exact List.mem_map.mpr ⟨(x - a).toNat, List.mem_range.mpr (by omega), by omega⟩
theorem rgI_nodup {a b : Int} : (rgI a b).Nodup := by
  unfold rgI
  rw [List.nodup_iff_pairwise_ne, List.pairwise_map]
  have := List.nodup_range (n := (b - a).toNat)
  rw [List.nodup_iff_pairwise_ne] at this
  exact this.imp fun h e => h (by omega)
/-- nothing is left out of so many different things -/
theorem full_mem {n : Nat} {l : List Int} (nd : l.Nodup) (h : ∀ x ∈ l, 0 ≤ x ∧ x < (n : Int)) (hl : n ≤ l.length) {x : Int} (hx : 0 ≤ x ∧ x < (n : Int)) : x ∈ l := by
  by_cases hm : x ∈ l
  · exact hm
  · have q := sub_len (l2 := (things n).erase x) nd fun y hy => (List.mem_erase_of_ne (by rintro rfl; exact hm hy)).mpr (mem_things.mpr (h y hy))
    rw [List.length_erase_of_mem (mem_things.mpr hx), things_len] at q
    omega
/-! ### first fit -/
theorem set_flatten {α : Type} : ∀ {css : List (List α)} {j : Nat} {cs : List α} {t : α}, css[j]? = some cs → (css.set j (cs ++ [t])).flatten.Perm (css.flatten ++ [t])
  | [], j, cs, t, h => by simp at h
  | c :: r, 0, cs, t, h => by
    have e : c = cs := by simpa using h
    subst e
    show ((c ++ [t]) ++ r.flatten).Perm ((c ++ r.flatten) ++ [t])
    rw [List.append_assoc, List.append_assoc]
    exact (List.Perm.refl c).append List.perm_append_comm
  | c :: r, j + 1, cs, t, h => by
    show (c ++ (r.set j (cs ++ [t])).flatten).Perm ((c ++ r.flatten) ++ [t])
    rw [List.append_assoc]
    exact (List.Perm.refl c).append (set_flatten (by simpa using h))
/-- either all chains refuse the thing or one takes it -/
theorem ffIns_or (es : List Int) (t : Int) : ∀ css : List (List Int), ((∀ cs ∈ css, okC es cs t = false) ∧ ffIns es css t = css) ∨ ∃ (j : Nat) (cs : List Int), css[j]? = some cs ∧ okC es cs t = true ∧ ffIns es css t = css.set j (cs ++ [t])
  | [] => .inl ⟨(fun cs h => by cases h), rfl⟩
  | c :: r => by
    unfold ffIns
    by_cases h : okC es c t = true
    · rw [if_pos h]
      exact .inr ⟨0, c, rfl, h, rfl⟩
    · rw [if_neg h]
      rcases ffIns_or es t r with ⟨no, e⟩ | ⟨j, cs, e1, e2, e3⟩
      · refine .inl ⟨fun cs hc => ?_, by rw [e]⟩
        rcases List.mem_cons.mp hc with rfl | hc
        · exact Bool.eq_false_iff.mpr h
        · exact no cs hc
      · exact .inr ⟨j + 1, cs, by simpa using e1, e2, by rw [e3]; rfl⟩
/-- a chain: ascending things, none near to the one before it -/
def Chain (es : List Int) (cs : List Int) : Prop := cs.Pairwise fun x y => x < y ∧ es.getD x.toNat 0 < y
structure FF (es : List Int) (t : Nat) (css : List (List Int)) : Prop where
  nd : css.flatten.Nodup
  mem : ∀ x ∈ css.flatten, 0 ≤ x ∧ x < (t : Int)
  ch : ∀ cs ∈ css, Chain es cs
theorem okC_last {es cs : List Int} {t : Int} (h : okC es cs t = false) : ∃ i l, cs = i ++ [l] ∧ t ≤ es.getD l.toNat 0 := by
  rcases snoc_or cs with rfl | ⟨i, l, rfl⟩
  · cases h
  · rw [okC_snoc] at h
    exact ⟨i, l, rfl, by have := of_decide_eq_false h; omega⟩
theorem es_mono {n : Int} {es : List Int} (h : EndsOk n es) {i j : Nat} (hij : i ≤ j) (hj : j < es.length) : es.getD i 0 ≤ es.getD j 0 := by
  induction j with
  | zero =>
    have : i = 0 := by omega
    subst this
    exact Int.le_refl _
  | succ j ih =>
    by_cases z : i = j + 1
    · rw [z]
      exact Int.le_refl _
    · have q := ih (by omega) (by omega)
      have e1 : es[j]? = some (es[j]'(by omega)) := List.getElem?_eq_getElem (by omega)
      have e2 : es[j + 1]? = some (es[j + 1]'(by omega)) := List.getElem?_eq_getElem (by omega)
      have := (h.2 j _ e1).2.2 _ e2
      rw [getD_at e1] at q
      rw [getD_at e2]
      omega
theorem FF.step {n : Int} {es : List Int} {t : Nat} {css : List (List Int)} (hes : EndsOk n es) (f : FF es t css) (ht : t < es.length) : FF es (t + 1) (ffIns es css (t : Int)) := by
  rcases ffIns_or es (t : Int) css with ⟨no, e⟩ | ⟨j, cs, e1, e2, e3⟩
  · rw [e]
    exact ⟨f.nd, fun x hx => by have := f.mem x hx; omega, f.ch⟩
  · rw [e3]
    have p := set_flatten (t := (t : Int)) e1
    have hcs := List.mem_of_getElem? e1
    refine ⟨p.symm.nodup ?_, fun x hx => ?_, fun c hc => ?_⟩
    · refine List.nodup_append.mpr ⟨f.nd, by simp, fun a ha b hb => ?_⟩
      rw [List.mem_singleton.mp hb]
      have := f.mem a ha
      omega
    · have q := p.mem_iff.mp hx
      rcases List.mem_append.mp q with q | q
      · have := f.mem x q
        omega
      · rw [List.mem_singleton.mp q]
        omega
    · rcases List.mem_or_eq_of_mem_set hc with hc | rfl
      · exact f.ch c hc
      · unfold Chain
        refine List.pairwise_append.mpr ⟨f.ch cs hcs, List.pairwise_singleton _ _, fun x hx y hy => ?_⟩
        rw [List.mem_singleton.mp hy]
        have mx : ∀ z ∈ cs, 0 ≤ z ∧ z < (t : Int) := fun z hz => f.mem z (List.mem_flatten.mpr ⟨cs, hcs, hz⟩)
        refine ⟨(mx x hx).2, ?_⟩
        rcases snoc_or cs with rfl | ⟨i, l, rfl⟩
        · cases hx
        · rw [okC_snoc] at e2
          have hl := of_decide_eq_true e2
          have ml := mx l (by simp)
          rcases List.mem_append.mp hx with hx | hx
          · have q := (List.pairwise_append.mp (f.ch _ hcs)).2.2 x hx l (by simp)
            have m := es_mono hes (i := x.toNat) (j := l.toNat) (by omega) (by omega)
            omega
          · rw [List.mem_singleton.mp hx]
            exact hl
theorem ff_FF {n : Int} {es : List Int} (hes : EndsOk n es) (k : Nat) : ∀ t : Nat, t ≤ es.length → FF es t ((things t).foldl (ffIns es) (List.replicate k []))
  | 0, _ => ⟨by simp [things], fun x hx => by simp [things] at hx, fun cs hc => by rw [List.eq_of_mem_replicate hc]; exact List.Pairwise.nil⟩
  | t + 1, h => by
    rw [things_succ, List.foldl_append]
    exact (ff_FF hes k t (by omega)).step hes (by omega)
end Brk
namespace Brk
open PySem L2
/-- the size of the group that begins at i -/
def gsz (es : List Int) (i : Nat) : Int := es.getD i 0 - i + 1
def IsMax (es : List Int) (k : Int) : Prop := 0 ≤ k ∧ (∀ i, i < es.length → gsz es i ≤ k) ∧ ((es = [] ∧ k = 0) ∨ ∃ i, i < es.length ∧ k = gsz es i)
theorem IsMax.eq {es : List Int} {k m : Int} (h : IsMax es k) (h' : IsMax es m) : k = m := by
  obtain ⟨a0, a1, a2⟩ := h
  obtain ⟨b0, b1, b2⟩ := h'
  rcases a2 with ⟨e, e1⟩ | ⟨i, hi, e1⟩
  · rcases b2 with ⟨_, e2⟩ | ⟨j, hj, e2⟩
    · omega
    · rw [e] at hj
      exact absurd hj (Nat.not_lt_zero _)
  · rcases b2 with ⟨e, _⟩ | ⟨j, hj, e2⟩
    · rw [e] at hi
      exact absurd hi (Nat.not_lt_zero _)
    · have := a1 j hj
      have := b1 i hi
      omega
theorem lasts (es : List Int) (t : Int) : ∀ css : List (List Int), (∀ cs ∈ css, okC es cs t = false) → ∃ L : List Int, L.length = css.length ∧ L.Sublist css.flatten ∧ ∀ l ∈ L, t ≤ es.getD l.toNat 0
  | [], _ => ⟨[], rfl, List.Sublist.refl _, fun l hl => by cases hl⟩
  | cs :: r, h => by
    obtain ⟨L, h1, h2, h3⟩ := lasts es t r fun c hc => h c (List.mem_cons_of_mem _ hc)
    obtain ⟨i, l, rfl, hl⟩ := okC_last (h cs List.mem_cons_self)
    refine ⟨l :: L, congrArg Nat.succ h1, ?_, fun x hx => ?_⟩
    · show (l :: L).Sublist ((i ++ [l]) ++ r.flatten)
      rw [List.append_assoc]
      exact (List.Sublist.cons₂ l h2).trans (List.sublist_append_right _ _)
    · rcases List.mem_cons.mp hx with rfl | hx
      · exact hl
      · exact h3 x hx
theorem least_of : ∀ {L : List Int}, L ≠ [] → ∃ m ∈ L, ∀ l ∈ L, m ≤ l
  | [], h => absurd rfl h
  | [x], _ => ⟨x, List.mem_cons_self, fun l hl => by rw [List.mem_singleton.mp hl]; exact Int.le_refl _⟩
  | x :: y :: r, _ => by
    obtain ⟨m, hm, h⟩ := least_of (L := y :: r) (by simp)
    by_cases c : x ≤ m
    · refine ⟨x, List.mem_cons_self, fun l hl => ?_⟩
      rcases List.mem_cons.mp hl with rfl | hl
      · exact Int.le_refl _
      · have := h l hl
        omega
    · refine ⟨m, List.mem_cons_of_mem _ hm, fun l hl => ?_⟩
      rcases List.mem_cons.mp hl with rfl | hl
      · omega
      · exact h l hl
/-- with as many chains as the largest group has things, none is refused -/
theorem taken {n : Int} {es : List Int} {t : Nat} {css : List (List Int)} {k : Int} (hes : EndsOk n es) (f : FF es t css) (ht : t < es.length) (hk : IsMax es k) (hl : (css.length : Int) = k) : ¬ ∀ cs ∈ css, okC es cs (t : Int) = false := by
  intro no
  obtain ⟨L, h1, h2, h3⟩ := lasts es (t : Int) css no
  have nd : L.Nodup := h2.nodup f.nd
  have mem : ∀ l ∈ L, 0 ≤ l ∧ l < (t : Int) := fun l hl => f.mem l (h2.subset hl)
  have k1 : 1 ≤ k := by
    have e0 : es[t]? = some (es[t]'ht) := List.getElem?_eq_getElem ht
    have q := (hes.2 t _ e0).1
    have := hk.2.1 t ht
    unfold gsz at this
    rw [getD_at e0] at this
    omega
  obtain ⟨m, hm, hmin⟩ := least_of (L := L) (by intro z; rw [z] at h1; simp at h1; omega)
  have q := sub_len (l2 := rgI m (t : Int)) nd fun l hl => rgI_mem.mpr ⟨hmin l hl, (mem l hl).2⟩
  rw [rgI_len] at q
  have mm := mem m hm
  have g := hk.2.1 m.toNat (by omega)
  have e := h3 m hm
  unfold gsz at g
  omega
theorem ffIns_flat (es : List Int) {t : Int} {css : List (List Int)} (h : ¬ ∀ cs ∈ css, okC es cs t = false) : (ffIns es css t).flatten.length = css.flatten.length + 1 := by
  rcases ffIns_or es t css with ⟨no, _⟩ | ⟨j, cs, e1, _, e3⟩
  · exact absurd no h
  · rw [e3, (set_flatten (t := t) e1).length_eq, List.length_append]
    rfl
theorem ff_len {es : List Int} {k : Nat} : ∀ ts : List Int, (ts.foldl (ffIns es) (List.replicate k [])).length = k := by
  intro ts
  rw [ff_peel]
  exact peel_len es k ts
theorem all_taken {n : Int} {es : List Int} {k : Int} (hes : EndsOk n es) (hk : IsMax es k) : ∀ t : Nat, t ≤ es.length → ((things t).foldl (ffIns es) (List.replicate k.toNat [])).flatten.length = t
  | 0, _ => by
    have : ∀ m : Nat, (List.replicate m ([] : List Int)).flatten = [] := fun m => by induction m with
      | zero => rfl
      | succ m ih => rw [List.replicate_succ, List.flatten_cons, ih]; rfl
    show (List.replicate k.toNat ([] : List Int)).flatten.length = 0
    rw [this]
    rfl
  | t + 1, h => by
    have ih := all_taken hes hk t (by omega)
    have f := ff_FF hes k.toNat t (by omega)
    rw [things_succ, List.foldl_append]
    have l := ff_len (es := es) (k := k.toNat) (things t)
    have k0 := hk.1
    rw [show ([(t : Int)].foldl (ffIns es) ((things t).foldl (ffIns es) (List.replicate k.toNat []))) = ffIns es ((things t).foldl (ffIns es) (List.replicate k.toNat [])) (t : Int) from rfl, ffIns_flat es (taken hes f (by omega) hk (by rw [l]; omega)), ih]
theorem chain_one {n : Int} {es cs : List Int} {g : Nat} (hes : EndsOk n es) (hc : Chain es cs) (mem : ∀ x ∈ cs, 0 ≤ x ∧ x < (es.length : Int)) : (cs.filter fun x => decide ((g : Int) ≤ x ∧ x ≤ es.getD g 0)).length ≤ 1 := by
  have p := List.Pairwise.filter (fun x => decide ((g : Int) ≤ x ∧ x ≤ es.getD g 0)) hc
  have m : ∀ x ∈ cs.filter (fun x => decide ((g : Int) ≤ x ∧ x ≤ es.getD g 0)), x ∈ cs ∧ (g : Int) ≤ x ∧ x ≤ es.getD g 0 := fun x hx => by
    obtain ⟨a, b⟩ := List.mem_filter.mp hx
    exact ⟨a, of_decide_eq_true b⟩
  generalize cs.filter (fun x => decide ((g : Int) ≤ x ∧ x ≤ es.getD g 0)) = l at p m
  match l, p, m with
  | [], _, _ => exact Nat.zero_le _
  | [x], _, _ => exact Nat.le_refl _
  | x :: y :: r, p, m =>
    exfalso
    have q := (List.pairwise_cons.mp p).1 y List.mem_cons_self
    obtain ⟨mx, x1, x2⟩ := m x List.mem_cons_self
    obtain ⟨_, y1, y2⟩ := m y (List.mem_cons_of_mem _ List.mem_cons_self)
    have b := mem x mx
    have mo := es_mono hes (i := g) (j := x.toNat) (by omega) (by omega)
    omega
theorem chains_few {n : Int} {es : List Int} {g : Nat} (hes : EndsOk n es) : ∀ css : List (List Int), (∀ cs ∈ css, Chain es cs) → (∀ x ∈ css.flatten, 0 ≤ x ∧ x < (es.length : Int)) → (css.flatten.filter fun x => decide ((g : Int) ≤ x ∧ x ≤ es.getD g 0)).length ≤ css.length
  | [], _, _ => Nat.le_refl _
  | c :: r, hc, hm => by
    have a := chain_one (g := g) hes (hc c List.mem_cons_self) fun x hx => hm x (by rw [List.flatten_cons]; exact List.mem_append_left _ hx)
    have b := chains_few (g := g) hes r (fun d hd => hc d (List.mem_cons_of_mem _ hd)) fun x hx => hm x (by rw [List.flatten_cons]; exact List.mem_append_right _ hx)
    rw [List.flatten_cons, List.filter_append, List.length_append, List.length_cons]
    omega
/-- fewer chains than the largest group has things leave a thing out -/
theorem some_left {n : Int} {es : List Int} {k : Int} {m : Nat} (hes : EndsOk n es) (hk : IsMax es k) (hm : (m : Int) < k) : (ff es m).flatten.length < es.length := by
  have f := ff_FF hes m es.length (Nat.le_refl _)
  have l := ff_len (es := es) (k := m) (things es.length)
  have fe : (things es.length).foldl (ffIns es) (List.replicate m []) = ff es m := rfl
  rw [fe] at f l
  rcases hk.2.2 with ⟨_, e⟩ | ⟨g, hg, e⟩
  · omega
  · rcases Nat.lt_or_ge (ff es m).flatten.length es.length with h | h
    · exact h
    · exfalso
      have e0 : es[g]? = some (es[g]'hg) := List.getElem?_eq_getElem hg
      have eg := (hes.2 g _ e0)
      have hl := hes.1
      have few := chains_few (g := g) hes (ff es m) f.ch f.mem
      have q := sub_len (l1 := rgI (g : Int) (es.getD g 0 + 1)) (l2 := (ff es m).flatten.filter fun x => decide ((g : Int) ≤ x ∧ x ≤ es.getD g 0)) rgI_nodup fun x hx => by
        have hx := rgI_mem.mp hx
        refine List.mem_filter.mpr ⟨full_mem f.nd f.mem h ⟨by omega, ?_⟩, decide_eq_true ⟨hx.1, by omega⟩⟩
        rw [getD_at e0] at hx
        omega
      rw [rgI_len] at q
      unfold gsz at e
      omega
theorem szC_flat (css : List (List Int)) : szC css = ((css.flatten.length : Nat) : Int) := by
  unfold szC
  induction css with
  | nil => rfl
  | cons c r ih =>
    rw [List.map_cons, List.sum_cons, ih, List.flatten_cons, List.length_append]
    omega
end Brk
namespace Brk
open PySem L2
theorem inV_no {t : Int} {l : List Int} (h : t ∉ l) : inV (.int t) (iV l) = false := by
  unfold inV iV
  rw [List.any_map, List.any_eq_false]
  intro x hx
  simp only [Function.comp]
  unfold eqV
  simp
  rintro rfl
  exact h hx
theorem flat_iV {l : List Int} : (iV l).all flatV = true := by
  unfold iV
  rw [List.all_map, List.all_eq_true]
  intro x _
  rfl
theorem near_up {es : List Int} {i k : Int} (h : i ≤ k) : nearE es i k = decide (k ≤ es.getD i.toNat 0) := by
  unfold nearE mxI mnI
  by_cases z : k > i
  · rw [if_pos z, if_neg (by omega)]
  · have e : k = i := by omega
    subst e
    rw [if_neg z]
def spFewest (CB : Addr) : Sp := fun vs H Q _ => ∃ (b : Addr) (es : List Int) (n : Int), vs = [.ref b] ∧ BandAt CB H b es ∧ EndsOk n es ∧ es.length ≤ 1000 ∧ ∀ (k : Int) (H' : Hp), IsMax es k → Same H H' → Q (.int k) H'
/-- the first longest group -/
def spGroup : Sp := fun vs H Q _ => ∃ (r : Addr) (es : List Int) (n : Int), vs = [.ref r] ∧ H r = some (.lst (iV es)) ∧ EndsOk n es ∧ es.length ≤ 1000 ∧
  ∀ (l : Addr) (g : List Int) (H' : Hp), H' l = some (.lst (iV g)) → IsMax es g.length → (g = [] ∨ ∃ i, i < es.length ∧ g = rgI i (es.getD i 0 + 1)) → Same H H' → Q (.ref l) H'
def spChainL (K : PySem.W.Frag) : Sp := fun vs H Q _ => ∃ (r c : Addr) (es cs : List Int), vs = [.ref r, .ref c] ∧ H r = some (.lst (iV es)) ∧ H c = some (.lst (iV cs)) ∧ es.length ≤ 1000 ∧ cs.length ≤ 1000 ∧ Chain es cs ∧ (∀ x ∈ cs, 0 ≤ x ∧ x < (es.length : Int)) ∧ Q (.bl true) H
def spHeld : Sp := fun vs H Q _ => ∃ (r l : Addr) (es : List Int) (n : Int) (as : List Addr) (css : List (List Int)), vs = [.ref r, .ref l, .int n] ∧ H r = some (.lst (iV es)) ∧ H l = some (.lst (as.map V.ref)) ∧ RowsC H as css ∧ (css.length : Int) = n ∧ es.length ≤ 1000 ∧ n ≤ 1000 ∧ FF es es.length css ∧
  ∀ H', Same H H' → Q (.int ((css.flatten.length : Nat) : Int)) H'
def spLess (CB : Addr) : Sp := fun vs H Q _ => ∃ (b : Addr) (es : List Int) (n m : Int), vs = [.ref b, .int n, .int m] ∧ BandAt CB H b es ∧ es.length ≤ 1000 ∧ inR n ∧ szC (ff es n.toNat) < m ∧ ∀ H', Same H H' → Q (.bl true) H'
def spKeptG (CB : Addr) : Sp := fun vs H Q _ => ∃ (p c b r : Addr) (ns es : List Int) (n : Int), vs = [.ref p, .ref b, .ref r] ∧ Pool ns c H p ∧ BandAt CB H b es ∧ H r = some (.lst (iV es)) ∧ r ≠ p ∧ EndsOk n es ∧ n ≤ 60 ∧ ∀ H', Pool ns c H' p → But p H H' → Q (.bl true) H'
theorem FF.len {es : List Int} {t : Nat} {css : List (List Int)} (f : FF es t css) : css.flatten.length ≤ t := by
  have := sub_len (l2 := things t) f.nd fun x hx => mem_things.mpr (f.mem x hx)
  rw [things_len] at this
  exact this
end Brk
namespace Brk
open PySem L2
theorem rgI_snoc {a b : Int} (h : a ≤ b) : rgI a (b + 1) = rgI a b ++ [b] := by
  unfold rgI
  rw [show (b + 1 - a).toNat = (b - a).toNat + 1 by omega, List.range_succ, List.map_append]
  congr 1
  show [a + (((b - a).toNat : Nat) : Int)] = [b]
  rw [show a + (((b - a).toNat : Nat) : Int) = b by omega]
theorem rgI_nil {a : Int} : rgI a a = [] := by
  unfold rgI
  rw [Int.sub_self]
  rfl
theorem rgI_first {a b : Int} (h : a < b) : (rgI a b)[0]? = some a := by
  unfold rgI
  rw [List.getElem?_map, List.getElem?_range (by omega : 0 < (b - a).toNat)]
  show some (a + ((0 : Nat) : Int)) = some a
  rw [show a + ((0 : Nat) : Int) = a by omega]
theorem gsz_pos {n : Int} {es : List Int} (h : EndsOk n es) {i : Nat} (hi : i < es.length) : 1 ≤ gsz es i ∧ gsz es i ≤ n ∧ es.getD i 0 < n ∧ (i : Int) ≤ es.getD i 0 := by
  have e0 : es[i]? = some (es[i]'hi) := List.getElem?_eq_getElem hi
  obtain ⟨a, b, _⟩ := h.2 i _ e0
  unfold gsz
  rw [getD_at e0]
  omega
end Brk

set_option Elab.async false
set_option linter.all false
set_option maxRecDepth 100000
set_option maxHeartbeats 4000000
/-! Own rules: range(low, high) over any integers. -/
namespace Brk
open PySem PySem.Spec PyProof.Rows L2
theorem turn_long {P : Program} {w : World} {K : PySem.W.Frag} {tg : Expr} (it : Addr) (lo : Int) (n : Nat) : Turn P w K tg (Itr lo n) [it] it (fun i h => IsLongIter h it (lo + (i : Nat) * 1) ((n : Int) - (i : Nat)) 1) where
  mem := by simp
  obj := fun i h st b hb => by
    have e : b = it := by simpa using hb
    subst e
    exact ⟨_, st, fun v z => by
      have z' : Data.fields _ = Data.cell v := z
      cases z'⟩
  keep := fun i h h' st k => k it (by simp) _ st
  item := by
    intro X hP hw hK hc i pins s σ H E I hf st hg
    subst hP hw hK
    obtain ⟨f0, f1, f2, f3, f4, f5⟩ := hf it (by simp)
    have W := Walks.longrange (prog := X.prog) (w := X.w) (I.ok.hd hc) it lo 1 n
    refine W.item i s _ _ hg st fun v h' tk hv st' kk => ?_
    obtain ⟨t, rfl⟩ := hv
    have I1 : Inv X pins σ H { s with heap := h', toks := tk } := I.turned (fun b o hb e => kk b o (by simpa using hb) e) f0 f1 f3 f4 f5
    refine ⟨_, rfl, go_of (s := { s with heap := h', toks := tk }) (n := "longrange_iterator") st' rfl rfl (by decide) ⟨.int (lo + i), H, I1, ⟨t, ?_⟩, ⟨rfl, rfl⟩, st', fun b hb => (hf b hb).1⟩⟩
    rw [Int.mul_one]
  done := by
    intro X hP hw hK hc i pins s σ H E I hf st hg
    subst hP hw hK
    obtain ⟨f0, f1, f2, f3, f4, f5⟩ := hf it (by simp)
    exact wpAny_pyNext_long_end (I.ok.hd hc) st (by have : n ≤ i := hg; omega) fun h' eb => ⟨rfl, I.turned (t' := s.toks) (fun b o hb e => eb b o hb e) f0 f1 f3 f4 f5⟩
  self := fun _ _ _ _ _ st h => wpAny_pyIter_longiter st h
section
variable {X : Cx} {tg : Expr}
theorem range_itW {pins : List (Addr × Obj)} {σ : L2.St} {H : Hp} {s : Shared} {R : It → Hp → Prop} {E : Value → Shared → Prop} {lo hi : Int} {t u v : Tok} {tk : Nat} (I : Inv X pins σ H s)
    (q : R (Itr lo (hi - lo).toNat) H) : wpAny (model X.prog X.w) X.A (pyIter (.ref s.heap.objs.size)) (PIE X pins σ tg R) E { s with heap := s.heap.push { cls := .type "range", data := .fields #[.int lo t, .int hi u, .int 1 v] }, toks := tk } := by
  have I1 : Inv X pins σ H { s with heap := s.heap.push { cls := .type "range", data := .fields #[.int lo t, .int hi u, .int 1 v] }, toks := tk } := I.kept fun b o e => Heap.get?_push_of_some _ e
  have e1 : lo + ((0 : Nat) : Int) * 1 = lo := by simp
  have e2 : (((hi - lo).toNat : Nat) : Int) - ((0 : Nat) : Int) = Builtin.Range.rangeSize lo hi 1 := by rw [rangeSize_one]; split <;> omega
  cases sm : Builtin.Range.small lo hi 1 with
  | true =>
    refine wpAny_pyIter_range (IsRange.new ..) sm ?_
    refine ⟨(s.heap.push { cls := .type "range", data := .fields #[.int lo t, .int hi u, .int 1 v] }).objs.size, [(s.heap.push { cls := .type "range", data := .fields #[.int lo t, .int hi u, .int 1 v] }).objs.size], _, _, H, rfl,
      I1.kept (t' := tk) fun b o e => Heap.get?_push_of_some _ e, turn_range _ lo (hi - lo).toNat, ?_, fun b hb => ?_, q⟩
    · show IsRangeIter _ _ (lo + ((0 : Nat) : Int) * 1) ((((hi - lo).toNat : Nat) : Int) - ((0 : Nat) : Int)) 1
      rw [e1, e2]
      exact Heap.get?_push_size _ rfl
    · have e : b = (s.heap.push { cls := .type "range", data := .fields #[.int lo t, .int hi u, .int 1 v] }).objs.size := by simpa using hb
      subst e
      exact I1.fpOk (Nat.le_refl _) (I1.hok.fresh (Nat.le_refl _))
  | false =>
    refine wpAny_pyIter_longrange (IsRange.new ..) sm ?_
    refine ⟨(s.heap.push { cls := .type "range", data := .fields #[.int lo t, .int hi u, .int 1 v] }).objs.size, [(s.heap.push { cls := .type "range", data := .fields #[.int lo t, .int hi u, .int 1 v] }).objs.size], _, _, H, rfl,
      I1.kept (t' := tk) fun b o e => Heap.get?_push_of_some _ e, turn_long _ lo (hi - lo).toNat, ?_, fun b hb => ?_, q⟩
    · show IsLongIter _ _ (lo + ((0 : Nat) : Int) * 1) ((((hi - lo).toNat : Nat) : Int) - ((0 : Nat) : Int)) 1
      rw [e1, e2]
      exact Heap.get?_push_size _ rfl
    · have e : b = (s.heap.push { cls := .type "range", data := .fields #[.int lo t, .int hi u, .int 1 v] }).objs.size := by simpa using hb
      subst e
      exact I1.fpOk (Nat.le_refl _) (I1.hok.fresh (Nat.le_refl _))
def iRng2W (ta : TA) : TI := fun σ H R => ta σ H fun vs H1 => ∃ i j : Int, vs = [.int i, .int j] ∧ R (Itr i (j - i).toNat) H1
theorem pi_range2W {a b : Expr} {ta : TA} {p pos : Pos} (hg : Gl X "range") (hm : X.mg "range" = none) (ha : PA X [a, b] ta) (hs : starEach [a, b] X.env = [(false, eval a X.env), (false, eval b X.env)] := by rfl) (hs2 : starEach [b] X.env = [(false, eval b X.env)] := by rfl) :
    PI X tg (.Call (.Name "range" p) [a, b] [] pos) (iRng2W ta) := by
  refine ⟨fun pins s σ H R I h => ?_⟩
  refine Call_ (ld_blt I hg hm boot_range (PyProof.Rows.callWith_type1 (thn (ha.run pos pins s σ H _ I h) fun us s1 ⟨vs, H1, I1, r1, q1⟩ => ?_) (by rw [hs, hs2]) (by rw [hs2]; rfl)))
  obtain ⟨i, j, e, q⟩ := q1
  subst e
  cases r1 with
  | cons r rr =>
    cases rr with
    | cons r' rr =>
      cases rr
      obtain ⟨t, rfl⟩ := r
      obtain ⟨t', rfl⟩ := r'
      exact call_range_2 (range_itW I1 q)
end
end Brk

set_option Elab.async false
set_option linter.all false
set_option maxRecDepth 100000
set_option maxHeartbeats 4000000
/-! Grids: `in` over an own class; what the defs promise; bars between two ticks. -/
namespace Brk
open PySem PySem.Spec PyProof.Rows L2
section
variable {X : Cx} {CX : CXT} {k : Nat} {sp : Sp} {E : XK}
/-- y in x, x of an own class with the method, which answers a truth -/
theorem op_inM {C : Addr} {o2 : Str} (M : Me X.prog X.w X.K X.mg X.base CX k C "__contains__" ["self", o2] sp) (room : Room k X.A) (pass : Passes CX X E) :
    OpR X (compareOp .In) (fun y x H Q => ∃ (a dx : Addr) (fs : List (Str × V)), x = .ref a ∧ H a = some (.ins C dx fs) ∧ sp [.ref a, y] H (fun v H1 => ∃ b : Bool, v = .bl b ∧ Q (.bl b) H1) E) := by
  intro pins s σ H y x u v Q I ry rx h
  obtain ⟨a, dx, fs, rfl, ea, q⟩ := h
  obtain ⟨f, fd, hm, hb, F⟩ := M
  obtain rfl : v = Value.ref a := rx
  obtain ⟨mA, O, _⟩ := ins_get I.hok ea
  obtain ⟨od, J, _⟩ := O.look
  obtain ⟨m, fr⟩ := I.fr
  refine PySem.W.in_K fr I.ok.mod.kin J hm.at_ hm.fn (wpAny_mono (run_fn (us := [.ref a, u]) (vs := [.ref a, y]) F room hb .nil pass I (.cons rfl (.cons ry .nil)) q) ?_ fun _ _ z => z)
  intro r s1 hh
  obtain ⟨w, H1, I1, rw_, b, e, q1⟩ := hh
  subst e
  obtain rfl : r = Value.bool b := rw_
  exact wpAny_truthy_bool ⟨.bl b, H1, I1, rfl, q1⟩
end
def lastOf (s o t : Int) : Int := t - (t - o) % s
def betw (s o lo hi : Int) : Int := if hi ≤ lo then 0 else (barOf s o hi - barOf s o lo) / s
def cntOf (s o lo hi : Int) : Int := if hi ≤ lo then 0 else (hi - 1 - o) / s - (lo - 1 - o) / s
def spGridX (C CB : Addr) : Sp := fun vs H Q E => ∃ (p dx : Addr) (s o : Int), vs = [.ref p, .int s, .int o] ∧ H p = some (.ins C dx []) ∧ (1 ≤ s → ∀ H', GridAt C H' p s (o % s) → Off p H H' → Q .non H') ∧ (¬ 1 ≤ s → xNum CB s H E)
def spLastBar (C : Addr) : Sp := fun vs H Q _ => ∃ (g : Addr) (s o t : Int), vs = [.ref g, .int t] ∧ GridAt C H g s o ∧ Q (.int (lastOf s o t)) H
def spBetween (C : Addr) : Sp := fun vs H Q _ => ∃ (g : Addr) (s o lo hi : Int), vs = [.ref g, .int lo, .int hi] ∧ GridAt C H g s o ∧ s ≤ 10 ^ 27 ∧ Q (.int (betw s o lo hi)) H
def spHas (C : Addr) : Sp := fun vs H Q _ => ∃ (g : Addr) (s o t : Int), vs = [.ref g, .int t] ∧ GridAt C H g s o ∧ Q (.bl (decide (V.int ((t - o) % s) = V.int 0))) H
def spTickG : Sp := fun vs H Q _ => ∃ (p c : Addr) (ns : List Int) (s o : Int), vs = [.ref p, .int s, .int o] ∧ Pool ns c H p ∧ ∀ (r : Int) (H' : Hp), Pool ns c H' p → Off p H H' → Q (.int r) H'
def spGMade (C : Addr) : Sp := fun vs H Q _ => ∃ (g : Addr) (s o : Int), vs = [.ref g, .int s, .int o] ∧ GridAt C H g s (o % s) ∧ Q (.bl true) H
def spGAsked (C : Addr) : Sp := fun vs H Q _ => ∃ (g : Addr) (s o t : Int), vs = [.ref g, .int s, .int o, .int t] ∧ GridAt C H g s (o % s) ∧ Q (.bl true) H
def spGCount : Sp := fun vs H Q _ => ∃ (s o lo hi : Int), vs = [.int s, .int o, .int lo, .int hi] ∧ 1 ≤ s ∧ s ≤ 10 ^ 27 ∧ ∀ H', Same H H' → Q (.int (cntOf s o lo hi)) H'
def spGCounted (C : Addr) : Sp := fun vs H Q _ => ∃ (g : Addr) (s o lo hi : Int), vs = [.ref g, .int s, .int o, .int lo, .int hi] ∧ GridAt C H g s (o % s) ∧ s ≤ 10 ^ 27 ∧ ∀ H', Same H H' → Q (.bl true) H'
def spGRefused : Sp := fun vs H Q _ => ∃ (s o : Int), vs = [.int s, .int o] ∧ s < 1 ∧ ∀ H', Same H H' → Q (.bl true) H'

/-! ### numbers -/
theorem emod_off {s o : Int} : (o % s - o) % s = 0 := by
  rw [Int.sub_emod, Int.emod_emod, ← Int.sub_emod]
  simp
theorem sub_off {s o t : Int} : (t - o % s) % s = (t - o) % s := by
  rw [Int.sub_emod, Int.emod_emod, ← Int.sub_emod]
theorem off_sub {s o t : Int} : (o % s - t) % s = (o - t) % s := by
  rw [Int.sub_emod, Int.emod_emod, ← Int.sub_emod]
/-- the first bar is t's bar -/
theorem bar_on {s o t : Int} : (barOf s (o % s) t - o) % s = 0 := by
  unfold barOf
  rw [off_sub]
  have e : t + (o - t) % s - o = (o - t) % s - (o - t) := by omega
  rw [e]
  exact emod_off
theorem last_on {s o t : Int} : (lastOf s (o % s) t - o) % s = 0 := by
  unfold lastOf
  rw [sub_off]
  have e : t - (t - o) % s - o = (t - o) - (t - o) % s := by omega
  rw [e, Int.sub_emod, Int.emod_emod]
  simp
theorem bar_eq {s o t : Int} (hs : 0 < s) : barOf s (o % s) t = o + s * ((t - 1 - o) / s + 1) := by
  unfold barOf
  rw [off_sub]
  have e := Int.mul_ediv_add_emod (t - 1 - o) s
  have r0 := Int.emod_nonneg (t - 1 - o) (Int.ne_of_gt hs)
  have r1 := Int.emod_lt_of_pos (t - 1 - o) hs
  generalize (t - 1 - o) % s = r at e r0 r1
  generalize (t - 1 - o) / s = q at e ⊢
  have e2 : o - t = (s - 1 - r) + s * (-(q + 1)) := by
    rw [Int.mul_neg, Int.mul_add, Int.mul_one]
    omega
  rw [e2, Int.add_mul_emod_self_left, Int.emod_eq_of_lt (by omega) (by omega), Int.mul_add, Int.mul_one]
  omega
theorem betw_cnt {s o lo hi : Int} (hs : 0 < s) : betw s (o % s) lo hi = cntOf s o lo hi := by
  unfold betw cntOf
  split
  · rfl
  · rw [bar_eq hs, bar_eq hs]
    have e : o + s * ((hi - 1 - o) / s + 1) - (o + s * ((lo - 1 - o) / s + 1)) = s * (((hi - 1 - o) / s + 1) - ((lo - 1 - o) / s + 1)) := by
      rw [Int.mul_sub]
      omega
    rw [e, Int.mul_ediv_cancel_left _ (Int.ne_of_gt hs)]
    omega
theorem step_div {s x : Int} (hs : 0 < s) : x / s - (x - 1) / s = if x % s = 0 then 1 else 0 := by
  have e := Int.mul_ediv_add_emod x s
  have r0 := Int.emod_nonneg x (Int.ne_of_gt hs)
  have r1 := Int.emod_lt_of_pos x hs
  generalize x % s = r at e r0 r1 ⊢
  generalize x / s = q at e ⊢
  by_cases z : r = 0
  · rw [if_pos z]
    have e2 : x - 1 = (s - 1) + s * (q - 1) := by
      rw [Int.mul_sub, Int.mul_one]
      omega
    rw [e2, Int.add_mul_ediv_left _ _ (Int.ne_of_gt hs), Int.ediv_eq_zero_of_lt (by omega) (by omega)]
    omega
  · rw [if_neg z]
    have e2 : x - 1 = (r - 1) + s * q := by omega
    rw [e2, Int.add_mul_ediv_left _ _ (Int.ne_of_gt hs), Int.ediv_eq_zero_of_lt (by omega) (by omega)]
    omega
/-- the bars among n ticks from lo -/
def onBars (s o lo : Int) : Nat → List Int
  | 0 => []
  | n + 1 => if (lo + (n : Nat) - o) % s = 0 then onBars s o lo n ++ [lo + (n : Nat)] else onBars s o lo n
theorem onBars_len {s o lo : Int} (hs : 0 < s) : ∀ n : Nat, ((onBars s o lo n).length : Int) = (lo + (n : Nat) - 1 - o) / s - (lo - 1 - o) / s
  | 0 => by
    show (0 : Int) = _
    rw [show lo + ((0 : Nat) : Int) - 1 - o = lo - 1 - o by simp]
    omega
  | n + 1 => by
    have ih := onBars_len (o := o) (lo := lo) hs n
    have st := step_div (x := lo + (n : Nat) - o) hs
    rw [show lo + (n : Nat) - o - 1 = lo + (n : Nat) - 1 - o by omega] at st
    rw [show lo + ((n + 1 : Nat) : Int) - 1 - o = lo + (n : Nat) - o by push_cast; omega]
    unfold onBars
    split
    · rename_i z
      rw [if_pos z] at st
      rw [List.length_append]
      push_cast
      simp only [List.length_cons, List.length_nil]
      omega
    · rename_i z
      rw [if_neg z] at st
      omega
theorem onBars_le {s o lo : Int} : ∀ n : Nat, (onBars s o lo n).length ≤ n
  | 0 => Nat.le_refl _
  | n + 1 => by
    have := onBars_le (s := s) (o := o) (lo := lo) n
    unfold onBars
    split
    · rw [List.length_append]
      simp only [List.length_cons, List.length_nil]
      omega
    · omega
end Brk
namespace Brk
open L2
theorem bl_q {Q : VK} {H : Hp} {b c : Bool} (e : b = c) (q : Q (.bl c) H) : Q (.bl b) H := e ▸ q
end Brk
namespace Brk
theorem onBars_on {s o lo : Int} {i : Nat} (z : (lo + (i : Nat) - o) % s = 0) : onBars s o lo (i + 1) = onBars s o lo i ++ [lo + (i : Nat)] := if_pos z
theorem onBars_off {s o lo : Int} {i : Nat} (z : ¬ (lo + (i : Nat) - o) % s = 0) : onBars s o lo (i + 1) = onBars s o lo i := if_neg z
end Brk

set_option Elab.async false
set_option linter.all false
set_option maxRecDepth 100000
set_option maxHeartbeats 4000000
/-! A static method asked off its class; blocks within blocks; bands by positions. -/
namespace Brk
open PySem PySem.Spec PyProof.Rows L2
/-- C.m is a static method: its record at p, its def at f -/
structure SmRd (K : PySem.W.Frag) (C : Addr) (mc : Value) (m : Str) (p f : Addr) : Prop where
  rd : ClX.CRead K C mc
  at_ : PySem.W.findCls K (.ref C) mc m = some (.get (.builtin "staticmethod.__get__") (.ref p) .none (.ref C))
  rc : ∃ rest, PySem.W.recIn K p "staticmethod" = some (.ref f :: rest)
def Ssf (K : PySem.W.Frag) (C : Addr) (m qual : Str) (st : Stmt) (ps : List Str) : Prop := ∃ (mc : Value) (p f : Addr) (fd : FuncData), SmRd K C mc m p f ∧ Fun K m qual st f fd ∧ Binds K fd ps []
def Sm (P : Program) (w : World) (K : PySem.W.Frag) (mg : Str → Option Value) (base : Heap) (CX : CXT) (k : Nat) (C : Addr) (m : Str) (ps : List Str) (sp : Sp) : Prop :=
  ∃ (mc : Value) (p f : Addr) (fd : FuncData), SmRd K C mc m p f ∧ PySem.W.keepIn K (.ref f) = true ∧ Binds K fd ps [] ∧ FnOk P w K mg base CX k f fd ps sp
section
variable {X : Cx} {CX : CXT} {k : Nat} {ps : List Str} {sp : Sp} {E : L2.St → XK} {C : Addr} {m : Str} {pos apos : Pos} {e o : Expr} {es : List Expr} {ta : TE} {t : TA}
theorem pe_smS {pl : Sem Bool} (M : Sm X.prog X.w X.K X.mg X.base CX k C m ps sp) (room : Room k X.A) (pass : ∀ σ, PassesAt CX X σ (E σ)) (he : PE X o ta) (ha : PA X (e :: es) t)
    (hst : starEach (e :: es) X.env = (false, eval e X.env) :: starEach es X.env := by rfl) (hpl : (backTo pos (starEach es X.env)).any (·.1) = false := by rfl)
    (ht : eval (.Call (.Attribute o m apos) (e :: es) [] pos) X.env = (do
      let ov ← eval o X.env
      standAt apos.atName
      let (f, first) ← holding [ov] (getMethod ov m pl)
      callWith pos f first (backTo pos (starEach (e :: es) X.env)) (backToKw pos (keywordEach [] X.env))) := by rfl) :
    PE X (.Call (.Attribute o m apos) (e :: es) [] pos) (fun σ H Q => ta σ H fun x H1 => x = .ref C ∧ t σ H1 fun vs H2 => sp vs H2 Q (E σ)) := by
  obtain ⟨mc, p, f, fd, ⟨r, ca, rest, hrec⟩, hk, hb, F⟩ := M
  constructor
  intro pins s σ H Q I h
  refine PySem.W.methodCall_KW (pl := pl) (thn (he.run pins s σ H _ I h) fun u s1 hh => ?_) ht
  obtain ⟨v, H1, I1, rv, ev, q⟩ := hh
  subst ev
  obtain rfl : u = Value.ref C := rv
  refine PySem.W.method_cls I1.kIn r.ga ?_
  refine PySem.W.cls_bind I1.kIn r.rd ca (wpAny_call (PySem.W.sm_get (s := { s1 with toks := s1.toks + 1 }) I1.kIn hrec (PySem.W.handed_on rfl ?_)))
  have J := I1.tok (s1.toks + 1)
  refine PySem.W.callWith_K (first := []) (h₀ := X.base) I1.ok.mod.kin hk ?_ hst hpl
  refine thn (ha.run pos pins _ σ H1 _ J q) fun us s2 hh2 => ?_
  obtain ⟨vs, H2, I2, rr, q2⟩ := hh2
  exact ⟨I2.kIn, run_fnS F room hb (pass σ) I2 rr q2⟩
end
section
variable {X : Cx} {K : PySem.W.Frag}
theorem sl_listC (hK : X.K = K) : SlR X (rSlL K) := by
  subst hK
  exact sl_list
theorem sl_tupC (hK : X.K = K) : SlR X (rSlA K) := by
  subst hK
  exact sl_tupA
theorem pi_listC {l tg : Expr} {tl : TE} (hK : X.K = K) (hl : PE X l tl) : PI X tg l (iList K tl) := by
  subst hK
  exact pi_list hl
theorem pi_tupC {l tg : Expr} {tl : TE} (hK : X.K = K) (hl : PE X l tl) : PI X tg l (iTup K tl) := by
  subst hK
  exact pi_tup hl
end
end Brk
namespace Brk
open PySem PySem.Spec PyProof.Rows L2
def Rises (ps : List Int) : Prop := ∀ (i : Nat) (x y : Int), ps[i]? = some x → ps[i + 1]? = some y → x ≤ y
def fallE (ps : List Int) (i : Nat) : Bool := decide (1 ≤ i) && decide (ps.getD i 0 < ps.getD (i - 1) 0)
inductive SD
  | fine | many | gap | fall (i : Nat)
def sDue (ps : List Int) (g : Int) : SD := if 60 < ps.length then .many else if g < 1 then .gap else match (List.range ps.length).find? (fallE ps) with | some i => .fall i | none => .fine
theorem sdue_many {ps : List Int} {g : Int} (h : 60 < ps.length) : sDue ps g = .many := by unfold sDue; rw [if_pos h]
theorem sdue_gap {ps : List Int} {g : Int} (h : ps.length ≤ 60) (hg : g < 1) : sDue ps g = .gap := by unfold sDue; rw [if_neg (by omega), if_pos hg]
theorem sdue_fall {ps : List Int} {g : Int} {i : Nat} (h : ps.length ≤ 60) (hg : ¬ g < 1) (hi : i < ps.length) (hf : fallE ps i = true) (k : ∀ j, j < i → fallE ps j = false) : sDue ps g = .fall i := by
  unfold sDue
  rw [if_neg (by omega), if_neg hg, find_range hi hf k]
theorem sdue_fine {ps : List Int} {g : Int} (h : ps.length ≤ 60) (hg : ¬ g < 1) (k : ∀ j, j < ps.length → fallE ps j = false) : sDue ps g = .fine := by
  unfold sDue
  rw [if_neg (by omega), if_neg hg, List.find?_eq_none.mpr fun j hj => by rw [k j (List.mem_range.mp hj)]; exact Bool.false_ne_true]
theorem getD_get {ps : List Int} {i : Nat} (h : i < ps.length) : ps[i]? = some (ps.getD i 0) := by
  rw [List.getD_eq_getElem?_getD, List.getElem?_eq_getElem h]
  rfl
theorem Rises.fine {ps : List Int} {g : Int} (r : Rises ps) (h : ps.length ≤ 60) (hg : 1 ≤ g) : sDue ps g = .fine := by
  refine sdue_fine h (by omega) fun j hj => ?_
  unfold fallE
  by_cases z : 1 ≤ j
  · have q := r (j - 1) _ _ (getD_get (by omega)) (by rw [Nat.sub_add_cancel z]; exact getD_get hj)
    rw [decide_eq_false (by omega : ¬ ps.getD j 0 < ps.getD (j - 1) 0), Bool.and_false]
  · rw [decide_eq_false z, Bool.false_and]
theorem rises_of {ps : List Int} (k : ∀ j, j < ps.length → fallE ps j = false) : Rises ps := by
  intro i x y hx hy
  have hi : i + 1 < ps.length := (List.getElem?_eq_some_iff.mp hy).1
  have q := k (i + 1) hi
  unfold fallE at q
  rw [decide_eq_true (Nat.le_add_left 1 i), Bool.true_and, Nat.add_sub_cancel, getD_at hx, getD_at hy] at q
  have := of_decide_eq_false q
  omega
theorem fine_rises {ps : List Int} {g : Int} (h : sDue ps g = .fine) : ps.length ≤ 60 ∧ 1 ≤ g ∧ Rises ps := by
  unfold sDue at h
  split at h
  · cases h
  split at h
  · cases h
  split at h
  · cases h
  · rename_i h1 h2 h3
    refine ⟨by omega, by omega, rises_of fun j hj => ?_⟩
    have q := List.find?_eq_none.mp h3 j (List.mem_range.mpr hj)
    exact Bool.eq_false_iff.mpr q
/-- what is told of positions that are refused -/
def sDueD (ps : List Int) (g : Int) : PyData := match sDue ps g with
  | .many => .list [.str "many", .str "things", .int 60, .bool true, .bool true, .bool false, .bool false, .bool false]
  | .gap => .list [.str "number", .int g, .bool true, .bool true, .bool false, .bool false, .bool false]
  | .fall i => .list [.str "number", .int (ps.getD i 0), .bool true, .bool true, .bool false, .bool false, .bool false]
  | .fine => .list []
theorem okSDue {ps : List Int} {g : Int} : okD 1 (sDueD ps g) = true := by
  unfold sDueD
  split <;> rfl
theorem Rises.mono {ps : List Int} (r : Rises ps) : ∀ {i j : Nat} {x y : Int}, i ≤ j → ps[i]? = some x → ps[j]? = some y → x ≤ y := by
  intro i j
  induction j with
  | zero =>
    intro x y h hx hy
    have : i = 0 := by omega
    subst this
    rw [hx] at hy
    have := Option.some.inj hy
    omega
  | succ j ih =>
    intro x y h hx hy
    by_cases z : i = j + 1
    · subst z
      rw [hx] at hy
      have := Option.some.inj hy
      omega
    · have hj : j < ps.length := by have := (List.getElem?_eq_some_iff.mp hy).1; omega
      have a := ih (by omega) hx (getD_get hj)
      have b := r j _ _ (getD_get hj) hy
      omega
theorem filt_pre {p : Int → Bool} (hp : ∀ x y, x ≤ y → p y = true → p x = true) : ∀ {L : List Int}, (∀ (i j : Nat) (x y : Int), i ≤ j → L[i]? = some x → L[j]? = some y → x ≤ y) →
    ∀ (k : Nat) (x : Int), L[k]? = some x → (p x = true ↔ k < (L.filter p).length)
  | [], _, k, x, h => by simp at h
  | a :: t, m, k, x, h => by
    have mt : ∀ (i j : Nat) (x y : Int), i ≤ j → t[i]? = some x → t[j]? = some y → x ≤ y := fun i j x y hij hx hy => m (i + 1) (j + 1) x y (by omega) (by simpa using hx) (by simpa using hy)
    by_cases ha : p a = true
    · rw [List.filter_cons_of_pos ha, List.length_cons]
      cases k with
      | zero =>
        have e : a = x := by simpa using h
        subst e
        exact ⟨fun _ => Nat.succ_pos _, fun _ => ha⟩
      | succ k =>
        have := filt_pre hp mt k x (by simpa using h)
        rw [this]
        omega
    · have le : a ≤ x := m 0 k a x (Nat.zero_le _) rfl h
      have none_ : (a :: t).filter p = [] := by
        rw [List.filter_eq_nil_iff]
        intro y hy
        obtain ⟨j, hj⟩ := List.getElem?_of_mem hy
        have := m 0 j a y (Nat.zero_le _) rfl hj
        exact fun z => ha (hp a y this z)
      rw [none_]
      exact ⟨fun z => absurd (hp a x le z) ha, fun z => absurd z (Nat.not_lt_zero _)⟩
def nearC (ps : List Int) (g : Int) (i : Nat) : Nat := ((ps.drop i).filter fun q => decide (q - ps.getD i 0 < g)).length
def spE (ps : List Int) (g : Int) : List Int := (List.range ps.length).map fun i : Nat => (i : Int) + (nearC ps g i : Nat) - 1
theorem spE_len {ps : List Int} {g : Int} : (spE ps g).length = ps.length := by unfold spE; rw [List.length_map, List.length_range]
theorem spE_at {ps : List Int} {g : Int} {i : Nat} (h : i < ps.length) : (spE ps g)[i]? = some ((i : Int) + (nearC ps g i : Nat) - 1) := by
  unfold spE
  rw [List.getElem?_map, List.getElem?_range h]
  rfl
theorem near_iff {ps : List Int} {g : Int} (r : Rises ps) {i k : Nat} (hik : i ≤ k) (hk : k < ps.length) : (ps.getD k 0 - ps.getD i 0 < g) ↔ (k : Int) ≤ (i : Int) + (nearC ps g i : Nat) - 1 := by
  have q := filt_pre (p := fun q => decide (q - ps.getD i 0 < g)) (fun x y h z => by
    have := of_decide_eq_true z
    exact decide_eq_true (by omega)) (L := ps.drop i) (fun a b x y hab hx hy => r.mono (i := i + a) (j := i + b) (by omega) (by rw [← List.getElem?_drop]; exact hx) (by rw [← List.getElem?_drop]; exact hy)) (k - i) (ps.getD k 0) (by rw [List.getElem?_drop, show i + (k - i) = k by omega]; exact getD_get hk)
  rw [decide_eq_true_iff] at q
  rw [q]
  unfold nearC
  omega
theorem nearC_le {ps : List Int} {g : Int} {i : Nat} : nearC ps g i ≤ ps.length - i := by
  unfold nearC
  exact Nat.le_trans (List.length_filter_le _ _) (by rw [List.length_drop]; exact Nat.le_refl _)
theorem spE_ok {ps : List Int} {g : Int} (r : Rises ps) (hg : 1 ≤ g) : EndsOk ps.length (spE ps g) := by
  refine ⟨by rw [spE_len], fun i x hx => ?_⟩
  have hi : i < ps.length := by
    have := (List.getElem?_eq_some_iff.mp hx).1
    rw [spE_len] at this
    exact this
  rw [spE_at hi] at hx
  have ex := Option.some.inj hx
  have own := (near_iff (g := g) r (Nat.le_refl i) hi).mp (by omega)
  have le := nearC_le (ps := ps) (g := g) (i := i)
  refine ⟨by omega, by omega, fun y hy => ?_⟩
  have hi1 : i + 1 < ps.length := by
    have := (List.getElem?_eq_some_iff.mp hy).1
    rw [spE_len] at this
    exact this
  rw [spE_at hi1] at hy
  have ey := Option.some.inj hy
  have own1 := (near_iff (g := g) r (Nat.le_refl (i + 1)) hi1).mp (by omega)
  by_cases z : x ≤ ((i + 1 : Nat) : Int)
  · omega
  · obtain ⟨e, he⟩ : ∃ e : Nat, x = (e : Int) := ⟨x.toNat, by omega⟩
    have he1 : e < ps.length := by omega
    have a := (near_iff (g := g) r (i := i) (k := e) (by omega) he1).mpr (by omega)
    have m := r i _ _ (getD_get hi) (getD_get hi1)
    have b := (near_iff (g := g) r (i := i + 1) (k := e) (by omega) he1).mp (by omega)
    omega
theorem near_abs {ps : List Int} {g : Int} (r : Rises ps) {i k : Nat} (hi : i < ps.length) (hk : k < ps.length) : nearE (spE ps g) (i : Int) (k : Int) = decide (((ps.getD i 0 - ps.getD k 0).natAbs : Int) < g) := by
  unfold nearE mxI mnI
  by_cases h : (k : Int) > (i : Int)
  · rw [if_pos h, if_neg (by omega), Int.toNat_natCast, getD_at (spE_at hi)]
    have q := near_iff (g := g) r (i := i) (k := k) (by omega) hk
    have m := r.mono (i := i) (j := k) (by omega) (getD_get hi) (getD_get hk)
    have e : ((ps.getD i 0 - ps.getD k 0).natAbs : Int) = ps.getD k 0 - ps.getD i 0 := by omega
    rw [e]
    exact decide_eq_decide.mpr q.symm
  · rw [if_neg h]
    have q := near_iff (g := g) r (i := k) (k := i) (by omega) hi
    have m := r.mono (i := k) (j := i) (by omega) (getD_get hk) (getD_get hi)
    have e : ((ps.getD i 0 - ps.getD k 0).natAbs : Int) = ps.getD i 0 - ps.getD k 0 := by omega
    rw [e]
    by_cases h2 : (k : Int) < (i : Int)
    · rw [if_pos h2, Int.toNat_natCast, getD_at (spE_at hk)]
      exact decide_eq_decide.mpr q.symm
    · have : i = k := by omega
      subst this
      rw [if_neg h2, Int.toNat_natCast, getD_at (spE_at hi)]
      exact decide_eq_decide.mpr q.symm
end Brk
namespace Brk
open PySem PySem.Spec PyProof.Rows L2
def spRising (CN : Addr) : Sp := fun vs H Q E => ∃ (r : Addr) (ps : List Int), vs = [.ref r] ∧ SqIn H r ps ∧ ps.length ≤ 60 ∧ ((∀ j, j < ps.length → fallE ps j = false) → Q .non H) ∧ (∀ i, i < ps.length → fallE ps i = true → (∀ j, j < i → fallE ps j = false) → xNum CN (ps.getD i 0) H E)
def spSpaced (CB CT CN : Addr) : Sp := fun vs H Q E => ∃ (r : Addr) (ps : List Int) (g : Int), vs = [.ref r, .int g] ∧ SqIn H r ps ∧ ps.length ≤ 1000 ∧ (sDue ps g = .fine → ∀ (x : Addr) (H' : Hp), BandAt CB H' x (spE ps g) → Same H H' → Q (.ref x) H') ∧
  (sDue ps g = .many → xMany CT H E) ∧ (sDue ps g = .gap → xNum CN g H E) ∧ (∀ i, sDue ps g = .fall i → xNum CN (ps.getD i 0) H E)
end Brk
namespace Brk
open PySem PySem.Spec PyProof.Rows L2
theorem atV {ps : List Int} {i : Nat} {z : Int} (h : i < ps.length) (e : z = (i : Int)) : atI (iV ps) z = some (.int (ps.getD i 0)) := by
  subst e
  refine atI_nat ?_
  rw [List.getElem?_map, getD_get h]
  rfl
theorem cutFrom {es : List Int} {i : Nat} (h : i ≤ es.length) : cutV (iV es) (some ((i : Nat) : Int)) none = iV (es.drop i) := by
  have e : HT.sIx (iV es).length 0 (some ((i : Nat) : Int)) = min i (iV es).length := HT.sIx_nat _ _ i
  unfold cutV
  rw [e, HT.sIx_none, List.length_map, Nat.min_eq_left h]
  unfold iV
  rw [List.map_drop]
  refine List.take_of_length_le ?_
  rw [List.length_drop, List.length_map]
  exact Nat.le_refl _
end Brk
namespace Brk
open PySem PySem.Spec PyProof.Rows L2
theorem listFrom {K : PySem.W.Frag} {σ : L2.St} {H : Hp} {r : Addr} {ps : List Int} {i : Nat} {Q : VK} (hs : H r = some (.lst (iV ps))) (hi : i ≤ ps.length) (k : ∀ q Hq, Hq q = some (.lst (iV (ps.drop i))) → Same H Hq → Q (.ref q) Hq) :
    tNoPart σ H (fun u H3 => rSlL K (.ref r) (some ((i : Nat) : Int)) u H3 Q) :=
  ⟨r, _, rfl, SqL.of hs, fun p np => k p _ (upd_same.trans (congrArg (fun l => some (HO.lst l)) (cutFrom hi))) (Same.new np)⟩
theorem tupFrom {K : PySem.W.Frag} {σ : L2.St} {H : Hp} {r : Addr} {ps : List Int} {i : Nat} {Q : VK} (hs : H r = some (.tup (iV ps))) (hi : i ≤ ps.length) (k : ∀ q Hq, Hq q = some (.tup (iV (ps.drop i))) → Same H Hq → Q (.ref q) Hq) :
    tNoPart σ H (fun u H3 => rSlA K (.ref r) (some ((i : Nat) : Int)) u H3 Q) := by
  show rSlA K (.ref r) (some ((i : Nat) : Int)) none H Q
  refine ⟨r, _, rfl, SqT.of hs, fun w => k r H ?_ (Same.refl _), fun _ p np => k p _ (upd_same.trans (congrArg (fun l => some (HO.tup l)) (cutFrom hi))) (Same.new np)⟩
  have e : HT.sIx (iV ps).length 0 (some ((i : Nat) : Int)) = min i (iV ps).length := HT.sIx_nat _ _ i
  have z := w.1
  rw [e, List.length_map, Nat.min_eq_left hi] at z
  subst z
  exact hs
theorem filter_snoc {p : Int → Bool} {L : List Int} {j : Nat} {y : Int} (h : L[j]? = some y) : (L.take (j + 1)).filter p = if p y = true then (L.take j).filter p ++ [y] else (L.take j).filter p := by
  rw [← take_snoc h, List.filter_append]
  by_cases z : p y = true
  · rw [if_pos z, List.filter_cons_of_pos z]
    rfl
  · rw [if_neg z, List.filter_cons_of_neg z]
    simp
end Brk
namespace Brk
open PySem PySem.Spec PyProof.Rows L2
theorem Rises.snoc {ps : List Int} {z : Int} (r : Rises ps) (h : ∀ x, 0 < ps.length → ps[ps.length - 1]? = some x → x ≤ z) : Rises (ps ++ [z]) := by
  intro i x y hx hy
  have hl : i + 1 < ps.length + 1 := by
    have := (List.getElem?_eq_some_iff.mp hy).1
    rw [List.length_append] at this
    exact this
  rw [List.getElem?_append_left (by omega)] at hx
  by_cases z2 : i + 1 < ps.length
  · rw [List.getElem?_append_left z2] at hy
    exact r i x y hx hy
  · have e : i + 1 = ps.length := by omega
    rw [List.getElem?_append_right (by omega), e, Nat.sub_self] at hy
    have ey : z = y := by simpa using hy
    subst ey
    exact h x (by omega) (by rw [← e, Nat.add_sub_cancel]; exact hx)
theorem Rises.nil : Rises [] := fun i x y h => by simp at h
theorem Rises.take {ps : List Int} (r : Rises ps) (n : Nat) : Rises (ps.take n) := fun i x y hx hy => by
  rw [List.getElem?_take] at hx hy
  split at hx
  · split at hy
    · exact r i x y hx hy
    · cases hy
  · cases hx
def spPosL : Sp := fun vs H Q _ => ∃ (p c : Addr) (ns : List Int) (n : Int), vs = [.ref p, .int n] ∧ Pool ns c H p ∧ 0 ≤ n ∧ n ≤ 100 ∧
  ∀ (l : Addr) (ps : List Int) (H' : Hp), (ps.length : Int) = n → Rises ps → H' l = some (.lst (iV ps)) → H l = none → Pool ns c H' p → But p H H' → Q (.ref l) H'
def spDistL : Sp := fun vs H Q _ => ∃ (p c r : Addr) (ns ps : List Int), vs = [.ref p, .ref r] ∧ Pool ns c H p ∧ H r = some (.lst (iV ps)) ∧ r ≠ p ∧ ps.length ≤ 100 ∧ ∀ (g : Int) (H' : Hp), Pool ns c H' p → Off p H H' → Q (.int g) H'
def spDueS (K : PySem.W.Frag) : Sp := fun vs H Q _ => ∃ (r : Addr) (ps : List Int) (g : Int), vs = [.ref r, .int g] ∧ H r = some (.lst (iV ps)) ∧ ps.length ≤ 1000 ∧ ∀ (l : Addr) (H' : Hp), Dp K H' (.ref l) (sDueD ps g) → Same H H' → Q (.ref l) H'
def spMadeS (K : PySem.W.Frag) (CB : Addr) : Sp := fun vs H Q _ => ∃ (r : Addr) (ps : List Int) (g : Int), vs = [.ref r, .int g] ∧ SqIn H r ps ∧ ps.length ≤ 1000 ∧
  ∀ (l t : Addr) (bv : V) (H' : Hp), H' l = some (.lst [.ref t, bv]) → H t = none → Dp K H' (.ref t) (sDueD ps g) → (sDue ps g = .fine → ∃ b, bv = .ref b ∧ BandAt CB H' b (spE ps g)) → Same H H' → Q (.ref l) H'
def spLastL : Sp := fun vs H Q _ => ∃ (r : Addr) (ps : List Int) (g : Int), vs = [.ref r, .int g] ∧ H r = some (.lst (iV ps)) ∧ ps.length ≤ 60 ∧ Rises ps ∧ 1 ≤ g ∧ ∀ (t : Addr) (H' : Hp), H' t = some (.tup (iV (spE ps g))) → Same H H' → Q (.ref t) H'
def spSpacedL (CB : Addr) : Sp := fun vs H Q _ => ∃ (p c b r : Addr) (ns ps : List Int) (g : Int), vs = [.ref p, .ref b, .ref r, .int g] ∧ Pool ns c H p ∧ BandAt CB H b (spE ps g) ∧ H r = some (.lst (iV ps)) ∧ r ≠ p ∧ ps.length ≤ 60 ∧ Rises ps ∧ 1 ≤ g ∧ ∀ H', Pool ns c H' p → But p H H' → Q (.bl true) H'
end Brk
namespace Brk
open PySem PySem.Spec PyProof.Rows L2
theorem sdueD_many {ps : List Int} {g : Int} (h : sDue ps g = .many) : sDueD ps g = .list [.str "many", .str "things", .int 60, .bool true, .bool true, .bool false, .bool false, .bool false] := by unfold sDueD; rw [h]
theorem sdueD_gap {ps : List Int} {g : Int} (h : sDue ps g = .gap) : sDueD ps g = .list [.str "number", .int g, .bool true, .bool true, .bool false, .bool false, .bool false] := by unfold sDueD; rw [h]
theorem sdueD_fall {ps : List Int} {g : Int} {i : Nat} (h : sDue ps g = .fall i) : sDueD ps g = .list [.str "number", .int (ps.getD i 0), .bool true, .bool true, .bool false, .bool false, .bool false] := by unfold sDueD; rw [h]
theorem sdueD_fine {ps : List Int} {g : Int} (h : sDue ps g = .fine) : sDueD ps g = .list [] := by unfold sDueD; rw [h]
/-- the last thing near to i among the first j behind it -/
def lastAt (ps : List Int) (g : Int) (i j : Nat) : Int := if j = 0 then i else min ((i : Int) + (j : Nat) - 1) ((i : Int) + (nearC ps g i : Nat) - 1)
theorem lastAt_in {ps : List Int} {g : Int} {i j : Nat} (r : Rises ps) (h : i + j < ps.length) (q : ps.getD (i + j) 0 - ps.getD i 0 < g) : lastAt ps g i (j + 1) = ((i + j : Nat) : Int) := by
  have := (near_iff r (Nat.le_add_right i j) h).mp q
  unfold lastAt
  rw [if_neg (Nat.succ_ne_zero j)]
  omega
theorem lastAt_out {ps : List Int} {g : Int} {i j : Nat} (r : Rises ps) (hg : 1 ≤ g) (h : i + j < ps.length) (q : ¬ ps.getD (i + j) 0 - ps.getD i 0 < g) : lastAt ps g i (j + 1) = lastAt ps g i j := by
  have a := fun z => q ((near_iff r (Nat.le_add_right i j) h).mpr z)
  have j0 : j ≠ 0 := by
    rintro rfl
    rw [Nat.add_zero] at q
    omega
  unfold lastAt
  rw [if_neg (Nat.succ_ne_zero j), if_neg j0]
  have a' : ¬ (((i + j : Nat) : Int) ≤ (i : Int) + (nearC ps g i : Nat) - 1) := a
  omega
theorem lastAt_end {ps : List Int} {g : Int} {i : Nat} (h : i < ps.length) : lastAt ps g i (ps.length - i) = (i : Int) + (nearC ps g i : Nat) - 1 := by
  have := nearC_le (ps := ps) (g := g) (i := i)
  unfold lastAt
  rw [if_neg (by omega)]
  omega
end Brk
namespace Brk
open PySem PySem.Spec PyProof.Rows L2
theorem near_due {ps : List Int} {g : Int} (r : Rises ps) {i k : Nat} (hi : i < ps.length) (hk : k < ps.length) :
    decide ((if ps.getD i 0 - ps.getD k 0 < 0 then -(ps.getD i 0 - ps.getD k 0) else ps.getD i 0 - ps.getD k 0) < g) = nearE (spE ps g) (i : Int) (k : Int) := by
  rw [near_abs r hi hk]
  refine decide_eq_decide.mpr ?_
  split <;> omega
theorem near_sym {ps : List Int} {g : Int} (r : Rises ps) {i k : Nat} (hi : i < ps.length) (hk : k < ps.length) : nearE (spE ps g) (k : Int) (i : Int) = nearE (spE ps g) (i : Int) (k : Int) := by
  rw [near_abs r hi hk, near_abs r hk hi]
  refine decide_eq_decide.mpr ?_
  omega
theorem rgI_in {a b x : Int} (h : x ∈ rgI a b) : a ≤ x ∧ x < b := by
  unfold rgI at h
  obtain ⟨i, hi, rfl⟩ := List.mem_map.mp h
  have := List.mem_range.mp hi
  omega
end Brk
namespace Brk
open L2
theorem gset {i : Nat} {x y : V} {σ : L2.St} {H : Hp} {Q : L2.St → Hp → Prop} (e : x = y) (q : gName i y σ H Q) : gName i x σ H Q := e ▸ q
end Brk
namespace Brk
open PySem PySem.Spec PyProof.Rows L2
theorem free_of {H H' : Hp} {x : Addr} (s : Same H H') (n : H' x = none) : H x = none := by
  cases e : H x with
  | none => rfl
  | some o =>
    rw [s _ _ e] at n
    cases n
theorem sqL_off {K : PySem.W.Frag} {H H' : Hp} {a p : Addr} {xs : List V} (h : SqL K H a xs) (o : Off p H H') (n : a ≠ p) : SqL K H' a xs := by
  rcases h with (h | ⟨w, h⟩) | h
  · exact .inl (.inl ((o a n).trans h))
  · exact .inl (.inr ⟨w, (o a n).trans h⟩)
  · exact .inr h
theorem dp_nil_off {K : PySem.W.Frag} {H H' : Hp} {a p : Addr} (h : Dp K H (.ref a) (.list [])) (o : Off p H H') (n : a ≠ p) : Dp K H' (.ref a) (.list []) := by
  cases h with
  | lst h r =>
    cases r
    exact .lst (sqL_off h o n) .nil
end Brk

set_option Elab.async false
set_option linter.all false
set_option maxRecDepth 100000
set_option maxHeartbeats 4000000
/-! Covers: lists of tuples of two numbers. -/
namespace Brk
open PySem PySem.Spec PyProof.Rows L2
/-- v is a tuple of the two numbers g -/
def GIs (H : Hp) (v : V) (g : Int × Int) : Prop := ∃ a, v = .ref a ∧ H a = some (.tup [.int g.1, .int g.2])
def Grp (H : Hp) (vs : List V) (gs : List (Int × Int)) : Prop := vs.length = gs.length ∧ ∀ (i : Nat) (v : V) (g : Int × Int), vs[i]? = some v → gs[i]? = some g → GIs H v g
theorem GIs.same {H H' : Hp} {v : V} {g : Int × Int} (h : GIs H v g) (s : Same H H') : GIs H' v g := by
  obtain ⟨a, e, q⟩ := h
  exact ⟨a, e, s _ _ q⟩
theorem GIs.but {H H' : Hp} {v : V} {g : Int × Int} {p : Addr} {xs : List V} (h : GIs H v g) (b : But p H H') (hp : H p = some (.lst xs)) : GIs H' v g := by
  obtain ⟨a, e, q⟩ := h
  refine ⟨a, e, b _ _ q ?_⟩
  rintro rfl
  rw [hp] at q
  cases q
theorem Grp.same {H H' : Hp} {vs : List V} {gs : List (Int × Int)} (h : Grp H vs gs) (s : Same H H') : Grp H' vs gs := ⟨h.1, fun i v g a b => (h.2 i v g a b).same s⟩
theorem Grp.but {H H' : Hp} {vs : List V} {gs : List (Int × Int)} {p : Addr} {xs : List V} (h : Grp H vs gs) (b : But p H H') (hp : H p = some (.lst xs)) : Grp H' vs gs := ⟨h.1, fun i v g a c => (h.2 i v g a c).but b hp⟩
theorem Grp.nil {H : Hp} : Grp H [] [] := ⟨rfl, fun i v g h => by simp at h⟩
theorem Grp.one {H : Hp} {v : V} {g : Int × Int} (h : GIs H v g) : Grp H [v] [g] := ⟨rfl, fun i x y hx hy => by
  cases i with
  | zero =>
    have e1 : v = x := by simpa using hx
    have e2 : g = y := by simpa using hy
    subst e1 e2
    exact h
  | succ i => simp at hx⟩
theorem Grp.app {H : Hp} {vs ws : List V} {gs hs : List (Int × Int)} (a : Grp H vs gs) (b : Grp H ws hs) : Grp H (vs ++ ws) (gs ++ hs) := by
  refine ⟨by rw [List.length_append, List.length_append, a.1, b.1], fun i v g hv hg => ?_⟩
  by_cases h : i < vs.length
  · rw [List.getElem?_append_left h] at hv
    rw [List.getElem?_append_left (by rw [← a.1]; exact h)] at hg
    exact a.2 i v g hv hg
  · rw [List.getElem?_append_right (by omega)] at hv
    rw [List.getElem?_append_right (by rw [← a.1]; omega), ← a.1] at hg
    exact b.2 _ v g hv hg
theorem Grp.take {H : Hp} {vs : List V} {gs : List (Int × Int)} (a : Grp H vs gs) (n : Nat) : Grp H (vs.take n) (gs.take n) := by
  refine ⟨by rw [List.length_take, List.length_take, a.1], fun i v g hv hg => ?_⟩
  rw [List.getElem?_take] at hv hg
  split at hv
  · rename_i h
    rw [if_pos h] at hg
    exact a.2 i v g hv hg
  · cases hv
theorem Grp.drop {H : Hp} {vs : List V} {gs : List (Int × Int)} (a : Grp H vs gs) (n : Nat) : Grp H (vs.drop n) (gs.drop n) := by
  refine ⟨by rw [List.length_drop, List.length_drop, a.1], fun i v g hv hg => ?_⟩
  rw [List.getElem?_drop] at hv hg
  exact a.2 _ v g hv hg
theorem Grp.set {H : Hp} {vs : List V} {gs : List (Int × Int)} {v : V} {g : Int × Int} (a : Grp H vs gs) (h : GIs H v g) (n : Nat) : Grp H (vs.set n v) (gs.set n g) := by
  refine ⟨by rw [List.length_set, List.length_set, a.1], fun i x y hx hy => ?_⟩
  by_cases z : n = i
  · subst z
    rw [List.getElem?_set_self'] at hx hy
    cases e : vs[n]? with
    | none => rw [e] at hx; cases hx
    | some w =>
      cases e2 : gs[n]? with
      | none => rw [e2] at hy; cases hy
      | some w2 =>
        rw [e] at hx
        rw [e2] at hy
        have q1 : v = x := by simpa using hx
        have q2 : g = y := by simpa using hy
        subst q1 q2
        exact h
  · rw [List.getElem?_set_ne z] at hx hy
    exact a.2 i x y hx hy
/-- the item at i -/
theorem Grp.at_ {H : Hp} {vs : List V} {gs : List (Int × Int)} {i : Nat} (h : Grp H vs gs) (hi : i < gs.length) : ∃ a, vs[i]? = some (.ref a) ∧ H a = some (.tup [.int (gs.getD i (0, 0)).1, .int (gs.getD i (0, 0)).2]) := by
  have hv : i < vs.length := by rw [h.1]; exact hi
  have eg : gs[i]? = some (gs.getD i (0, 0)) := by
    rw [List.getD_eq_getElem?_getD, List.getElem?_eq_getElem hi]
    rfl
  obtain ⟨a, e, q⟩ := h.2 i _ _ (List.getElem?_eq_getElem hv) eg
  exact ⟨a, by rw [List.getElem?_eq_getElem hv, e], q⟩
theorem Grp.of_at {H : Hp} {vs : List V} {gs : List (Int × Int)} {i : Nat} {v : V} (h : Grp H vs gs) (hv : vs[i]? = some v) : ∃ a, v = .ref a ∧ i < gs.length ∧ H a = some (.tup [.int (gs.getD i (0, 0)).1, .int (gs.getD i (0, 0)).2]) := by
  have hi : i < gs.length := by
    rw [← h.1]
    exact (List.getElem?_eq_some_iff.mp hv).1
  obtain ⟨a, e, q⟩ := h.at_ hi
  rw [hv] at e
  exact ⟨a, Option.some.inj e, hi, q⟩
def gD (gs : List (Int × Int)) : List PyData := gs.map fun g => .tuple [.int g.1, .int g.2]
theorem Grp.dp {K : PySem.W.Frag} {H : Hp} : ∀ {vs : List V} {gs : List (Int × Int)}, Grp H vs gs → DpAll K H vs (gD gs)
  | [], [], _ => .nil
  | [], _ :: _, h => by have := h.1; simp at this
  | _ :: _, [], h => by have := h.1; simp at this
  | v :: vs, g :: gs, h => by
    obtain ⟨a, e, q⟩ := h.2 0 v g rfl rfl
    subst e
    exact .cons (.tup (SqT.of q) (.cons (.int _) (.cons (.int _) .nil))) (Grp.dp ⟨by have := h.1; simpa using this, fun i x y hx hy => h.2 (i + 1) x y (by simpa using hx) (by simpa using hy)⟩)
theorem okGD {gs : List (Int × Int)} : ∀ d ∈ gD gs, okD 1 d = true := by
  intro d hd
  obtain ⟨g, _, rfl⟩ := List.mem_map.mp hd
  rfl

/-! ### covers -/
def stG (gs : List (Int × Int)) (k : Nat) : Int := if k = 0 then 0 else (gs.getD (k - 1) (0, 0)).2 + 1
theorem stG_succ {gs : List (Int × Int)} {k : Nat} : stG gs (k + 1) = (gs.getD k (0, 0)).2 + 1 := by
  unfold stG
  rw [if_neg (Nat.succ_ne_zero k), Nat.add_sub_cancel]
def okG (es : List Int) (gs : List (Int × Int)) (k : Nat) : Bool :=
  decide ((gs.getD k (0, 0)).1 = stG gs k) && (decide ((gs.getD k (0, 0)).1 ≤ (gs.getD k (0, 0)).2) && (decide ((gs.getD k (0, 0)).2 < es.length) && decide ((gs.getD k (0, 0)).2 ≤ es.getD (gs.getD k (0, 0)).1.toNat 0)))
def covB (es : List Int) (gs : List (Int × Int)) : Bool := (List.range gs.length).all (okG es gs) && decide (stG gs gs.length = es.length)
theorem covB_no {es : List Int} {gs : List (Int × Int)} {k : Nat} (hk : k < gs.length) (h : okG es gs k = false) : covB es gs = false := by
  unfold covB
  rw [List.all_eq_false.mpr ⟨k, List.mem_range.mpr hk, by rw [h]; exact Bool.false_ne_true⟩]
  rfl
theorem covB_end {es : List Int} {gs : List (Int × Int)} (h : ∀ k, k < gs.length → okG es gs k = true) : covB es gs = decide (stG gs gs.length = es.length) := by
  unfold covB
  rw [List.all_eq_true.mpr fun k hk => h k (List.mem_range.mp hk)]
  rfl
theorem okG_parts {es : List Int} {gs : List (Int × Int)} {k : Nat} (h : okG es gs k = true) : (gs.getD k (0, 0)).1 = stG gs k ∧ (gs.getD k (0, 0)).1 ≤ (gs.getD k (0, 0)).2 ∧ (gs.getD k (0, 0)).2 < es.length ∧ (gs.getD k (0, 0)).2 ≤ es.getD (gs.getD k (0, 0)).1.toNat 0 := by
  unfold okG at h
  simp only [Bool.and_eq_true, decide_eq_true_eq] at h
  exact h
theorem stG_pos {es : List Int} {gs : List (Int × Int)} {k : Nat} (h : ∀ j, j < k → okG es gs j = true) : 0 ≤ stG gs k := by
  induction k with
  | zero => exact Int.le_refl _
  | succ k ih =>
    have q := ih fun j hj => h j (by omega)
    obtain ⟨a, b, _⟩ := okG_parts (h k (by omega))
    rw [stG_succ]
    omega
def mn2 (m x : Int) : Int := if x < m then x else m
def totG (m : Int) (gs : List (Int × Int)) : Nat → Int
  | 0 => 0
  | k + 1 => totG m gs k + mn2 m ((gs.getD k (0, 0)).2 - (gs.getD k (0, 0)).1 + 1)
theorem totG_pos {es : List Int} {gs : List (Int × Int)} {m : Int} (hm : 0 ≤ m) : ∀ k, (∀ j, j < k → okG es gs j = true) → 0 ≤ totG m gs k
  | 0, _ => Int.le_refl _
  | k + 1, h => by
    have q := totG_pos (es := es) hm k fun j hj => h j (by omega)
    obtain ⟨_, b, _⟩ := okG_parts (h k (by omega))
    have : 0 ≤ mn2 m ((gs.getD k (0, 0)).2 - (gs.getD k (0, 0)).1 + 1) := by unfold mn2; split <;> omega
    show 0 ≤ totG m gs k + _
    omega
theorem covB_all {es : List Int} {gs : List (Int × Int)} (h : covB es gs = true) : ∀ k, k < gs.length → okG es gs k = true := by
  unfold covB at h
  rw [Bool.and_eq_true] at h
  intro k hk
  exact List.all_eq_true.mp h.1 k (List.mem_range.mpr hk)
theorem sum_tot {m : Int} {gs : List (Int × Int)} : ∀ k, ((List.range k).map fun j => mn2 m ((gs.getD j (0, 0)).2 - (gs.getD j (0, 0)).1 + 1)).sum = totG m gs k
  | 0 => rfl
  | k + 1 => by
    rw [List.range_succ, List.map_append, List.sum_append, sum_tot k]
    show totG m gs k + (_ + 0) = totG m gs k + _
    rw [Int.add_zero]
/-- a list or a tuple of such tuples -/
def GSq (H : Hp) (r : Addr) (vs : List V) : Prop := H r = some (.lst vs) ∨ H r = some (.tup vs)
def spIsCov (CB : Addr) : Sp := fun vs H Q _ => ∃ (b r : Addr) (es : List Int) (ws : List V) (gs : List (Int × Int)), vs = [.ref b, .ref r] ∧ BandAt CB H b es ∧ es.length ≤ 100 ∧ GSq H r ws ∧ Grp H ws gs ∧ Q (.bl (covB es gs)) H
def covV (m : Int) (es : List Int) (gs : List (Int × Int)) : V := if covB es gs = true then .int (totG m gs gs.length) else .non
def spCovBound (CB CN : Addr) : Sp := fun vs H Q E => ∃ (b r : Addr) (m : Int) (es : List Int) (ws : List V) (gs : List (Int × Int)), vs = [.ref b, .int m, .ref r] ∧ BandAt CB H b es ∧ es.length ≤ 100 ∧ GSq H r ws ∧ Grp H ws gs ∧ gs.length ≤ 1000 ∧
  (0 ≤ m ∧ m ≤ 60 → ∀ H', Same H H' → Q (covV m es gs) H') ∧ (¬ (0 ≤ m ∧ m ≤ 60) → xNum CN m H E)
def spBoundL : Sp := fun vs H Q _ => ∃ (el l : Addr) (m : Int) (es : List Int) (ws : List V) (gs : List (Int × Int)), vs = [.ref el, .int m, .ref l] ∧ H el = some (.lst (iV es)) ∧ H l = some (.lst ws) ∧ Grp H ws gs ∧ Q (.int (if covB es gs = true then totG m gs gs.length else -1)) H
end Brk
namespace Brk
open PySem PySem.Spec PyProof.Rows L2
theorem cutTo {ws : List V} {n : Nat} : cutV ws none (some ((n : Nat) : Int)) = ws.take n := by
  have e : HT.sIx ws.length ws.length (some ((n : Nat) : Int)) = min n ws.length := HT.sIx_nat _ _ n
  unfold cutV
  rw [e, HT.sIx_none, Nat.sub_zero, List.drop_zero]
  by_cases h : n ≤ ws.length
  · rw [Nat.min_eq_left h]
  · rw [Nat.min_eq_right (by omega), List.take_of_length_le (Nat.le_refl _), List.take_of_length_le (by omega)]
theorem cutFr {ws : List V} {n : Nat} : cutV ws (some ((n : Nat) : Int)) none = ws.drop n := by
  have e : HT.sIx ws.length 0 (some ((n : Nat) : Int)) = min n ws.length := HT.sIx_nat _ _ n
  unfold cutV
  rw [e, HT.sIx_none]
  by_cases h : n ≤ ws.length
  · rw [Nat.min_eq_left h]
    exact List.take_of_length_le (by rw [List.length_drop]; exact Nat.le_refl _)
  · rw [Nat.min_eq_right (by omega), List.drop_eq_nil_of_le (Nat.le_refl _), List.drop_eq_nil_of_le (by omega), List.take_nil]
/-- a list of groups at l -/
def GLs (H : Hp) (l : Addr) (gs : List (Int × Int)) : Prop := ∃ ws, H l = some (.lst ws) ∧ Grp H ws gs
theorem GLs.same {H H' : Hp} {l : Addr} {gs : List (Int × Int)} (h : GLs H l gs) (s : Same H H') : GLs H' l gs := by
  obtain ⟨ws, e, q⟩ := h
  exact ⟨ws, s _ _ e, q.same s⟩
theorem GLs.but {H H' : Hp} {l : Addr} {gs : List (Int × Int)} {p : Addr} {xs : List V} (h : GLs H l gs) (b : But p H H') (hp : H p = some (.lst xs)) (n : l ≠ p) : GLs H' l gs := by
  obtain ⟨ws, e, q⟩ := h
  exact ⟨ws, b _ _ e n, q.but b hp⟩
def Tame (gs : List (Int × Int)) : Prop := ∀ g ∈ gs, g.1 ≤ g.2 ∧ g.2 ≤ g.1 + 100
def spCuts : Sp := fun vs H Q _ => ∃ (p c el : Addr) (ns es : List Int) (n : Int), vs = [.ref p, .ref el] ∧ Pool ns c H p ∧ H el = some (.lst (iV es)) ∧ el ≠ p ∧ EndsOk n es ∧ n ≤ 100 ∧
  ∀ (l : Addr) (gs : List (Int × Int)) (H' : Hp), GLs H' l gs → Tame gs → gs.length ≤ 100 → H l = none → Pool ns c H' p → But p H H' → Q (.ref l) H'
def spOneCh : Sp := fun vs H Q _ => ∃ (p c a : Addr) (ns : List Int) (n : Int) (g : Int × Int), vs = [.ref p, .int n, .ref a] ∧ Pool ns c H p ∧ H a = some (.tup [.int g.1, .int g.2]) ∧ a ≠ p ∧
  ∀ (v : V) (g' : Int × Int) (H' : Hp), GIs H' v g' → Pool ns c H' p → But p H H' → Q v H'
def spChanged : Sp := fun vs H Q _ => ∃ (p c l : Addr) (ns : List Int) (n : Int) (gs : List (Int × Int)), vs = [.ref p, .int n, .ref l] ∧ Pool ns c H p ∧ GLs H l gs ∧ l ≠ p ∧ Tame gs ∧ gs.length ≤ 100 ∧
  ∀ (l' : Addr) (gs' : List (Int × Int)) (H' : Hp), GLs H' l' gs' → gs'.length ≤ 300 → H l' = none → Pool ns c H' p → But p H H' → Q (.ref l') H'
def spFreeG : Sp := fun vs H Q _ => ∃ (p c : Addr) (ns : List Int) (n : Int), vs = [.ref p, .int n] ∧ Pool ns c H p ∧ 0 ≤ n ∧ n ≤ 100 ∧
  ∀ (l : Addr) (gs : List (Int × Int)) (H' : Hp), GLs H' l gs → gs.length ≤ 300 → H l = none → Pool ns c H' p → But p H H' → Q (.ref l) H'
def bdD (m : Int) (es : List Int) (gs : List (Int × Int)) : PyData := if 0 ≤ m ∧ m ≤ 60 then .list [.list [], if covB es gs = true then .int (totG m gs gs.length) else .none] else .list [.list [.int m, .bool true, .bool true, .bool false, .bool false, .bool false], .none]
theorem okBD {m : Int} {es : List Int} {gs : List (Int × Int)} : okD 2 (bdD m es gs) = true := by
  unfold bdD
  split
  · split <;> rfl
  · rfl
def spBdd (K : PySem.W.Frag) (CB : Addr) : Sp := fun vs H Q _ => ∃ (b r : Addr) (m : Int) (es : List Int) (ws : List V) (gs : List (Int × Int)), vs = [.ref b, .int m, .ref r] ∧ BandAt CB H b es ∧ es.length ≤ 100 ∧ GSq H r ws ∧ Grp H ws gs ∧ gs.length ≤ 1000 ∧ ∀ (l : Addr) (H' : Hp), Dp K H' (.ref l) (bdD m es gs) → Same H H' → Q (.ref l) H'
def spKeptV (CB : Addr) : Sp := fun vs H Q _ => ∃ (b el l : Addr) (m : Int) (es : List Int) (gs : List (Int × Int)), vs = [.ref b, .ref el, .int m, .ref l] ∧ BandAt CB H b es ∧ H el = some (.lst (iV es)) ∧ es.length ≤ 100 ∧ GLs H l gs ∧ gs.length ≤ 1000 ∧ ∀ H', Same H H' → Q (.bl true) H'
end Brk
namespace Brk
open PySem PySem.Spec PyProof.Rows L2
theorem cutToZ {ws : List V} {n : Nat} {z : Int} (h : z = (n : Int)) : cutV ws none (some z) = ws.take n := by rw [h, cutTo]
theorem cutFrZ {ws : List V} {n : Nat} {z : Int} (h : z = (n : Int)) : cutV ws (some z) none = ws.drop n := by rw [h, cutFr]
theorem atG {H : Hp} {vs : List V} {gs : List (Int × Int)} {i : Nat} {z : Int} (h : Grp H vs gs) (hi : i < gs.length) (e : z = (i : Int)) : ∃ a, atI vs z = some (.ref a) ∧ H a = some (.tup [.int (gs.getD i (0, 0)).1, .int (gs.getD i (0, 0)).2]) := by
  obtain ⟨a, e1, e2⟩ := h.at_ hi
  exact ⟨a, by rw [e]; exact atI_nat e1, e2⟩
theorem tame_at {gs : List (Int × Int)} {i : Nat} (h : Tame gs) (hi : i < gs.length) : (gs.getD i (0, 0)).1 ≤ (gs.getD i (0, 0)).2 ∧ (gs.getD i (0, 0)).2 ≤ (gs.getD i (0, 0)).1 + 100 := by
  refine h _ ?_
  rw [List.getD_eq_getElem?_getD, List.getElem?_eq_getElem hi]
  exact List.getElem_mem hi
end Brk

set_option Elab.async false
set_option linter.all false
set_option maxRecDepth 100000
set_option maxHeartbeats 4000000
namespace Brk.K45
open PySem L2 Brk
def top (i : Nat) : Stmt := PySem.Challenge.pw_barbreaks_k45_cover_bounds.main.body.getD i (.Pass ⟨0, 0, 0, 0⟩)
abbrev s_BadEnd_init : Stmt := inClass (top 5) 0
theorem sc_BadEnd_init : FnScope ["self", "index"] ["self", "index"] (defScope s_BadEnd_init) := ⟨rfl, rfl, rfl, by decide +kernel, rfl, by decide +kernel, by decide +kernel⟩
abbrev s_TooMany_init : Stmt := inClass (top 4) 0
theorem sc_TooMany_init : FnScope ["self", "what", "most"] ["self", "what", "most"] (defScope s_TooMany_init) := ⟨rfl, rfl, rfl, by decide +kernel, rfl, by decide +kernel, by decide +kernel⟩
abbrev s_BadNumber_init : Stmt := inClass (top 3) 0
theorem sc_BadNumber_init : FnScope ["self", "number"] ["self", "number"] (defScope s_BadNumber_init) := ⟨rfl, rfl, rfl, by decide +kernel, rfl, by decide +kernel, by decide +kernel⟩
abbrev s_l_take : Stmt := top 19
theorem sc_l_take : FnScope ["_law_pool_here", "_law_size", "_law_cells", "_law_mixed", "_law_cell", "_law_digit"] ["_law_pool_here", "_law_size"] (defScope s_l_take) := ⟨rfl, rfl, rfl, by decide +kernel, rfl, by decide +kernel, by decide +kernel⟩
abbrev s_l_big : Stmt := top 20
theorem sc_l_big : FnScope ["_law_pool_here", "_law_value", "_law_k"] ["_law_pool_here"] (defScope s_l_big) := ⟨rfl, rfl, rfl, by decide +kernel, rfl, by decide +kernel, by decide +kernel⟩
abbrev s_l_pool : Stmt := top 18
theorem sc_l_pool : FnScope ["_law_script", "_law_seed", "_law_cell"] ["_law_script"] (defScope s_l_pool) := ⟨rfl, rfl, rfl, by decide +kernel, rfl, by decide +kernel, by decide +kernel⟩
abbrev s_l_is_int : Stmt := top 17
theorem sc_l_is_int : FnScope ["_law_x"] ["_law_x"] (defScope s_l_is_int) := ⟨rfl, rfl, rfl, by decide +kernel, rfl, by decide +kernel, by decide +kernel⟩
abbrev s_check_things : Stmt := top 9
theorem sc_check_things : FnScope ["count"] ["count"] (defScope s_check_things) := ⟨rfl, rfl, rfl, by decide +kernel, rfl, by decide +kernel, by decide +kernel⟩
abbrev s_check_from_zero : Stmt := top 11
theorem sc_check_from_zero : FnScope ["number", "most"] ["number", "most"] (defScope s_check_from_zero) := ⟨rfl, rfl, rfl, by decide +kernel, rfl, by decide +kernel, by decide +kernel⟩
abbrev s_check_ends : Stmt := top 10
theorem sc_check_ends : FnScope ["ends", "before", "at", "end"] ["ends"] (defScope s_check_ends) := ⟨rfl, rfl, rfl, by decide +kernel, rfl, by decide +kernel, by decide +kernel⟩
abbrev s_Band_init : Stmt := inClass (top 12) 0
theorem sc_Band_init : FnScope ["self", "ends"] ["self", "ends"] (defScope s_Band_init) := ⟨rfl, rfl, rfl, by decide +kernel, rfl, by decide +kernel, by decide +kernel⟩
abbrev s_Band_len : Stmt := inClass (top 12) 2
theorem sc_Band_len : FnScope ["self"] ["self"] (defScope s_Band_len) := ⟨rfl, rfl, rfl, by decide +kernel, rfl, by decide +kernel, by decide +kernel⟩
abbrev s_Band_near : Stmt := inClass (top 12) 3
theorem sc_Band_near : FnScope ["self", "i", "k"] ["self", "i", "k"] (defScope s_Band_near) := ⟨rfl, rfl, rfl, by decide +kernel, rfl, by decide +kernel, by decide +kernel⟩
abbrev s_l_ends : Stmt := top 21
theorem sc_l_ends : FnScope ["_law_pool_here", "_law_count", "_law_wide", "_law_ends_here", "_law_i", "_law_low"] ["_law_pool_here", "_law_count"] (defScope s_l_ends) := ⟨rfl, rfl, rfl, by decide +kernel, rfl, by decide +kernel, by decide +kernel⟩
abbrev s_l_number : Stmt := top 22
theorem sc_l_number : FnScope ["_law_pool_here", "_law_way", "_law_far"] ["_law_pool_here"] (defScope s_l_number) := ⟨rfl, rfl, rfl, by decide +kernel, rfl, by decide +kernel, by decide +kernel⟩
abbrev s_l_same : Stmt := top 24
theorem sc_l_same : FnScope ["_law_got", "_law_due", "_law_k", "_law_key"] ["_law_got", "_law_due"] (defScope s_l_same) := ⟨rfl, rfl, rfl, by decide +kernel, rfl, by decide +kernel, by decide +kernel⟩
abbrev s_is_cover : Stmt := top 14
theorem sc_is_cover : FnScope ["band", "groups", "start", "first", "last"] ["band", "groups"] (defScope s_is_cover) := ⟨rfl, rfl, rfl, by decide +kernel, rfl, by decide +kernel, by decide +kernel⟩
abbrev s_cover_bound : Stmt := top 15
theorem sc_cover_bound : FnScope ["band", "many", "groups", "first", "last"] ["band", "many", "groups"] (defScope s_cover_bound) := ⟨rfl, rfl, rfl, by decide +kernel, rfl, by decide +kernel, by decide +kernel⟩
abbrev s_l_bound : Stmt := top 23
theorem sc_l_bound : FnScope ["_law_ends_here", "_law_many", "_law_groups", "_law_due", "_law_total", "_law_group"] ["_law_ends_here", "_law_many", "_law_groups"] (defScope s_l_bound) := ⟨rfl, rfl, rfl, by decide +kernel, rfl, by decide +kernel, by decide +kernel⟩
abbrev s_l_cuts : Stmt := top 25
theorem sc_l_cuts : FnScope ["_law_pool_here", "_law_ends_here", "_law_groups", "_law_first", "_law_k", "_law_last"] ["_law_pool_here", "_law_ends_here"] (defScope s_l_cuts) := ⟨rfl, rfl, rfl, by decide +kernel, rfl, by decide +kernel, by decide +kernel⟩
abbrev s_l_one_changed : Stmt := top 26
theorem sc_l_one_changed : FnScope ["_law_pool_here", "_law_count", "_law_group", "_law_first", "_law_last", "_law_way", "_law_shift"] ["_law_pool_here", "_law_count", "_law_group"] (defScope s_l_one_changed) := ⟨rfl, rfl, rfl, by decide +kernel, rfl, by decide +kernel, by decide +kernel⟩
abbrev s_l_changed : Stmt := top 27
theorem sc_l_changed : FnScope ["_law_pool_here", "_law_count", "_law_groups", "_law_at", "_law_way", "_law_far", "_law_near", "_law_other", "_law_changed_here", "_law_cut"] ["_law_pool_here", "_law_count", "_law_groups"] (defScope s_l_changed) := ⟨rfl, rfl, rfl, by decide +kernel, rfl, by decide +kernel, by decide +kernel⟩
abbrev s_l_free : Stmt := top 28
theorem sc_l_free : FnScope ["_law_pool_here", "_law_count", "_law_groups", "_law_k", "_law_first"] ["_law_pool_here", "_law_count"] (defScope s_l_free) := ⟨rfl, rfl, rfl, by decide +kernel, rfl, by decide +kernel, by decide +kernel⟩
abbrev s_l_bounded : Stmt := top 29
theorem sc_l_bounded : FnScope ["_law_band", "_law_many", "_law_groups", "_law_told", "_law_got", "e"] ["_law_band", "_law_many", "_law_groups"] (defScope s_l_bounded) := ⟨rfl, rfl, rfl, by decide +kernel, rfl, by decide +kernel, by decide +kernel⟩
abbrev s_l_kept : Stmt := top 30
theorem sc_l_kept : FnScope ["_law_band", "_law_ends_here", "_law_many", "_law_groups", "_law_bound_here", "_law_due", "_law_handed"] ["_law_band", "_law_ends_here", "_law_many", "_law_groups"] (defScope s_l_kept) := ⟨rfl, rfl, rfl, by decide +kernel, rfl, by decide +kernel, by decide +kernel⟩
abbrev s_law : Stmt := top 31
theorem sc_law : FnScope ["_law_script", "_law_pool_here", "_law_count", "_law_ends_here", "_law_other", "_law_band", "_law_twin", "_law_right", "_law_groups", "_law_many"] ["_law_script"] (defScope s_law) := ⟨rfl, rfl, rfl, by decide +kernel, rfl, by decide +kernel, by decide +kernel⟩
structure Txt (K : PySem.W.Frag) (mg : Str → Option Value) (C_BadEnd : Addr) (C_BarbreaksError : Addr) (C_TooMany : Addr) (C_BadNumber : Addr) (C_Band : Addr) (C_Refused : Addr) : Prop where
  er_BadEnd : ErF K mg "BadEnd" C_BadEnd "BadEnd.__init__" s_BadEnd_init ["self", "index"]
  g_BadEnd : mg "BadEnd" = some (.ref C_BadEnd)
  xn_BadEnd_index : PySem.W.findIn K (.ref C_BadEnd) "index" = some none
  er_TooMany : ErF K mg "TooMany" C_TooMany "TooMany.__init__" s_TooMany_init ["self", "what", "most"]
  g_TooMany : mg "TooMany" = some (.ref C_TooMany)
  xn_TooMany_what : PySem.W.findIn K (.ref C_TooMany) "what" = some none
  xn_TooMany_most : PySem.W.findIn K (.ref C_TooMany) "most" = some none
  er_BadNumber : ErF K mg "BadNumber" C_BadNumber "BadNumber.__init__" s_BadNumber_init ["self", "number"]
  g_BadNumber : mg "BadNumber" = some (.ref C_BadNumber)
  xn_BadNumber_number : PySem.W.findIn K (.ref C_BadNumber) "number" = some none
  l_take : Df K mg "_law_take" s_l_take ["_law_pool_here", "_law_size"]
  b_int : mg "int" = none
  b_len : mg "len" = none
  l_big : Df K mg "_law_big" s_l_big ["_law_pool_here"]
  b_range : mg "range" = none
  l_pool : Df K mg "_law_pool" s_l_pool ["_law_script"]
  b_list : mg "list" = none
  l_is_int : Df K mg "_law_is_int" s_l_is_int ["_law_x"]
  b_isinstance : mg "isinstance" = none
  b_bool : mg "bool" = none
  check_things : Df K mg "check_things" s_check_things ["count"]
  v_MOST_THINGS : ∃ u, mg "MOST_THINGS" = some u ∧ RelV (.int 60) u
  check_from_zero : Df K mg "check_from_zero" s_check_from_zero ["number", "most"]
  check_ends : Df K mg "check_ends" s_check_ends ["ends"]
  b_enumerate : mg "enumerate" = none
  g_Band : mg "Band" = some (.ref C_Band)
  c_Band : Cls K C_Band
  n_Band_ends : NoAttr K C_Band "ends"
  i_Band : If0 K C_Band "Band.__init__" s_Band_init ["self", "ends"]
  b_tuple : mg "tuple" = none
  m_Band_len : Mf K C_Band "__len__" "Band.__len__" s_Band_len ["self"]
  m_Band_near : Mf K C_Band "near" "Band.near" s_Band_near ["self", "i", "k"]
  b_max : mg "max" = none
  b_min : mg "min" = none
  l_ends : Df K mg "_law_ends" s_l_ends ["_law_pool_here", "_law_count"]
  l_number : Df K mg "_law_number" s_l_number ["_law_pool_here"]
  l_same : Df K mg "_law_same" s_l_same ["_law_got", "_law_due"]
  b_str : mg "str" = none
  b_dict : mg "dict" = none
  is_cover : Df K mg "is_cover" s_is_cover ["band", "groups"]
  cover_bound : Df K mg "cover_bound" s_cover_bound ["band", "many", "groups"]
  b_sum : mg "sum" = none
  l_bound : Df K mg "_law_bound" s_l_bound ["_law_ends_here", "_law_many", "_law_groups"]
  l_cuts : Df K mg "_law_cuts" s_l_cuts ["_law_pool_here", "_law_ends_here"]
  l_one_changed : Df K mg "_law_one_changed" s_l_one_changed ["_law_pool_here", "_law_count", "_law_group"]
  l_changed : Df K mg "_law_changed" s_l_changed ["_law_pool_here", "_law_count", "_law_groups"]
  l_free : Df K mg "_law_free" s_l_free ["_law_pool_here", "_law_count"]
  l_bounded : Df K mg "_law_bounded" s_l_bounded ["_law_band", "_law_many", "_law_groups"]
  b_ValueError : mg "ValueError" = none
  g_BarbreaksError : mg "BarbreaksError" = some (.ref C_BarbreaksError)
  g_Refused : mg "Refused" = some (.ref C_Refused)
  ec_BadNumber : ExcC K C_BadNumber
  xm_BadNumber_BadNumber : PySem.W.exmOne K (.ref C_BadNumber) (.ref C_BadNumber) = some true
  ko_BadNumber_BarbreaksError : PySem.W.kitOne K (.ref C_BadNumber) (.ref C_BarbreaksError) = some true
  ko_BadNumber_ValueError : PySem.W.kitOne K (.ref C_BadNumber) (.type "ValueError") = some true
  ko_BadNumber_Refused : PySem.W.kitOne K (.ref C_BadNumber) (.ref C_Refused) = some false
  ko_BadNumber_TooMany : PySem.W.kitOne K (.ref C_BadNumber) (.ref C_TooMany) = some false
  ko_BadNumber_BadEnd : PySem.W.kitOne K (.ref C_BadNumber) (.ref C_BadEnd) = some false
  l_kept : Df K mg "_law_kept" s_l_kept ["_law_band", "_law_ends_here", "_law_many", "_law_groups"]
  b_abs : mg "abs" = none
  law : Df K mg "law" s_law ["_law_script"]
section
variable {P : Program} {w : World} {K : PySem.W.Frag} {mg : Str → Option Value} {base : Heap} {C_BadEnd : Addr} {C_BarbreaksError : Addr} {C_TooMany : Addr} {C_BadNumber : Addr} {C_Band : Addr} {C_Refused : Addr}
theorem er_BadEnd (T : Txt K mg C_BadEnd C_BarbreaksError C_TooMany C_BadNumber C_Band C_Refused) : ErC P w K mg base "BadEnd" C_BadEnd ["self", "index"] (spEr1 C_BadEnd "index") := by
  obtain ⟨R, m, fI, fd, a, t, b, F⟩ := T.er_BadEnd
  refine ⟨R, m, fI, fd, a, t, b, F.ok sc_BadEnd_init (fun vs H Q E h => ?_) (fun cdv A outer s H vs Q E hr h => ?_)⟩
  · obtain ⟨a, v, rfl, _⟩ := h
    rfl
  · obtain ⟨a, v, rfl, ha, k⟩ := h
    refine ⟨_, (pss_one (ps_ost (pv 0) (pv 1))), ?_⟩
    exact ⟨_, rfl, _, rfl, a, C_BadEnd, rfl, R, T.xn_BadEnd_index, .inl ⟨ha, fun dx n ne => k dx n ne⟩⟩

theorem er_TooMany (T : Txt K mg C_BadEnd C_BarbreaksError C_TooMany C_BadNumber C_Band C_Refused) : ErC P w K mg base "TooMany" C_TooMany ["self", "what", "most"] (spEr2 C_TooMany "what" "most") := by
  obtain ⟨R, m, fI, fd, a, t, b, F⟩ := T.er_TooMany
  refine ⟨R, m, fI, fd, a, t, b, F.ok sc_TooMany_init (fun vs H Q E h => ?_) (fun cdv A outer s H vs Q E hr h => ?_)⟩
  · obtain ⟨a, v, u, rfl, _⟩ := h
    rfl
  · obtain ⟨a, v, u, rfl, ha, k⟩ := h
    refine ⟨_, (pss_cons (ps_ost (pv 0) (pv 1)) (pss_one (ps_ost (pv 0) (pv 2)))), ?_⟩
    refine ⟨_, rfl, _, rfl, a, C_TooMany, rfl, R, T.xn_TooMany_what, .inl ⟨ha, fun dx n ne => ?_⟩⟩
    exact ⟨_, rfl, _, rfl, a, C_TooMany, rfl, R, T.xn_TooMany_most, .inr ⟨dx, _, upd_same, (upd_ne ne).trans upd_same, (by show 1 ≤ 900; decide), k dx n ne⟩⟩

theorem er_BadNumber (T : Txt K mg C_BadEnd C_BarbreaksError C_TooMany C_BadNumber C_Band C_Refused) : ErC P w K mg base "BadNumber" C_BadNumber ["self", "number"] (spEr1 C_BadNumber "number") := by
  obtain ⟨R, m, fI, fd, a, t, b, F⟩ := T.er_BadNumber
  refine ⟨R, m, fI, fd, a, t, b, F.ok sc_BadNumber_init (fun vs H Q E h => ?_) (fun cdv A outer s H vs Q E hr h => ?_)⟩
  · obtain ⟨a, v, rfl, _⟩ := h
    rfl
  · obtain ⟨a, v, rfl, ha, k⟩ := h
    refine ⟨_, (pss_one (ps_ost (pv 0) (pv 1))), ?_⟩
    exact ⟨_, rfl, _, rfl, a, C_BadNumber, rfl, R, T.xn_BadNumber_number, .inl ⟨ha, fun dx n ne => k dx n ne⟩⟩

theorem ok_l_take (T : Txt K mg C_BadEnd C_BarbreaksError C_TooMany C_BadNumber C_Band C_Refused) : Dk P w K mg base CX0 1 "_law_take" ["_law_pool_here", "_law_size"] spTake := by
  obtain ⟨f, fd, g, F, b⟩ := T.l_take
  refine ⟨f, fd, g, F.kp, b, F.ok sc_l_take (fun vs H Q E h => ?_) (fun cdv A outer s H vs Q E hr h => ?_)⟩
  · obtain ⟨p, c, ns, n, rfl, _⟩ := h
    rfl
  · obtain ⟨p, c, ns, n, rfl, hp, hn, hn9, k⟩ := h
    obtain ⟨⟨l, hl, z, i, t, d, hi, rfl⟩, hc⟩ := id hp
    refine ⟨_, (pss_cons (ps_set (i := 2) sc_l_take.nd rfl (Or.inl rfl) (pe_ix ix_list (pv 0) pe_int (fun _ _ => rfl)))
  (pss_cons (ps_asg (pe_op op_add (pe_ix ix_list (pv 0) pe_int (fun _ _ => rfl)) pe_int) (pg_sub (pv 0) pe_int set_list))
  (pss_cons (ps_set (i := 3) sc_l_take.nd rfl (Or.inl rfl) (pe_op op_mod (pe_callTy call_int1 (by rfl) T.b_int (by decide +kernel) (pa_cons (pe_op op_add (pe_op op_add (pe_op op_mul (pe_ix ix_list (pv 0) pe_int (fun _ _ => rfl)) pe_int) (pe_op op_mul (pe_ix ix_list (pv 0) pe_int (fun _ _ => rfl)) pe_int)) pe_int) pa_nil)) pe_int))
  (C8.pss_cut (ps_if (PW.pt (pw_and (pt_cmpR op_eq (pe_ix ix_list (pv 0) pe_int (fun _ _ => rfl)) pe_int (nomark _)) (pw_and1 (pt_cmpR op_lt (pe_ix ix_list (pv 0) pe_int (fun _ _ => rfl)) (pe_callB call_len_seq (by rfl) T.b_len (by decide +kernel) (pa_cons (pv 2) pa_nil)) (nomark _)))))
  (pss_cons (ps_set (i := 4) sc_l_take.nd rfl (Or.inl rfl) (pe_callTy call_int1 (by rfl) T.b_int (by decide +kernel) (pa_cons (pe_ix ix_list (pv 2) (pe_ix ix_list (pv 0) pe_int (fun _ _ => rfl)) (fun _ _ => rfl)) pa_nil)))
  (pss_cons (ps_asg (pe_op op_add (pe_ix ix_list (pv 0) pe_int (fun _ _ => rfl)) pe_int) (pg_sub (pv 0) pe_int set_list))
  (pss_cons (ps_set (i := 3) sc_l_take.nd rfl (Or.inl rfl) (pe_op op_mod (pe_callTy call_int1 (by rfl) T.b_int (by decide +kernel) (pa_cons (pe_op op_add (pe_op op_add (pe_op op_mul (pv 4) pe_int) (pe_ix ix_list (pv 0) pe_int (fun _ _ => rfl))) (pe_op op_mul (pe_ix ix_list (pv 0) pe_int (fun _ _ => rfl)) pe_int)) pa_nil)) pe_int))
  (pss_one (ps_if (pt_cmpR op_ge (pv 4) (pe_op op_pow pe_int pe_int) (nomark _))
  (pss_one (ps_asg (pv 4) (pg_sub (pv 0) pe_int set_list)))
  pss_nil)))))
  pss_nil)
  (pss_cons (ps_if (pt_cmpR op_gt (pe_ix ix_list (pv 0) pe_int (fun _ _ => rfl)) pe_int (nomark _))
  (pss_cons (ps_set (i := 5) sc_l_take.nd rfl (Or.inl rfl) (pe_op op_mod (pe_callTy call_int1 (by rfl) T.b_int (by decide +kernel) (pa_cons (pe_ix ix_list (pv 0) pe_int (fun _ _ => rfl)) pa_nil)) (pv 1)))
  (pss_cons (ps_asg (pe_op op_fdivW (pe_ix ix_list (pv 0) pe_int (fun _ _ => rfl)) (pv 1)) (pg_sub (pv 0) pe_int set_list))
  (pss_one (ps_ret (pv 5)))))
  pss_nil)
  (pss_cons (ps_set (i := 3) sc_l_take.nd rfl (Or.inl rfl) (pe_op op_mod (pe_callTy call_int1 (by rfl) T.b_int (by decide +kernel) (pa_cons (pe_op op_add (pe_op op_mul (pv 3) pe_int) (pe_op op_fdivW (pv 3) pe_int)) pa_nil)) pe_int))
  (pss_one (ps_ret (pe_op op_mod (pe_callTy call_int1 (by rfl) T.b_int (by decide +kernel) (pa_cons (pv 3) pa_nil)) (pv 1)))))))))), ?_⟩
    -- cells = pool[4]; pool[2] = pool[2] + 1
    refine ⟨_, rfl, _, _, _, _, rfl, rfl, SqL.of hl, rfl, ?_⟩
    refine ⟨_, rfl, _, _, _, _, rfl, rfl, SqL.of hl, rfl, _, _, rfl, rfl, _, rfl, _, _, _, _, rfl, rfl, hl, rfl, ?_⟩
    have hp1 : Pool ns c (upd H p (.lst [.int z, .int i, .int (t + 1), .int d, .ref c])) p := hp.upd ⟨_, _, _, _, hi, rfl⟩
    have o1 : Off p H (upd H p (.lst [.int z, .int i, .int (t + 1), .int d, .ref c])) := Off.upd
    have hl1 : upd H p (.lst [.int z, .int i, .int (t + 1), .int d, .ref c]) p = some (.lst [.int z, .int i, .int (t + 1), .int d, .ref c]) := upd_same
    -- mixed = int(pool[3] * 48271 + pool[2] * 69621 + 19) % 2147483647
    refine ⟨_, rfl, _, _, _, _, rfl, rfl, SqL.of hl1, rfl, _, _, rfl, rfl, (.inr ⟨by decide, by decide⟩), _, rfl, _, _, _, _, rfl, rfl, SqL.of hl1, rfl, _, _, rfl, rfl, (.inr ⟨by decide, by decide⟩), _, _, rfl, rfl, _, _, rfl, rfl, .inl ⟨_, rfl, _, _, rfl, rfl, pos_m7, ?_⟩⟩
    generalize (d * 48271 + (t + 1) * 69621 + 19) % 2147483647 = mx
    -- the first if, joined
    refine ⟨fun σ H' => ∃ (m1 : Int) (c1 : Option V) (z1 i1 t1 d1 : Int), σ = [some (.ref p), some (.int n), some (.ref c), some (.int m1), c1, none] ∧ 0 ≤ i1 ∧ H' p = some (.lst [.int z1, .int i1, .int t1, .int d1, .ref c]) ∧ Off p H H', ?_, ?_⟩
    · refine ⟨_, rfl, _, _, _, _, rfl, rfl, SqL.of hl1, rfl, rfl, _, rfl, ?_⟩
      refine ite2 (fun hz => ?_) (fun _ => iteF ⟨_, _, _, _, _, _, rfl, hi, hl1, o1⟩)
      have hc1 : upd H p (.lst [.int z, .int i, .int (t + 1), .int d, .ref c]) c = some (.lst (ns.map V.int)) := hp1.cells
      refine ⟨_, rfl, _, _, _, _, rfl, rfl, SqL.of hl1, rfl, _, rfl, c, _, rfl, .inl (SqL.of hc1), _, _, rfl, rfl, _, rfl, ?_⟩
      refine ite2 (fun hlt => ?_) (fun _ => ⟨_, _, _, _, _, _, rfl, hi, hl1, o1⟩)
      have hlt' : i < ((ns.map V.int).length : Int) := of_decide_eq_true hlt
      rw [List.length_map] at hlt'
      obtain ⟨v, hv⟩ : ∃ v, ns[i.toNat]? = some v := ⟨_, List.getElem?_eq_getElem (by omega)⟩
      -- cell = int(cells[pool[1]])
      refine ⟨_, rfl, _, rfl, _, _, _, _, rfl, rfl, SqL.of hl1, rfl, c, _, i, V.int v, rfl, rfl, SqL.of hc1, atI_ge hi (by rw [List.getElem?_map, hv]; rfl), .inl ⟨_, rfl, ?_⟩⟩
      -- pool[1] = pool[1] + 1
      refine ⟨_, rfl, _, _, _, _, rfl, rfl, SqL.of hl1, rfl, _, _, rfl, rfl, _, rfl, _, _, _, _, rfl, rfl, hl1, rfl, ?_⟩
      have hl2 : upd (upd H p (.lst [.int z, .int i, .int (t + 1), .int d, .ref c])) p (.lst [.int z, .int (i + 1), .int (t + 1), .int d, .ref c]) p = some (.lst [.int z, .int (i + 1), .int (t + 1), .int d, .ref c]) := upd_same
      have o2 : Off p H (upd (upd H p (.lst [.int z, .int i, .int (t + 1), .int d, .ref c])) p (.lst [.int z, .int (i + 1), .int (t + 1), .int d, .ref c])) := o1.trans Off.upd
      refine ⟨_, rfl, _, _, rfl, rfl, (.inr ⟨by decide, by decide⟩), _, rfl, _, _, _, _, rfl, rfl, SqL.of hl2, rfl, _, _, rfl, rfl, _, rfl, _, _, _, _, rfl, rfl, SqL.of hl2, rfl, _, _, rfl, rfl, (.inr ⟨by decide, by decide⟩), _, _, rfl, rfl, .inl ⟨_, rfl, _, _, rfl, rfl, pos_m7, ?_⟩⟩
      refine ⟨_, rfl, _, _, rfl, rfl, ⟨by decide, by decide, by decide⟩, _, _, rfl, rfl, _, rfl, ?_⟩
      refine ite2 (fun _ => ?_) (fun _ => ⟨_, _, _, _, _, _, rfl, by omega, hl2, o2⟩)
      refine ⟨_, rfl, _, rfl, _, _, _, _, rfl, rfl, hl2, rfl, ?_⟩
      exact ⟨_, _, v, i + 1, t + 1, d, rfl, by omega, upd_same, o2.trans Off.upd⟩
    · rintro σ H2 ⟨m1, c1, z1, i1, t1, d1, rfl, hi1, hl2, o2⟩
      have hp2 : Pool ns c H2 p := ⟨⟨_, hl2, _, _, _, _, hi1, rfl⟩, (o2 c hp.ne).trans hc⟩
      -- if pool[0] > 0: digit = int(pool[0]) % size; pool[0] = pool[0] // size; return digit
      refine ⟨_, rfl, _, _, _, _, rfl, rfl, SqL.of hl2, rfl, _, _, rfl, rfl, _, rfl, ?_⟩
      refine ite2 (fun _ => ?_) (fun _ => ?_)
      · refine ⟨_, rfl, _, _, _, _, rfl, rfl, SqL.of hl2, rfl, .inl ⟨_, rfl, _, rfl, _, _, rfl, rfl, hn, ?_⟩⟩
        refine ⟨_, rfl, _, _, _, _, rfl, rfl, SqL.of hl2, rfl, _, rfl, _, _, rfl, rfl, ⟨hn, hn9⟩, _, rfl, _, _, _, _, rfl, rfl, hl2, rfl, ?_⟩
        refine ⟨_, rfl, ?_⟩
        exact k _ _ (Int.emod_nonneg _ (by omega)) (Int.emod_lt_of_pos _ hn) (hp2.upd ⟨_, _, _, _, hi1, rfl⟩) (o2.trans Off.upd)
      · refine ⟨_, rfl, _, _, rfl, rfl, (.inr ⟨by decide, by decide⟩), _, rfl, _, _, rfl, rfl, ⟨by decide, by decide +kernel⟩, _, _, rfl, rfl, .inl ⟨_, rfl, _, _, rfl, rfl, pos_m9, ?_⟩⟩
        refine ⟨_, rfl, .inl ⟨_, rfl, _, rfl, _, _, rfl, rfl, hn, ?_⟩⟩
        exact k _ _ (Int.emod_nonneg _ (by omega)) (Int.emod_lt_of_pos _ hn) hp2 o2

theorem ok_l_big (T : Txt K mg C_BadEnd C_BarbreaksError C_TooMany C_BadNumber C_Band C_Refused) : Dk P w K mg base CX0 2 "_law_big" ["_law_pool_here"] spBig := by
  have D_l_take := ok_l_take (P := P) (w := w) (base := base) T
  obtain ⟨f, fd, g, F, b⟩ := T.l_big
  refine ⟨f, fd, g, F.kp, b, F.ok sc_l_big (fun vs H Q E h => ?_) (fun cdv A outer s H vs Q E hr h => ?_)⟩
  · obtain ⟨p, c, ns, rfl, _⟩ := h
    rfl
  · obtain ⟨p, c, ns, rfl, hp, k⟩ := h
    refine ⟨_, (pss_cons (ps_set (i := 1) sc_l_big.nd rfl (Or.inl rfl) pe_int)
  (pss_cons (ps_for PassesOwn.never rfl (pi_range1 rfl T.b_range (pa_cons pe_int pa_nil)) (pg_name (i := 2) sc_l_big.nd rfl (Or.inl rfl))
  (pss_one (ps_set (i := 1) sc_l_big.nd rfl (Or.inl rfl) (pe_op op_add (pe_op op_mul (pv 1) (pe_op op_pow pe_int pe_int)) (pe_d D_l_take (hr.mono (by decide)) pass0 (by rfl) (pa_cons (pv 0) (pa_cons (pe_op op_pow pe_int pe_int) pa_nil)))))))
  (pss_one (ps_ret (pv 1))))), ?_⟩
    refine ⟨3, rfl, by decide, by decide, for_range (n := 3) (fun i σ H' => ∃ (v : Int) (kv : Option V), σ = [some (.ref p), some (.int v), kv] ∧ 0 ≤ v ∧ v < 10 ^ (9 * i) ∧ Pool ns c H' p ∧ Off p H H') ⟨0, none, rfl, by decide, by decide, hp, Off.refl⟩ ?_ ?_⟩
    · rintro i σ H1 hi ⟨v, kv, rfl, h0, h1, hp1, o1⟩
      refine ⟨_, rfl, _, _, rfl, rfl, ⟨by decide, by decide, by decide⟩, _, _, rfl, rfl, (.inr ⟨by decide, by decide⟩), _, rfl, _, _, rfl, rfl, ⟨by decide, by decide, by decide⟩, p, c, ns, _, rfl, hp1, by decide, by decide +kernel, fun r H2 r0 r1 hp2 o2 => ?_⟩
      refine ⟨_, _, rfl, rfl, _, _, rfl, ?_, ?_, hp2, o1.trans o2⟩
      · have e : (10 : Int) ^ (9 : Int).toNat = 1000000000 := by decide
        show 0 ≤ v * (10 : Int) ^ (9 : Int).toNat + r
        rw [e]
        omega
      · have e : (10 : Int) ^ (9 : Int).toNat = 1000000000 := by decide
        have r1' : r < (10 : Int) ^ (9 : Int).toNat := r1
        show v * (10 : Int) ^ (9 : Int).toNat + r < 10 ^ (9 * (i + 1))
        rw [Nat.mul_add, Int.pow_add, e]
        rw [e] at r1'
        have e2 : (10 : Int) ^ (9 * 1) = 1000000000 := by decide
        rw [e2]
        omega
    · rintro σ H1 ⟨v, kv, rfl, h0, h1, hp1, o1⟩
      exact ⟨_, rfl, k _ _ h0 h1 hp1 o1⟩

theorem ok_l_pool (T : Txt K mg C_BadEnd C_BarbreaksError C_TooMany C_BadNumber C_Band C_Refused) : Dk P w K mg base CX0 1 "_law_pool" ["_law_script"] (spPool K) := by
  obtain ⟨f, fd, g, F, b⟩ := T.l_pool
  refine ⟨f, fd, g, F.kp, b, F.ok sc_l_pool (fun vs H Q E h => ?_) (fun cdv A outer s H vs Q E hr h => ?_)⟩
  · obtain ⟨a, ns, rfl, _⟩ := h
    rfl
  · obtain ⟨a, ns, rfl, hS, hlen, k⟩ := h
    refine ⟨_, (pss_cons (ps_set (i := 1) sc_l_pool.nd rfl (Or.inl rfl) pe_int)
  (pss_cons (ps_for PassesOwn.never rfl (pi_list (pv 0)) (pg_name (i := 2) sc_l_pool.nd rfl (Or.inl rfl))
  (pss_one (ps_set (i := 1) sc_l_pool.nd rfl (Or.inl rfl) (pe_op op_mod (pe_callTy call_int1 (by rfl) T.b_int (by decide +kernel) (pa_cons (pe_op op_add (pe_op op_add (pe_op op_mul (pv 1) pe_int) (pe_op op_mul (pe_callTy call_int1 (by rfl) T.b_int (by decide +kernel) (pa_cons (pv 2) pa_nil)) pe_int)) pe_int) pa_nil)) pe_int))))
  (pss_one (ps_ret (pe_lst (pa_cons pe_int (pa_cons pe_int (pa_cons pe_int (pa_cons (pv 1) (pa_cons (pe_callTy call_list_of (by rfl) T.b_list (by decide +kernel) (pa_cons (pv 0) pa_nil)) pa_nil)))))))))), ?_⟩
    refine ⟨_, rfl, a, rfl, ⟨_, hS⟩, for_list (K := K) (a := a) (xs := ns.map V.int) (fun i σ H' => ∃ (d : Int) (v : Option V), σ = [some (.ref a), some (.int d), v] ∧ H' = H) ⟨7, none, rfl, rfl⟩ (fun i σ H' _ ⟨_, _, _, e⟩ => by rw [e]; exact hS) ?_ ?_⟩
    · rintro i y σ H' hi ⟨d, v, rfl, rfl⟩
      obtain ⟨z, _, rfl⟩ := ints_at hi
      refine ⟨_, rfl, _, _, rfl, rfl, (.inr ⟨by decide, by decide⟩), _, rfl, .inl ⟨_, rfl, _, _, rfl, rfl, (.inr ⟨by decide, by decide⟩), _, _, rfl, rfl, _, _, rfl, rfl, .inl ⟨_, rfl, _, _, rfl, rfl, pos_m7, ?_⟩⟩⟩
      exact ⟨_, _, rfl, rfl⟩
    · rintro σ H' ⟨d, v, rfl, rfl⟩
      refine ⟨_, rfl, _, rfl, a, _, rfl, .inl hS, fun c hc => ⟨(by show 5 ≤ sizeLine; decide), fun p hp => ?_⟩⟩
      have npc : c ≠ p := fun e => by
        rw [← e, upd_same] at hp
        cases hp
      have hp0 : H' p = none := by
        rw [upd_ne npc.symm] at hp
        exact hp
      refine k p c _ ⟨⟨_, upd_same, 0, 0, 0, d, by decide, rfl⟩, (upd_ne npc).trans upd_same⟩ hp0 hc fun b o e => ?_
      rw [upd_ne (ne_of_none e hp0), upd_ne (ne_of_none e hc)]
      exact e

theorem ok_l_is_int (T : Txt K mg C_BadEnd C_BarbreaksError C_TooMany C_BadNumber C_Band C_Refused) : Dk P w K mg base CX0 1 "_law_is_int" ["_law_x"] (spIsInt K) := by
  obtain ⟨f, fd, g, F, b⟩ := T.l_is_int
  refine ⟨f, fd, g, F.kp, b, F.ok sc_l_is_int (fun vs H Q E h => ?_) (fun cdv A outer s H vs Q E hr h => ?_)⟩
  · obtain ⟨x, t, b1, b2, rfl, _⟩ := h
    rfl
  · obtain ⟨x, t, b1, b2, rfl, ty, k1, k2, k⟩ := h
    refine ⟨_, (pss_one (ps_ret (pe_and (pe_callB call_isi (by rfl) T.b_isinstance (by decide +kernel) (pa_cons (pv 0) (pa_cons (pe_bltn (v := .ty "int") (by rfl) T.b_int (by decide +kernel) rfl) pa_nil))) (pe_one (pe_not (pe_callB call_isi (by rfl) T.b_isinstance (by decide +kernel) (pa_cons (pv 0) (pa_cons (pe_bltn (v := .ty "bool") (by rfl) T.b_bool (by decide +kernel) rfl) pa_nil)))))))), ?_⟩
    refine ⟨_, rfl, x, _, t, _, b1, rfl, .ty _, ty, k1, b1, rfl, ?_⟩
    cases b1 with
    | false => exact iteF k
    | true => exact iteT ⟨_, rfl, x, _, t, _, b2, rfl, .ty _, ty, k2, b2, rfl, k⟩

theorem ok_check_things (T : Txt K mg C_BadEnd C_BarbreaksError C_TooMany C_BadNumber C_Band C_Refused) : Dk P w K mg base (L2.CX P w) 3 "check_things" ["count"] (spThings C_TooMany) := by
  have ER_TooMany := er_TooMany (P := P) (w := w) (base := base) T
  obtain ⟨f, fd, g, F, b⟩ := T.check_things
  refine ⟨f, fd, g, F.kp, b, F.okX sc_check_things (fun vs H Q E h => ?_) (fun cdv A outer s H vs Q E hr h => ?_)⟩
  · obtain ⟨n, rfl, _⟩ := h
    rfl
  · obtain ⟨n, rfl, k1, k2⟩ := h
    refine ⟨_, (pss_one (ps_if (pt_cmpR op_gt (pv 0) (C8.pe_gc (by rfl) T.v_MOST_THINGS) (nomark _))
  (pss_one (ps_raise rfl (takes_of rfl rfl rfl rfl) (pmk_er ER_TooMany (hr.mono (by decide)) (by rfl) (pa_cons pe_str (pa_cons (C8.pe_gc (by rfl) T.v_MOST_THINGS) pa_nil)))))
  pss_nil)), ?_⟩
    refine ⟨_, rfl, _, _, rfl, rfl, _, rfl, ite2 (fun q => ?_) (fun q => ?_)⟩
    · refine ⟨(by show 2 ≤ 1000; decide), fun a ha => ⟨a, _, _, rfl, upd_same, fun d hd hda => ⟨rfl, d, _, (upd_ne (Ne.symm hda)).trans upd_same, upd_same, (upd_ne hda).symm.trans hd, ?_⟩⟩⟩
      rw [del_made2 ha ((upd_ne hda).symm.trans hd) hda]
      exact k2 (of_decide_eq_true q) _ _ (Same.new ((upd_ne hda).symm.trans hd)) upd_same
    · exact k1 (by have := of_decide_eq_false (Bool.eq_false_iff.mpr q); omega)

theorem ok_check_from_zero (T : Txt K mg C_BadEnd C_BarbreaksError C_TooMany C_BadNumber C_Band C_Refused) : Dk P w K mg base (L2.CX P w) 3 "check_from_zero" ["number", "most"] (spFromZ C_BadNumber) := by
  have ER_BadNumber := er_BadNumber (P := P) (w := w) (base := base) T
  obtain ⟨f, fd, g, F, b⟩ := T.check_from_zero
  refine ⟨f, fd, g, F.kp, b, F.okX sc_check_from_zero (fun vs H Q E h => ?_) (fun cdv A outer s H vs Q E hr h => ?_)⟩
  · obtain ⟨n, m, rfl, _⟩ := h
    rfl
  · obtain ⟨n, m, rfl, k1, k2⟩ := h
    refine ⟨_, (pss_one (ps_if (pt_not (pt_chain op_le op_le pe_int (pv 0) (pv 1)))
  (pss_one (ps_raise rfl (takes_of rfl rfl rfl rfl) (pmk_er ER_BadNumber (hr.mono (by decide)) (by rfl) (pa_cons (pv 0) pa_nil))))
  pss_nil)), ?_⟩
    have bad : ¬ (0 ≤ n ∧ n ≤ m) → ∀ a, H a = none → ∀ d, L2.upd H a (exo a C_BadNumber none) d = none → d ≠ a → E (.ref C_BadNumber) (some d) (L2.upd H d (.xd [("number", .int n)])) := fun q a ha d hd hda => k2 q _ _ (Same.new ((upd_ne hda).symm.trans hd)) upd_same
    refine ⟨_, rfl, _, _, rfl, rfl, _, rfl, ite2 (fun q => ?_) (fun q => ?_)⟩
    · have q0 := of_decide_eq_true q
      refine ⟨_, rfl, _, _, rfl, rfl, _, rfl, ?_⟩
      by_cases q1 : n ≤ m
      · rw [decide_eq_true q1]
        exact iteF (k1 ⟨q0, q1⟩)
      · rw [decide_eq_false q1]
        refine iteT ⟨_, rfl, (by show 1 ≤ 1000; decide), fun a ha => ⟨a, _, rfl, upd_same, fun d hd hda => ⟨rfl, d, _, upd_same, (upd_ne hda).trans upd_same, (upd_ne hda).symm.trans hd, ?_⟩⟩⟩
        rw [del_made ha ((upd_ne hda).symm.trans hd) hda]
        exact bad (fun z => q1 z.2) a ha d hd hda
    · refine ⟨false, rfl, iteT ⟨_, rfl, (by show 1 ≤ 1000; decide), fun a ha => ⟨a, _, rfl, upd_same, fun d hd hda => ⟨rfl, d, _, upd_same, (upd_ne hda).trans upd_same, (upd_ne hda).symm.trans hd, ?_⟩⟩⟩⟩
      rw [del_made ha ((upd_ne hda).symm.trans hd) hda]
      exact bad (fun z => q (decide_eq_true z.1)) a ha d hd hda

theorem ok_check_ends (T : Txt K mg C_BadEnd C_BarbreaksError C_TooMany C_BadNumber C_Band C_Refused) : Dk P w K mg base (L2.CX P w) 3 "check_ends" ["ends"] (spCkEnds C_BadEnd) := by
  have ER_BadEnd := er_BadEnd (P := P) (w := w) (base := base) T
  obtain ⟨f, fd, g, F, b⟩ := T.check_ends
  refine ⟨f, fd, g, F.kp, b, F.okX sc_check_ends (fun vs H Q E h => ?_) (fun cdv A outer s H vs Q E hr h => ?_)⟩
  · obtain ⟨r, es, rfl, _⟩ := h
    rfl
  · obtain ⟨r, es, rfl, hs, h60, k1, k2⟩ := h
    have out : ∀ (i : Nat) (H2 : Hp), Same H H2 → bandDue es = .at_ i → ∀ a, H2 a = none → ∀ d, L2.upd H2 a (exo a C_BadEnd none) d = none → d ≠ a → E (.ref C_BadEnd) (some d) (L2.upd (del (L2.upd (L2.upd (L2.upd H2 a (exo a C_BadEnd none)) d (exd d [("index", .int (i : Nat))])) a (exo a C_BadEnd (some d))) a) d (.xd [("index", .int (i : Nat))])) := by
      intro i H2 s2 hd2 a ha d hd hda
      rw [del_made ha ((upd_ne hda).symm.trans hd) hda]
      exact k2 i hd2 _ _ (s2.trans (Same.new ((upd_ne hda).symm.trans hd))) upd_same
    rcases hs with hs | hs
    · skip
      refine ⟨_, (pss_cons (ps_set (i := 1) sc_check_ends.nd rfl (Or.inl rfl) pe_int)
  (pss_one (ps_for (passes_of rfl) rfl (pi_enum (by rfl) T.b_enumerate (pa_cons (pv 0) pa_nil)) (pg_tup (by rfl) (pgs_cons (pg_name (i := 2) sc_check_ends.nd rfl (Or.inl rfl)) (pgs_cons (pg_name (i := 3) sc_check_ends.nd rfl (Or.inl rfl)) pgs_nil)))
  (pss_cons (ps_if (PW.pt (pw_or (pt_cmpR op_lt (pv 3) (pv 2) (nomark _)) (pw_or (pt_cmpR op_ge (pv 3) (pe_callB call_len_seq (by rfl) T.b_len (by decide +kernel) (pa_cons (pv 0) pa_nil)) (nomark _)) (pw_or1 (pt_cmpR op_lt (pv 3) (pv 1) (nomark _))))))
  (pss_one (ps_raise rfl (takes_of rfl rfl rfl rfl) (pmk_er ER_BadEnd (hr.mono (by decide)) (by rfl) (pa_cons (pv 2) pa_nil))))
  pss_nil)
  (pss_one (ps_set (i := 1) sc_check_ends.nd rfl (Or.inl rfl) (pv 3))))))), ?_⟩
      refine ⟨_, rfl, r, _, rfl, SqL.of hs, for_it (walk_enum (xs := iV es)) (fun i σ H' => ∃ (x2 x3 : Option V), σ = [some (.ref r), some (.int (ahead es i)), x2, x3] ∧ Same H H' ∧ ∀ j, j < i → badE es j = false) ⟨_, _, rfl, Same.refl _, fun j hj => absurd hj (Nat.not_lt_zero _)⟩ (fun i σ H' _ ⟨_, _, _, s1, _⟩ => SqL.of (s1 _ _ hs)) ?_ ?_⟩
      · rintro i x σ H1 H2 hi ⟨x2, x3, rfl, s1, hb⟩ ⟨t, a, b, rfl, nt, rfl, ea, eb⟩
        cases ea
        obtain ⟨e, he, rfl⟩ := ints_at eb
        have hi' : i < es.length := (List.getElem?_eq_some_iff.mp he).1
        have s2 := s1.trans (Same.new (o := .tup [.int (i : Nat), .int e]) nt)
        have hs2 := s2 _ _ hs
        have ge := getD_at he
        refine ⟨t, _, rfl, SqT.of upd_same, rfl, _, _, rfl, _, _, rfl, rfl, ?_⟩
        refine ⟨_, rfl, _, rfl, _, _, rfl, rfl, _, rfl, ite2 (fun q => ?_) (fun q1 => ?_)⟩
        · have hbad : badE es i = true := by
            unfold badE
            rw [ge, q]
            rfl
          refine ⟨_, rfl, (by show 1 ≤ 1000; decide), fun a ha => ⟨a, _, rfl, upd_same, fun d hd hda => ⟨rfl, d, _, upd_same, (upd_ne hda).trans upd_same, (upd_ne hda).symm.trans hd, ?_⟩⟩⟩
          exact out i _ s2 (due_at h60 hi' hbad hb) a ha d hd hda
        refine ⟨_, rfl, _, rfl, r, _, rfl, .inl (SqL.of hs2), _, _, rfl, rfl, _, rfl, ite2 (fun q => ?_) (fun q2 => ?_)⟩
        · have hbad : badE es i = true := by
            unfold badE
            rw [ge, decide_eq_true (by have := of_decide_eq_true q; rw [List.length_map] at this; omega : (es.length : Int) ≤ e)]
            simp
          refine ⟨_, rfl, (by show 1 ≤ 1000; decide), fun a ha => ⟨a, _, rfl, upd_same, fun d hd hda => ⟨rfl, d, _, upd_same, (upd_ne hda).trans upd_same, (upd_ne hda).symm.trans hd, ?_⟩⟩⟩
          exact out i _ s2 (due_at h60 hi' hbad hb) a ha d hd hda
        refine ⟨_, rfl, _, rfl, _, _, rfl, rfl, _, rfl, ite2 (fun q => ?_) (fun q3 => ?_)⟩
        · have hbad : badE es i = true := by
            unfold badE
            rw [ge, q]
            simp
          refine ⟨_, rfl, (by show 1 ≤ 1000; decide), fun a ha => ⟨a, _, rfl, upd_same, fun d hd hda => ⟨rfl, d, _, upd_same, (upd_ne hda).trans upd_same, (upd_ne hda).symm.trans hd, ?_⟩⟩⟩
          exact out i _ s2 (due_at h60 hi' hbad hb) a ha d hd hda
        refine ⟨_, rfl, some (.int (i : Nat)), some (.int e), ?_, s2, ?_⟩
        · have e1 : ahead es (i + 1) = e := by
            unfold ahead
            rw [if_neg (Nat.succ_ne_zero i), Nat.add_sub_cancel, ge]
          rw [e1]
          rfl
        · intro j hj
          by_cases z : j = i
          · subst z
            unfold badE
            have n1 : ¬ e < (j : Int) := fun z => q1 (decide_eq_true z)
            have n2 : ¬ (es.length : Int) ≤ e := fun z => q2 (decide_eq_true (by rw [List.length_map]; omega))
            have n3 : ¬ e < ahead es j := fun z => q3 (decide_eq_true z)
            rw [ge, decide_eq_false n1, decide_eq_false n2, decide_eq_false n3]
            rfl
          · exact hb j (by omega)
      · rintro σ H1 ⟨x2, x3, rfl, s1, hb⟩
        rw [List.length_map] at hb
        exact k1 (due_fine h60 hb) _ s1
    · skip
      refine ⟨_, (pss_cons (ps_set (i := 1) sc_check_ends.nd rfl (Or.inl rfl) pe_int)
  (pss_one (ps_for (passes_of rfl) rfl (pi_enumT (by rfl) T.b_enumerate (pa_cons (pv 0) pa_nil)) (pg_tup (by rfl) (pgs_cons (pg_name (i := 2) sc_check_ends.nd rfl (Or.inl rfl)) (pgs_cons (pg_name (i := 3) sc_check_ends.nd rfl (Or.inl rfl)) pgs_nil)))
  (pss_cons (ps_if (PW.pt (pw_or (pt_cmpR op_lt (pv 3) (pv 2) (nomark _)) (pw_or (pt_cmpR op_ge (pv 3) (pe_callB call_len_seq (by rfl) T.b_len (by decide +kernel) (pa_cons (pv 0) pa_nil)) (nomark _)) (pw_or1 (pt_cmpR op_lt (pv 3) (pv 1) (nomark _))))))
  (pss_one (ps_raise rfl (takes_of rfl rfl rfl rfl) (pmk_er ER_BadEnd (hr.mono (by decide)) (by rfl) (pa_cons (pv 2) pa_nil))))
  pss_nil)
  (pss_one (ps_set (i := 1) sc_check_ends.nd rfl (Or.inl rfl) (pv 3))))))), ?_⟩
      refine ⟨_, rfl, r, _, rfl, SqT.of hs, for_it (walk_enumT (xs := iV es)) (fun i σ H' => ∃ (x2 x3 : Option V), σ = [some (.ref r), some (.int (ahead es i)), x2, x3] ∧ Same H H' ∧ ∀ j, j < i → badE es j = false) ⟨_, _, rfl, Same.refl _, fun j hj => absurd hj (Nat.not_lt_zero _)⟩ (fun i σ H' _ ⟨_, _, _, s1, _⟩ => SqT.of (s1 _ _ hs)) ?_ ?_⟩
      · rintro i x σ H1 H2 hi ⟨x2, x3, rfl, s1, hb⟩ ⟨t, a, b, rfl, nt, rfl, ea, eb⟩
        cases ea
        obtain ⟨e, he, rfl⟩ := ints_at eb
        have hi' : i < es.length := (List.getElem?_eq_some_iff.mp he).1
        have s2 := s1.trans (Same.new (o := .tup [.int (i : Nat), .int e]) nt)
        have hs2 := s2 _ _ hs
        have ge := getD_at he
        refine ⟨t, _, rfl, SqT.of upd_same, rfl, _, _, rfl, _, _, rfl, rfl, ?_⟩
        refine ⟨_, rfl, _, rfl, _, _, rfl, rfl, _, rfl, ite2 (fun q => ?_) (fun q1 => ?_)⟩
        · have hbad : badE es i = true := by
            unfold badE
            rw [ge, q]
            rfl
          refine ⟨_, rfl, (by show 1 ≤ 1000; decide), fun a ha => ⟨a, _, rfl, upd_same, fun d hd hda => ⟨rfl, d, _, upd_same, (upd_ne hda).trans upd_same, (upd_ne hda).symm.trans hd, ?_⟩⟩⟩
          exact out i _ s2 (due_at h60 hi' hbad hb) a ha d hd hda
        refine ⟨_, rfl, _, rfl, r, _, rfl, .inr (SqT.of hs2), _, _, rfl, rfl, _, rfl, ite2 (fun q => ?_) (fun q2 => ?_)⟩
        · have hbad : badE es i = true := by
            unfold badE
            rw [ge, decide_eq_true (by have := of_decide_eq_true q; rw [List.length_map] at this; omega : (es.length : Int) ≤ e)]
            simp
          refine ⟨_, rfl, (by show 1 ≤ 1000; decide), fun a ha => ⟨a, _, rfl, upd_same, fun d hd hda => ⟨rfl, d, _, upd_same, (upd_ne hda).trans upd_same, (upd_ne hda).symm.trans hd, ?_⟩⟩⟩
          exact out i _ s2 (due_at h60 hi' hbad hb) a ha d hd hda
        refine ⟨_, rfl, _, rfl, _, _, rfl, rfl, _, rfl, ite2 (fun q => ?_) (fun q3 => ?_)⟩
        · have hbad : badE es i = true := by
            unfold badE
            rw [ge, q]
            simp
          refine ⟨_, rfl, (by show 1 ≤ 1000; decide), fun a ha => ⟨a, _, rfl, upd_same, fun d hd hda => ⟨rfl, d, _, upd_same, (upd_ne hda).trans upd_same, (upd_ne hda).symm.trans hd, ?_⟩⟩⟩
          exact out i _ s2 (due_at h60 hi' hbad hb) a ha d hd hda
        refine ⟨_, rfl, some (.int (i : Nat)), some (.int e), ?_, s2, ?_⟩
        · have e1 : ahead es (i + 1) = e := by
            unfold ahead
            rw [if_neg (Nat.succ_ne_zero i), Nat.add_sub_cancel, ge]
          rw [e1]
          rfl
        · intro j hj
          by_cases z : j = i
          · subst z
            unfold badE
            have n1 : ¬ e < (j : Int) := fun z => q1 (decide_eq_true z)
            have n2 : ¬ (es.length : Int) ≤ e := fun z => q2 (decide_eq_true (by rw [List.length_map]; omega))
            have n3 : ¬ e < ahead es j := fun z => q3 (decide_eq_true z)
            rw [ge, decide_eq_false n1, decide_eq_false n2, decide_eq_false n3]
            rfl
          · exact hb j (by omega)
      · rintro σ H1 ⟨x2, x3, rfl, s1, hb⟩
        rw [List.length_map] at hb
        exact k1 (due_fine h60 hb) _ s1

theorem ok_Band_init (T : Txt K mg C_BadEnd C_BarbreaksError C_TooMany C_BadNumber C_Band C_Refused) : MkD P w K mg base (L2.CX P w) 4 "Band" C_Band ["self", "ends"] [] (spBand C_Band C_TooMany C_BadEnd) := by
  have D_check_things := ok_check_things (P := P) (w := w) (base := base) T
  have D_check_ends := ok_check_ends (P := P) (w := w) (base := base) T
  obtain ⟨f, fd, M, F, b⟩ := T.i_Band
  refine ⟨f, fd, [], T.g_Band, M, b, .nil, F.okX sc_Band_init (fun vs H Q E h => ?_) (fun cdv A outer s H vs Q E hr h => ?_)⟩
  · obtain ⟨p, dx, r, es, rfl, _⟩ := h
    rfl
  · obtain ⟨p, dx, r, es, rfl, hp, hs, hl, k1, k2, k3⟩ := h
    refine ⟨_, (pss_cons (ps_expr (pe_d D_check_things (hr.mono (by decide)) (passes_call (takes_of rfl rfl rfl rfl) (fun _ _ _ _ z => z)) (by rfl) (pa_cons (pe_callB call_len_seq (by rfl) T.b_len (by decide +kernel) (pa_cons (pv 1) pa_nil)) pa_nil)))
  (pss_cons (ps_expr (pe_d D_check_ends (hr.mono (by decide)) (passes_call (takes_of rfl rfl rfl rfl) (fun _ _ _ _ z => z)) (by rfl) (pa_cons (pv 1) pa_nil)))
  (pss_one (ps_fld (pv 0) (pe_callTy call_tuple_of (by rfl) T.b_tuple (by decide +kernel) (pa_cons (pv 1) pa_nil)) rfl)))), ?_⟩
    refine ⟨_, rfl, r, _, rfl, hs.sq, _, rfl, fun h60 => ?_, fun h61 => k2 (due_many (by rw [List.length_map] at h61; omega))⟩
    have h60' : es.length ≤ 60 := by rw [List.length_map] at h60; omega
    refine ⟨_, rfl, r, es, rfl, hs, h60', fun fine H1 s1 => ?_, fun i e => k3 i e⟩
    rcases hs with hs | hs
    · refine ⟨_, rfl, r, _, rfl, .inl ⟨SqL.of (s1 _ _ hs), fun t nt => ?_⟩⟩
      have hp1 := s1 _ _ hp
      have npt : p ≠ t := ne_of_none hp1 nt
      refine ⟨_, rfl, p, C_Band, dx, _, rfl, (upd_ne npt).trans hp1, T.c_Band, T.n_Band_ends, (by show 0 < 1000; decide), ?_⟩
      exact k1 fine t _ upd_same ((upd_ne npt.symm).trans upd_same) ((But.of_same (s1.trans (Same.new nt))).trans But.upd)
    · have hp1 := s1 _ _ hp
      have npr : p ≠ r := by
        rintro rfl
        rw [hp] at hs
        cases hs
      refine ⟨_, rfl, r, _, rfl, .inr ⟨SqT.of (s1 _ _ hs), ⟨_, rfl, p, C_Band, dx, _, rfl, hp1, T.c_Band, T.n_Band_ends, (by show 0 < 1000; decide), ?_⟩⟩⟩
      exact k1 fine r _ upd_same ((upd_ne npr.symm).trans (s1 _ _ hs)) ((But.of_same s1).trans But.upd)

theorem ok_Band_len (T : Txt K mg C_BadEnd C_BarbreaksError C_TooMany C_BadNumber C_Band C_Refused) : Me P w K mg base CX0 1 C_Band "__len__" ["self"] (spLenB C_Band) := by
  obtain ⟨f, fd, M, F, b⟩ := T.m_Band_len
  refine ⟨f, fd, M, b, F.ok sc_Band_len (fun vs H Q E h => ?_) (fun cdv A outer s H vs Q E hr h => ?_)⟩
  · obtain ⟨b, es, rfl, _⟩ := h
    rfl
  · obtain ⟨b, es, rfl, ⟨dx, t, hb, ht⟩, k⟩ := h
    refine ⟨_, (pss_one (ps_ret (pe_callB call_len_seq (by rfl) T.b_len (by decide +kernel) (pa_cons (pe_fld (pv 0) rfl) pa_nil)))), ?_⟩
    refine ⟨_, rfl, b, C_Band, dx, _, _, rfl, hb, T.c_Band, T.n_Band_ends, look1, t, _, rfl, .inr (SqT.of ht), ?_⟩
    rw [List.length_map]
    exact k

theorem ok_Band_near (T : Txt K mg C_BadEnd C_BarbreaksError C_TooMany C_BadNumber C_Band C_Refused) : Me P w K mg base (L2.CX P w) 4 C_Band "near" ["self", "i", "k"] (spNearB C_Band C_BadNumber) := by
  have D_check_from_zero := ok_check_from_zero (P := P) (w := w) (base := base) T
  obtain ⟨f, fd, M, F, b⟩ := T.m_Band_near
  refine ⟨f, fd, M, b, F.okX sc_Band_near (fun vs H Q E h => ?_) (fun cdv A outer s H vs Q E hr h => ?_)⟩
  · obtain ⟨b, es, i, k, rfl, _⟩ := h
    rfl
  · obtain ⟨b, es, i, k, rfl, ⟨dx, t, hb, ht⟩, k1, k2, k3⟩ := h
    refine ⟨_, (pss_cons (ps_expr (pe_d D_check_from_zero (hr.mono (by decide)) (passes_call (takes_of rfl rfl rfl rfl) (fun _ _ _ _ z => z)) (by rfl) (pa_cons (pv 1) (pa_cons (pe_op op_sub (pe_callB call_len_seq (by rfl) T.b_len (by decide +kernel) (pa_cons (pe_fld (pv 0) rfl) pa_nil)) pe_int) pa_nil))))
  (pss_cons (ps_expr (pe_d D_check_from_zero (hr.mono (by decide)) (passes_call (takes_of rfl rfl rfl rfl) (fun _ _ _ _ z => z)) (by rfl) (pa_cons (pv 2) (pa_cons (pe_op op_sub (pe_callB call_len_seq (by rfl) T.b_len (by decide +kernel) (pa_cons (pe_fld (pv 0) rfl) pa_nil)) pe_int) pa_nil))))
  (pss_one (ps_ret (pe_cmpR op_le (pe_callB (call_max2 rfl) (by rfl) T.b_max (by decide +kernel) (pa_cons (pv 1) (pa_cons (pv 2) pa_nil))) (pe_ix ix_tup (pe_fld (pv 0) rfl) (pe_callB (call_min2 rfl) (by rfl) T.b_min (by decide +kernel) (pa_cons (pv 1) (pa_cons (pv 2) pa_nil))) (fun _ _ => rfl)) (nomark _)))))), ?_⟩
    have to : ∀ j : Int, (0 ≤ j ∧ j ≤ ((iV es).length : Int) - 1) ↔ inN es j := fun j => by
      rw [List.length_map]
      unfold inN
      omega
    refine ⟨_, rfl, _, rfl, b, C_Band, dx, _, _, rfl, hb, T.c_Band, T.n_Band_ends, look1, t, _, rfl, .inr (SqT.of ht), _, _, rfl, rfl, _, _, rfl, fun q => ?_, fun q => k2 (fun z => q ((to i).mpr z))⟩
    have hi := (to i).mp q
    refine ⟨_, rfl, _, rfl, b, C_Band, dx, _, _, rfl, hb, T.c_Band, T.n_Band_ends, look1, t, _, rfl, .inr (SqT.of ht), _, _, rfl, rfl, _, _, rfl, fun q => ?_, fun q => k3 hi (fun z => q ((to k).mpr z))⟩
    have hk := (to k).mp q
    refine ⟨_, rfl, _, rfl, _, _, rfl, _, rfl, b, C_Band, dx, _, _, rfl, hb, T.c_Band, T.n_Band_ends, look1, _, rfl, _, rfl, _, _, rfl, t, _, _, _, rfl, rfl, SqT.of ht, near_atV hi hk, _, _, rfl, rfl, ?_⟩
    exact k1 hi hk

theorem ok_l_ends (T : Txt K mg C_BadEnd C_BarbreaksError C_TooMany C_BadNumber C_Band C_Refused) : Dk P w K mg base CX0 2 "_law_ends" ["_law_pool_here", "_law_count"] spEndsL := by
  have D_l_take := ok_l_take (P := P) (w := w) (base := base) T
  obtain ⟨f, fd, g, F, b⟩ := T.l_ends
  refine ⟨f, fd, g, F.kp, b, F.ok sc_l_ends (fun vs H Q E h => ?_) (fun cdv A outer s H vs Q E hr h => ?_)⟩
  · obtain ⟨p, c, ns, n, rfl, _⟩ := h
    rfl
  · obtain ⟨p, c, ns, n, rfl, hp, n0, n1, k⟩ := h
    refine ⟨_, (pss_cons (ps_set (i := 2) sc_l_ends.nd rfl (Or.inl rfl) (pe_ix ix_list (pe_lst (pa_cons (pv 1) (pa_cons pe_int (pa_cons pe_int (pa_cons pe_int pa_nil))))) (pe_d D_l_take (hr.mono (by decide)) pass0 (by rfl) (pa_cons (pv 0) (pa_cons pe_int pa_nil))) (fun _ _ => rfl)))
  (pss_cons (ps_set (i := 3) sc_l_ends.nd rfl (Or.inl rfl) (pe_lst pa_nil))
  (pss_cons (ps_for PassesOwn.never rfl (pi_range1 rfl T.b_range (pa_cons (pv 1) pa_nil)) (pg_name (i := 4) sc_l_ends.nd rfl (Or.inl rfl))
  (pss_cons (ps_set (i := 5) sc_l_ends.nd rfl (Or.inl rfl) (pv 4))
  (C8.pss_cut (ps_if (pt_cmpR op_gt (pv 4) pe_int (nomark _))
  (pss_one (ps_set (i := 5) sc_l_ends.nd rfl (Or.inl rfl) (pe_callB (call_max2 rfl) (by rfl) T.b_max (by decide +kernel) (pa_cons (pv 4) (pa_cons (pe_ix ix_list (pv 3) (pe_op op_sub (pv 4) pe_int) (fun _ _ => rfl)) pa_nil)))))
  pss_nil)
  (pss_one (ps_expr (pe_bm PySem.F.plainAttrs_list PySem.F.slot_list_append PySem.F.type_list_append mt_append (pv 3) (pa_cons (pe_op op_add (pv 5) (pe_d D_l_take (hr.mono (by decide)) pass0 (by rfl) (pa_cons (pv 0) (pa_cons (pe_callB (call_max2 rfl) (by rfl) T.b_max (by decide +kernel) (pa_cons pe_int (pa_cons (pe_callB (call_min2 rfl) (by rfl) T.b_min (by decide +kernel) (pa_cons (pv 2) (pa_cons (pe_op op_sub (pv 1) (pv 5)) pa_nil))) pa_nil))) pa_nil)))) pa_nil)))))))
  (pss_one (ps_ret (pv 3)))))), ?_⟩
    refine ⟨_, rfl, (by show 4 ≤ sizeLine; decide), fun l nl => ?_⟩
    have s0 := Same.new (o := .lst [.int n, .int 2, .int 3, .int 6]) nl
    have hpl : p ≠ l := by
      obtain ⟨q, e, _⟩ := hp.at_
      exact ne_of_none e nl
    refine ⟨_, rfl, p, c, ns, _, rfl, hp.same s0, by decide, by decide +kernel, fun r H1 r0 r1 hp1 o1 => ?_⟩
    have hl1 : H1 l = some (.lst [.int n, .int 2, .int 3, .int 6]) := (o1 l hpl.symm).trans upd_same
    have b1 : But p H H1 := (But.of_same s0).trans (But.of_off o1)
    obtain ⟨wd, hwd⟩ : ∃ wd : Int, atI [V.int n, V.int 2, V.int 3, V.int 6] r = some (V.int wd) := by
      have : r = 0 ∨ r = 1 ∨ r = 2 ∨ r = 3 := by omega
      rcases this with rfl | rfl | rfl | rfl
      · exact ⟨_, rfl⟩
      · exact ⟨_, rfl⟩
      · exact ⟨_, rfl⟩
      · exact ⟨_, rfl⟩
    refine ⟨l, _, _, _, rfl, rfl, SqL.of hl1, hwd, (by show 0 ≤ sizeLine; decide), fun e ne => ?_⟩
    have hpe : p ≠ e := by
      obtain ⟨q, e1, _⟩ := hp1.at_
      exact ne_of_none e1 ne
    have hce : c ≠ e := ne_of_none hp1.cells ne
    have neH : H e = none := b1.free ne hpe.symm
    refine ⟨_, rfl, n, rfl, by omega, by omega, for_range (n := n.toNat) (fun i σ H' => ∃ (es : List Int) (x4 x5 : Option V), σ = [some (.ref p), some (.int n), some (.int wd), some (.ref e), x4, x5] ∧ es.length = i ∧ EndsPre n es ∧ H' e = some (.lst (iV es)) ∧ Pool ns c H' p ∧ But p H H')
      ⟨[], _, _, rfl, rfl, (fun j x hx => by simp at hx), upd_same, hp1.same (Same.new ne), b1.updN neH⟩ ?_ ?_⟩
    · rintro i σ H2 hi ⟨es, x4, x5, rfl, hlen, hpre, he2, hp2, b2⟩
      rw [Int.zero_add]
      refine ⟨_, rfl, fun σ H' => ∃ low : Int, σ = [some (.ref p), some (.int n), some (.int wd), some (.ref e), some (.int (i : Nat)), some (.int low)] ∧ H' = H2 ∧ (i : Int) ≤ low ∧ low < n ∧ ∀ x, 0 < i → es[i - 1]? = some x → x ≤ low, ?_, ?_⟩
      · refine ⟨_, rfl, _, _, rfl, rfl, _, rfl, ite2 (fun q => ?_) (fun q => ?_)⟩
        · have i0 : 0 < i := by have := of_decide_eq_true q; omega
          have hx : es[i - 1]? = some (es[i - 1]'(by omega)) := List.getElem?_eq_getElem (by omega)
          have hlt := (hpre (i - 1) _ hx).2.1
          refine ⟨_, rfl, _, rfl, _, rfl, _, _, rfl, rfl, e, _, _, .int (es[i - 1]'(by omega)), rfl, rfl, SqL.of he2, atI_ge (by omega) (by rw [List.getElem?_map, show ((i : Nat) : Int) - 1 = ((i - 1 : Nat) : Int) by omega, Int.toNat_natCast, hx]; rfl), _, _, rfl, ?_⟩
          refine ⟨_, rfl, rfl, ?_, ?_, ?_⟩
          · split <;> omega
          · split <;> omega
          · intro x _ hx2
            rw [hx] at hx2
            cases hx2
            split <;> omega
        · have i0 : i = 0 := by have := of_decide_eq_false (Bool.eq_false_iff.mpr q); omega
          exact ⟨_, rfl, rfl, Int.le_refl _, by omega, fun x z _ => by omega⟩
      rintro σ H3 ⟨low, rfl, rfl, l1, l2, l3⟩
      refine ⟨_, rfl, .inl ⟨rfl, _, SqL.of he2⟩, _, rfl, _, rfl, _, rfl, _, rfl, _, rfl, _, _, rfl, rfl, _, _, rfl, _, _, rfl, ?_⟩
      generalize hsz : (if (if n - low < wd then n - low else wd) > (1 : Int) then (if n - low < wd then n - low else wd) else (1 : Int)) = sz
      have z1 : 1 ≤ sz := by rw [← hsz]; split <;> omega
      have z2 : sz ≤ n - low := by rw [← hsz]; split <;> (try split) <;> omega
      refine ⟨p, c, ns, sz, rfl, hp2, by omega, log2_27 z1 (by omega), fun r2 H4 q0 q1 hp4 o4 => ⟨_, _, rfl, rfl, ?_⟩⟩
      have he4 : H4 e = some (.lst (iV es)) := (o4 e hpe.symm).trans he2
      refine ⟨e, _, _, rfl, rfl, he4, (by rw [List.length_map, hlen]; exact Nat.lt_of_lt_of_le (by omega : i < 1000) (by decide)), ?_⟩
      refine ⟨es ++ [low + r2], _, _, rfl, by rw [List.length_append, hlen]; rfl, ?_, ?_, hp4.off Off.upd hpe hce, (b2.trans (But.of_off o4)).updN neH⟩
      · exact hpre.snoc hlen (by omega) (by omega) (fun x i0 hx => by have := l3 x i0 hx; omega)
      · rw [upd_same, iV_snoc] <;> rfl
    · rintro σ H2 ⟨es, x4, x5, rfl, hlen, hpre, he2, hp2, b2⟩
      exact ⟨_, rfl, k e es _ ⟨by omega, hpre⟩ he2 neH hp2 b2⟩

theorem ok_l_number (T : Txt K mg C_BadEnd C_BarbreaksError C_TooMany C_BadNumber C_Band C_Refused) : Dk P w K mg base CX0 3 "_law_number" ["_law_pool_here"] spNumB := by
  have D_l_take := ok_l_take (P := P) (w := w) (base := base) T
  have D_l_big := ok_l_big (P := P) (w := w) (base := base) T
  obtain ⟨f, fd, g, F, b⟩ := T.l_number
  refine ⟨f, fd, g, F.kp, b, F.ok sc_l_number (fun vs H Q E h => ?_) (fun cdv A outer s H vs Q E hr h => ?_)⟩
  · obtain ⟨p, c, ns, rfl, _⟩ := h
    rfl
  · obtain ⟨p, c, ns, rfl, hp, k⟩ := h
    refine ⟨_, (pss_cons (ps_set (i := 1) sc_l_number.nd rfl (Or.inl rfl) (pe_d D_l_take (hr.mono (by decide)) pass0 (by rfl) (pa_cons (pv 0) (pa_cons pe_int pa_nil))))
  (pss_cons (ps_if (pt_cmpR op_eq (pv 1) pe_int (nomark _))
  (pss_one (ps_ret (pe_op op_sub (pe_d D_l_take (hr.mono (by decide)) pass0 (by rfl) (pa_cons (pv 0) (pa_cons pe_int pa_nil))) pe_int)))
  pss_nil)
  (pss_cons (ps_if (pt_cmpR op_eq (pv 1) pe_int (nomark _))
  (pss_one (ps_ret (pe_ix ix_list (pe_lst (pa_cons (pe_op op_sub pe_int pe_int) (pa_cons pe_int (pa_cons pe_int (pa_cons pe_int (pa_cons pe_int (pa_cons pe_int pa_nil))))))) (pe_d D_l_take (hr.mono (by decide)) pass0 (by rfl) (pa_cons (pv 0) (pa_cons pe_int pa_nil))) (fun _ _ => rfl))))
  pss_nil)
  (pss_cons (ps_if (pt_cmpR op_eq (pv 1) pe_int (nomark _))
  (pss_cons (ps_set (i := 2) sc_l_number.nd rfl (Or.inl rfl) (pe_d D_l_big (hr.mono (by decide)) pass0 (by rfl) (pa_cons (pv 0) pa_nil)))
  (pss_one (ps_ret (pe_ix ix_list (pe_lst (pa_cons (pe_op op_add pe_int (pv 2)) (pa_cons (pe_op op_sub (pe_op op_sub pe_int pe_int) (pv 2)) pa_nil))) (pe_d D_l_take (hr.mono (by decide)) pass0 (by rfl) (pa_cons (pv 0) (pa_cons pe_int pa_nil))) (fun _ _ => rfl)))))
  pss_nil)
  (pss_one (ps_ret (pe_d D_l_take (hr.mono (by decide)) pass0 (by rfl) (pa_cons (pv 0) (pa_cons pe_int pa_nil))))))))), ?_⟩
    refine ⟨_, rfl, p, c, ns, _, rfl, hp, by decide, by decide +kernel, fun way H1 r0 r1 hp1 o1 => ?_⟩
    have out : ∀ {Hq : Hp} {l : Addr}, Pool ns c Hq p → Hq l = none → l ≠ p := fun {Hq l} h n => by
      obtain ⟨q, e, _⟩ := h.at_
      exact (ne_of_none e n).symm
    refine ⟨_, rfl, rfl, _, rfl, ite2 (fun q => ?_) (fun q => ?_)⟩
    · exact ⟨_, rfl, p, c, ns, _, rfl, hp1, by decide, by decide +kernel, fun r H2 a0 a1 hp2 o2 => ⟨_, _, rfl, rfl, k _ _ hp2 (But.of_off (o1.trans o2))⟩⟩
    refine ⟨_, rfl, rfl, _, rfl, ite2 (fun q => ?_) (fun q => ?_)⟩
    · refine ⟨_, _, rfl, rfl, (by show 6 ≤ sizeLine; decide), fun l nl => ?_⟩
      refine ⟨_, rfl, p, c, ns, _, rfl, hp1.same (Same.new nl), by decide, by decide +kernel, fun u H2 u0 u1 hp2 o2 => ?_⟩
      have hl2 := (o2 l (out hp1 nl)).trans (upd_same (a := l))
      have six : ∀ (a b d e f g : Int), ∃ v : Int, atI [V.int a, V.int b, V.int d, V.int e, V.int f, V.int g] u = some (V.int v) := by
        intro a b d e f g
        have : u = 0 ∨ u = 1 ∨ u = 2 ∨ u = 3 ∨ u = 4 ∨ u = 5 := by omega
        rcases this with rfl | rfl | rfl | rfl | rfl | rfl
        · exact ⟨_, rfl⟩
        · exact ⟨_, rfl⟩
        · exact ⟨_, rfl⟩
        · exact ⟨_, rfl⟩
        · exact ⟨_, rfl⟩
        · exact ⟨_, rfl⟩
      obtain ⟨v, hv⟩ := six _ _ _ _ _ _
      exact ⟨l, _, _, _, rfl, rfl, SqL.of hl2, hv, k _ _ hp2 (((But.of_off o1).trans (But.of_same (Same.new nl))).trans (But.of_off o2))⟩
    refine ⟨_, rfl, rfl, _, rfl, ite2 (fun q => ?_) (fun q => ?_)⟩
    · refine ⟨_, rfl, p, c, ns, rfl, hp1, fun y H2 y0 y1 hp2 o2 => ?_⟩
      refine ⟨_, rfl, _, _, rfl, rfl, _, _, rfl, rfl, _, rfl, _, _, rfl, rfl, (by show 2 ≤ sizeLine; decide), fun l nl => ?_⟩
      refine ⟨_, rfl, p, c, ns, _, rfl, hp2.same (Same.new nl), by decide, by decide +kernel, fun u H3 u0 u1 hp3 o3 => ?_⟩
      have hl3 := (o3 l (out hp2 nl)).trans (upd_same (a := l))
      have two : ∀ (a b : Int), ∃ v : Int, atI [V.int a, V.int b] u = some (V.int v) := by
        intro a b
        have : u = 0 ∨ u = 1 := by omega
        rcases this with rfl | rfl
        · exact ⟨_, rfl⟩
        · exact ⟨_, rfl⟩
      obtain ⟨v, hv⟩ := two _ _
      exact ⟨l, _, _, _, rfl, rfl, SqL.of hl3, hv, k _ _ hp3 (((But.of_off (o1.trans o2)).trans (But.of_same (Same.new nl))).trans (But.of_off o3))⟩
    exact ⟨_, rfl, p, c, ns, _, rfl, hp1, by decide, by decide +kernel, fun r H2 a0 a1 hp2 o2 => k _ _ hp2 (But.of_off (o1.trans o2))⟩

theorem ok_l_same (T : Txt K mg C_BadEnd C_BarbreaksError C_TooMany C_BadNumber C_Band C_Refused) : ∀ n : Nat, Dk P w K mg base CX0 (n + 2) "_law_same" ["_law_got", "_law_due"] (spSame K n) := by
  have D_l_is_int := ok_l_is_int (P := P) (w := w) (base := base) T
  intro n
  induction n with
  | zero =>
    obtain ⟨f, fd, g, F, b⟩ := T.l_same
    refine ⟨f, fd, g, F.kp, b, F.ok sc_l_same (fun vs H Q E h => ?_) (fun cdv A outer s H vs Q E hr h => ?_)⟩
    · obtain ⟨x, y, d, rfl, _⟩ := h
      rfl
    obtain ⟨x, y, d, rfl, hx, hy, hok, k⟩ := h
    refine ⟨_, (pss_cons (ps_if (pt_cmpR op_isN (pv 1) pe_non (nomark _))
  (pss_one (ps_ret (pe_cmpR op_isN (pv 0) pe_non (nomark _))))
  pss_nil)
  (pss_cons (ps_if (pt_val (pe_callB call_isi (by rfl) T.b_isinstance (by decide +kernel) (pa_cons (pv 1) (pa_cons (pe_bltn (v := .ty "bool") (by rfl) T.b_bool (by decide +kernel) rfl) pa_nil))))
  (pss_one (ps_ret (pe_and (pe_callB call_isi (by rfl) T.b_isinstance (by decide +kernel) (pa_cons (pv 0) (pa_cons (pe_bltn (v := .ty "bool") (by rfl) T.b_bool (by decide +kernel) rfl) pa_nil))) (pe_one (pe_cmpR op_eq (pv 0) (pv 1) (nomark _))))))
  pss_nil)
  (pss_cons (ps_if (pt_val (pe_callB call_isi (by rfl) T.b_isinstance (by decide +kernel) (pa_cons (pv 1) (pa_cons (pe_bltn (v := .ty "int") (by rfl) T.b_int (by decide +kernel) rfl) pa_nil))))
  (pss_one (ps_ret (pe_and (pe_d D_l_is_int (hr.mono (by omega)) pass0 (by rfl) (pa_cons (pv 0) pa_nil)) (pe_one (pe_cmpR op_eq (pv 0) (pv 1) (nomark _))))))
  pss_nil)
  (pss_cons (ps_if (pt_val (pe_callB call_isi (by rfl) T.b_isinstance (by decide +kernel) (pa_cons (pv 1) (pa_cons (pe_bltn (v := .ty "str") (by rfl) T.b_str (by decide +kernel) rfl) pa_nil))))
  (pss_one (ps_ret (pe_and (pe_callB call_isi (by rfl) T.b_isinstance (by decide +kernel) (pa_cons (pv 0) (pa_cons (pe_bltn (v := .ty "str") (by rfl) T.b_str (by decide +kernel) rfl) pa_nil))) (pe_one (pe_cmpR op_eq (pv 0) (pv 1) (nomark _))))))
  pss_nil)
  (pss_cons (ps_if (pt_val (pe_callB call_isi (by rfl) T.b_isinstance (by decide +kernel) (pa_cons (pv 1) (pa_cons (pe_bltn (v := .ty "dict") (by rfl) T.b_dict (by decide +kernel) rfl) pa_nil))))
  (pss_cons ps_never
  (pss_one ps_never))
  pss_nil)
  (pss_cons ps_never
  (pss_cons ps_never
  (pss_cons ps_never
  (pss_one (ps_ret pe_bl)))))))))), ?_⟩
    have kk : ∀ (p : Prop) [Decidable p], p → Q (.bl (decide p)) H := fun p _ h => by rw [decide_eq_true h]; exact k
    cases hx with
    | non =>
      cases hy
      exact ⟨_, rfl, rfl, true, bl_t rfl, iteT ⟨_, rfl, rfl, kk _ rfl⟩⟩
    | bl b =>
      cases hy
      refine ⟨_, rfl, rfl, false, bl_f (fun z => nomatch z), iteF ?_⟩
      exact ⟨_, rfl, _, _, _, _, true, rfl, .ty _, .base (.bl b), kit_ty (by decide +kernel), true, rfl, iteT ⟨_, rfl, _, _, _, _, true, rfl, .ty _, .base (.bl b), kit_ty (by decide +kernel), true, rfl, iteT ⟨_, rfl, _, rfl, rfl, kk _ rfl⟩⟩⟩
    | int i =>
      cases hy
      refine ⟨_, rfl, rfl, false, bl_f (fun z => nomatch z), iteF ?_⟩
      refine ⟨_, rfl, _, _, _, _, false, rfl, .ty _, .base (.int i), kit_ty (by decide +kernel), false, rfl, iteF ?_⟩
      refine ⟨_, rfl, _, _, _, _, true, rfl, .ty _, .base (.int i), kit_ty (by decide +kernel), true, rfl, iteT ?_⟩
      exact ⟨_, rfl, .int i, _, true, false, rfl, .base (.int i), kInt, kIntB, true, rfl, iteT ⟨_, rfl, _, rfl, rfl, kk _ rfl⟩⟩
    | str z =>
      cases hy
      refine ⟨_, rfl, rfl, false, bl_f (fun z => nomatch z), iteF ?_⟩
      refine ⟨_, rfl, _, _, _, _, false, rfl, .ty _, .base (.str z), kit_ty (by decide +kernel), false, rfl, iteF ?_⟩
      refine ⟨_, rfl, _, _, _, _, false, rfl, .ty _, .base (.str z), kit_ty (by decide +kernel), false, rfl, iteF ?_⟩
      exact ⟨_, rfl, _, _, _, _, true, rfl, .ty _, .base (.str z), kit_ty (by decide +kernel), true, rfl, iteT ⟨_, rfl, _, _, _, _, true, rfl, .ty _, .base (.str z), kit_ty (by decide +kernel), true, rfl, iteT ⟨_, rfl, _, rfl, rfl, kk _ rfl⟩⟩⟩
    | lst _ _ => simp [okD] at hok
    | tup _ _ => simp [okD] at hok
  | succ n ih =>
    have D_l_same := ih
    obtain ⟨f, fd, g, F, b⟩ := T.l_same
    refine ⟨f, fd, g, F.kp, b, F.ok sc_l_same (fun vs H Q E h => ?_) (fun cdv A outer s H vs Q E hr h => ?_)⟩
    · obtain ⟨x, y, d, rfl, _⟩ := h
      rfl
    obtain ⟨x, y, d, rfl, hx, hy, hok, k⟩ := h
    refine ⟨_, (pss_cons (ps_if (pt_cmpR op_isN (pv 1) pe_non (nomark _))
  (pss_one (ps_ret (pe_cmpR op_isN (pv 0) pe_non (nomark _))))
  pss_nil)
  (pss_cons (ps_if (pt_val (pe_callB call_isi (by rfl) T.b_isinstance (by decide +kernel) (pa_cons (pv 1) (pa_cons (pe_bltn (v := .ty "bool") (by rfl) T.b_bool (by decide +kernel) rfl) pa_nil))))
  (pss_one (ps_ret (pe_and (pe_callB call_isi (by rfl) T.b_isinstance (by decide +kernel) (pa_cons (pv 0) (pa_cons (pe_bltn (v := .ty "bool") (by rfl) T.b_bool (by decide +kernel) rfl) pa_nil))) (pe_one (pe_cmpR op_eq (pv 0) (pv 1) (nomark _))))))
  pss_nil)
  (pss_cons (ps_if (pt_val (pe_callB call_isi (by rfl) T.b_isinstance (by decide +kernel) (pa_cons (pv 1) (pa_cons (pe_bltn (v := .ty "int") (by rfl) T.b_int (by decide +kernel) rfl) pa_nil))))
  (pss_one (ps_ret (pe_and (pe_d D_l_is_int (hr.mono (by omega)) pass0 (by rfl) (pa_cons (pv 0) pa_nil)) (pe_one (pe_cmpR op_eq (pv 0) (pv 1) (nomark _))))))
  pss_nil)
  (pss_cons (ps_if (pt_val (pe_callB call_isi (by rfl) T.b_isinstance (by decide +kernel) (pa_cons (pv 1) (pa_cons (pe_bltn (v := .ty "str") (by rfl) T.b_str (by decide +kernel) rfl) pa_nil))))
  (pss_one (ps_ret (pe_and (pe_callB call_isi (by rfl) T.b_isinstance (by decide +kernel) (pa_cons (pv 0) (pa_cons (pe_bltn (v := .ty "str") (by rfl) T.b_str (by decide +kernel) rfl) pa_nil))) (pe_one (pe_cmpR op_eq (pv 0) (pv 1) (nomark _))))))
  pss_nil)
  (pss_cons (ps_if (pt_val (pe_callB call_isi (by rfl) T.b_isinstance (by decide +kernel) (pa_cons (pv 1) (pa_cons (pe_bltn (v := .ty "dict") (by rfl) T.b_dict (by decide +kernel) rfl) pa_nil))))
  (pss_cons ps_never
  (pss_one ps_never))
  pss_nil)
  (pss_cons (ps_if (PW.pt (pw_or (pt_cmpR op_ne (pe_callB call_isi (by rfl) T.b_isinstance (by decide +kernel) (pa_cons (pv 1) (pa_cons (pe_bltn (v := .ty "list") (by rfl) T.b_list (by decide +kernel) rfl) pa_nil))) (pe_callB call_isi (by rfl) T.b_isinstance (by decide +kernel) (pa_cons (pv 0) (pa_cons (pe_bltn (v := .ty "list") (by rfl) T.b_list (by decide +kernel) rfl) pa_nil))) (nomark _)) (pw_or1 (pt_cmpR op_ne (pe_callB call_isi (by rfl) T.b_isinstance (by decide +kernel) (pa_cons (pv 1) (pa_cons (pe_bltn (v := .ty "tuple") (by rfl) T.b_tuple (by decide +kernel) rfl) pa_nil))) (pe_callB call_isi (by rfl) T.b_isinstance (by decide +kernel) (pa_cons (pv 0) (pa_cons (pe_bltn (v := .ty "tuple") (by rfl) T.b_tuple (by decide +kernel) rfl) pa_nil))) (nomark _)))))
  (pss_one (ps_ret pe_bl))
  pss_nil)
  (pss_cons (ps_if (pt_cmpR op_ne (pe_callB call_len_seq (by rfl) T.b_len (by decide +kernel) (pa_cons (pv 0) pa_nil)) (pe_callB call_len_seq (by rfl) T.b_len (by decide +kernel) (pa_cons (pv 1) pa_nil)) (nomark _))
  (pss_one (ps_ret pe_bl))
  pss_nil)
  (pss_cons (ps_for PassesOwn.never rfl (pi_range1 rfl T.b_range (pa_cons (pe_callB call_len_seq (by rfl) T.b_len (by decide +kernel) (pa_cons (pv 1) pa_nil)) pa_nil)) (pg_name (i := 2) sc_l_same.nd rfl (Or.inl rfl))
  (pss_one (ps_if (pt_not (pt_val (pe_d D_l_same (hr.mono (by omega)) pass0 (by rfl) (pa_cons (pe_ix ix_seq (pv 0) (pv 2) (fun _ _ => rfl)) (pa_cons (pe_ix ix_seq (pv 1) (pv 2) (fun _ _ => rfl)) pa_nil)))))
  (pss_one (ps_ret pe_bl))
  pss_nil)))
  (pss_one (ps_ret pe_bl)))))))))), ?_⟩
    have kk : ∀ (p : Prop) [Decidable p], p → Q (.bl (decide p)) H := fun p _ h => by rw [decide_eq_true h]; exact k
    cases hx with
    | non =>
      cases hy
      exact ⟨_, rfl, rfl, true, bl_t rfl, iteT ⟨_, rfl, rfl, kk _ rfl⟩⟩
    | bl b =>
      cases hy
      refine ⟨_, rfl, rfl, false, bl_f (fun z => nomatch z), iteF ?_⟩
      exact ⟨_, rfl, _, _, _, _, true, rfl, .ty _, .base (.bl b), kit_ty (by decide +kernel), true, rfl, iteT ⟨_, rfl, _, _, _, _, true, rfl, .ty _, .base (.bl b), kit_ty (by decide +kernel), true, rfl, iteT ⟨_, rfl, _, rfl, rfl, kk _ rfl⟩⟩⟩
    | int i =>
      cases hy
      refine ⟨_, rfl, rfl, false, bl_f (fun z => nomatch z), iteF ?_⟩
      refine ⟨_, rfl, _, _, _, _, false, rfl, .ty _, .base (.int i), kit_ty (by decide +kernel), false, rfl, iteF ?_⟩
      refine ⟨_, rfl, _, _, _, _, true, rfl, .ty _, .base (.int i), kit_ty (by decide +kernel), true, rfl, iteT ?_⟩
      exact ⟨_, rfl, .int i, _, true, false, rfl, .base (.int i), kInt, kIntB, true, rfl, iteT ⟨_, rfl, _, rfl, rfl, kk _ rfl⟩⟩
    | str z =>
      cases hy
      refine ⟨_, rfl, rfl, false, bl_f (fun z => nomatch z), iteF ?_⟩
      refine ⟨_, rfl, _, _, _, _, false, rfl, .ty _, .base (.str z), kit_ty (by decide +kernel), false, rfl, iteF ?_⟩
      refine ⟨_, rfl, _, _, _, _, false, rfl, .ty _, .base (.str z), kit_ty (by decide +kernel), false, rfl, iteF ?_⟩
      exact ⟨_, rfl, _, _, _, _, true, rfl, .ty _, .base (.str z), kit_ty (by decide +kernel), true, rfl, iteT ⟨_, rfl, _, _, _, _, true, rfl, .ty _, .base (.str z), kit_ty (by decide +kernel), true, rfl, iteT ⟨_, rfl, _, rfl, rfl, kk _ rfl⟩⟩⟩
    | lst hsx hax =>
      rename_i a xs ds
      cases hy with
      | lst hsy hay =>
      rename_i b ys
      obtain ⟨m, em, hlen, hds⟩ := okD_list hok
      cases em
      have lx := DpAll.len hax
      have ly := DpAll.len hay
      refine ⟨_, rfl, rfl, false, bl_f (fun z => nomatch z), iteF ?_⟩
      refine ⟨_, rfl, _, _, _, _, false, rfl, .ty _, (tyx_sqL hsy), kit_ty (by decide +kernel), false, rfl, iteF ?_⟩
      refine ⟨_, rfl, _, _, _, _, false, rfl, .ty _, (tyx_sqL hsy), kit_ty (by decide +kernel), false, rfl, iteF ?_⟩
      refine ⟨_, rfl, _, _, _, _, false, rfl, .ty _, (tyx_sqL hsy), kit_ty (by decide +kernel), false, rfl, iteF ?_⟩
      refine ⟨_, rfl, _, _, _, _, false, rfl, .ty _, (tyx_sqL hsy), kit_ty (by decide +kernel), false, rfl, iteF ?_⟩
      refine ⟨_, rfl, _, _, _, _, true, rfl, .ty _, (tyx_sqL hsy), kit_ty (by decide +kernel), _, rfl, _, _, _, _, true, rfl, .ty _, (tyx_sqL hsx), kit_ty (by decide +kernel), rfl, false, ble_f rfl, iteF ?_⟩
      refine ⟨_, rfl, _, _, _, _, false, rfl, .ty _, (tyx_sqL hsy), kit_ty (by decide +kernel), _, rfl, _, _, _, _, false, rfl, .ty _, (tyx_sqL hsx), kit_ty (by decide +kernel), rfl, false, ble_f rfl, iteF ?_⟩
      refine ⟨_, rfl, a, _, rfl, .inl hsx, _, rfl, b, _, rfl, .inl hsy, rfl, false, ble_f (by rw [lx, ly]), iteF ?_⟩
      refine ⟨_, rfl, b, _, rfl, .inl hsy, _, rfl, by omega, by rw [ly]; omega, for_range (n := ((ys.length : Nat) : Int).toNat) (fun i σ H' => ∃ (x2 : Option V), σ = [some (.ref a), some (.ref b), x2, none] ∧ H' = H) ⟨_, rfl, rfl⟩ ?_ ?_⟩
      · rintro i σ H1 hi ⟨x2, rfl, rfl⟩
        rw [Int.zero_add]
        rw [Int.toNat_natCast, ly] at hi
        obtain ⟨v, d1, e1, e2, dv⟩ := DpAll.at_ hax hi
        obtain ⟨u, d2, e3, e4, du⟩ := DpAll.at_ hay hi
        have ed : d1 = d2 := by rw [e2] at e4; exact Option.some.inj e4
        subst ed
        refine ⟨_, rfl, _, rfl, .inl ⟨a, _, _, v, rfl, rfl, hsx, atI_nat e1, _, rfl, _, rfl, .inl ⟨b, _, _, u, rfl, rfl, hsy, atI_nat e3, _, _, d1, rfl, dv, du, hds d1 (List.mem_of_getElem? e2), true, rfl, iteF ⟨_, rfl, rfl⟩⟩⟩⟩
      · rintro σ H1 ⟨x2, rfl, rfl⟩
        exact k
    | tup hsx hax =>
      rename_i a xs ds
      cases hy with
      | tup hsy hay =>
      rename_i b ys
      obtain ⟨m, em, hlen, hds⟩ := okD_tuple hok
      cases em
      have lx := DpAll.len hax
      have ly := DpAll.len hay
      refine ⟨_, rfl, rfl, false, bl_f (fun z => nomatch z), iteF ?_⟩
      refine ⟨_, rfl, _, _, _, _, false, rfl, .ty _, (tyx_sqT hsy), kit_ty (by decide +kernel), false, rfl, iteF ?_⟩
      refine ⟨_, rfl, _, _, _, _, false, rfl, .ty _, (tyx_sqT hsy), kit_ty (by decide +kernel), false, rfl, iteF ?_⟩
      refine ⟨_, rfl, _, _, _, _, false, rfl, .ty _, (tyx_sqT hsy), kit_ty (by decide +kernel), false, rfl, iteF ?_⟩
      refine ⟨_, rfl, _, _, _, _, false, rfl, .ty _, (tyx_sqT hsy), kit_ty (by decide +kernel), false, rfl, iteF ?_⟩
      refine ⟨_, rfl, _, _, _, _, false, rfl, .ty _, (tyx_sqT hsy), kit_ty (by decide +kernel), _, rfl, _, _, _, _, false, rfl, .ty _, (tyx_sqT hsx), kit_ty (by decide +kernel), rfl, false, ble_f rfl, iteF ?_⟩
      refine ⟨_, rfl, _, _, _, _, true, rfl, .ty _, (tyx_sqT hsy), kit_ty (by decide +kernel), _, rfl, _, _, _, _, true, rfl, .ty _, (tyx_sqT hsx), kit_ty (by decide +kernel), rfl, false, ble_f rfl, iteF ?_⟩
      refine ⟨_, rfl, a, _, rfl, .inr hsx, _, rfl, b, _, rfl, .inr hsy, rfl, false, ble_f (by rw [lx, ly]), iteF ?_⟩
      refine ⟨_, rfl, b, _, rfl, .inr hsy, _, rfl, by omega, by rw [ly]; omega, for_range (n := ((ys.length : Nat) : Int).toNat) (fun i σ H' => ∃ (x2 : Option V), σ = [some (.ref a), some (.ref b), x2, none] ∧ H' = H) ⟨_, rfl, rfl⟩ ?_ ?_⟩
      · rintro i σ H1 hi ⟨x2, rfl, rfl⟩
        rw [Int.zero_add]
        rw [Int.toNat_natCast, ly] at hi
        obtain ⟨v, d1, e1, e2, dv⟩ := DpAll.at_ hax hi
        obtain ⟨u, d2, e3, e4, du⟩ := DpAll.at_ hay hi
        have ed : d1 = d2 := by rw [e2] at e4; exact Option.some.inj e4
        subst ed
        refine ⟨_, rfl, _, rfl, .inr (.inl ⟨a, _, _, v, rfl, rfl, hsx, atI_nat e1, _, rfl, _, rfl, .inr (.inl ⟨b, _, _, u, rfl, rfl, hsy, atI_nat e3, _, _, d1, rfl, dv, du, hds d1 (List.mem_of_getElem? e2), true, rfl, iteF ⟨_, rfl, rfl⟩⟩)⟩)⟩
      · rintro σ H1 ⟨x2, rfl, rfl⟩
        exact k

theorem ok_is_cover (T : Txt K mg C_BadEnd C_BarbreaksError C_TooMany C_BadNumber C_Band C_Refused) : Dk P w K mg base CX0 5 "is_cover" ["band", "groups"] (spIsCov C_Band) := by
  have M_Band_len := ok_Band_len (P := P) (w := w) (base := base) T
  have M_Band_near := ok_Band_near (P := P) (w := w) (base := base) T
  obtain ⟨f, fd, g, F, b⟩ := T.is_cover
  refine ⟨f, fd, g, F.kp, b, F.ok sc_is_cover (fun vs H Q E h => ?_) (fun cdv A outer s H vs Q E hr h => ?_)⟩
  · obtain ⟨b, r, es, ws, gs, rfl, _⟩ := h
    rfl
  · obtain ⟨b, r, es, ws, gs, rfl, ⟨dx, t, hb, ht⟩, l100, hs, hG, k⟩ := h
    rcases hs with hs | hs
    · skip
      refine ⟨_, (pss_cons (ps_set (i := 2) sc_is_cover.nd rfl (Or.inl rfl) pe_int)
  (pss_cons (ps_for PassesOwn.never rfl (pi_list (pv 1)) (pg_tup (by rfl) (pgs_cons (pg_name (i := 3) sc_is_cover.nd rfl (Or.inl rfl)) (pgs_cons (pg_name (i := 4) sc_is_cover.nd rfl (Or.inl rfl)) pgs_nil)))
  (pss_cons (ps_if (PW.pt (pw_or (pt_cmpR op_ne (pv 3) (pv 2) (nomark _)) (pw_or (pt_not (pt_chain op_le op_lt (pv 3) (pv 4) (pe_callB (call_lenM M_Band_len (hr.mono (by decide)) pass0) (by rfl) T.b_len (by decide +kernel) (pa_cons (pv 0) pa_nil)))) (pw_or1 (pt_not (pt_val (pe_me M_Band_near T.c_Band (hr.mono (by decide)) passE (pv 0) (pa_cons (pv 3) (pa_cons (pv 4) pa_nil)))))))))
  (pss_one (ps_ret pe_bl))
  pss_nil)
  (pss_one (ps_set (i := 2) sc_is_cover.nd rfl (Or.inl rfl) (pe_op op_add (pv 4) pe_int)))))
  (pss_one (ps_ret (pe_cmpR op_eq (pv 2) (pe_callB (call_lenM M_Band_len (hr.mono (by decide)) pass0) (by rfl) T.b_len (by decide +kernel) (pa_cons (pv 0) pa_nil)) (nomark _)))))), ?_⟩
      refine ⟨_, rfl, r, rfl, ⟨_, SqL.of hs⟩, for_list (K := K) (a := r) (xs := ws) (fun i σ H' => ∃ (x3 x4 : Option V), σ = [some (.ref b), some (.ref r), some (.int (stG gs i)), x3, x4] ∧ H' = H ∧ ∀ j, j < i → okG es gs j = true) ⟨_, _, rfl, rfl, fun j hj => absurd hj (Nat.not_lt_zero _)⟩ (fun i σ H' _ ⟨_, _, _, e, _⟩ => by rw [e]; exact SqL.of hs) ?_ ?_⟩
      · rintro i x σ H' hx ⟨x3, x4, rfl, rfl, ok⟩
        obtain ⟨a, rfl, hi, ha⟩ := hG.of_at hx
        have s0 := stG_pos ok
        have nxt : okG es gs i = true → ∀ j, j < i + 1 → okG es gs j = true := fun h j hj => by
          by_cases z : j = i
          · rw [z]
            exact h
          · exact ok j (by omega)
        have ss := stG_succ (gs := gs) (k := i)
        have out : okG es gs i = false → Q (.bl false) H' := fun h => by
          rw [covB_no hi h] at k
          exact k
        have okd : okG es gs i = (decide ((gs.getD i (0, 0)).1 = stG gs i) && (decide ((gs.getD i (0, 0)).1 ≤ (gs.getD i (0, 0)).2) && (decide ((gs.getD i (0, 0)).2 < es.length) && decide ((gs.getD i (0, 0)).2 ≤ es.getD (gs.getD i (0, 0)).1.toNat 0)))) := rfl
        revert ha okd out nxt ss
        generalize gs.getD i (0, 0) = g
        obtain ⟨f, l⟩ := g
        intro ha nxt ss out okd
        simp only at okd ha ss
        refine ⟨a, _, rfl, SqT.of ha, rfl, _, _, rfl, _, _, rfl, rfl, ?_⟩
        refine ⟨_, rfl, _, rfl, rfl, _, rfl, ite2 (fun q => ?_) (fun q => ?_)⟩
        · refine out ?_
          have q' : ¬ f = stG gs i := fun z => by rw [decide_eq_true (congrArg V.int z)] at q; cases q
          rw [okd, decide_eq_false q']
          rfl
        have ef : f = stG gs i := by
          by_cases z : f = stG gs i
          · exact z
          · rw [decide_eq_false (fun w => z (V.int.inj w))] at q
            exact absurd rfl q
        refine ⟨_, rfl, _, rfl, _, _, rfl, rfl, _, rfl, ?_⟩
        by_cases z1 : f ≤ l
        · rw [decide_eq_true z1]
          refine iteT ⟨_, rfl, b, dx, _, rfl, hb, b, es, rfl, ⟨dx, t, hb, ht⟩, _, rfl, ⟨by omega, by omega⟩, _, _, rfl, rfl, _, rfl, ?_⟩
          by_cases z2 : l < (es.length : Int)
          · rw [decide_eq_true z2]
            refine iteF ?_
            have n1 : inN es f := ⟨by omega, by omega⟩
            have n2 : inN es l := ⟨by omega, by omega⟩
            refine ⟨_, rfl, b, dx, _, rfl, hb, rfl, _, rfl, _, rfl, b, es, f, l, rfl, ⟨dx, t, hb, ht⟩, fun _ _ => ?_, fun z => absurd n1 z, fun _ z => absurd n2 z⟩
            have en : nearE es f l = decide (l ≤ es.getD f.toNat 0) := by
              unfold nearE mxI mnI
              by_cases w : l > f
              · rw [if_pos w, if_neg (by omega)]
              · rw [if_neg w]
                have : l = f := by omega
                subst this
                rw [if_neg (by omega)]
            rw [en]
            by_cases z3 : l ≤ es.getD f.toNat 0
            · rw [decide_eq_true z3]
              refine ⟨true, rfl, iteF ?_⟩
              have all : okG es gs i = true := by rw [okd, decide_eq_true ef, decide_eq_true z1, decide_eq_true z2, decide_eq_true z3]; rfl
              refine ⟨_, rfl, _, _, rfl, rfl, some (.int f), some (.int l), ?_, rfl, nxt all⟩
              rw [ss]
              rfl
            · rw [decide_eq_false z3]
              refine ⟨false, rfl, iteT (out ?_)⟩
              rw [okd, decide_eq_false z3]
              simp
          · rw [decide_eq_false z2]
            refine iteT (out ?_)
            rw [okd, decide_eq_false z2]
            simp
        · rw [decide_eq_false z1]
          refine iteF ⟨false, rfl, iteT (out ?_)⟩
          rw [okd, decide_eq_false z1]
          simp
      · rintro σ H' ⟨x3, x4, rfl, rfl, ok⟩
        rw [hG.1] at ok ⊢
        rw [covB_end ok] at k
        refine ⟨_, rfl, _, rfl, b, dx, _, rfl, hb, b, es, rfl, ⟨dx, t, hb, ht⟩, _, rfl, ⟨by omega, by omega⟩, rfl, ?_⟩
        refine bl_q ?_ k
        exact decide_eq_decide.mpr ⟨fun z => V.int.inj z, fun z => congrArg V.int z⟩
    · skip
      refine ⟨_, (pss_cons (ps_set (i := 2) sc_is_cover.nd rfl (Or.inl rfl) pe_int)
  (pss_cons (ps_for PassesOwn.never rfl (pi_tup (pv 1)) (pg_tup (by rfl) (pgs_cons (pg_name (i := 3) sc_is_cover.nd rfl (Or.inl rfl)) (pgs_cons (pg_name (i := 4) sc_is_cover.nd rfl (Or.inl rfl)) pgs_nil)))
  (pss_cons (ps_if (PW.pt (pw_or (pt_cmpR op_ne (pv 3) (pv 2) (nomark _)) (pw_or (pt_not (pt_chain op_le op_lt (pv 3) (pv 4) (pe_callB (call_lenM M_Band_len (hr.mono (by decide)) pass0) (by rfl) T.b_len (by decide +kernel) (pa_cons (pv 0) pa_nil)))) (pw_or1 (pt_not (pt_val (pe_me M_Band_near T.c_Band (hr.mono (by decide)) passE (pv 0) (pa_cons (pv 3) (pa_cons (pv 4) pa_nil)))))))))
  (pss_one (ps_ret pe_bl))
  pss_nil)
  (pss_one (ps_set (i := 2) sc_is_cover.nd rfl (Or.inl rfl) (pe_op op_add (pv 4) pe_int)))))
  (pss_one (ps_ret (pe_cmpR op_eq (pv 2) (pe_callB (call_lenM M_Band_len (hr.mono (by decide)) pass0) (by rfl) T.b_len (by decide +kernel) (pa_cons (pv 0) pa_nil)) (nomark _)))))), ?_⟩
      refine ⟨_, rfl, r, rfl, ⟨_, SqT.of hs⟩, for_tup (K := K) (a := r) (xs := ws) (fun i σ H' => ∃ (x3 x4 : Option V), σ = [some (.ref b), some (.ref r), some (.int (stG gs i)), x3, x4] ∧ H' = H ∧ ∀ j, j < i → okG es gs j = true) ⟨_, _, rfl, rfl, fun j hj => absurd hj (Nat.not_lt_zero _)⟩ (fun i σ H' _ ⟨_, _, _, e, _⟩ => by rw [e]; exact SqT.of hs) ?_ ?_⟩
      · rintro i x σ H' hx ⟨x3, x4, rfl, rfl, ok⟩
        obtain ⟨a, rfl, hi, ha⟩ := hG.of_at hx
        have s0 := stG_pos ok
        have nxt : okG es gs i = true → ∀ j, j < i + 1 → okG es gs j = true := fun h j hj => by
          by_cases z : j = i
          · rw [z]
            exact h
          · exact ok j (by omega)
        have ss := stG_succ (gs := gs) (k := i)
        have out : okG es gs i = false → Q (.bl false) H' := fun h => by
          rw [covB_no hi h] at k
          exact k
        have okd : okG es gs i = (decide ((gs.getD i (0, 0)).1 = stG gs i) && (decide ((gs.getD i (0, 0)).1 ≤ (gs.getD i (0, 0)).2) && (decide ((gs.getD i (0, 0)).2 < es.length) && decide ((gs.getD i (0, 0)).2 ≤ es.getD (gs.getD i (0, 0)).1.toNat 0)))) := rfl
        revert ha okd out nxt ss
        generalize gs.getD i (0, 0) = g
        obtain ⟨f, l⟩ := g
        intro ha nxt ss out okd
        simp only at okd ha ss
        refine ⟨a, _, rfl, SqT.of ha, rfl, _, _, rfl, _, _, rfl, rfl, ?_⟩
        refine ⟨_, rfl, _, rfl, rfl, _, rfl, ite2 (fun q => ?_) (fun q => ?_)⟩
        · refine out ?_
          have q' : ¬ f = stG gs i := fun z => by rw [decide_eq_true (congrArg V.int z)] at q; cases q
          rw [okd, decide_eq_false q']
          rfl
        have ef : f = stG gs i := by
          by_cases z : f = stG gs i
          · exact z
          · rw [decide_eq_false (fun w => z (V.int.inj w))] at q
            exact absurd rfl q
        refine ⟨_, rfl, _, rfl, _, _, rfl, rfl, _, rfl, ?_⟩
        by_cases z1 : f ≤ l
        · rw [decide_eq_true z1]
          refine iteT ⟨_, rfl, b, dx, _, rfl, hb, b, es, rfl, ⟨dx, t, hb, ht⟩, _, rfl, ⟨by omega, by omega⟩, _, _, rfl, rfl, _, rfl, ?_⟩
          by_cases z2 : l < (es.length : Int)
          · rw [decide_eq_true z2]
            refine iteF ?_
            have n1 : inN es f := ⟨by omega, by omega⟩
            have n2 : inN es l := ⟨by omega, by omega⟩
            refine ⟨_, rfl, b, dx, _, rfl, hb, rfl, _, rfl, _, rfl, b, es, f, l, rfl, ⟨dx, t, hb, ht⟩, fun _ _ => ?_, fun z => absurd n1 z, fun _ z => absurd n2 z⟩
            have en : nearE es f l = decide (l ≤ es.getD f.toNat 0) := by
              unfold nearE mxI mnI
              by_cases w : l > f
              · rw [if_pos w, if_neg (by omega)]
              · rw [if_neg w]
                have : l = f := by omega
                subst this
                rw [if_neg (by omega)]
            rw [en]
            by_cases z3 : l ≤ es.getD f.toNat 0
            · rw [decide_eq_true z3]
              refine ⟨true, rfl, iteF ?_⟩
              have all : okG es gs i = true := by rw [okd, decide_eq_true ef, decide_eq_true z1, decide_eq_true z2, decide_eq_true z3]; rfl
              refine ⟨_, rfl, _, _, rfl, rfl, some (.int f), some (.int l), ?_, rfl, nxt all⟩
              rw [ss]
              rfl
            · rw [decide_eq_false z3]
              refine ⟨false, rfl, iteT (out ?_)⟩
              rw [okd, decide_eq_false z3]
              simp
          · rw [decide_eq_false z2]
            refine iteT (out ?_)
            rw [okd, decide_eq_false z2]
            simp
        · rw [decide_eq_false z1]
          refine iteF ⟨false, rfl, iteT (out ?_)⟩
          rw [okd, decide_eq_false z1]
          simp
      · rintro σ H' ⟨x3, x4, rfl, rfl, ok⟩
        rw [hG.1] at ok ⊢
        rw [covB_end ok] at k
        refine ⟨_, rfl, _, rfl, b, dx, _, rfl, hb, b, es, rfl, ⟨dx, t, hb, ht⟩, _, rfl, ⟨by omega, by omega⟩, rfl, ?_⟩
        refine bl_q ?_ k
        exact decide_eq_decide.mpr ⟨fun z => V.int.inj z, fun z => congrArg V.int z⟩

theorem ok_cover_bound (T : Txt K mg C_BadEnd C_BarbreaksError C_TooMany C_BadNumber C_Band C_Refused) : Dk P w K mg base (L2.CX P w) 6 "cover_bound" ["band", "many", "groups"] (spCovBound C_Band C_BadNumber) := by
  have D_check_from_zero := ok_check_from_zero (P := P) (w := w) (base := base) T
  have D_is_cover := ok_is_cover (P := P) (w := w) (base := base) T
  obtain ⟨f, fd, g, F, b⟩ := T.cover_bound
  refine ⟨f, fd, g, F.kp, b, F.okX sc_cover_bound (fun vs H Q E h => ?_) (fun cdv A outer s H vs Q E hr h => ?_)⟩
  · obtain ⟨b, r, m, es, ws, gs, rfl, _⟩ := h
    rfl
  · obtain ⟨b, r, m, es, ws, gs, rfl, hB, l100, hs, hG, g1000, k1, k2⟩ := h
    rcases hs with hs | hs
    · skip
      refine ⟨_, (pss_cons (ps_expr (pe_d D_check_from_zero (hr.mono (by decide)) (passes_call (takes_of rfl rfl rfl rfl) (fun _ _ _ _ z => z)) (by rfl) (pa_cons (pv 1) (pa_cons (C8.pe_gc (by rfl) T.v_MOST_THINGS) pa_nil))))
  (pss_cons (ps_if (pt_not (pt_val (pe_d D_is_cover (hr.mono (by decide)) pass0 (by rfl) (pa_cons (pv 0) (pa_cons (pv 2) pa_nil)))))
  (pss_one (ps_ret pe_non))
  pss_nil)
  (pss_one (ps_ret (pe_callB (cr_sum rfl) (by rfl) T.b_sum (by decide +kernel) (pa_cons (pe_lc (own := [("first", 3), ("last", 4)]) (g := gTup K 2 (gCons (gName 3) (gCons (gName 4) gNil))) (tt := tYes) (by rfl) sc_cover_bound.nd (pi_list (pv 2)) (blkOk_by (own := [("first", 3), ("last", 4)]) (N := ["band", "many", "groups", "first", "last"]) (sc := defScope s_cover_bound) (by decide +kernel)) (fun _ _ _ _ _ => (pg_tupC (K := K) rfl (by rfl) (pgs_cons (pg_name (i := 3) sc_cover_bound.nd rfl (Or.inl rfl)) (pgs_cons (pg_name (i := 4) sc_cover_bound.nd rfl (Or.inl rfl)) pgs_nil)))) (fun _ _ _ _ _ => pts_nil) (fun _ _ _ _ _ => (pe_callB (id := "min") (call_min2 rfl) (by rfl) T.b_min (by decide +kernel) (pa_cons (pv 1) (pa_cons (pe_op op_add (pe_op op_sub (pv 4) (pv 3)) pe_int) pa_nil))))) pa_nil)))))), ?_⟩
      refine ⟨_, rfl, m, 60, rfl, fun hm => ?_, k2⟩
      have kk := k1 hm
      unfold covV at kk
      refine ⟨_, rfl, _, rfl, b, r, es, ws, gs, rfl, hB, l100, .inl hs, hG, _, rfl, ?_⟩
      cases cv : covB es gs with
      | false =>
        rw [cv] at kk
        exact iteT (kk _ (Same.refl _))
      | true =>
        rw [cv] at kk
        refine iteF ⟨_, rfl, r, rfl, ⟨_, SqL.of hs⟩, fun D nD => ?_⟩
        refine lc_list (K := K) (a := r) (xs := ws) (fun i H' => H' D = some (.lst (iV ((List.range i).map fun j => mn2 m ((gs.getD j (0, 0)).2 - (gs.getD j (0, 0)).1 + 1)))) ∧ Same H H') ⟨upd_same, Same.new nD⟩ (fun i H' _ ⟨_, s⟩ => SqL.of (s _ _ hs)) ?_ ?_
        · rintro i x H' hx ⟨e, s⟩
          obtain ⟨a, rfl, hi, ha⟩ := hG.of_at hx
          refine ⟨a, _, rfl, SqT.of (s _ _ ha), rfl, _, _, rfl, _, _, rfl, rfl, rfl, ?_⟩
          refine ⟨_, rfl, _, rfl, _, rfl, _, _, rfl, rfl, _, _, rfl, rfl, _, _, rfl, _, e, ?_, ?_, fun c o e5 => ?_⟩
          · rw [List.length_map, List.length_map, List.length_range]
            exact Nat.lt_of_lt_of_le (by omega : i < 2000) (by decide)
          · rw [upd_same, List.range_succ, List.map_append, ← iV_app]
            rfl
          · exact (upd_ne (ne_of_none e5 nD)).trans (s _ _ e5)
        · rintro H' ⟨e, s⟩
          refine ⟨D, _, rfl, SqL.of e, ?_⟩
          rw [hG.1, sum_tot]
          exact kk _ s
    · skip
      refine ⟨_, (pss_cons (ps_expr (pe_d D_check_from_zero (hr.mono (by decide)) (passes_call (takes_of rfl rfl rfl rfl) (fun _ _ _ _ z => z)) (by rfl) (pa_cons (pv 1) (pa_cons (C8.pe_gc (by rfl) T.v_MOST_THINGS) pa_nil))))
  (pss_cons (ps_if (pt_not (pt_val (pe_d D_is_cover (hr.mono (by decide)) pass0 (by rfl) (pa_cons (pv 0) (pa_cons (pv 2) pa_nil)))))
  (pss_one (ps_ret pe_non))
  pss_nil)
  (pss_one (ps_ret (pe_callB (cr_sum rfl) (by rfl) T.b_sum (by decide +kernel) (pa_cons (pe_lc (own := [("first", 3), ("last", 4)]) (g := gTup K 2 (gCons (gName 3) (gCons (gName 4) gNil))) (tt := tYes) (by rfl) sc_cover_bound.nd (pi_tup (pv 2)) (blkOk_by (own := [("first", 3), ("last", 4)]) (N := ["band", "many", "groups", "first", "last"]) (sc := defScope s_cover_bound) (by decide +kernel)) (fun _ _ _ _ _ => (pg_tupC (K := K) rfl (by rfl) (pgs_cons (pg_name (i := 3) sc_cover_bound.nd rfl (Or.inl rfl)) (pgs_cons (pg_name (i := 4) sc_cover_bound.nd rfl (Or.inl rfl)) pgs_nil)))) (fun _ _ _ _ _ => pts_nil) (fun _ _ _ _ _ => (pe_callB (id := "min") (call_min2 rfl) (by rfl) T.b_min (by decide +kernel) (pa_cons (pv 1) (pa_cons (pe_op op_add (pe_op op_sub (pv 4) (pv 3)) pe_int) pa_nil))))) pa_nil)))))), ?_⟩
      refine ⟨_, rfl, m, 60, rfl, fun hm => ?_, k2⟩
      have kk := k1 hm
      unfold covV at kk
      refine ⟨_, rfl, _, rfl, b, r, es, ws, gs, rfl, hB, l100, .inr hs, hG, _, rfl, ?_⟩
      cases cv : covB es gs with
      | false =>
        rw [cv] at kk
        exact iteT (kk _ (Same.refl _))
      | true =>
        rw [cv] at kk
        refine iteF ⟨_, rfl, r, rfl, ⟨_, SqT.of hs⟩, fun D nD => ?_⟩
        refine lc_tup (K := K) (a := r) (xs := ws) (fun i H' => H' D = some (.lst (iV ((List.range i).map fun j => mn2 m ((gs.getD j (0, 0)).2 - (gs.getD j (0, 0)).1 + 1)))) ∧ Same H H') ⟨upd_same, Same.new nD⟩ (fun i H' _ ⟨_, s⟩ => SqT.of (s _ _ hs)) ?_ ?_
        · rintro i x H' hx ⟨e, s⟩
          obtain ⟨a, rfl, hi, ha⟩ := hG.of_at hx
          refine ⟨a, _, rfl, SqT.of (s _ _ ha), rfl, _, _, rfl, _, _, rfl, rfl, rfl, ?_⟩
          refine ⟨_, rfl, _, rfl, _, rfl, _, _, rfl, rfl, _, _, rfl, rfl, _, _, rfl, _, e, ?_, ?_, fun c o e5 => ?_⟩
          · rw [List.length_map, List.length_map, List.length_range]
            exact Nat.lt_of_lt_of_le (by omega : i < 2000) (by decide)
          · rw [upd_same, List.range_succ, List.map_append, ← iV_app]
            rfl
          · exact (upd_ne (ne_of_none e5 nD)).trans (s _ _ e5)
        · rintro H' ⟨e, s⟩
          refine ⟨D, _, rfl, SqL.of e, ?_⟩
          rw [hG.1, sum_tot]
          exact kk _ s

theorem ok_l_bound (T : Txt K mg C_BadEnd C_BarbreaksError C_TooMany C_BadNumber C_Band C_Refused) : Dk P w K mg base CX0 2 "_law_bound" ["_law_ends_here", "_law_many", "_law_groups"] spBoundL := by
  have D_l_is_int := ok_l_is_int (P := P) (w := w) (base := base) T
  obtain ⟨f, fd, g, F, b⟩ := T.l_bound
  refine ⟨f, fd, g, F.kp, b, F.ok sc_l_bound (fun vs H Q E h => ?_) (fun cdv A outer s H vs Q E hr h => ?_)⟩
  · obtain ⟨el, l, m, es, ws, gs, rfl, _⟩ := h
    rfl
  · obtain ⟨el, r, m, es, ws, gs, rfl, he, hs, hG, k⟩ := h
    refine ⟨_, (pss_cons (ps_set (i := 3) sc_l_bound.nd rfl (Or.inl rfl) pe_int)
  (pss_cons (ps_set (i := 4) sc_l_bound.nd rfl (Or.inl rfl) pe_int)
  (pss_cons (ps_for PassesOwn.never rfl (pi_list (pv 2)) (pg_name (i := 5) sc_l_bound.nd rfl (Or.inl rfl))
  (pss_cons (ps_if (PW.pt (pw_or (pt_not (pt_val (pe_callB call_isi (by rfl) T.b_isinstance (by decide +kernel) (pa_cons (pv 5) (pa_cons (pe_bltn (v := .ty "tuple") (by rfl) T.b_tuple (by decide +kernel) rfl) pa_nil))))) (pw_or (pt_cmpR op_ne (pe_callB call_len_seq (by rfl) T.b_len (by decide +kernel) (pa_cons (pv 5) pa_nil)) pe_int (nomark _)) (pw_or (pt_not (pt_val (pe_d D_l_is_int (hr.mono (by decide)) pass0 (by rfl) (pa_cons (pe_ix ix_tup (pv 5) pe_int (fun _ _ => rfl)) pa_nil)))) (pw_or1 (pt_not (pt_val (pe_d D_l_is_int (hr.mono (by decide)) pass0 (by rfl) (pa_cons (pe_ix ix_tup (pv 5) pe_int (fun _ _ => rfl)) pa_nil)))))))))
  (pss_one (ps_ret (pe_un un_neg pe_int)))
  pss_nil)
  (pss_cons (ps_if (PW.pt (pw_or (pt_cmpR op_ne (pe_ix ix_tup (pv 5) pe_int (fun _ _ => rfl)) (pv 3) (nomark _)) (pw_or (pt_not (pt_chain op_le op_lt (pe_ix ix_tup (pv 5) pe_int (fun _ _ => rfl)) (pe_ix ix_tup (pv 5) pe_int (fun _ _ => rfl)) (pe_callB call_len_seq (by rfl) T.b_len (by decide +kernel) (pa_cons (pv 0) pa_nil)))) (pw_or1 (pt_cmpR op_gt (pe_ix ix_tup (pv 5) pe_int (fun _ _ => rfl)) (pe_ix ix_list (pv 0) (pe_ix ix_tup (pv 5) pe_int (fun _ _ => rfl)) (fun _ _ => rfl)) (nomark _))))))
  (pss_one (ps_ret (pe_un un_neg pe_int)))
  pss_nil)
  (pss_cons (ps_set (i := 4) sc_l_bound.nd rfl (Or.inl rfl) (pe_op op_add (pv 4) (pe_callB (call_min2 rfl) (by rfl) T.b_min (by decide +kernel) (pa_cons (pv 1) (pa_cons (pe_op op_add (pe_op op_sub (pe_ix ix_tup (pv 5) pe_int (fun _ _ => rfl)) (pe_ix ix_tup (pv 5) pe_int (fun _ _ => rfl))) pe_int) pa_nil)))))
  (pss_one (ps_set (i := 3) sc_l_bound.nd rfl (Or.inl rfl) (pe_op op_add (pe_ix ix_tup (pv 5) pe_int (fun _ _ => rfl)) pe_int)))))))
  (pss_cons (ps_if (pt_cmpR op_ne (pv 3) (pe_callB call_len_seq (by rfl) T.b_len (by decide +kernel) (pa_cons (pv 0) pa_nil)) (nomark _))
  (pss_one (ps_ret (pe_un un_neg pe_int)))
  pss_nil)
  (pss_one (ps_ret (pv 4))))))), ?_⟩
    refine ⟨_, rfl, r, rfl, ⟨_, SqL.of hs⟩, for_list (K := K) (a := r) (xs := ws) (fun i σ H' => ∃ (x5 : Option V), σ = [some (.ref el), some (.int m), some (.ref r), some (.int (stG gs i)), some (.int (totG m gs i)), x5] ∧ H' = H ∧ ∀ j, j < i → okG es gs j = true) ⟨_, rfl, rfl, fun j hj => absurd hj (Nat.not_lt_zero _)⟩ (fun i σ H' _ ⟨_, _, e, _⟩ => by rw [e]; exact SqL.of hs) ?_ ?_⟩
    · rintro i x σ H' hx ⟨x5, rfl, rfl, ok⟩
      obtain ⟨a, rfl, hi, ha⟩ := hG.of_at hx
      have s0 := stG_pos ok
      have nxt : okG es gs i = true → ∀ j, j < i + 1 → okG es gs j = true := fun h j hj => by
        by_cases z : j = i
        · rw [z]
          exact h
        · exact ok j (by omega)
      have ss := stG_succ (gs := gs) (k := i)
      have tt : totG m gs (i + 1) = totG m gs i + mn2 m ((gs.getD i (0, 0)).2 - (gs.getD i (0, 0)).1 + 1) := rfl
      have out : okG es gs i = false → ∃ n : Int, V.int 1 = .int n ∧ Q (.int (-n)) H' := fun h => by
        rw [covB_no hi h] at k
        exact ⟨1, rfl, k⟩
      have okd : okG es gs i = (decide ((gs.getD i (0, 0)).1 = stG gs i) && (decide ((gs.getD i (0, 0)).1 ≤ (gs.getD i (0, 0)).2) && (decide ((gs.getD i (0, 0)).2 < es.length) && decide ((gs.getD i (0, 0)).2 ≤ es.getD (gs.getD i (0, 0)).1.toNat 0)))) := rfl
      revert ha okd out nxt ss tt
      generalize gs.getD i (0, 0) = g
      obtain ⟨f, l⟩ := g
      intro ha nxt ss tt out okd
      simp only at okd ha ss tt
      have A0 : ∀ {Q' : VK}, Q' (.int f) H' → ∃ (p : Addr) (xs : List V) (i : Int) (v : V), V.ref a = .ref p ∧ V.int 0 = .int i ∧ SqT K H' p xs ∧ atI xs i = some v ∧ Q' v H' := fun q => ⟨a, _, 0, _, rfl, rfl, SqT.of ha, rfl, q⟩
      refine ⟨_, rfl, .ref a, _, _, _, true, rfl, .ty _, .base (.tup ha), kTup, true, rfl, iteF ?_⟩
      refine ⟨_, rfl, a, _, rfl, .inr (SqT.of ha), rfl, false, rfl, iteF ?_⟩
      refine ⟨_, rfl, a, _, _, _, rfl, rfl, SqT.of ha, rfl, .int _, _, true, false, rfl, .base (.int _), kInt, kIntB, true, rfl, iteF ?_⟩
      refine ⟨_, rfl, a, _, _, _, rfl, rfl, SqT.of ha, rfl, .int _, _, true, false, rfl, .base (.int _), kInt, kIntB, true, rfl, iteF ?_⟩
      refine ⟨_, rfl, a, _, _, _, rfl, rfl, SqT.of ha, rfl, _, rfl, rfl, _, rfl, ite2 (fun q => ?_) (fun q => ?_)⟩
      · refine out ?_
        have q' : ¬ f = stG gs i := fun z => by rw [decide_eq_true (congrArg V.int z)] at q; cases q
        rw [okd, decide_eq_false q']
        rfl
      have ef : f = stG gs i := by
        by_cases z : f = stG gs i
        · exact z
        · rw [decide_eq_false (fun w => z (V.int.inj w))] at q
          exact absurd rfl q
      refine ⟨_, rfl, a, _, _, _, rfl, rfl, SqT.of ha, rfl, _, rfl, a, _, _, _, rfl, rfl, SqT.of ha, rfl, _, _, rfl, rfl, _, rfl, ?_⟩
      by_cases z1 : f ≤ l
      · rw [decide_eq_true z1]
        refine iteT ⟨_, rfl, el, _, rfl, .inl (SqL.of he), _, _, rfl, rfl, _, rfl, ?_⟩
        rw [List.length_map]
        by_cases z2 : l < (es.length : Int)
        · rw [decide_eq_true z2]
          refine iteF ?_
          refine ⟨_, rfl, a, _, _, _, rfl, rfl, SqT.of ha, rfl, _, rfl, _, rfl, a, _, _, _, rfl, rfl, SqT.of ha, rfl, el, _, _, _, rfl, rfl, SqL.of he, atV (i := f.toNat) (by omega) (by omega), _, _, rfl, rfl, _, rfl, ?_⟩
          by_cases z3 : l > es.getD f.toNat 0
          · rw [decide_eq_true z3]
            refine iteT (out ?_)
            rw [okd, decide_eq_false (by omega : ¬ l ≤ es.getD f.toNat 0)]
            simp
          · rw [decide_eq_false z3]
            refine iteF ?_
            have all : okG es gs i = true := by rw [okd, decide_eq_true ef, decide_eq_true z1, decide_eq_true z2, decide_eq_true (by omega : l ≤ es.getD f.toNat 0)]; rfl
            refine ⟨_, rfl, _, rfl, _, rfl, a, _, _, _, rfl, rfl, SqT.of ha, rfl, _, rfl, a, _, _, _, rfl, rfl, SqT.of ha, rfl, _, _, rfl, rfl, _, _, rfl, rfl, _, _, rfl, _, _, rfl, rfl, ?_⟩
            refine ⟨_, rfl, a, _, _, _, rfl, rfl, SqT.of ha, rfl, _, _, rfl, rfl, some (.ref a), ?_, rfl, nxt all⟩
            rw [ss, tt]
            rfl
        · rw [decide_eq_false z2]
          refine iteT (out ?_)
          rw [okd, decide_eq_false z2]
          simp
      · rw [decide_eq_false z1]
        refine iteF ⟨false, rfl, iteT (out ?_)⟩
        rw [okd, decide_eq_false z1]
        simp
    · rintro σ H' ⟨x5, rfl, rfl, ok⟩
      rw [hG.1] at ok ⊢
      rw [covB_end ok] at k
      refine ⟨_, rfl, _, rfl, el, _, rfl, .inl (SqL.of he), rfl, _, rfl, ?_⟩
      rw [List.length_map]
      by_cases z : stG gs gs.length = (es.length : Int)
      · rw [decide_eq_true z] at k
        rw [decide_eq_true (congrArg V.int z)]
        exact iteF ⟨_, rfl, k⟩
      · rw [decide_eq_false z] at k
        rw [decide_eq_false (fun w => z (V.int.inj w))]
        exact iteT ⟨1, rfl, k⟩

theorem ok_l_cuts (T : Txt K mg C_BadEnd C_BarbreaksError C_TooMany C_BadNumber C_Band C_Refused) : Dk P w K mg base CX0 2 "_law_cuts" ["_law_pool_here", "_law_ends_here"] spCuts := by
  have D_l_take := ok_l_take (P := P) (w := w) (base := base) T
  obtain ⟨f, fd, g, F, b⟩ := T.l_cuts
  refine ⟨f, fd, g, F.kp, b, F.ok sc_l_cuts (fun vs H Q E h => ?_) (fun cdv A outer s H vs Q E hr h => ?_)⟩
  · obtain ⟨p, c, el, ns, es, n, rfl, _⟩ := h
    rfl
  · obtain ⟨p, c, el, ns, es, n, rfl, hp, he, nep, ok, n100, k⟩ := h
    refine ⟨_, (pss_cons (ps_set (i := 2) sc_l_cuts.nd rfl (Or.inl rfl) (pe_lst pa_nil))
  (pss_cons (ps_set (i := 3) sc_l_cuts.nd rfl (Or.inl rfl) pe_int)
  (pss_cons (ps_for PassesOwn.never rfl (pi_range1 rfl T.b_range (pa_cons (pe_callB call_len_seq (by rfl) T.b_len (by decide +kernel) (pa_cons (pv 1) pa_nil)) pa_nil)) (pg_name (i := 4) sc_l_cuts.nd rfl (Or.inl rfl))
  (pss_one (ps_if (pt_cmpR op_lt (pv 3) (pe_callB call_len_seq (by rfl) T.b_len (by decide +kernel) (pa_cons (pv 1) pa_nil)) (nomark _))
  (pss_cons (ps_set (i := 5) sc_l_cuts.nd rfl (Or.inl rfl) (pe_op op_add (pv 3) (pe_d D_l_take (hr.mono (by decide)) pass0 (by rfl) (pa_cons (pv 0) (pa_cons (pe_op op_add (pe_op op_sub (pe_ix ix_list (pv 1) (pv 3) (fun _ _ => rfl)) (pv 3)) pe_int) pa_nil)))))
  (pss_cons (ps_expr (pe_bm PySem.F.plainAttrs_list PySem.F.slot_list_append PySem.F.type_list_append mt_append (pv 2) (pa_cons (pe_tup (pa_cons (pv 3) (pa_cons (pv 5) pa_nil))) pa_nil)))
  (pss_one (ps_set (i := 3) sc_l_cuts.nd rfl (Or.inl rfl) (pe_op op_add (pv 5) pe_int)))))
  pss_nil)))
  (pss_one (ps_ret (pv 2)))))), ?_⟩
    have el_ := ok.len
    refine ⟨(by show 0 ≤ sizeLine; decide), fun l nl => ?_⟩
    have hpl : p ≠ l := by
      obtain ⟨q, e, _⟩ := hp.at_
      exact ne_of_none e nl
    have hcl : c ≠ l := ne_of_none hp.cells nl
    have nel : el ≠ l := ne_of_none he nl
    refine ⟨_, rfl, el, _, rfl, .inl (SqL.of ((upd_ne nel).trans he)), _, rfl, by omega, by rw [List.length_map]; omega, for_range (n := (((iV es).length : Nat) : Int).toNat) (fun i σ H' => ∃ (f : Int) (ws : List V) (gs : List (Int × Int)) (x4 x5 : Option V), σ = [some (.ref p), some (.ref el), some (.ref l), some (.int f), x4, x5] ∧ 0 ≤ f ∧ H' l = some (.lst ws) ∧ Grp H' ws gs ∧ Tame gs ∧ gs.length ≤ i ∧ Pool ns c H' p ∧ But p H H')
      ⟨0, [], [], _, _, rfl, by omega, upd_same, Grp.nil, (fun g hg => by cases hg), by simp, hp.same (Same.new nl), But.of_same (Same.new nl)⟩ ?_ ?_⟩
    · rintro i σ H1 hi ⟨f, ws, gs, x4, x5, rfl, f0, e1, hG, tm, gl, hp1, b1⟩
      have hi' : i < es.length := by
        rw [Int.toNat_natCast, List.length_map] at hi
        exact hi
      have he1 := b1 _ _ he nep
      refine ⟨_, rfl, _, rfl, el, _, rfl, .inl (SqL.of he1), _, _, rfl, rfl, _, rfl, ite2 (fun q => ?_) (fun q => ⟨f, ws, gs, _, _, rfl, f0, e1, hG, tm, by omega, hp1, b1⟩)⟩
      have q' := of_decide_eq_true q
      rw [List.length_map] at q'
      have ef : es[f.toNat]? = some (es.getD f.toNat 0) := getD_get (by omega)
      obtain ⟨o1, o2, _⟩ := ok.2 _ _ ef
      refine ⟨_, rfl, _, rfl, _, rfl, _, rfl, el, _, _, _, rfl, rfl, SqL.of he1, atV (i := f.toNat) (by omega) (by omega), _, rfl, _, _, rfl, rfl, _, _, rfl, rfl, p, c, ns, _, rfl, hp1, by omega, log2_27 (by omega) (by omega), fun a H2 a0 a1 hp2 ob2 => ⟨_, _, rfl, rfl, ?_⟩⟩
      have e2 := (ob2 l hpl.symm).trans e1
      obtain ⟨pl, hpl1, _⟩ := hp1.at_
      have hG2 := hG.but (But.of_off ob2) hpl1
      refine ⟨_, rfl, .inl ⟨rfl, _, SqL.of e2⟩, _, rfl, _, rfl, (by show 2 ≤ sizeLine; decide), fun t nt => ⟨l, _, _, rfl, rfl, (Same.new nt) _ _ e2, ?_, ?_⟩⟩
      · rw [hG.1]
        exact Nat.lt_of_lt_of_le (by omega : gs.length < 1000) (by decide)
      have nlt : l ≠ t := ne_of_none e2 nt
      have hpt : p ≠ t := by
        obtain ⟨q, e, _⟩ := hp2.at_
        exact ne_of_none e nt
      have b3 : But p H (L2.upd (L2.upd H2 t (.tup [.int f, .int (f + a)])) l (.lst (ws ++ [.ref t]))) := ((b1.trans (But.of_off ob2)).trans (But.of_same (Same.new nt))).updN nl
      have gt : Grp (L2.upd (L2.upd H2 t (.tup [.int f, .int (f + a)])) l (.lst (ws ++ [.ref t]))) (ws ++ [.ref t]) (gs ++ [(f, f + a)]) := by
        have bl : But l H2 (L2.upd (L2.upd H2 t (.tup [.int f, .int (f + a)])) l (.lst (ws ++ [.ref t]))) := (But.of_same (Same.new nt)).trans (But.of_off Off.upd)
        exact (hG2.but bl e2).app (Grp.one ⟨t, rfl, (upd_ne nlt.symm).trans upd_same⟩)
      refine ⟨_, rfl, _, _, rfl, rfl, f + a + 1, ws ++ [.ref t], gs ++ [(f, f + a)], _, _, rfl, by omega, upd_same, gt, ?_, ?_, (hp2.same (Same.new nt)).off Off.upd hpl hcl, b3⟩
      · intro g hg
        rcases List.mem_append.mp hg with h | h
        · exact tm g h
        · rw [List.mem_singleton.mp h]
          exact ⟨by show f ≤ f + a; omega, by show f + a ≤ f + 100; omega⟩
      · rw [List.length_append]
        show gs.length + 1 ≤ i + 1
        omega
    · rintro σ H1 ⟨f, ws, gs, x4, x5, rfl, f0, e1, hG, tm, gl, hp1, b1⟩
      rw [Int.toNat_natCast, List.length_map] at gl
      exact ⟨_, rfl, k l gs _ ⟨ws, e1, hG⟩ tm (by omega) nl hp1 b1⟩

theorem ok_l_one_changed (T : Txt K mg C_BadEnd C_BarbreaksError C_TooMany C_BadNumber C_Band C_Refused) : Dk P w K mg base CX0 2 "_law_one_changed" ["_law_pool_here", "_law_count", "_law_group"] spOneCh := by
  have D_l_take := ok_l_take (P := P) (w := w) (base := base) T
  obtain ⟨f, fd, g, F, b⟩ := T.l_one_changed
  refine ⟨f, fd, g, F.kp, b, F.ok sc_l_one_changed (fun vs H Q E h => ?_) (fun cdv A outer s H vs Q E hr h => ?_)⟩
  · obtain ⟨p, c, a, ns, n, g, rfl, _⟩ := h
    rfl
  · obtain ⟨p, c, a, ns, n, ⟨f, l⟩, rfl, hp, ha, nap, k⟩ := h
    refine ⟨_, (pss_cons (ps_asg (pv 2) (pg_tup (by rfl) (pgs_cons (pg_name (i := 3) sc_l_one_changed.nd rfl (Or.inl rfl)) (pgs_cons (pg_name (i := 4) sc_l_one_changed.nd rfl (Or.inl rfl)) pgs_nil))))
  (pss_cons (ps_set (i := 5) sc_l_one_changed.nd rfl (Or.inl rfl) (pe_d D_l_take (hr.mono (by decide)) pass0 (by rfl) (pa_cons (pv 0) (pa_cons pe_int pa_nil))))
  (pss_cons (ps_if (pt_cmpR op_eq (pv 5) pe_int (nomark _))
  (pss_one (ps_ret (pe_tup (pa_cons (pv 4) (pa_cons (pv 3) pa_nil)))))
  pss_nil)
  (pss_cons (ps_if (pt_cmpR op_eq (pv 5) pe_int (nomark _))
  (pss_one (ps_ret (pe_tup (pa_cons (pv 3) (pa_cons (pe_op op_add (pv 1) (pe_d D_l_take (hr.mono (by decide)) pass0 (by rfl) (pa_cons (pv 0) (pa_cons pe_int pa_nil)))) pa_nil)))))
  pss_nil)
  (pss_cons (ps_if (pt_cmpR op_eq (pv 5) pe_int (nomark _))
  (pss_one (ps_ret (pe_tup (pa_cons (pe_op op_sub (pe_op op_sub pe_int pe_int) (pe_d D_l_take (hr.mono (by decide)) pass0 (by rfl) (pa_cons (pv 0) (pa_cons pe_int pa_nil)))) (pa_cons (pv 4) pa_nil)))))
  pss_nil)
  (pss_cons (ps_set (i := 6) sc_l_one_changed.nd rfl (Or.inl rfl) (pe_op op_sub (pe_op op_mul pe_int (pe_d D_l_take (hr.mono (by decide)) pass0 (by rfl) (pa_cons (pv 0) (pa_cons pe_int pa_nil)))) pe_int))
  (pss_cons (ps_if (pt_cmpR op_eq (pv 5) pe_int (nomark _))
  (pss_one (ps_ret (pe_tup (pa_cons (pe_op op_add (pv 3) (pv 6)) (pa_cons (pv 4) pa_nil)))))
  pss_nil)
  (pss_one (ps_ret (pe_tup (pa_cons (pv 3) (pa_cons (pe_op op_add (pv 4) (pv 6)) pa_nil)))))))))))), ?_⟩
    refine ⟨_, rfl, a, _, rfl, SqT.of ha, rfl, _, _, rfl, _, _, rfl, rfl, ?_⟩
    refine ⟨_, rfl, p, c, ns, _, rfl, hp, by decide, by decide +kernel, fun way H1 way0 way1 hp1 o1 => ?_⟩
    have b1 : But p H H1 := But.of_off o1
    refine ⟨_, rfl, rfl, _, rfl, ite2 (fun q => ?_) (fun q => ?_)⟩
    · exact ⟨_, rfl, _, rfl, (by show 2 ≤ sizeLine; decide), fun t nt => k (.ref t) (l, f) _ ⟨t, rfl, upd_same⟩ (hp1.same (Same.new nt)) ((b1).trans (But.of_same (Same.new nt)))⟩
    refine ⟨_, rfl, rfl, _, rfl, ite2 (fun q => ?_) (fun q => ?_)⟩
    · exact ⟨_, rfl, _, rfl, _, rfl, p, c, ns, _, rfl, hp1, by decide, by decide +kernel, fun u H2 u0 u1 hp2 o2 => ⟨_, _, rfl, rfl, (by show 2 ≤ sizeLine; decide), fun t nt => k (.ref t) (f, n + u) _ ⟨t, rfl, upd_same⟩ (hp2.same (Same.new nt)) ((b1.trans (But.of_off o2)).trans (But.of_same (Same.new nt)))⟩⟩
    refine ⟨_, rfl, rfl, _, rfl, ite2 (fun q => ?_) (fun q => ?_)⟩
    · exact ⟨_, _, rfl, rfl, _, rfl, p, c, ns, _, rfl, hp1, by decide, by decide +kernel, fun u H2 u0 u1 hp2 o2 => ⟨_, _, rfl, rfl, _, rfl, (by show 2 ≤ sizeLine; decide), fun t nt => k (.ref t) (0 - 1 - u, l) _ ⟨t, rfl, upd_same⟩ (hp2.same (Same.new nt)) ((b1.trans (But.of_off o2)).trans (But.of_same (Same.new nt)))⟩⟩
    refine ⟨_, rfl, p, c, ns, _, rfl, hp1, by decide, by decide +kernel, fun u H2 u0 u1 hp2 o2 => ⟨_, _, rfl, rfl, .inl ⟨by decide, by decide⟩, _, _, rfl, rfl, ?_⟩⟩
    refine ⟨_, rfl, rfl, _, rfl, ite2 (fun q => ?_) (fun q => ?_)⟩
    · exact ⟨_, rfl, _, rfl, _, _, rfl, rfl, _, rfl, (by show 2 ≤ sizeLine; decide), fun t nt => k (.ref t) (f + (2 * u - 1), l) _ ⟨t, rfl, upd_same⟩ (hp2.same (Same.new nt)) ((b1.trans (But.of_off o2)).trans (But.of_same (Same.new nt)))⟩
    · exact ⟨_, rfl, _, rfl, _, rfl, _, _, rfl, rfl, (by show 2 ≤ sizeLine; decide), fun t nt => k (.ref t) (f, l + (2 * u - 1)) _ ⟨t, rfl, upd_same⟩ (hp2.same (Same.new nt)) ((b1.trans (But.of_off o2)).trans (But.of_same (Same.new nt)))⟩

theorem ok_l_changed (T : Txt K mg C_BadEnd C_BarbreaksError C_TooMany C_BadNumber C_Band C_Refused) : Dk P w K mg base CX0 3 "_law_changed" ["_law_pool_here", "_law_count", "_law_groups"] spChanged := by
  have D_l_take := ok_l_take (P := P) (w := w) (base := base) T
  have D_l_big := ok_l_big (P := P) (w := w) (base := base) T
  have D_l_one_changed := ok_l_one_changed (P := P) (w := w) (base := base) T
  obtain ⟨f, fd, g, F, b⟩ := T.l_changed
  refine ⟨f, fd, g, F.kp, b, F.ok sc_l_changed (fun vs H Q E h => ?_) (fun cdv A outer s H vs Q E hr h => ?_)⟩
  · obtain ⟨p, c, l, ns, n, gs, rfl, _⟩ := h
    rfl
  · obtain ⟨p, c, r, ns, n, gs, rfl, hp, ⟨ws, hr0, hG⟩, nrp, tm, g100, k⟩ := h
    refine ⟨_, (pss_cons (ps_if (pt_cmpR op_eq (pe_d D_l_take (hr.mono (by decide)) pass0 (by rfl) (pa_cons (pv 0) (pa_cons pe_int pa_nil))) pe_int (nomark _))
  (pss_one (ps_ret (pe_callTy call_list_of (by rfl) T.b_list (by decide +kernel) (pa_cons (pv 2) pa_nil))))
  pss_nil)
  (pss_cons (ps_set (i := 3) sc_l_changed.nd rfl (Or.inl rfl) (pe_d D_l_take (hr.mono (by decide)) pass0 (by rfl) (pa_cons (pv 0) (pa_cons (pe_op op_add (pe_callB call_len_seq (by rfl) T.b_len (by decide +kernel) (pa_cons (pv 2) pa_nil)) pe_int) pa_nil))))
  (pss_cons (ps_set (i := 4) sc_l_changed.nd rfl (Or.inl rfl) (pe_d D_l_take (hr.mono (by decide)) pass0 (by rfl) (pa_cons (pv 0) (pa_cons pe_int pa_nil))))
  (pss_cons (ps_if (PW.pt (pw_or (pt_cmpR op_eq (pv 4) pe_int (nomark _)) (pw_or1 (pt_cmpR op_eq (pv 3) (pe_callB call_len_seq (by rfl) T.b_len (by decide +kernel) (pa_cons (pv 2) pa_nil)) (nomark _)))))
  (pss_cons (ps_set (i := 5) sc_l_changed.nd rfl (Or.inl rfl) (pe_d D_l_big (hr.mono (by decide)) pass0 (by rfl) (pa_cons (pv 0) pa_nil)))
  (pss_cons (ps_set (i := 6) sc_l_changed.nd rfl (Or.inl rfl) (pe_ix ix_list (pe_lst (pa_cons (pe_tup (pa_cons (pv 5) (pa_cons (pe_op op_add (pv 5) pe_int) pa_nil))) (pa_cons (pe_tup (pa_cons (pe_op op_sub pe_int (pv 5)) (pa_cons pe_int pa_nil))) (pa_cons (pe_tup (pa_cons (pv 1) (pa_cons (pv 1) pa_nil))) (pa_cons (pe_tup (pa_cons (pe_op op_sub pe_int pe_int) (pa_cons (pe_op op_sub pe_int pe_int) pa_nil))) pa_nil))))) (pe_d D_l_take (hr.mono (by decide)) pass0 (by rfl) (pa_cons (pv 0) (pa_cons pe_int pa_nil))) (fun _ _ => rfl)))
  (pss_one (ps_ret (pe_op op_cat (pe_op op_cat (pe_slice sl_list (pv 2) po_none (po_some (pv 3))) (pe_lst (pa_cons (pv 6) pa_nil))) (pe_slice sl_list (pv 2) (po_some (pv 3)) po_none))))))
  pss_nil)
  (pss_cons (ps_if (pt_cmpR op_eq (pv 4) pe_int (nomark _))
  (pss_one (ps_ret (pe_op op_cat (pe_slice sl_list (pv 2) po_none (po_some (pv 3))) (pe_slice sl_list (pv 2) (po_some (pe_op op_add (pv 3) pe_int)) po_none))))
  pss_nil)
  (pss_cons (ps_if (pt_cmpR op_eq (pv 4) pe_int (nomark _))
  (pss_one (ps_ret (pe_op op_cat (pe_slice sl_list (pv 2) po_none (po_some (pe_op op_add (pv 3) pe_int))) (pe_slice sl_list (pv 2) (po_some (pv 3)) po_none))))
  pss_nil)
  (pss_cons (ps_if (pt_cmpR op_eq (pv 4) pe_int (nomark _))
  (pss_cons (ps_set (i := 7) sc_l_changed.nd rfl (Or.inl rfl) (pe_d D_l_take (hr.mono (by decide)) pass0 (by rfl) (pa_cons (pv 0) (pa_cons (pe_callB call_len_seq (by rfl) T.b_len (by decide +kernel) (pa_cons (pv 2) pa_nil)) pa_nil))))
  (pss_cons (ps_set (i := 8) sc_l_changed.nd rfl (Or.inl rfl) (pe_callTy call_list_of (by rfl) T.b_list (by decide +kernel) (pa_cons (pv 2) pa_nil)))
  (pss_cons (ps_asg (pe_ix ix_list (pv 2) (pv 7) (fun _ _ => rfl)) (pg_sub (pv 8) (pv 3) set_list))
  (pss_cons (ps_asg (pe_ix ix_list (pv 2) (pv 3) (fun _ _ => rfl)) (pg_sub (pv 8) (pv 7) set_list))
  (pss_one (ps_ret (pv 8)))))))
  pss_nil)
  (pss_cons (ps_if (pt_cmpR op_eq (pv 4) pe_int (nomark _))
  (pss_one (ps_ret (pe_op op_cat (pe_op op_cat (pe_slice sl_list (pv 2) po_none (po_some (pv 3))) (pe_lst (pa_cons (pe_tup (pa_cons (pe_ix ix_tup (pe_ix ix_list (pv 2) (pv 3) (fun _ _ => rfl)) pe_int (fun _ _ => rfl)) (pa_cons (pe_ix ix_tup (pe_ix ix_list (pv 2) (pe_callB (call_min2 rfl) (by rfl) T.b_min (by decide +kernel) (pa_cons (pe_op op_add (pv 3) pe_int) (pa_cons (pe_op op_sub (pe_callB call_len_seq (by rfl) T.b_len (by decide +kernel) (pa_cons (pv 2) pa_nil)) pe_int) pa_nil))) (fun _ _ => rfl)) pe_int (fun _ _ => rfl)) pa_nil))) pa_nil))) (pe_slice sl_list (pv 2) (po_some (pe_op op_add (pv 3) pe_int)) po_none))))
  pss_nil)
  (pss_cons (ps_if (pt_cmpR op_eq (pv 4) pe_int (nomark _))
  (pss_cons (ps_set (i := 9) sc_l_changed.nd rfl (Or.inl rfl) (pe_op op_add (pe_ix ix_tup (pe_ix ix_list (pv 2) (pv 3) (fun _ _ => rfl)) pe_int (fun _ _ => rfl)) (pe_d D_l_take (hr.mono (by decide)) pass0 (by rfl) (pa_cons (pv 0) (pa_cons (pe_op op_add (pe_op op_sub (pe_ix ix_tup (pe_ix ix_list (pv 2) (pv 3) (fun _ _ => rfl)) pe_int (fun _ _ => rfl)) (pe_ix ix_tup (pe_ix ix_list (pv 2) (pv 3) (fun _ _ => rfl)) pe_int (fun _ _ => rfl))) pe_int) pa_nil)))))
  (pss_one (ps_ret (pe_op op_cat (pe_op op_cat (pe_slice sl_list (pv 2) po_none (po_some (pv 3))) (pe_lst (pa_cons (pe_tup (pa_cons (pe_ix ix_tup (pe_ix ix_list (pv 2) (pv 3) (fun _ _ => rfl)) pe_int (fun _ _ => rfl)) (pa_cons (pv 9) pa_nil))) (pa_cons (pe_tup (pa_cons (pe_op op_add (pv 9) pe_int) (pa_cons (pe_ix ix_tup (pe_ix ix_list (pv 2) (pv 3) (fun _ _ => rfl)) pe_int (fun _ _ => rfl)) pa_nil))) pa_nil)))) (pe_slice sl_list (pv 2) (po_some (pe_op op_add (pv 3) pe_int)) po_none)))))
  pss_nil)
  (pss_one (ps_ret (pe_op op_cat (pe_op op_cat (pe_slice sl_list (pv 2) po_none (po_some (pv 3))) (pe_lst (pa_cons (pe_d D_l_one_changed (hr.mono (by decide)) pass0 (by rfl) (pa_cons (pv 0) (pa_cons (pv 1) (pa_cons (pe_ix ix_list (pv 2) (pv 3) (fun _ _ => rfl)) pa_nil)))) pa_nil))) (pe_slice sl_list (pv 2) (po_some (pe_op op_add (pv 3) pe_int)) po_none))))))))))))), ?_⟩
    obtain ⟨pl0, hpl0, _⟩ := hp.at_
    have here : ∀ Hn : Hp, But p H Hn → Hn r = some (.lst ws) ∧ Grp Hn ws gs := fun Hn b => ⟨b _ _ hr0 nrp, hG.but b hpl0⟩
    have fin : ∀ (Hn : Hp) (l : Addr) (ws' : List V) (gs' : List (Int × Int)), Hn l = none → Grp Hn ws' gs' → gs'.length ≤ 300 → Pool ns c Hn p → But p H Hn → Q (.ref l) (L2.upd Hn l (.lst ws')) := by
      intro Hn l ws' gs' nl hg hl hpn b
      have nlp : l ≠ p := by
        obtain ⟨q, e, _⟩ := hpn.at_
        exact (ne_of_none e nl).symm
      exact k l gs' _ ⟨ws', upd_same, hg.same (Same.new nl)⟩ hl (b.free nl nlp) (hpn.same (Same.new nl)) (b.trans (But.of_same (Same.new nl)))
    refine ⟨_, rfl, p, c, ns, _, rfl, hp, by decide, by decide +kernel, fun u H1 u0 u1 hp1 o1 => ⟨rfl, _, rfl, ite2 (fun q => ?_) (fun q => ?_)⟩⟩
    · obtain ⟨hr1, hG1⟩ := here H1 (But.of_off o1)
      exact ⟨_, rfl, r, _, rfl, .inl (SqL.of hr1), fun l nl => fin _ l _ gs nl hG1 (by omega) hp1 (But.of_off o1)⟩
    have b1 : But p H H1 := But.of_off o1
    obtain ⟨hr1, hG1⟩ := here H1 b1
    refine ⟨_, rfl, _, rfl, r, _, rfl, .inl (SqL.of hr1), _, _, rfl, rfl, p, c, ns, _, rfl, hp1, by omega, log2_27 (by omega) (by rw [hG.1]; omega), fun a H2 a0 a1 hp2 o2 => ?_⟩
    rw [hG.1] at a1
    obtain ⟨an, rfl⟩ : ∃ an : Nat, a = (an : Int) := ⟨a.toNat, by omega⟩
    refine ⟨_, rfl, p, c, ns, _, rfl, hp2, by decide, by decide +kernel, fun way H3 w0 w1 hp3 o3 => ?_⟩
    have b3 : But p H H3 := (b1.trans (But.of_off o2)).trans (But.of_off o3)
    refine ⟨_, rfl, rfl, _, rfl, ite2 (fun q => ?_) (fun q => ?_)⟩
    · skip
      refine ⟨_, rfl, p, c, ns, rfl, hp3, fun y H4 y0 y1 hp4 o4 => ?_⟩
      refine ⟨_, rfl, _, rfl, _, _, rfl, rfl, (by show 2 ≤ sizeLine; decide), fun t1 n1 => ⟨_, rfl, _, _, rfl, rfl, (by show 2 ≤ sizeLine; decide), fun t2 n2 => ⟨_, rfl, _, rfl, (by show 2 ≤ sizeLine; decide), fun t3 n3 => ⟨_, _, rfl, rfl, _, _, rfl, rfl, (by show 2 ≤ sizeLine; decide), fun t4 n4 => ⟨(by show 4 ≤ sizeLine; decide), fun tl ntl => ?_⟩⟩⟩⟩⟩
      have sx := ((((Same.new (o := .tup [.int y, .int (y + 1)]) n1).trans (Same.new (o := .tup [.int (0 - y), .int 0]) n2)).trans (Same.new (o := .tup [.int n, .int n]) n3)).trans (Same.new (o := .tup [.int (0 - 1), .int (0 - 1)]) n4)).trans (Same.new (o := .lst [.ref t1, .ref t2, .ref t3, .ref t4]) ntl)
      have hpx := hp4.same sx
      refine ⟨_, rfl, p, c, ns, _, rfl, hpx, by decide, by decide +kernel, fun v H5 v0 v1 hp5 o5 => ?_⟩
      obtain ⟨px, hpxl, _⟩ := hpx.at_
      have g1 : GIs _ (.ref t1) (y, y + 1) := ⟨t1, rfl, ((((Same.new n2).trans (Same.new n3)).trans (Same.new n4)).trans (Same.new (o := .lst [.ref t1, .ref t2, .ref t3, .ref t4]) ntl)) _ _ upd_same⟩
      have g2 : GIs _ (.ref t2) (0 - y, 0) := ⟨t2, rfl, (((Same.new n3).trans (Same.new n4)).trans (Same.new (o := .lst [.ref t1, .ref t2, .ref t3, .ref t4]) ntl)) _ _ upd_same⟩
      have g3 : GIs _ (.ref t3) (n, n) := ⟨t3, rfl, ((Same.new n4).trans (Same.new (o := .lst [.ref t1, .ref t2, .ref t3, .ref t4]) ntl)) _ _ upd_same⟩
      have g4 : GIs _ (.ref t4) (0 - 1, 0 - 1) := ⟨t4, rfl, (Same.new (o := .lst [.ref t1, .ref t2, .ref t3, .ref t4]) ntl) _ _ upd_same⟩
      have four : ∃ (t : Addr) (g' : Int × Int), atI [V.ref t1, .ref t2, .ref t3, .ref t4] v = some (.ref t) ∧ GIs H5 (.ref t) g' := by
        have : v = 0 ∨ v = 1 ∨ v = 2 ∨ v = 3 := by omega
        rcases this with rfl | rfl | rfl | rfl
        · exact ⟨t1, _, rfl, g1.but (But.of_off o5) hpxl⟩
        · exact ⟨t2, _, rfl, g2.but (But.of_off o5) hpxl⟩
        · exact ⟨t3, _, rfl, g3.but (But.of_off o5) hpxl⟩
        · exact ⟨t4, _, rfl, g4.but (But.of_off o5) hpxl⟩
      obtain ⟨t, g', hv, hg⟩ := four
      have b5 : But p H H5 := ((b3.trans (But.of_off o4)).trans (But.of_same sx)).trans (But.of_off o5)
      obtain ⟨hr5, hG5⟩ := here H5 b5
      have ntlp : tl ≠ p := by
        obtain ⟨q, e, _⟩ := (((hp4.same (Same.new n1)).same (Same.new n2)).same (Same.new n3)).same (Same.new n4) |>.at_
        exact (ne_of_none e ntl).symm
      refine ⟨tl, _, _, _, rfl, rfl, SqL.of ((o5 tl ntlp).trans upd_same), hv, ?_⟩
      refine ⟨_, rfl, _, rfl, _, rfl, r, _, rfl, SqL.of (hr5), fun q1 m1 => ?_⟩
      have e1 : ∀ Hc : Hp, (L2.upd Hc q1 (.lst (cutV ws none (some ((an : Nat) : Int))))) q1 = some (.lst (ws.take an)) := fun _ => upd_same.trans (congrArg (fun l => some (HO.lst l)) cutTo)
      refine ⟨_, rfl, (by show 1 ≤ sizeLine; decide), fun q2 m2 => ?_⟩
      refine ⟨q1, q2, _, _, rfl, rfl, (Same.new m2) _ _ (e1 _), upd_same, (by rw [List.length_take, hG.1]; exact Nat.le_trans (by show _ + 1 ≤ 1000; omega) (by decide)), fun q3 m3 => ?_⟩
      refine ⟨_, rfl, _, rfl, _, rfl, r, _, rfl, SqL.of ((((Same.new m1).trans (Same.new m2)).trans (Same.new m3)) _ _ hr5), fun q4 m4 => ?_⟩
      have e4 : ∀ Hc : Hp, (L2.upd Hc q4 (.lst (cutV ws (some ((an : Nat) : Int)) none))) q4 = some (.lst (ws.drop an)) := fun _ => upd_same.trans (congrArg (fun l => some (HO.lst l)) cutFr)
      refine ⟨q3, q4, _, _, rfl, rfl, (Same.new m4) _ _ upd_same, e4 _, (by rw [List.length_append, List.length_take, List.length_drop, hG.1]; exact Nat.le_trans (by show _ + 1 + _ ≤ 1000; omega) (by decide)), fun q5 m5 => ?_⟩
      exact fin _ q5 _ (gs.take an ++ [g'] ++ gs.drop an) m5 ((((hG5.take an).same ((((Same.new m1).trans (Same.new m2)).trans (Same.new m3)).trans (Same.new m4))).app ((Grp.one hg).same ((((Same.new m1).trans (Same.new m2)).trans (Same.new m3)).trans (Same.new m4)))).app ((hG5.drop an).same ((((Same.new m1).trans (Same.new m2)).trans (Same.new m3)).trans (Same.new m4)))) (by rw [List.length_append, List.length_append, List.length_take, List.length_drop]; show _ + 1 + _ ≤ 300; omega) (hp5.same ((((Same.new m1).trans (Same.new m2)).trans (Same.new m3)).trans (Same.new m4))) ((b5).trans (But.of_same ((((Same.new m1).trans (Same.new m2)).trans (Same.new m3)).trans (Same.new m4))))
    refine ⟨_, rfl, _, rfl, r, _, rfl, .inl (SqL.of (here H3 b3).1), rfl, _, rfl, ite2 (fun q => ?_) (fun q2 => ?_)⟩
    · skip
      refine ⟨_, rfl, p, c, ns, rfl, hp3, fun y H4 y0 y1 hp4 o4 => ?_⟩
      refine ⟨_, rfl, _, rfl, _, _, rfl, rfl, (by show 2 ≤ sizeLine; decide), fun t1 n1 => ⟨_, rfl, _, _, rfl, rfl, (by show 2 ≤ sizeLine; decide), fun t2 n2 => ⟨_, rfl, _, rfl, (by show 2 ≤ sizeLine; decide), fun t3 n3 => ⟨_, _, rfl, rfl, _, _, rfl, rfl, (by show 2 ≤ sizeLine; decide), fun t4 n4 => ⟨(by show 4 ≤ sizeLine; decide), fun tl ntl => ?_⟩⟩⟩⟩⟩
      have sx := ((((Same.new (o := .tup [.int y, .int (y + 1)]) n1).trans (Same.new (o := .tup [.int (0 - y), .int 0]) n2)).trans (Same.new (o := .tup [.int n, .int n]) n3)).trans (Same.new (o := .tup [.int (0 - 1), .int (0 - 1)]) n4)).trans (Same.new (o := .lst [.ref t1, .ref t2, .ref t3, .ref t4]) ntl)
      have hpx := hp4.same sx
      refine ⟨_, rfl, p, c, ns, _, rfl, hpx, by decide, by decide +kernel, fun v H5 v0 v1 hp5 o5 => ?_⟩
      obtain ⟨px, hpxl, _⟩ := hpx.at_
      have g1 : GIs _ (.ref t1) (y, y + 1) := ⟨t1, rfl, ((((Same.new n2).trans (Same.new n3)).trans (Same.new n4)).trans (Same.new (o := .lst [.ref t1, .ref t2, .ref t3, .ref t4]) ntl)) _ _ upd_same⟩
      have g2 : GIs _ (.ref t2) (0 - y, 0) := ⟨t2, rfl, (((Same.new n3).trans (Same.new n4)).trans (Same.new (o := .lst [.ref t1, .ref t2, .ref t3, .ref t4]) ntl)) _ _ upd_same⟩
      have g3 : GIs _ (.ref t3) (n, n) := ⟨t3, rfl, ((Same.new n4).trans (Same.new (o := .lst [.ref t1, .ref t2, .ref t3, .ref t4]) ntl)) _ _ upd_same⟩
      have g4 : GIs _ (.ref t4) (0 - 1, 0 - 1) := ⟨t4, rfl, (Same.new (o := .lst [.ref t1, .ref t2, .ref t3, .ref t4]) ntl) _ _ upd_same⟩
      have four : ∃ (t : Addr) (g' : Int × Int), atI [V.ref t1, .ref t2, .ref t3, .ref t4] v = some (.ref t) ∧ GIs H5 (.ref t) g' := by
        have : v = 0 ∨ v = 1 ∨ v = 2 ∨ v = 3 := by omega
        rcases this with rfl | rfl | rfl | rfl
        · exact ⟨t1, _, rfl, g1.but (But.of_off o5) hpxl⟩
        · exact ⟨t2, _, rfl, g2.but (But.of_off o5) hpxl⟩
        · exact ⟨t3, _, rfl, g3.but (But.of_off o5) hpxl⟩
        · exact ⟨t4, _, rfl, g4.but (But.of_off o5) hpxl⟩
      obtain ⟨t, g', hv, hg⟩ := four
      have b5 : But p H H5 := ((b3.trans (But.of_off o4)).trans (But.of_same sx)).trans (But.of_off o5)
      obtain ⟨hr5, hG5⟩ := here H5 b5
      have ntlp : tl ≠ p := by
        obtain ⟨q, e, _⟩ := (((hp4.same (Same.new n1)).same (Same.new n2)).same (Same.new n3)).same (Same.new n4) |>.at_
        exact (ne_of_none e ntl).symm
      refine ⟨tl, _, _, _, rfl, rfl, SqL.of ((o5 tl ntlp).trans upd_same), hv, ?_⟩
      refine ⟨_, rfl, _, rfl, _, rfl, r, _, rfl, SqL.of (hr5), fun q1 m1 => ?_⟩
      have e1 : ∀ Hc : Hp, (L2.upd Hc q1 (.lst (cutV ws none (some ((an : Nat) : Int))))) q1 = some (.lst (ws.take an)) := fun _ => upd_same.trans (congrArg (fun l => some (HO.lst l)) cutTo)
      refine ⟨_, rfl, (by show 1 ≤ sizeLine; decide), fun q2 m2 => ?_⟩
      refine ⟨q1, q2, _, _, rfl, rfl, (Same.new m2) _ _ (e1 _), upd_same, (by rw [List.length_take, hG.1]; exact Nat.le_trans (by show _ + 1 ≤ 1000; omega) (by decide)), fun q3 m3 => ?_⟩
      refine ⟨_, rfl, _, rfl, _, rfl, r, _, rfl, SqL.of ((((Same.new m1).trans (Same.new m2)).trans (Same.new m3)) _ _ hr5), fun q4 m4 => ?_⟩
      have e4 : ∀ Hc : Hp, (L2.upd Hc q4 (.lst (cutV ws (some ((an : Nat) : Int)) none))) q4 = some (.lst (ws.drop an)) := fun _ => upd_same.trans (congrArg (fun l => some (HO.lst l)) cutFr)
      refine ⟨q3, q4, _, _, rfl, rfl, (Same.new m4) _ _ upd_same, e4 _, (by rw [List.length_append, List.length_take, List.length_drop, hG.1]; exact Nat.le_trans (by show _ + 1 + _ ≤ 1000; omega) (by decide)), fun q5 m5 => ?_⟩
      exact fin _ q5 _ (gs.take an ++ [g'] ++ gs.drop an) m5 ((((hG5.take an).same ((((Same.new m1).trans (Same.new m2)).trans (Same.new m3)).trans (Same.new m4))).app ((Grp.one hg).same ((((Same.new m1).trans (Same.new m2)).trans (Same.new m3)).trans (Same.new m4)))).app ((hG5.drop an).same ((((Same.new m1).trans (Same.new m2)).trans (Same.new m3)).trans (Same.new m4)))) (by rw [List.length_append, List.length_append, List.length_take, List.length_drop]; show _ + 1 + _ ≤ 300; omega) (hp5.same ((((Same.new m1).trans (Same.new m2)).trans (Same.new m3)).trans (Same.new m4))) ((b5).trans (But.of_same ((((Same.new m1).trans (Same.new m2)).trans (Same.new m3)).trans (Same.new m4))))
    have hlt : an < gs.length := by
      rw [hG.1] at q2
      have : ¬ (an : Int) = (gs.length : Nat) := fun z => q2 (decide_eq_true (congrArg V.int z))
      omega
    refine ⟨_, rfl, rfl, _, rfl, ite2 (fun q => ?_) (fun q => ?_)⟩
    · skip
      obtain ⟨hr5, hG5⟩ := here H3 b3
      refine ⟨_, rfl, _, rfl, _, rfl, r, _, rfl, SqL.of (hr5), fun q1 m1 => ?_⟩
      have e1 : ∀ Hc : Hp, (L2.upd Hc q1 (.lst (cutV ws none (some ((an : Nat) : Int))))) q1 = some (.lst (ws.take an)) := fun _ => upd_same.trans (congrArg (fun l => some (HO.lst l)) cutTo)
      refine ⟨_, rfl, _, rfl, _, _, rfl, rfl, _, rfl, r, _, rfl, SqL.of ((Same.new m1) _ _ hr5), fun q4 m4 => ?_⟩
      have e4 : ∀ Hc : Hp, (L2.upd Hc q4 (.lst (cutV ws (some ((an : Int) + 1)) none))) q4 = some (.lst (ws.drop (an + 1))) := fun _ => upd_same.trans (congrArg (fun l => some (HO.lst l)) (cutFrZ (by omega)))
      refine ⟨q1, q4, _, _, rfl, rfl, (Same.new m4) _ _ (e1 _), e4 _, (by rw [List.length_take, List.length_drop, hG.1]; exact Nat.le_trans (by omega : _ ≤ 1000) (by decide)), fun q5 m5 => ?_⟩
      exact fin _ q5 _ (gs.take an ++ gs.drop (an + 1)) m5 ((hG5.take an).app (hG5.drop (an + 1)) |>.same ((Same.new m1).trans (Same.new m4))) (by rw [List.length_append, List.length_take, List.length_drop]; omega) (hp3.same ((Same.new m1).trans (Same.new m4))) (b3.trans (But.of_same ((Same.new m1).trans (Same.new m4))))
    refine ⟨_, rfl, rfl, _, rfl, ite2 (fun q => ?_) (fun q => ?_)⟩
    · skip
      obtain ⟨hr5, hG5⟩ := here H3 b3
      refine ⟨_, rfl, _, rfl, _, _, rfl, rfl, _, rfl, r, _, rfl, SqL.of (hr5), fun q1 m1 => ?_⟩
      have e1 : ∀ Hc : Hp, (L2.upd Hc q1 (.lst (cutV ws none (some ((an : Int) + 1))))) q1 = some (.lst (ws.take (an + 1))) := fun _ => upd_same.trans (congrArg (fun l => some (HO.lst l)) (cutToZ (by omega)))
      refine ⟨_, rfl, _, rfl, _, rfl, r, _, rfl, SqL.of ((Same.new m1) _ _ hr5), fun q4 m4 => ?_⟩
      have e4 : ∀ Hc : Hp, (L2.upd Hc q4 (.lst (cutV ws (some ((an : Nat) : Int)) none))) q4 = some (.lst (ws.drop an)) := fun _ => upd_same.trans (congrArg (fun l => some (HO.lst l)) cutFr)
      refine ⟨q1, q4, _, _, rfl, rfl, (Same.new m4) _ _ (e1 _), e4 _, (by rw [List.length_take, List.length_drop, hG.1]; exact Nat.le_trans (by omega : _ ≤ 1000) (by decide)), fun q5 m5 => ?_⟩
      exact fin _ q5 _ (gs.take (an + 1) ++ gs.drop an) m5 ((hG5.take (an + 1)).app (hG5.drop an) |>.same ((Same.new m1).trans (Same.new m4))) (by rw [List.length_append, List.length_take, List.length_drop]; omega) (hp3.same ((Same.new m1).trans (Same.new m4))) (b3.trans (But.of_same ((Same.new m1).trans (Same.new m4))))
    refine ⟨_, rfl, rfl, _, rfl, ite2 (fun q => ?_) (fun q => ?_)⟩
    · skip
      obtain ⟨hr3, hG3⟩ := here H3 b3
      refine ⟨_, rfl, _, rfl, r, _, rfl, .inl (SqL.of hr3), p, c, ns, _, rfl, hp3, (by rw [hG.1]; omega), log2_27 (by rw [hG.1]; omega) (by rw [hG.1]; omega), fun w' H4 w0' w1' hp4 o4 => ?_⟩
      rw [hG.1] at w1'
      obtain ⟨on, rfl⟩ : ∃ on : Nat, w' = (on : Int) := ⟨w'.toNat, by omega⟩
      have b4 : But p H H4 := b3.trans (But.of_off o4)
      obtain ⟨hr4, hG4⟩ := here H4 b4
      refine ⟨_, rfl, r, _, rfl, .inl (SqL.of hr4), fun l nl => ?_⟩
      have nlp : l ≠ p := by
        obtain ⟨q, e, _⟩ := hp4.at_
        exact (ne_of_none e nl).symm
      have nrl : r ≠ l := ne_of_none hr4 nl
      have hcl : c ≠ l := ne_of_none hp4.cells nl
      have nlH := b4.free nl nlp
      obtain ⟨a1, ha1, hq1⟩ := atG hG4 (i := on) (by omega) rfl
      obtain ⟨a2, ha2, hq2⟩ := atG hG4 (i := an) (by omega) rfl
      have s5 := Same.new (o := .lst ws) nl
      refine ⟨_, rfl, _, rfl, r, _, _, .ref a1, rfl, rfl, SqL.of (s5 _ _ hr4), ha1, _, rfl, _, rfl, l, _, _, an, rfl, rfl, upd_same, ix_of (by rw [hG.1]; omega), ?_⟩
      refine ⟨_, rfl, _, rfl, r, _, _, .ref a2, rfl, rfl, SqL.of ((upd_ne nrl).trans (s5 _ _ hr4)), ha2, _, rfl, _, rfl, l, _, _, on, rfl, rfl, upd_same, ix_of (by rw [List.length_set, hG.1]; omega), ?_⟩
      have bl : But l H4 (L2.upd (L2.upd (L2.upd H4 l (.lst ws)) l (.lst (ws.set an (.ref a1)))) l (.lst ((ws.set an (.ref a1)).set on (.ref a2)))) := ((But.of_same s5).trans (But.of_off Off.upd)).trans (But.of_off Off.upd)
      have ne : ∀ {a : Addr} {g : Int × Int}, H4 a = some (.tup [.int g.1, .int g.2]) → a ≠ l := fun h => ne_of_none h nl
      have G6 : Grp (L2.upd (L2.upd (L2.upd H4 l (.lst ws)) l (.lst (ws.set an (.ref a1)))) l (.lst ((ws.set an (.ref a1)).set on (.ref a2)))) ws gs := ⟨hG4.1, fun i x g hx hg => by
        obtain ⟨a, e, q⟩ := hG4.2 i x g hx hg
        exact ⟨a, e, bl _ _ q (ne q)⟩⟩
      exact ⟨_, rfl, k l ((gs.set an (gs.getD on (0, 0))).set on (gs.getD an (0, 0))) _ ⟨_, upd_same, (G6.set ⟨a1, rfl, bl _ _ hq1 (ne hq1)⟩ an).set ⟨a2, rfl, bl _ _ hq2 (ne hq2)⟩ on⟩ (by rw [List.length_set, List.length_set]; omega) nlH (((hp4.same s5).off Off.upd nlp.symm hcl).off Off.upd nlp.symm hcl) (((b4.trans (But.of_same s5)).updN nlH).updN nlH)⟩
    refine ⟨_, rfl, rfl, _, rfl, ite2 (fun q => ?_) (fun q => ?_)⟩
    · skip
      obtain ⟨hr5, hG5⟩ := here H3 b3
      obtain ⟨a, ha, hta⟩ := atG hG5 (i := an) (by omega) rfl
      have mz : ∃ j : Nat, j < gs.length ∧ (if ((gs.length : Nat) : Int) - 1 < (an : Int) + 1 then ((gs.length : Nat) : Int) - 1 else (an : Int) + 1) = (j : Int) := by
        split
        · exact ⟨gs.length - 1, by omega, by omega⟩
        · exact ⟨an + 1, by omega, by omega⟩
      obtain ⟨j, hj, ej⟩ := mz
      obtain ⟨a2, ha2, hta2⟩ := atG hG5 (i := j) hj ej
      refine ⟨_, rfl, _, rfl, _, rfl, r, _, rfl, SqL.of (hr5), fun q1 m1 => ?_⟩
      have e1 : ∀ Hc : Hp, (L2.upd Hc q1 (.lst (cutV ws none (some ((an : Nat) : Int))))) q1 = some (.lst (ws.take an)) := fun _ => upd_same.trans (congrArg (fun l => some (HO.lst l)) cutTo)
      have s1 := Same.new (o := .lst (cutV ws none (some ((an : Nat) : Int)))) m1
      refine ⟨_, rfl, _, rfl, r, _, _, .ref a, rfl, rfl, SqL.of (s1 _ _ hr5), ha, a, _, _, _, rfl, rfl, SqT.of (s1 _ _ hta), rfl, _, rfl, _, rfl, _, _, rfl, rfl, _, rfl, r, _, rfl, .inl (SqL.of (s1 _ _ hr5)), _, _, rfl, rfl, _, _, rfl, r, _, _, .ref a2, rfl, rfl, SqL.of (s1 _ _ hr5), ?_, a2, _, _, _, rfl, rfl, SqT.of (s1 _ _ hta2), rfl, (by show 2 ≤ sizeLine; decide), fun t mt => ⟨(by show 1 ≤ sizeLine; decide), fun q2 m2 => ?_⟩⟩
      · rw [hG.1]
        exact ha2
      refine ⟨q1, q2, _, _, rfl, rfl, ((Same.new mt).trans (Same.new m2)) _ _ (e1 _), upd_same, (by rw [List.length_take, hG.1]; exact Nat.le_trans (by show _ + 1 ≤ 1000; omega) (by decide)), fun q3 m3 => ?_⟩
      refine ⟨_, rfl, _, rfl, _, _, rfl, rfl, _, rfl, r, _, rfl, SqL.of (((((Same.new m1).trans (Same.new mt)).trans (Same.new m2)).trans (Same.new m3)) _ _ hr5), fun q4 m4 => ?_⟩
      have e4 : ∀ Hc : Hp, (L2.upd Hc q4 (.lst (cutV ws (some ((an : Int) + 2)) none))) q4 = some (.lst (ws.drop (an + 2))) := fun _ => upd_same.trans (congrArg (fun l => some (HO.lst l)) (cutFrZ (by omega)))
      refine ⟨q3, q4, _, _, rfl, rfl, (Same.new m4) _ _ upd_same, e4 _, (by rw [List.length_append, List.length_take, List.length_drop, hG.1]; exact Nat.le_trans (by show _ + 1 + _ ≤ 1000; omega) (by decide)), fun q5 m5 => ?_⟩
      exact fin _ q5 _ (gs.take an ++ [((gs.getD an (0, 0)).1, (gs.getD j (0, 0)).2)] ++ gs.drop (an + 2)) m5 ((((hG5.take an).same (((((Same.new m1).trans (Same.new mt)).trans (Same.new m2)).trans (Same.new m3)).trans (Same.new m4))).app (Grp.one (v := .ref t) (g := ((gs.getD an (0, 0)).1, (gs.getD j (0, 0)).2)) ⟨t, rfl, (((Same.new m2).trans (Same.new m3)).trans (Same.new m4)) _ _ upd_same⟩)).app ((hG5.drop (an + 2)).same (((((Same.new m1).trans (Same.new mt)).trans (Same.new m2)).trans (Same.new m3)).trans (Same.new m4)))) (by rw [List.length_append, List.length_append, List.length_take, List.length_drop]; show _ + 1 + _ ≤ 300; omega) (hp3.same (((((Same.new m1).trans (Same.new mt)).trans (Same.new m2)).trans (Same.new m3)).trans (Same.new m4))) ((b3).trans (But.of_same (((((Same.new m1).trans (Same.new mt)).trans (Same.new m2)).trans (Same.new m3)).trans (Same.new m4))))
    refine ⟨_, rfl, rfl, _, rfl, ite2 (fun q => ?_) (fun q => ?_)⟩
    · skip
      obtain ⟨hr3, hG3⟩ := here H3 b3
      obtain ⟨a, ha, hta3⟩ := atG hG3 (i := an) (by omega) rfl
      obtain ⟨tm1, tm2⟩ := tame_at tm (i := an) (by omega)
      refine ⟨_, rfl, _, rfl, r, _, _, .ref a, rfl, rfl, SqL.of (hr3), ha, a, _, _, _, rfl, rfl, SqT.of (hta3), rfl, _, rfl, _, rfl, _, rfl, r, _, _, .ref a, rfl, rfl, SqL.of (hr3), ha, a, _, _, _, rfl, rfl, SqT.of (hta3), rfl, _, rfl, _, rfl, r, _, _, .ref a, rfl, rfl, SqL.of (hr3), ha, a, _, _, _, rfl, rfl, SqT.of (hta3), rfl, _, _, rfl, rfl, _, _, rfl, rfl, p, c, ns, _, rfl, hp3, by omega, log2_27 (by omega) (by omega), fun v H4 v0 v1 hp4 o4 => ⟨_, _, rfl, rfl, ?_⟩⟩
      have b4 : But p H H4 := b3.trans (But.of_off o4)
      obtain ⟨hr5, hG5⟩ := here H4 b4
      have hta : H4 a = some (.tup [.int (gs.getD an (0, 0)).1, .int (gs.getD an (0, 0)).2]) := by
        obtain ⟨pl, hpl, _⟩ := hp3.at_
        refine (o4 a ?_).trans hta3
        rintro rfl
        rw [hpl] at hta3
        cases hta3
      refine ⟨_, rfl, _, rfl, _, rfl, r, _, rfl, SqL.of (hr5), fun q1 m1 => ?_⟩
      have e1 : ∀ Hc : Hp, (L2.upd Hc q1 (.lst (cutV ws none (some ((an : Nat) : Int))))) q1 = some (.lst (ws.take an)) := fun _ => upd_same.trans (congrArg (fun l => some (HO.lst l)) cutTo)
      refine ⟨_, rfl, _, rfl, r, _, _, .ref a, rfl, rfl, SqL.of ((Same.new m1) _ _ hr5), ha, a, _, _, _, rfl, rfl, SqT.of ((Same.new m1) _ _ hta), rfl, _, rfl, (by show 2 ≤ sizeLine; decide), fun t mt => ?_⟩
      refine ⟨_, rfl, _, _, rfl, rfl, _, rfl, _, rfl, r, _, _, .ref a, rfl, rfl, SqL.of (((Same.new m1).trans (Same.new mt)) _ _ hr5), ha, a, _, _, _, rfl, rfl, SqT.of (((Same.new m1).trans (Same.new mt)) _ _ hta), rfl, (by show 2 ≤ sizeLine; decide), fun t2 mt2 => ⟨(by show 2 ≤ sizeLine; decide), fun q2 m2 => ?_⟩⟩
      refine ⟨q1, q2, _, _, rfl, rfl, (((Same.new mt).trans (Same.new mt2)).trans (Same.new m2)) _ _ (e1 _), upd_same, (by rw [List.length_take, hG.1]; exact Nat.le_trans (by show _ + 2 ≤ 1000; omega) (by decide)), fun q3 m3 => ?_⟩
      refine ⟨_, rfl, _, rfl, _, _, rfl, rfl, _, rfl, r, _, rfl, SqL.of ((((((Same.new m1).trans (Same.new mt)).trans (Same.new mt2)).trans (Same.new m2)).trans (Same.new m3)) _ _ hr5), fun q4 m4 => ?_⟩
      have e4 : ∀ Hc : Hp, (L2.upd Hc q4 (.lst (cutV ws (some ((an : Int) + 1)) none))) q4 = some (.lst (ws.drop (an + 1))) := fun _ => upd_same.trans (congrArg (fun l => some (HO.lst l)) (cutFrZ (by omega)))
      refine ⟨q3, q4, _, _, rfl, rfl, (Same.new m4) _ _ upd_same, e4 _, (by rw [List.length_append, List.length_take, List.length_drop, hG.1]; exact Nat.le_trans (by show _ + 2 + _ ≤ 1000; omega) (by decide)), fun q5 m5 => ?_⟩
      exact fin _ q5 _ (gs.take an ++ [((gs.getD an (0, 0)).1, (gs.getD an (0, 0)).1 + v), ((gs.getD an (0, 0)).1 + v + 1, (gs.getD an (0, 0)).2)] ++ gs.drop (an + 1)) m5 ((((hG5.take an).same ((((((Same.new m1).trans (Same.new mt)).trans (Same.new mt2)).trans (Same.new m2)).trans (Same.new m3)).trans (Same.new m4))).app ((Grp.one (v := .ref t) (g := ((gs.getD an (0, 0)).1, (gs.getD an (0, 0)).1 + v)) ⟨t, rfl, ((((Same.new mt2).trans (Same.new m2)).trans (Same.new m3)).trans (Same.new m4)) _ _ upd_same⟩).app (Grp.one (v := .ref t2) (g := ((gs.getD an (0, 0)).1 + v + 1, (gs.getD an (0, 0)).2)) ⟨t2, rfl, (((Same.new m2).trans (Same.new m3)).trans (Same.new m4)) _ _ upd_same⟩))).app ((hG5.drop (an + 1)).same ((((((Same.new m1).trans (Same.new mt)).trans (Same.new mt2)).trans (Same.new m2)).trans (Same.new m3)).trans (Same.new m4)))) (by rw [List.length_append, List.length_append, List.length_take, List.length_drop]; show _ + 2 + _ ≤ 300; omega) (hp4.same ((((((Same.new m1).trans (Same.new mt)).trans (Same.new mt2)).trans (Same.new m2)).trans (Same.new m3)).trans (Same.new m4))) ((b4).trans (But.of_same ((((((Same.new m1).trans (Same.new mt)).trans (Same.new mt2)).trans (Same.new m2)).trans (Same.new m3)).trans (Same.new m4))))
    skip
    obtain ⟨hr3, hG3⟩ := here H3 b3
    obtain ⟨a, ha, hta3⟩ := atG hG3 (i := an) (by omega) rfl
    have nap : a ≠ p := by
      obtain ⟨pl, hpl, _⟩ := hp3.at_
      rintro rfl
      rw [hpl] at hta3
      cases hta3
    refine ⟨_, rfl, _, rfl, _, rfl, r, _, rfl, SqL.of (hr3), fun q1 m1 => ?_⟩
    have e1 : ∀ Hc : Hp, (L2.upd Hc q1 (.lst (cutV ws none (some ((an : Nat) : Int))))) q1 = some (.lst (ws.take an)) := fun _ => upd_same.trans (congrArg (fun l => some (HO.lst l)) cutTo)
    have s1 := Same.new (o := .lst (cutV ws none (some ((an : Nat) : Int)))) m1
    have nqp : q1 ≠ p := by
      obtain ⟨q, e, _⟩ := hp3.at_
      exact (ne_of_none e m1).symm
    refine ⟨_, rfl, _, rfl, _, rfl, _, rfl, r, _, _, .ref a, rfl, rfl, SqL.of (s1 _ _ hr3), ha, p, c, a, ns, n, gs.getD an (0, 0), rfl, hp3.same s1, s1 _ _ hta3, nap, fun v g' H5 hg hp5 b35 => ⟨(by show 1 ≤ sizeLine; decide), fun q2 m2 => ?_⟩⟩
    have b5 : But p H H5 := (b3.trans (But.of_same s1)).trans b35
    obtain ⟨hr5, hG5⟩ := here H5 b5
    refine ⟨q1, q2, _, _, rfl, rfl, (Same.new m2) _ _ (b35 _ _ (e1 _) nqp), upd_same, (by rw [List.length_take, hG.1]; exact Nat.le_trans (by show _ + 1 ≤ 1000; omega) (by decide)), fun q3 m3 => ?_⟩
    refine ⟨_, rfl, _, rfl, _, _, rfl, rfl, _, rfl, r, _, rfl, SqL.of (((Same.new m2).trans (Same.new m3)) _ _ hr5), fun q4 m4 => ?_⟩
    have e4 : ∀ Hc : Hp, (L2.upd Hc q4 (.lst (cutV ws (some ((an : Int) + 1)) none))) q4 = some (.lst (ws.drop (an + 1))) := fun _ => upd_same.trans (congrArg (fun l => some (HO.lst l)) (cutFrZ (by omega)))
    refine ⟨q3, q4, _, _, rfl, rfl, (Same.new m4) _ _ upd_same, e4 _, (by rw [List.length_append, List.length_take, List.length_drop, hG.1]; exact Nat.le_trans (by show _ + 1 + _ ≤ 1000; omega) (by decide)), fun q5 m5 => ?_⟩
    exact fin _ q5 _ (gs.take an ++ [g'] ++ gs.drop (an + 1)) m5 ((((hG5.take an).same (((Same.new m2).trans (Same.new m3)).trans (Same.new m4))).app ((Grp.one hg).same (((Same.new m2).trans (Same.new m3)).trans (Same.new m4)))).app ((hG5.drop (an + 1)).same (((Same.new m2).trans (Same.new m3)).trans (Same.new m4)))) (by rw [List.length_append, List.length_append, List.length_take, List.length_drop]; show _ + 1 + _ ≤ 300; omega) (hp5.same (((Same.new m2).trans (Same.new m3)).trans (Same.new m4))) ((b5).trans (But.of_same (((Same.new m2).trans (Same.new m3)).trans (Same.new m4))))

theorem ok_l_free (T : Txt K mg C_BadEnd C_BarbreaksError C_TooMany C_BadNumber C_Band C_Refused) : Dk P w K mg base CX0 2 "_law_free" ["_law_pool_here", "_law_count"] spFreeG := by
  have D_l_take := ok_l_take (P := P) (w := w) (base := base) T
  obtain ⟨f, fd, g, F, b⟩ := T.l_free
  refine ⟨f, fd, g, F.kp, b, F.ok sc_l_free (fun vs H Q E h => ?_) (fun cdv A outer s H vs Q E hr h => ?_)⟩
  · obtain ⟨p, c, ns, n, rfl, _⟩ := h
    rfl
  · obtain ⟨p, c, ns, n, rfl, hp, n0, n1, k⟩ := h
    refine ⟨_, (pss_cons (ps_set (i := 2) sc_l_free.nd rfl (Or.inl rfl) (pe_lst pa_nil))
  (pss_cons (ps_for PassesOwn.never rfl (pi_range1 rfl T.b_range (pa_cons (pe_d D_l_take (hr.mono (by decide)) pass0 (by rfl) (pa_cons (pv 0) (pa_cons pe_int pa_nil))) pa_nil)) (pg_name (i := 3) sc_l_free.nd rfl (Or.inl rfl))
  (pss_cons (ps_set (i := 4) sc_l_free.nd rfl (Or.inl rfl) (pe_op op_sub (pe_d D_l_take (hr.mono (by decide)) pass0 (by rfl) (pa_cons (pv 0) (pa_cons (pe_op op_add (pv 1) pe_int) pa_nil))) pe_int))
  (pss_one (ps_expr (pe_bm PySem.F.plainAttrs_list PySem.F.slot_list_append PySem.F.type_list_append mt_append (pv 2) (pa_cons (pe_tup (pa_cons (pv 4) (pa_cons (pe_op op_sub (pe_d D_l_take (hr.mono (by decide)) pass0 (by rfl) (pa_cons (pv 0) (pa_cons (pe_op op_add (pv 1) pe_int) pa_nil))) pe_int) pa_nil))) pa_nil))))))
  (pss_one (ps_ret (pv 2))))), ?_⟩
    refine ⟨(by show 0 ≤ sizeLine; decide), fun l nl => ?_⟩
    have hpl : p ≠ l := by
      obtain ⟨q, e, _⟩ := hp.at_
      exact ne_of_none e nl
    have hcl : c ≠ l := ne_of_none hp.cells nl
    refine ⟨_, rfl, p, c, ns, _, rfl, hp.same (Same.new nl), by decide, by decide +kernel, fun m H1 m0 m1 hp1 o1 => ⟨m, rfl, by omega, by omega, for_range (n := m.toNat) (fun i σ H' => ∃ (ws : List V) (gs : List (Int × Int)) (x3 x4 : Option V), σ = [some (.ref p), some (.int n), some (.ref l), x3, x4] ∧ H' l = some (.lst ws) ∧ Grp H' ws gs ∧ gs.length ≤ i ∧ Pool ns c H' p ∧ But p H H')
      ⟨[], [], _, _, rfl, (o1 l hpl.symm).trans upd_same, Grp.nil, by simp, hp1, (But.of_same (Same.new nl)).trans (But.of_off o1)⟩ ?_ ?_⟩⟩
    · rintro i σ H2 hi ⟨ws, gs, x3, x4, rfl, e2, hG, gl, hp2, b2⟩
      refine ⟨_, rfl, _, rfl, _, _, rfl, rfl, p, c, ns, _, rfl, hp2, by omega, log2_27 (by omega) (by omega), fun f H3 f0 f1 hp3 o3 => ⟨_, _, rfl, rfl, ?_⟩⟩
      have e3 := (o3 l hpl.symm).trans e2
      refine ⟨_, rfl, .inl ⟨rfl, _, SqL.of e3⟩, _, rfl, _, rfl, _, rfl, _, _, rfl, rfl, p, c, ns, _, rfl, hp3, by omega, log2_27 (by omega) (by omega), fun g H4 g0 g1 hp4 o4 => ⟨_, _, rfl, rfl, (by show 2 ≤ sizeLine; decide), fun t nt => ?_⟩⟩
      have e4 := (o4 l hpl.symm).trans e3
      obtain ⟨pl, hpl2, _⟩ := hp2.at_
      have hG4 := hG.but (But.of_off (o3.trans o4)) hpl2
      have nlt : l ≠ t := ne_of_none e4 nt
      have b5 := ((b2.trans (But.of_off (o3.trans o4))).trans (But.of_same (Same.new (o := .tup [.int (f - 1), .int (g - 1)]) nt)))
      have bl : But l H4 (L2.upd (L2.upd H4 t (.tup [.int (f - 1), .int (g - 1)])) l (.lst (ws ++ [.ref t]))) := (But.of_same (Same.new nt)).trans (But.of_off Off.upd)
      refine ⟨l, _, _, rfl, rfl, (Same.new nt) _ _ e4, ?_, ws ++ [.ref t], gs ++ [(f - 1, g - 1)], _, _, rfl, upd_same, (hG4.but bl e4).app (Grp.one ⟨t, rfl, (upd_ne nlt.symm).trans upd_same⟩), ?_, (hp4.same (Same.new nt)).off Off.upd hpl hcl, b5.updN nl⟩
      · rw [hG.1]
        exact Nat.lt_of_lt_of_le (by omega : gs.length < 1000) (by decide)
      · rw [List.length_append]
        show gs.length + 1 ≤ i + 1
        omega
    · rintro σ H2 ⟨ws, gs, x3, x4, rfl, e2, hG, gl, hp2, b2⟩
      exact ⟨_, rfl, k l gs _ ⟨ws, e2, hG⟩ (by omega) nl hp2 b2⟩

theorem ok_l_bounded (T : Txt K mg C_BadEnd C_BarbreaksError C_TooMany C_BadNumber C_Band C_Refused) : Dk P w K mg base CX0 7 "_law_bounded" ["_law_band", "_law_many", "_law_groups"] (spBdd K C_Band) := by
  have D_cover_bound := ok_cover_bound (P := P) (w := w) (base := base) T
  obtain ⟨f, fd, g, F, b⟩ := T.l_bounded
  refine ⟨f, fd, g, F.kp, b, F.ok sc_l_bounded (fun vs H Q E h => ?_) (fun cdv A outer s H vs Q E hr h => ?_)⟩
  · obtain ⟨b, r, m, es, ws, gs, rfl, _⟩ := h
    rfl
  · obtain ⟨b, r, m, es, ws, gs, rfl, hB, l100, hs, hG, g1000, k⟩ := h
    refine ⟨_, (pss_cons (ps_set (i := 3) sc_l_bounded.nd rfl (Or.inl rfl) (pe_lst pa_nil))
  (pss_cons (ps_set (i := 4) sc_l_bounded.nd rfl (Or.inl rfl) pe_non)
  (C8.pss_cut (ps_try_holds rfl rfl sc_l_bounded.nd rfl (fun W pn xe tk _ => (pss_one (ps_set (i := 4) sc_l_bounded.nd rfl (Or.inl rfl) (pe_dS D_cover_bound (hr.mono (by decide)) (fun σ => passAt tk σ) (by rfl) (pa_cons (pv 0) (pa_cons (pv 1) (pa_cons (pv 2) pa_nil)))))))
  (HdsH.cons (i := 5) rfl rfl ⟨rfl, by decide, Or.inl T.g_BadNumber⟩ (fun a ob cls d pn hz hf => (pss_cons (ps_set (i := 3) sc_l_bounded.nd rfl (Or.inl rfl) (pe_lst (pa_cons (pe_xs hz hf (pv 5)) (pa_cons (pe_callB (call_isS hz hf) (by rfl) T.b_isinstance (by decide +kernel) (pa_cons (pv 5) (pa_cons (C8.pe_gc (v := .ref C_BarbreaksError) (by rfl) ⟨_, T.g_BarbreaksError, rfl⟩) pa_nil))) (pa_cons (pe_callB (call_isS hz hf) (by rfl) T.b_isinstance (by decide +kernel) (pa_cons (pv 5) (pa_cons (pe_bltn (v := .ty "ValueError") (by rfl) T.b_ValueError (by decide +kernel) rfl) pa_nil))) (pa_cons (pe_callB (call_isS hz hf) (by rfl) T.b_isinstance (by decide +kernel) (pa_cons (pv 5) (pa_cons (C8.pe_gc (v := .ref C_Refused) (by rfl) ⟨_, T.g_Refused, rfl⟩) pa_nil))) pa_nil))))))
  (pss_one (ps_set (i := 3) sc_l_bounded.nd rfl (Or.inl rfl) (pe_op op_cat (pv 3) (pe_lst (pa_cons (pe_callB (call_isS hz hf) (by rfl) T.b_isinstance (by decide +kernel) (pa_cons (pv 5) (pa_cons (C8.pe_gc (v := .ref C_TooMany) (by rfl) ⟨_, T.g_TooMany, rfl⟩) pa_nil))) (pa_cons (pe_callB (call_isS hz hf) (by rfl) T.b_isinstance (by decide +kernel) (pa_cons (pv 5) (pa_cons (C8.pe_gc (v := .ref C_BadEnd) (by rfl) ⟨_, T.g_BadEnd, rfl⟩) pa_nil))) pa_nil))))))))
  HdsH.nil))
  (pss_one (ps_ret (pe_lst (pa_cons (pv 3) (pa_cons (pv 4) pa_nil)))))))), ?_⟩
    refine ⟨(by show 0 ≤ sizeLine; decide), fun t0 nt0 => ?_⟩
    have s0 := Same.new (o := .lst []) nt0
    refine ⟨fun σ H' => ∃ (t : Addr) (gv : V) (dt dg : PyData), σ = [some (.ref b), some (.int m), some (.ref r), some (.ref t), some gv, none] ∧ Same H H' ∧ Dp K H' (.ref t) dt ∧ Dp K H' gv dg ∧ bdD m es gs = .list [dt, dg], ?_, ?_⟩
    · refine ⟨_, rfl, _, rfl, _, rfl, b, r, m, es, ws, gs, rfl, hB.same s0, l100, hs.imp (s0 _ _) (s0 _ _), hG.same s0, g1000, fun hm H1 s1 => ?_, fun hm H1 d s2 hd => ?_⟩
      · refine ⟨t0, _, .list [], if covB es gs = true then .int (totG m gs gs.length) else .none, rfl, s0.trans s1, .lst (SqL.of (s1 _ _ upd_same)) .nil, ?_, ?_⟩
        · unfold covV
          split
          · exact .int _
          · exact .non
        · unfold bdD
          rw [if_pos hm]
      · refine ⟨true, T.xm_BadNumber_BadNumber, fun _ a na => ?_, fun z => nomatch z⟩
        refine ⟨_, rfl, C_BadNumber, d, _, _, rfl, rfl, rfl, hd, T.ec_BadNumber, T.xn_BadNumber_number, look1, _, rfl, C_BadNumber, _, _, _, rfl, rfl, .own _, ⟨d, _, rfl, hd⟩, T.ec_BadNumber, T.ko_BadNumber_BarbreaksError, _, rfl, C_BadNumber, _, _, _, rfl, rfl, .ty _, ⟨d, _, rfl, hd⟩, T.ec_BadNumber, T.ko_BadNumber_ValueError, _, rfl, C_BadNumber, _, _, _, rfl, rfl, .own _, ⟨d, _, rfl, hd⟩, T.ec_BadNumber, T.ko_BadNumber_Refused, (by show 4 ≤ sizeLine; decide), fun l1 n1 => ⟨_, rfl, _, rfl, C_BadNumber, _, _, _, rfl, rfl, .own _, ⟨d, _, rfl, (Same.new n1) _ _ hd⟩, T.ec_BadNumber, T.ko_BadNumber_TooMany, _, rfl, C_BadNumber, _, _, _, rfl, rfl, .own _, ⟨d, _, rfl, (Same.new n1) _ _ hd⟩, T.ec_BadNumber, T.ko_BadNumber_BadEnd, (by show 2 ≤ sizeLine; decide), fun l2 n2 => ?_⟩⟩
        refine ⟨l1, l2, _, _, rfl, rfl, (Same.new n2) _ _ upd_same, upd_same, (by show 4 + 2 ≤ sizeLine; decide), fun q nq => ?_⟩
        refine ⟨q, .non, .list [.int m, .bool true, .bool true, .bool false, .bool false, .bool false], .none, rfl, ((s0.trans s2).trans ((Same.new n1).trans (Same.new n2))).trans (Same.new nq), ?_, .non, ?_⟩
        · exact .lst (SqL.of upd_same) (.cons (.int _) (.cons (.bl _) (.cons (.bl _) (.cons (.bl _) (.cons (.bl _) (.cons (.bl _) .nil))))))
        · unfold bdD
          rw [if_neg hm]
    rintro σ H1 ⟨t, gv, dt, dg, rfl, s1, d1, d2, e⟩
    refine ⟨_, rfl, _, rfl, (by show 2 ≤ sizeLine; decide), fun l nl => ?_⟩
    refine k l _ ?_ (s1.trans (Same.new nl))
    rw [e]
    exact .lst (SqL.of upd_same) (.cons (Dp.same (Same.new nl) d1) (.cons (Dp.same (Same.new nl) d2) .nil))

theorem ok_l_kept (T : Txt K mg C_BadEnd C_BarbreaksError C_TooMany C_BadNumber C_Band C_Refused) : Dk P w K mg base CX0 8 "_law_kept" ["_law_band", "_law_ends_here", "_law_many", "_law_groups"] (spKeptV C_Band) := by
  have D_l_bound := ok_l_bound (P := P) (w := w) (base := base) T
  have D_l_bounded := ok_l_bounded (P := P) (w := w) (base := base) T
  have D_l_same := ok_l_same (P := P) (w := w) (base := base) T 2
  obtain ⟨f, fd, g, F, b⟩ := T.l_kept
  refine ⟨f, fd, g, F.kp, b, F.ok sc_l_kept (fun vs H Q E h => ?_) (fun cdv A outer s H vs Q E hr h => ?_)⟩
  · obtain ⟨b, el, r, m, es, gs, rfl, _⟩ := h
    rfl
  · obtain ⟨b, el, r, m, es, gs, rfl, hB, he, l100, ⟨ws, hr0, hG⟩, g1000, k⟩ := h
    refine ⟨_, (pss_cons (ps_set (i := 4) sc_l_kept.nd rfl (Or.inl rfl) (pe_d D_l_bound (hr.mono (by decide)) pass0 (by rfl) (pa_cons (pv 1) (pa_cons (pv 2) (pa_cons (pv 3) pa_nil)))))
  (pss_cons (ps_set (i := 5) sc_l_kept.nd rfl (Or.inl rfl) (pe_lst (pa_cons (pe_lst pa_nil) (pa_cons pe_non pa_nil))))
  (C8.pss_cut (ps_if (pt_cmpR op_ge (pv 4) pe_int (nomark _))
  (pss_one (ps_set (i := 5) sc_l_kept.nd rfl (Or.inl rfl) (pe_lst (pa_cons (pe_lst pa_nil) (pa_cons (pv 4) pa_nil)))))
  pss_nil)
  (C8.pss_cut (ps_if (pt_not (pt_chain op_le op_le pe_int (pv 2) pe_int))
  (pss_one (ps_set (i := 5) sc_l_kept.nd rfl (Or.inl rfl) (pe_lst (pa_cons (pe_lst (pa_cons (pv 2) (pa_cons pe_bl (pa_cons pe_bl (pa_cons pe_bl (pa_cons pe_bl (pa_cons pe_bl pa_nil))))))) (pa_cons pe_non pa_nil)))))
  pss_nil)
  (pss_cons (ps_set (i := 6) sc_l_kept.nd rfl (Or.inl rfl) (pe_callTy call_list_of (by rfl) T.b_list (by decide +kernel) (pa_cons (pv 3) pa_nil)))
  (pss_cons (ps_if (PW.pt (pw_or (pt_not (pt_val (pe_d D_l_same (hr.mono (by decide)) pass0 (by rfl) (pa_cons (pe_d D_l_bounded (hr.mono (by decide)) pass0 (by rfl) (pa_cons (pv 0) (pa_cons (pv 2) (pa_cons (pv 6) pa_nil)))) (pa_cons (pv 5) pa_nil))))) (pw_or1 (pt_not (pt_val (pe_d D_l_same (hr.mono (by decide)) pass0 (by rfl) (pa_cons (pv 6) (pa_cons (pv 3) pa_nil))))))))
  (pss_one (ps_ret pe_bl))
  pss_nil)
  (pss_one (ps_ret (pe_d D_l_same (hr.mono (by decide)) pass0 (by rfl) (pa_cons (pe_d D_l_bounded (hr.mono (by decide)) pass0 (by rfl) (pa_cons (pv 0) (pa_cons (pv 2) (pa_cons (pe_callTy call_tuple_of (by rfl) T.b_tuple (by decide +kernel) (pa_cons (pv 3) pa_nil)) pa_nil)))) (pa_cons (pv 5) pa_nil))))))))))), ?_⟩
    refine ⟨_, rfl, _, rfl, _, rfl, el, r, m, es, ws, gs, rfl, he, hr0, hG, ?_⟩
    generalize hBv : (if covB es gs = true then totG m gs gs.length else -1) = B
    refine ⟨(by show 0 ≤ sizeLine; decide), fun d1 n1 => ⟨(by show 2 ≤ sizeLine; decide), fun d2 n2 => ?_⟩⟩
    have s2 := (Same.new (o := .lst []) n1).trans (Same.new (o := .lst [.ref d1, .non]) n2)
    refine ⟨fun σ H' => ∃ (d : Addr), σ = [some (.ref b), some (.ref el), some (.int m), some (.ref r), some (.int B), some (.ref d), none] ∧ Same H H' ∧ (0 ≤ m ∧ m ≤ 60 → Dp K H' (.ref d) (bdD m es gs)), ?_, ?_⟩
    · refine ⟨_, rfl, _, _, rfl, rfl, _, rfl, ite2 (fun q => ?_) (fun q => ?_)⟩
      · have q0 : B ≥ 0 := of_decide_eq_true q
        refine ⟨(by show 0 ≤ sizeLine; decide), fun d3 n3 => ⟨_, rfl, (by show 2 ≤ sizeLine; decide), fun d4 n4 => ?_⟩⟩
        have s4 := (Same.new (o := .lst []) n3).trans (Same.new (o := .lst [.ref d3, .int B]) n4)
        refine ⟨d4, rfl, s2.trans s4, fun hm => ?_⟩
        have cv : covB es gs = true := by
          cases e : covB es gs with
          | true => rfl
          | false =>
            rw [e, if_neg Bool.false_ne_true] at hBv
            omega
        rw [cv, if_pos rfl] at hBv
        unfold bdD
        rw [if_pos hm, cv, if_pos rfl, hBv]
        exact .lst (SqL.of upd_same) (.cons (.lst (SqL.of ((Same.new n4) _ _ upd_same)) .nil) (.cons (.int _) .nil))
      · refine ⟨d2, rfl, s2, fun hm => ?_⟩
        have q0 : ¬ B ≥ 0 := of_decide_eq_false (Bool.eq_false_iff.mpr q)
        have cv : covB es gs = false := by
          cases e : covB es gs with
          | false => rfl
          | true =>
            rw [e, if_pos rfl] at hBv
            have := totG_pos (m := m) hm.1 gs.length (covB_all e)
            omega
        unfold bdD
        rw [if_pos hm, cv, if_neg Bool.false_ne_true]
        exact .lst (SqL.of upd_same) (.cons (.lst (SqL.of ((Same.new n2) _ _ upd_same)) .nil) (.cons .non .nil))
    rintro σ H3 ⟨d, rfl, s3, hd⟩
    refine ⟨fun σ H' => ∃ (d : Addr), σ = [some (.ref b), some (.ref el), some (.int m), some (.ref r), some (.int B), some (.ref d), none] ∧ Same H H' ∧ Dp K H' (.ref d) (bdD m es gs), ?_, ?_⟩
    · have bad : ¬ (0 ≤ m ∧ m ≤ 60) → ∀ (d5 : Addr) (n5 : H3 d5 = none) (d6 : Addr) (n6 : (L2.upd H3 d5 (.lst [.int m, .bl true, .bl true, .bl false, .bl false, .bl false])) d6 = none), ∃ (d : Addr), ([some (.ref b), some (.ref el), some (.int m), some (.ref r), some (.int B), some (.ref d6), none] : L2.St) = [some (.ref b), some (.ref el), some (.int m), some (.ref r), some (.int B), some (.ref d), none] ∧ Same H (L2.upd (L2.upd H3 d5 (.lst [.int m, .bl true, .bl true, .bl false, .bl false, .bl false])) d6 (.lst [.ref d5, .non])) ∧ Dp K (L2.upd (L2.upd H3 d5 (.lst [.int m, .bl true, .bl true, .bl false, .bl false, .bl false])) d6 (.lst [.ref d5, .non])) (.ref d) (bdD m es gs) := fun hm d5 n5 d6 n6 => by
        refine ⟨d6, rfl, (s3.trans (Same.new n5)).trans (Same.new n6), ?_⟩
        unfold bdD
        rw [if_neg hm]
        exact .lst (SqL.of upd_same) (.cons (.lst (SqL.of ((Same.new n6) _ _ upd_same)) (.cons (.int _) (.cons (.bl _) (.cons (.bl _) (.cons (.bl _) (.cons (.bl _) (.cons (.bl _) .nil))))))) (.cons .non .nil))
      refine ⟨_, rfl, _, _, rfl, rfl, _, rfl, ?_⟩
      by_cases m0 : 0 ≤ m
      · rw [decide_eq_true m0]
        refine iteT ⟨_, _, rfl, rfl, _, rfl, ?_⟩
        by_cases m1 : m ≤ 60
        · rw [decide_eq_true m1]
          exact iteF ⟨d, rfl, s3, hd ⟨m0, m1⟩⟩
        · rw [decide_eq_false m1]
          exact iteT ⟨_, rfl, (by show 6 ≤ sizeLine; decide), fun d5 n5 => ⟨(by show 2 ≤ sizeLine; decide), fun d6 n6 => bad (fun z => m1 z.2) d5 n5 d6 n6⟩⟩
      · rw [decide_eq_false m0]
        exact iteF ⟨false, rfl, iteT ⟨_, rfl, (by show 6 ≤ sizeLine; decide), fun d5 n5 => ⟨(by show 2 ≤ sizeLine; decide), fun d6 n6 => bad (fun z => m0 z.1) d5 n5 d6 n6⟩⟩⟩
    rintro σ H4 ⟨d, rfl, s4, hd4⟩
    have hr4 := s4 _ _ hr0
    refine ⟨_, rfl, r, _, rfl, .inl (SqL.of hr4), fun hl nh => ?_⟩
    have s5 := s4.trans (Same.new (o := .lst ws) nh)
    refine ⟨_, rfl, _, rfl, _, rfl, b, hl, m, es, ws, gs, rfl, hB.same s5, l100, .inl upd_same, hG.same s5, g1000, fun l H6 dl s6 => ⟨_, rfl, _, _, bdD m es gs, rfl, dl, Dp.same ((Same.new nh).trans s6) hd4, okBD, true, rfl, iteF ?_⟩⟩
    have s56 := s5.trans s6
    refine ⟨_, rfl, _, rfl, _, _, .list (gD gs), rfl, .lst (SqL.of (s6 _ _ upd_same)) (hG.same s56).dp, .lst (SqL.of (s56 _ _ hr0)) (hG.same s56).dp, okD_mkL (by unfold gD; rw [List.length_map]; omega) okGD, true, rfl, iteF ?_⟩
    refine ⟨_, rfl, _, rfl, _, rfl, r, _, rfl, .inl ⟨SqL.of (s56 _ _ hr0), fun tl nt => ?_⟩⟩
    have s7 := s56.trans (Same.new (o := .tup ws) nt)
    refine ⟨b, tl, m, es, ws, gs, rfl, hB.same s7, l100, .inr upd_same, hG.same s7, g1000, fun l2 H8 dl2 s8 => ⟨_, rfl, _, _, bdD m es gs, rfl, dl2, Dp.same ((((Same.new nh).trans s6).trans (Same.new nt)).trans s8) hd4, okBD, k _ (s7.trans s8)⟩⟩

theorem ok_law (T : Txt K mg C_BadEnd C_BarbreaksError C_TooMany C_BadNumber C_Band C_Refused) : ∀ (f : Addr) (fd : FuncData), Fun K "law" "law" s_law f fd → FnOk P w K mg base CX0 10 f fd ["_law_script"] (spLaw K) := by
  intro f fd F
  have D_l_pool := ok_l_pool (P := P) (w := w) (base := base) T
  have D_l_take := ok_l_take (P := P) (w := w) (base := base) T
  have D_l_ends := ok_l_ends (P := P) (w := w) (base := base) T
  have D_l_cuts := ok_l_cuts (P := P) (w := w) (base := base) T
  have D_l_changed := ok_l_changed (P := P) (w := w) (base := base) T
  have D_l_free := ok_l_free (P := P) (w := w) (base := base) T
  have D_l_number := ok_l_number (P := P) (w := w) (base := base) T
  have D_l_kept := ok_l_kept (P := P) (w := w) (base := base) T
  have D_l_same := ok_l_same (P := P) (w := w) (base := base) T 1
  have D_Band := ok_Band_init (P := P) (w := w) (base := base) T
  refine F.ok sc_law (fun vs H Q E h => ?_) (fun cdv A outer s H vs Q E hr h => ?_)
  · obtain ⟨a, ns, rfl, _⟩ := h
    rfl
  · obtain ⟨a, ns, rfl, hS, hlen, k⟩ := h
    refine ⟨_, (pss_cons (ps_set (i := 1) sc_law.nd rfl (Or.inl rfl) (pe_d D_l_pool (hr.mono (by decide)) pass0 (by rfl) (pa_cons (pv 0) pa_nil)))
  (pss_cons (ps_set (i := 2) sc_law.nd rfl (Or.inl rfl) (pe_d D_l_take (hr.mono (by decide)) pass0 (by rfl) (pa_cons (pv 1) (pa_cons pe_int pa_nil))))
  (C8.pss_cut (ps_if (pt_cmpR op_eq (pe_d D_l_take (hr.mono (by decide)) pass0 (by rfl) (pa_cons (pv 1) (pa_cons pe_int pa_nil))) pe_int (nomark _))
  (pss_one (ps_set (i := 2) sc_law.nd rfl (Or.inl rfl) (pe_d D_l_take (hr.mono (by decide)) pass0 (by rfl) (pa_cons (pv 1) (pa_cons pe_int pa_nil)))))
  pss_nil)
  (pss_cons (ps_set (i := 3) sc_law.nd rfl (Or.inl rfl) (pe_d D_l_ends (hr.mono (by decide)) pass0 (by rfl) (pa_cons (pv 1) (pa_cons (pv 2) pa_nil))))
  (pss_cons (ps_set (i := 4) sc_law.nd rfl (Or.inl rfl) (pe_d D_l_ends (hr.mono (by decide)) pass0 (by rfl) (pa_cons (pv 1) (pa_cons (pe_d D_l_take (hr.mono (by decide)) pass0 (by rfl) (pa_cons (pv 1) (pa_cons pe_int pa_nil))) pa_nil))))
  (pss_cons (ps_set (i := 5) sc_law.nd rfl (Or.inl rfl) (pe_mkd D_Band (hr.mono (by decide)) passE (by rfl) (pa_cons (pe_callTy call_list_of (by rfl) T.b_list (by decide +kernel) (pa_cons (pv 3) pa_nil)) pa_nil)))
  (pss_cons (ps_set (i := 6) sc_law.nd rfl (Or.inl rfl) (pe_mkd D_Band (hr.mono (by decide)) passE (by rfl) (pa_cons (pe_callTy call_list_of (by rfl) T.b_list (by decide +kernel) (pa_cons (pv 4) pa_nil)) pa_nil)))
  (pss_cons (ps_set (i := 7) sc_law.nd rfl (Or.inl rfl) (pe_d D_l_cuts (hr.mono (by decide)) pass0 (by rfl) (pa_cons (pv 1) (pa_cons (pv 3) pa_nil))))
  (pss_cons (ps_set (i := 8) sc_law.nd rfl (Or.inl rfl) (pe_d D_l_changed (hr.mono (by decide)) pass0 (by rfl) (pa_cons (pv 1) (pa_cons (pv 2) (pa_cons (pv 7) pa_nil)))))
  (C8.pss_cut (ps_if (pt_cmpR op_eq (pe_d D_l_take (hr.mono (by decide)) pass0 (by rfl) (pa_cons (pv 1) (pa_cons pe_int pa_nil))) pe_int (nomark _))
  (pss_one (ps_set (i := 8) sc_law.nd rfl (Or.inl rfl) (pe_d D_l_free (hr.mono (by decide)) pass0 (by rfl) (pa_cons (pv 1) (pa_cons (pv 2) pa_nil)))))
  pss_nil)
  (pss_cons (ps_for PassesOwn.never rfl (pi_list (pe_lst (pa_cons (pe_d D_l_number (hr.mono (by decide)) pass0 (by rfl) (pa_cons (pv 1) pa_nil)) (pa_cons (pe_op op_add pe_int (pe_d D_l_take (hr.mono (by decide)) pass0 (by rfl) (pa_cons (pv 1) (pa_cons pe_int pa_nil)))) pa_nil)))) (pg_name (i := 9) sc_law.nd rfl (Or.inl rfl))
  (pss_cons (ps_if (PW.pt (pw_or (pt_not (pt_val (pe_d D_l_kept (hr.mono (by decide)) pass0 (by rfl) (pa_cons (pv 5) (pa_cons (pv 3) (pa_cons (pv 9) (pa_cons (pv 8) pa_nil))))))) (pw_or1 (pt_not (pt_val (pe_d D_l_kept (hr.mono (by decide)) pass0 (by rfl) (pa_cons (pv 6) (pa_cons (pv 4) (pa_cons (pv 9) (pa_cons (pv 8) pa_nil))))))))))
  (pss_one (ps_ret pe_bl))
  pss_nil)
  (pss_one (ps_if (PW.pt (pw_or (pt_not (pt_val (pe_d D_l_kept (hr.mono (by decide)) pass0 (by rfl) (pa_cons (pv 5) (pa_cons (pv 3) (pa_cons (pv 9) (pa_cons (pv 7) pa_nil))))))) (pw_or1 (pt_not (pt_val (pe_d D_l_kept (hr.mono (by decide)) pass0 (by rfl) (pa_cons (pv 5) (pa_cons (pv 3) (pa_cons (pe_callB (call_min2 rfl) (by rfl) T.b_min (by decide +kernel) (pa_cons pe_int (pa_cons (pe_callB call_abs (by rfl) T.b_abs (by decide +kernel) (pa_cons (pv 9) pa_nil)) pa_nil))) (pa_cons (pv 7) pa_nil))))))))))
  (pss_one (ps_ret pe_bl))
  pss_nil))))
  (pss_one (ps_ret (pe_and (pe_d D_l_same (hr.mono (by decide)) pass0 (by rfl) (pa_cons (pe_fld (pv 5) rfl) (pa_cons (pe_callTy call_tuple_of (by rfl) T.b_tuple (by decide +kernel) (pa_cons (pv 3) pa_nil)) pa_nil))) (pe_one (pe_d D_l_same (hr.mono (by decide)) pass0 (by rfl) (pa_cons (pe_fld (pv 6) rfl) (pa_cons (pe_callTy call_tuple_of (by rfl) T.b_tuple (by decide +kernel) (pa_cons (pv 4) pa_nil)) pa_nil)))))))))))))))))), ?_⟩
    refine ⟨_, rfl, a, ns, rfl, hS, hlen, fun p c H0 hp0 _ _ _ => ?_⟩
    refine ⟨_, rfl, p, c, ns, _, rfl, hp0, by decide, by decide +kernel, fun cnt H1 c0 c1 hp1 o1 => ?_⟩
    refine ⟨fun σ H' => ∃ n : Int, σ = [some (.ref a), some (.ref p), some (.int n), none, none, none, none, none, none, none] ∧ 0 ≤ n ∧ n ≤ 60 ∧ Pool ns c H' p, ?_, ?_⟩
    · refine ⟨_, rfl, p, c, ns, _, rfl, hp1, by decide, by decide +kernel, fun way H2 w0 w1 hp2 o2 => ⟨rfl, _, rfl, ite2 (fun q => ?_) (fun q => ⟨cnt, rfl, c0, by omega, hp2⟩)⟩⟩
      exact ⟨_, rfl, p, c, ns, _, rfl, hp2, by decide, by decide +kernel, fun r H3 r0 r1 hp3 o3 => ⟨r, rfl, r0, by omega, hp3⟩⟩
    rintro σ H4 ⟨n, rfl, n0, n60, hp4⟩
    refine ⟨_, rfl, _, rfl, p, c, ns, n, rfl, hp4, n0, by omega, fun el es H5 hes he5 ne4 hp5 b5 => ?_⟩
    have nep : el ≠ p := by
      obtain ⟨q, e, _⟩ := hp4.at_
      exact (ne_of_none e ne4).symm
    have hesl := hes.len
    refine ⟨_, rfl, _, rfl, p, c, ns, _, rfl, hp5, by decide, by decide +kernel, fun m H6 m0 m1 hp6 o6 => ⟨p, c, ns, m, rfl, hp6, m0, by omega, fun ol os H7 hos ho7 no6 hp7 b7 => ?_⟩⟩
    have nop : ol ≠ p := by
      obtain ⟨q, e, _⟩ := hp6.at_
      exact (ne_of_none e no6).symm
    have he7 := b7 _ _ ((o6 el nep).trans he5) nep
    have hosl := hos.len
    have fineE := hes.fine (by omega)
    have fineO := hos.fine (by omega)
    refine ⟨_, rfl, el, _, rfl, .inl (SqL.of he7), fun l1 n1 x1 d1 nx1 nd1 ne1 => ?_⟩
    refine ⟨x1, d1, l1, es, rfl, upd_same, .inl ((((Same.new nd1).trans (Same.new ((upd_ne ne1.symm).trans nx1))) _ _ upd_same)), by omega, fun _ t1 H8 hx1 ht1 b8 => ⟨rfl, ?_⟩, (fun z => by rw [fineE] at z; cases z), (fun i z => by rw [fineE] at z; cases z)⟩
    have s8 := (Same.new n1).trans (Same.inst nx1 nd1 b8)
    have hB : BandAt C_Band H8 x1 es := ⟨d1, t1, hx1, ht1⟩
    refine ⟨_, rfl, ol, _, rfl, .inl (SqL.of (s8 _ _ ho7)), fun l2 n2 x2 d2 nx2 nd2 ne2 => ?_⟩
    refine ⟨x2, d2, l2, os, rfl, upd_same, .inl ((((Same.new nd2).trans (Same.new ((upd_ne ne2.symm).trans nx2))) _ _ upd_same)), by omega, fun _ t2 H9 hx2 ht2 b9 => ⟨rfl, ?_⟩, (fun z => by rw [fineO] at z; cases z), (fun i z => by rw [fineO] at z; cases z)⟩
    have s9 := (Same.new n2).trans (Same.inst nx2 nd2 b9)
    have hT : BandAt C_Band H9 x2 os := ⟨d2, t2, hx2, ht2⟩
    have s89 := s8.trans s9
    have hB9 := hB.same s9
    have hp9 := hp7.same s89
    have he9 := s89 _ _ he7
    have ho9 := s89 _ _ ho7
    refine ⟨_, rfl, _, rfl, p, c, el, ns, es, n, rfl, hp9, he9, nep, hes, by omega, fun rl gs H10 hgl tm g100 nr9 hp10 b10 => ?_⟩
    have nrp : rl ≠ p := by
      obtain ⟨q, e, _⟩ := hp9.at_
      exact (ne_of_none e nr9).symm
    refine ⟨_, rfl, _, rfl, _, rfl, p, c, rl, ns, n, gs, rfl, hp10, hgl, nrp, tm, g100, fun gl gs1 H11 hgl1 g300 ng hp11 b11 => ?_⟩
    have ngp : gl ≠ p := by
      obtain ⟨q, e, _⟩ := hp10.at_
      exact (ne_of_none e ng).symm
    refine ⟨fun σ H' => ∃ (gl2 : Addr) (gs2 : List (Int × Int)), σ = [some (.ref a), some (.ref p), some (.int n), some (.ref el), some (.ref ol), some (.ref x1), some (.ref x2), some (.ref rl), some (.ref gl2), none] ∧ GLs H' gl2 gs2 ∧ gs2.length ≤ 300 ∧ gl2 ≠ p ∧ Pool ns c H' p ∧ But p H9 H' ∧ GLs H' rl gs, ?_, ?_⟩
    · refine ⟨_, rfl, p, c, ns, _, rfl, hp11, by decide, by decide +kernel, fun u H12 u0 u1 hp12 o12 => ?_⟩
      obtain ⟨pl11, hpl11, _⟩ := hp11.at_
      obtain ⟨pl10, hpl10, _⟩ := hp10.at_
      have hr12 := (hgl.but b11 hpl10 nrp).but (But.of_off o12) hpl11 nrp
      have b12 : But p H9 H12 := (b10.trans b11).trans (But.of_off o12)
      refine ⟨rfl, _, rfl, ite2 (fun q => ?_) (fun q => ⟨gl, gs1, rfl, hgl1.but (But.of_off o12) hpl11 ngp, g300, ngp, hp12, b12, hr12⟩)⟩
      refine ⟨_, rfl, _, rfl, p, c, ns, n, rfl, hp12, n0, by omega, fun fl gs3 H13 hgl3 g3 nf hp13 b13 => ?_⟩
      obtain ⟨pl12, hpl12, _⟩ := hp12.at_
      exact ⟨fl, gs3, rfl, hgl3, g3, (ne_of_none hpl12 nf).symm, hp13, b12.trans b13, hr12.but b13 hpl12 nrp⟩
    rintro σ H13 ⟨gl2, gs2, rfl, hg13, g2l, ng2, hp13, b13, hr13⟩
    obtain ⟨pl9, hpl9, _⟩ := hp9.at_
    refine ⟨_, rfl, p, c, ns, rfl, hp13, fun r H14 hp14 b14 => ?_⟩
    refine ⟨_, rfl, p, c, ns, _, rfl, hp14, by decide, by decide +kernel, fun t H15 t0 t1' hp15 o15 => ⟨_, _, rfl, rfl, (by show 2 ≤ sizeLine; decide), fun ml nm => ?_⟩⟩
    obtain ⟨pl13, hpl13, _⟩ := hp13.at_
    have b1315 : But p H13 H15 := b14.trans (But.of_off o15)
    have sm := Same.new (o := .lst [.int r, .int (1 + t)]) nm
    have b915 := b13.trans b1315
    have hB16 := (hB9.but b915 hpl9).same sm
    have hT16 := (hT.but b915 hpl9).same sm
    have he16 := sm _ _ (b915 _ _ he9 nep)
    have ho16 := sm _ _ (b915 _ _ ho9 nop)
    have hg16 := (hg13.but b1315 hpl13 ng2).same sm
    have hr16 := (hr13.but b1315 hpl13 nrp).same sm
    have hm16 : (L2.upd H15 ml (.lst [.int r, .int (1 + t)])) ml = some (.lst (iV [r, 1 + t])) := upd_same
    refine ⟨ml, rfl, ⟨_, SqL.of hm16⟩, for_list (K := K) (a := ml) (xs := iV [r, 1 + t]) (fun j σ H' => ∃ (x9 : Option V), σ = [some (.ref a), some (.ref p), some (.int n), some (.ref el), some (.ref ol), some (.ref x1), some (.ref x2), some (.ref rl), some (.ref gl2), x9] ∧ Same (L2.upd H15 ml (.lst [.int r, .int (1 + t)])) H') ⟨_, rfl, Same.refl _⟩ (fun i σ H' _ ⟨_, _, e⟩ => SqL.of (e _ _ hm16)) ?_ ?_⟩
    · rintro j x σ H17 hx ⟨x9, rfl, s17⟩
      obtain ⟨mv, _, rfl⟩ := ints_at hx
      refine ⟨_, rfl, _, rfl, _, rfl, _, rfl, x1, el, gl2, mv, es, gs2, rfl, hB16.same s17, s17 _ _ he16, by omega, hg16.same s17, by omega, fun H18 s18 => ⟨true, rfl, iteF ?_⟩⟩
      have s18' := s17.trans s18
      refine ⟨_, rfl, _, rfl, _, rfl, _, rfl, x2, ol, gl2, mv, os, gs2, rfl, hT16.same s18', s18' _ _ ho16, by omega, hg16.same s18', by omega, fun H19 s19 => ⟨true, rfl, iteF ?_⟩⟩
      have s19' := s18'.trans s19
      refine ⟨_, rfl, _, rfl, _, rfl, _, rfl, x1, el, rl, mv, es, gs, rfl, hB16.same s19', s19' _ _ he16, by omega, hr16.same s19', by omega, fun H20 s20 => ⟨true, rfl, iteF ?_⟩⟩
      have s20' := s19'.trans s20
      refine ⟨_, rfl, _, rfl, _, rfl, _, rfl, _, _, rfl, _, rfl, x1, el, rl, _, es, gs, rfl, hB16.same s20', s20' _ _ he16, by omega, hr16.same s20', by omega, fun H21 s21 => ⟨true, rfl, iteF ?_⟩⟩
      exact ⟨_, rfl, s20'.trans s21⟩
    rintro σ H17 ⟨x9, rfl, s17⟩
    obtain ⟨e1, u1, f1, f2⟩ := hB16.same s17
    obtain ⟨e2, u2, g1, g2⟩ := hT16.same s17
    have he17 := s17 _ _ he16
    have ho17 := s17 _ _ ho16
    refine ⟨_, rfl, x1, C_Band, _, _, _, rfl, f1, T.c_Band, T.n_Band_ends, look1, _, rfl, el, _, rfl, .inl ⟨SqL.of he17, fun v1 nv1 => ⟨_, _, .tuple (es.map PyData.int), rfl, .tup (SqT.of ((Same.new nv1) _ _ f2)) dpInts, .tup (SqT.of upd_same) dpInts, okD_mkT (by rw [List.length_map]; omega) okInts, true, rfl, iteT ?_⟩⟩⟩
    have sv := Same.new (o := .tup (iV es)) nv1
    exact ⟨_, rfl, x2, C_Band, _, _, _, rfl, sv _ _ g1, T.c_Band, T.n_Band_ends, look1, _, rfl, ol, _, rfl, .inl ⟨SqL.of (sv _ _ ho17), fun v2 nv2 => ⟨_, _, .tuple (os.map PyData.int), rfl, .tup (SqT.of ((Same.new nv2) _ _ (sv _ _ g2))) dpInts, .tup (SqT.of upd_same) dpInts, okD_mkT (by rw [List.length_map]; omega) okInts, k _⟩⟩⟩

end
theorem all_mk {l : PySem.W.OpenLaw} {w : World} {K : PySem.W.Frag} {h : Heap} {mg : Str → Option Value} {fa : Addr} (X : K.In h) (G : h.Ns mainGlobals mg) (hfa : mg "law" = some (.ref fa))
    {C_BadEnd : Addr} {C_BarbreaksError : Addr} {C_TooMany : Addr} {C_BadNumber : Addr} {C_Band : Addr} {C_Refused : Addr} {f1 : Addr} {od1 an1 : Option Addr} {sl1 : Array (Option Value)} {oc1 kV1 dc1 pm1 cd1 ct1 : Value} {nm1 qn1 : Str} {N1 : Addr} {bs1 sub1 : List Value} {sn1 : List Str} {ab1 : Bool} {col1 : Option Bool} {dd1 : Option Addr} {m01 m11 m21 m31 m51 : Option Value} {f4 : Addr} {od4 an4 : Option Addr} {sl4 : Array (Option Value)} {oc4 kV4 dc4 pm4 cd4 ct4 : Value} {nm4 qn4 : Str} {N4 : Addr} {bs4 sub4 : List Value} {sn4 : List Str} {ab4 : Bool} {col4 : Option Bool} {dd4 : Option Addr} {m04 m14 m24 m34 m54 : Option Value} {f8 : Addr} {od8 an8 : Option Addr} {sl8 : Array (Option Value)} {oc8 kV8 dc8 pm8 cd8 ct8 : Value} {nm8 qn8 : Str} {N8 : Addr} {bs8 sub8 : List Value} {sn8 : List Str} {ab8 : Bool} {col8 : Option Bool} {dd8 : Option Addr} {m08 m18 m28 m38 m58 : Option Value} {f11 : Addr} {od11 an11 : Option Addr} {sl11 : Array (Option Value)} {oc11 kV11 dc11 pm11 cd11 ct11 : Value} {f14 : Addr} {od14 an14 : Option Addr} {sl14 : Array (Option Value)} {oc14 kV14 dc14 pm14 cd14 ct14 : Value} {f16 : Addr} {od16 an16 : Option Addr} {sl16 : Array (Option Value)} {oc16 kV16 dc16 pm16 cd16 ct16 : Value} {f18 : Addr} {od18 an18 : Option Addr} {sl18 : Array (Option Value)} {oc18 kV18 dc18 pm18 cd18 ct18 : Value} {f21 : Addr} {od21 an21 : Option Addr} {sl21 : Array (Option Value)} {oc21 kV21 dc21 pm21 cd21 ct21 : Value} {u22 : Value} {f23 : Addr} {od23 an23 : Option Addr} {sl23 : Array (Option Value)} {oc23 kV23 dc23 pm23 cd23 ct23 : Value} {f24 : Addr} {od24 an24 : Option Addr} {sl24 : Array (Option Value)} {oc24 kV24 dc24 pm24 cd24 ct24 : Value} {f28 : Addr} {od28 an28 : Option Addr} {sl28 : Array (Option Value)} {oc28 kV28 dc28 pm28 cd28 ct28 : Value} {f30 : Addr} {od30 an30 : Option Addr} {sl30 : Array (Option Value)} {oc30 kV30 dc30 pm30 cd30 ct30 : Value} {f31 : Addr} {od31 an31 : Option Addr} {sl31 : Array (Option Value)} {oc31 kV31 dc31 pm31 cd31 ct31 : Value} {f34 : Addr} {od34 an34 : Option Addr} {sl34 : Array (Option Value)} {oc34 kV34 dc34 pm34 cd34 ct34 : Value} {f35 : Addr} {od35 an35 : Option Addr} {sl35 : Array (Option Value)} {oc35 kV35 dc35 pm35 cd35 ct35 : Value} {f36 : Addr} {od36 an36 : Option Addr} {sl36 : Array (Option Value)} {oc36 kV36 dc36 pm36 cd36 ct36 : Value} {f39 : Addr} {od39 an39 : Option Addr} {sl39 : Array (Option Value)} {oc39 kV39 dc39 pm39 cd39 ct39 : Value} {f40 : Addr} {od40 an40 : Option Addr} {sl40 : Array (Option Value)} {oc40 kV40 dc40 pm40 cd40 ct40 : Value} {f42 : Addr} {od42 an42 : Option Addr} {sl42 : Array (Option Value)} {oc42 kV42 dc42 pm42 cd42 ct42 : Value} {f43 : Addr} {od43 an43 : Option Addr} {sl43 : Array (Option Value)} {oc43 kV43 dc43 pm43 cd43 ct43 : Value} {f44 : Addr} {od44 an44 : Option Addr} {sl44 : Array (Option Value)} {oc44 kV44 dc44 pm44 cd44 ct44 : Value} {f45 : Addr} {od45 an45 : Option Addr} {sl45 : Array (Option Value)} {oc45 kV45 dc45 pm45 cd45 ct45 : Value} {f46 : Addr} {od46 an46 : Option Addr} {sl46 : Array (Option Value)} {oc46 kV46 dc46 pm46 cd46 ct46 : Value} {f47 : Addr} {od47 an47 : Option Addr} {sl47 : Array (Option Value)} {oc47 kV47 dc47 pm47 cd47 ct47 : Value} {f58 : Addr} {od58 an58 : Option Addr} {sl58 : Array (Option Value)} {oc58 kV58 dc58 pm58 cd58 ct58 : Value} {f60 : Addr} {od60 an60 : Option Addr} {sl60 : Array (Option Value)} {oc60 kV60 dc60 pm60 cd60 ct60 : Value}
    (g1 : PySem.W.nsIn K mainGlobals "BadEnd" = some (some (.ref C_BadEnd)))
    (x1 : K.lookup C_BadEnd = some (excClassObj nm1 qn1 C_BadEnd N1 bs1 [.ref C_BarbreaksError, .type "ValueError", .type "Exception", .type "BaseException", .type "object"] true sn1 sub1 ab1 col1 dd1 m01 m11 m21 m31 m51 "ValueError.__new__"))
    (sa1 : PySem.W.findIn K (.ref C_BadEnd) "__setattr__" = some (some (.builtin "object.__setattr__")))
    (eC1 : PySem.W.subIn K (.ref C_BadEnd) (.type "BaseException") = some true)
    (tC1 : PySem.W.typeIn K (.ref C_BadEnd) = some (.type "type"))
    (kC1 : PySem.W.keepIn K (.ref C_BadEnd) = true)
    (a1 : PySem.W.findIn K (.ref C_BadEnd) "__init__" = some (some (.ref f1)))
    (t1 : PySem.W.typeIn K (.ref f1) = some (.type "function"))
    (l1 : K.lookup f1 = some ⟨oc1, od1, .func (PySem.W.fnOf "__init__" "BadEnd.__init__" (defArgs s_BadEnd_init) (defBody s_BadEnd_init) (defScope s_BadEnd_init) .none kV1 dc1 pm1 an1 cd1 ct1), sl1⟩)
    (c1 : PySem.W.codeIn K cd1 "BadEnd.__init__" = true)
    (k1 : PySem.W.keepIn K (.ref f1) = true)
    (g2 : PySem.W.nsIn K mainGlobals "BadEnd" = some (some (.ref C_BadEnd)))
    (xn3 : PySem.W.findIn K (.ref C_BadEnd) "index" = some none)
    (g4 : PySem.W.nsIn K mainGlobals "TooMany" = some (some (.ref C_TooMany)))
    (x4 : K.lookup C_TooMany = some (excClassObj nm4 qn4 C_TooMany N4 bs4 [.ref C_BarbreaksError, .type "ValueError", .type "Exception", .type "BaseException", .type "object"] true sn4 sub4 ab4 col4 dd4 m04 m14 m24 m34 m54 "ValueError.__new__"))
    (sa4 : PySem.W.findIn K (.ref C_TooMany) "__setattr__" = some (some (.builtin "object.__setattr__")))
    (eC4 : PySem.W.subIn K (.ref C_TooMany) (.type "BaseException") = some true)
    (tC4 : PySem.W.typeIn K (.ref C_TooMany) = some (.type "type"))
    (kC4 : PySem.W.keepIn K (.ref C_TooMany) = true)
    (a4 : PySem.W.findIn K (.ref C_TooMany) "__init__" = some (some (.ref f4)))
    (t4 : PySem.W.typeIn K (.ref f4) = some (.type "function"))
    (l4 : K.lookup f4 = some ⟨oc4, od4, .func (PySem.W.fnOf "__init__" "TooMany.__init__" (defArgs s_TooMany_init) (defBody s_TooMany_init) (defScope s_TooMany_init) .none kV4 dc4 pm4 an4 cd4 ct4), sl4⟩)
    (c4 : PySem.W.codeIn K cd4 "TooMany.__init__" = true)
    (k4 : PySem.W.keepIn K (.ref f4) = true)
    (g5 : PySem.W.nsIn K mainGlobals "TooMany" = some (some (.ref C_TooMany)))
    (xn6 : PySem.W.findIn K (.ref C_TooMany) "what" = some none)
    (xn7 : PySem.W.findIn K (.ref C_TooMany) "most" = some none)
    (g8 : PySem.W.nsIn K mainGlobals "BadNumber" = some (some (.ref C_BadNumber)))
    (x8 : K.lookup C_BadNumber = some (excClassObj nm8 qn8 C_BadNumber N8 bs8 [.ref C_BarbreaksError, .type "ValueError", .type "Exception", .type "BaseException", .type "object"] true sn8 sub8 ab8 col8 dd8 m08 m18 m28 m38 m58 "ValueError.__new__"))
    (sa8 : PySem.W.findIn K (.ref C_BadNumber) "__setattr__" = some (some (.builtin "object.__setattr__")))
    (eC8 : PySem.W.subIn K (.ref C_BadNumber) (.type "BaseException") = some true)
    (tC8 : PySem.W.typeIn K (.ref C_BadNumber) = some (.type "type"))
    (kC8 : PySem.W.keepIn K (.ref C_BadNumber) = true)
    (a8 : PySem.W.findIn K (.ref C_BadNumber) "__init__" = some (some (.ref f8)))
    (t8 : PySem.W.typeIn K (.ref f8) = some (.type "function"))
    (l8 : K.lookup f8 = some ⟨oc8, od8, .func (PySem.W.fnOf "__init__" "BadNumber.__init__" (defArgs s_BadNumber_init) (defBody s_BadNumber_init) (defScope s_BadNumber_init) .none kV8 dc8 pm8 an8 cd8 ct8), sl8⟩)
    (c8 : PySem.W.codeIn K cd8 "BadNumber.__init__" = true)
    (k8 : PySem.W.keepIn K (.ref f8) = true)
    (g9 : PySem.W.nsIn K mainGlobals "BadNumber" = some (some (.ref C_BadNumber)))
    (xn10 : PySem.W.findIn K (.ref C_BadNumber) "number" = some none)
    (a11 : PySem.W.nsIn K mainGlobals "_law_take" = some (some (.ref f11)))
    (l11 : K.lookup f11 = some ⟨oc11, od11, .func (PySem.W.fnOf "_law_take" "_law_take" (defArgs s_l_take) (defBody s_l_take) (defScope s_l_take) .none kV11 dc11 pm11 an11 cd11 ct11), sl11⟩)
    (c11 : PySem.W.codeIn K cd11 "_law_take" = true)
    (k11 : PySem.W.keepIn K (.ref f11) = true)
    (z12 : PySem.W.nsIn K mainGlobals "int" = some none)
    (z13 : PySem.W.nsIn K mainGlobals "len" = some none)
    (a14 : PySem.W.nsIn K mainGlobals "_law_big" = some (some (.ref f14)))
    (l14 : K.lookup f14 = some ⟨oc14, od14, .func (PySem.W.fnOf "_law_big" "_law_big" (defArgs s_l_big) (defBody s_l_big) (defScope s_l_big) .none kV14 dc14 pm14 an14 cd14 ct14), sl14⟩)
    (c14 : PySem.W.codeIn K cd14 "_law_big" = true)
    (k14 : PySem.W.keepIn K (.ref f14) = true)
    (z15 : PySem.W.nsIn K mainGlobals "range" = some none)
    (a16 : PySem.W.nsIn K mainGlobals "_law_pool" = some (some (.ref f16)))
    (l16 : K.lookup f16 = some ⟨oc16, od16, .func (PySem.W.fnOf "_law_pool" "_law_pool" (defArgs s_l_pool) (defBody s_l_pool) (defScope s_l_pool) .none kV16 dc16 pm16 an16 cd16 ct16), sl16⟩)
    (c16 : PySem.W.codeIn K cd16 "_law_pool" = true)
    (k16 : PySem.W.keepIn K (.ref f16) = true)
    (z17 : PySem.W.nsIn K mainGlobals "list" = some none)
    (a18 : PySem.W.nsIn K mainGlobals "_law_is_int" = some (some (.ref f18)))
    (l18 : K.lookup f18 = some ⟨oc18, od18, .func (PySem.W.fnOf "_law_is_int" "_law_is_int" (defArgs s_l_is_int) (defBody s_l_is_int) (defScope s_l_is_int) .none kV18 dc18 pm18 an18 cd18 ct18), sl18⟩)
    (c18 : PySem.W.codeIn K cd18 "_law_is_int" = true)
    (k18 : PySem.W.keepIn K (.ref f18) = true)
    (z19 : PySem.W.nsIn K mainGlobals "isinstance" = some none)
    (z20 : PySem.W.nsIn K mainGlobals "bool" = some none)
    (a21 : PySem.W.nsIn K mainGlobals "check_things" = some (some (.ref f21)))
    (l21 : K.lookup f21 = some ⟨oc21, od21, .func (PySem.W.fnOf "check_things" "check_things" (defArgs s_check_things) (defBody s_check_things) (defScope s_check_things) .none kV21 dc21 pm21 an21 cd21 ct21), sl21⟩)
    (c21 : PySem.W.codeIn K cd21 "check_things" = true)
    (k21 : PySem.W.keepIn K (.ref f21) = true)
    (g22 : PySem.W.nsIn K mainGlobals "MOST_THINGS" = some (some u22))
    (r22 : RelV (.int 60) u22)
    (a23 : PySem.W.nsIn K mainGlobals "check_from_zero" = some (some (.ref f23)))
    (l23 : K.lookup f23 = some ⟨oc23, od23, .func (PySem.W.fnOf "check_from_zero" "check_from_zero" (defArgs s_check_from_zero) (defBody s_check_from_zero) (defScope s_check_from_zero) .none kV23 dc23 pm23 an23 cd23 ct23), sl23⟩)
    (c23 : PySem.W.codeIn K cd23 "check_from_zero" = true)
    (k23 : PySem.W.keepIn K (.ref f23) = true)
    (a24 : PySem.W.nsIn K mainGlobals "check_ends" = some (some (.ref f24)))
    (l24 : K.lookup f24 = some ⟨oc24, od24, .func (PySem.W.fnOf "check_ends" "check_ends" (defArgs s_check_ends) (defBody s_check_ends) (defScope s_check_ends) .none kV24 dc24 pm24 an24 cd24 ct24), sl24⟩)
    (c24 : PySem.W.codeIn K cd24 "check_ends" = true)
    (k24 : PySem.W.keepIn K (.ref f24) = true)
    (z25 : PySem.W.nsIn K mainGlobals "enumerate" = some none)
    (g26 : PySem.W.nsIn K mainGlobals "Band" = some (some (.ref C_Band)))
    (pg26 : PySem.W.plainGet K C_Band Str.empty = true)
    (hd26 : PySem.W.hasDictIn K C_Band = true)
    (po26 : PySem.W.plainOver K C_Band = true)
    (sa26 : PySem.W.findIn K (.ref C_Band) "__setattr__" = some (some (.builtin "object.__setattr__")))
    (n27 : PySem.W.findIn K (.ref C_Band) "ends" = some none)
    (mk28 : PySem.W.makesIn K C_Band = true)
    (a28 : PySem.W.findIn K (.ref C_Band) "__init__" = some (some (.ref f28)))
    (i28 : PySem.W.isFn K (.ref f28) = true)
    (kc28 : PySem.W.keepIn K (.ref C_Band) = true)
    (l28 : K.lookup f28 = some ⟨oc28, od28, .func (PySem.W.fnOf "__init__" "Band.__init__" (defArgs s_Band_init) (defBody s_Band_init) (defScope s_Band_init) .none kV28 dc28 pm28 an28 cd28 ct28), sl28⟩)
    (c28 : PySem.W.codeIn K cd28 "Band.__init__" = true)
    (k28 : PySem.W.keepIn K (.ref f28) = true)
    (z29 : PySem.W.nsIn K mainGlobals "tuple" = some none)
    (a30 : PySem.W.findIn K (.ref C_Band) "__len__" = some (some (.ref f30)))
    (i30 : PySem.W.isFn K (.ref f30) = true)
    (l30 : K.lookup f30 = some ⟨oc30, od30, .func (PySem.W.fnOf "__len__" "Band.__len__" (defArgs s_Band_len) (defBody s_Band_len) (defScope s_Band_len) .none kV30 dc30 pm30 an30 cd30 ct30), sl30⟩)
    (c30 : PySem.W.codeIn K cd30 "Band.__len__" = true)
    (k30 : PySem.W.keepIn K (.ref f30) = true)
    (a31 : PySem.W.findIn K (.ref C_Band) "near" = some (some (.ref f31)))
    (i31 : PySem.W.isFn K (.ref f31) = true)
    (l31 : K.lookup f31 = some ⟨oc31, od31, .func (PySem.W.fnOf "near" "Band.near" (defArgs s_Band_near) (defBody s_Band_near) (defScope s_Band_near) .none kV31 dc31 pm31 an31 cd31 ct31), sl31⟩)
    (c31 : PySem.W.codeIn K cd31 "Band.near" = true)
    (k31 : PySem.W.keepIn K (.ref f31) = true)
    (z32 : PySem.W.nsIn K mainGlobals "max" = some none)
    (z33 : PySem.W.nsIn K mainGlobals "min" = some none)
    (a34 : PySem.W.nsIn K mainGlobals "_law_ends" = some (some (.ref f34)))
    (l34 : K.lookup f34 = some ⟨oc34, od34, .func (PySem.W.fnOf "_law_ends" "_law_ends" (defArgs s_l_ends) (defBody s_l_ends) (defScope s_l_ends) .none kV34 dc34 pm34 an34 cd34 ct34), sl34⟩)
    (c34 : PySem.W.codeIn K cd34 "_law_ends" = true)
    (k34 : PySem.W.keepIn K (.ref f34) = true)
    (a35 : PySem.W.nsIn K mainGlobals "_law_number" = some (some (.ref f35)))
    (l35 : K.lookup f35 = some ⟨oc35, od35, .func (PySem.W.fnOf "_law_number" "_law_number" (defArgs s_l_number) (defBody s_l_number) (defScope s_l_number) .none kV35 dc35 pm35 an35 cd35 ct35), sl35⟩)
    (c35 : PySem.W.codeIn K cd35 "_law_number" = true)
    (k35 : PySem.W.keepIn K (.ref f35) = true)
    (a36 : PySem.W.nsIn K mainGlobals "_law_same" = some (some (.ref f36)))
    (l36 : K.lookup f36 = some ⟨oc36, od36, .func (PySem.W.fnOf "_law_same" "_law_same" (defArgs s_l_same) (defBody s_l_same) (defScope s_l_same) .none kV36 dc36 pm36 an36 cd36 ct36), sl36⟩)
    (c36 : PySem.W.codeIn K cd36 "_law_same" = true)
    (k36 : PySem.W.keepIn K (.ref f36) = true)
    (z37 : PySem.W.nsIn K mainGlobals "str" = some none)
    (z38 : PySem.W.nsIn K mainGlobals "dict" = some none)
    (a39 : PySem.W.nsIn K mainGlobals "is_cover" = some (some (.ref f39)))
    (l39 : K.lookup f39 = some ⟨oc39, od39, .func (PySem.W.fnOf "is_cover" "is_cover" (defArgs s_is_cover) (defBody s_is_cover) (defScope s_is_cover) .none kV39 dc39 pm39 an39 cd39 ct39), sl39⟩)
    (c39 : PySem.W.codeIn K cd39 "is_cover" = true)
    (k39 : PySem.W.keepIn K (.ref f39) = true)
    (a40 : PySem.W.nsIn K mainGlobals "cover_bound" = some (some (.ref f40)))
    (l40 : K.lookup f40 = some ⟨oc40, od40, .func (PySem.W.fnOf "cover_bound" "cover_bound" (defArgs s_cover_bound) (defBody s_cover_bound) (defScope s_cover_bound) .none kV40 dc40 pm40 an40 cd40 ct40), sl40⟩)
    (c40 : PySem.W.codeIn K cd40 "cover_bound" = true)
    (k40 : PySem.W.keepIn K (.ref f40) = true)
    (z41 : PySem.W.nsIn K mainGlobals "sum" = some none)
    (a42 : PySem.W.nsIn K mainGlobals "_law_bound" = some (some (.ref f42)))
    (l42 : K.lookup f42 = some ⟨oc42, od42, .func (PySem.W.fnOf "_law_bound" "_law_bound" (defArgs s_l_bound) (defBody s_l_bound) (defScope s_l_bound) .none kV42 dc42 pm42 an42 cd42 ct42), sl42⟩)
    (c42 : PySem.W.codeIn K cd42 "_law_bound" = true)
    (k42 : PySem.W.keepIn K (.ref f42) = true)
    (a43 : PySem.W.nsIn K mainGlobals "_law_cuts" = some (some (.ref f43)))
    (l43 : K.lookup f43 = some ⟨oc43, od43, .func (PySem.W.fnOf "_law_cuts" "_law_cuts" (defArgs s_l_cuts) (defBody s_l_cuts) (defScope s_l_cuts) .none kV43 dc43 pm43 an43 cd43 ct43), sl43⟩)
    (c43 : PySem.W.codeIn K cd43 "_law_cuts" = true)
    (k43 : PySem.W.keepIn K (.ref f43) = true)
    (a44 : PySem.W.nsIn K mainGlobals "_law_one_changed" = some (some (.ref f44)))
    (l44 : K.lookup f44 = some ⟨oc44, od44, .func (PySem.W.fnOf "_law_one_changed" "_law_one_changed" (defArgs s_l_one_changed) (defBody s_l_one_changed) (defScope s_l_one_changed) .none kV44 dc44 pm44 an44 cd44 ct44), sl44⟩)
    (c44 : PySem.W.codeIn K cd44 "_law_one_changed" = true)
    (k44 : PySem.W.keepIn K (.ref f44) = true)
    (a45 : PySem.W.nsIn K mainGlobals "_law_changed" = some (some (.ref f45)))
    (l45 : K.lookup f45 = some ⟨oc45, od45, .func (PySem.W.fnOf "_law_changed" "_law_changed" (defArgs s_l_changed) (defBody s_l_changed) (defScope s_l_changed) .none kV45 dc45 pm45 an45 cd45 ct45), sl45⟩)
    (c45 : PySem.W.codeIn K cd45 "_law_changed" = true)
    (k45 : PySem.W.keepIn K (.ref f45) = true)
    (a46 : PySem.W.nsIn K mainGlobals "_law_free" = some (some (.ref f46)))
    (l46 : K.lookup f46 = some ⟨oc46, od46, .func (PySem.W.fnOf "_law_free" "_law_free" (defArgs s_l_free) (defBody s_l_free) (defScope s_l_free) .none kV46 dc46 pm46 an46 cd46 ct46), sl46⟩)
    (c46 : PySem.W.codeIn K cd46 "_law_free" = true)
    (k46 : PySem.W.keepIn K (.ref f46) = true)
    (a47 : PySem.W.nsIn K mainGlobals "_law_bounded" = some (some (.ref f47)))
    (l47 : K.lookup f47 = some ⟨oc47, od47, .func (PySem.W.fnOf "_law_bounded" "_law_bounded" (defArgs s_l_bounded) (defBody s_l_bounded) (defScope s_l_bounded) .none kV47 dc47 pm47 an47 cd47 ct47), sl47⟩)
    (c47 : PySem.W.codeIn K cd47 "_law_bounded" = true)
    (k47 : PySem.W.keepIn K (.ref f47) = true)
    (z48 : PySem.W.nsIn K mainGlobals "ValueError" = some none)
    (g49 : PySem.W.nsIn K mainGlobals "BarbreaksError" = some (some (.ref C_BarbreaksError)))
    (g50 : PySem.W.nsIn K mainGlobals "Refused" = some (some (.ref C_Refused)))
    (hg51 : PySem.W.findIn K (.ref C_BadNumber) "__getattribute__" = some (some (.builtin "BaseException.__getattribute__")))
    (hk51 : PySem.W.findIn K (.ref C_BadNumber) "__getattr__" = some none)
    (hs51 : PySem.W.subIn K (.ref C_BadNumber) (.type "BaseException") = some true)
    (hd51 : PySem.W.hasDictIn K C_BadNumber = true)
    (ha51 : PySem.W.findIn K (.ref C_BadNumber) "__class__" = some (some (.builtin "object.__class__")))
    (hn51 : PySem.W.specialIn K (.builtin "object.__class__") "__get__" = some (some (.builtin "getset_descriptor.__get__")))
    (ht51 : PySem.W.takesIn K (.builtin "object.__class__") = some true)
    (hm51 : PySem.W.mroIn K C_BadNumber (.type "object") = some true)
    (xa52 : PySem.W.subIn K (.ref C_BadNumber) (.type "BaseException") = some true)
    (xb52 : PySem.W.hasDictIn K C_BadNumber = true)
    (xc52 : PySem.W.typeIn K (.ref C_BadNumber) = some (.type "type"))
    (xd52 : PySem.W.subIn K (.ref C_BadNumber) (.ref C_BadNumber) = some true)
    (ko53 : PySem.W.kitOne K (.ref C_BadNumber) (.ref C_BarbreaksError) = some true)
    (ko54 : PySem.W.kitOne K (.ref C_BadNumber) (.type "ValueError") = some true)
    (ko55 : PySem.W.kitOne K (.ref C_BadNumber) (.ref C_Refused) = some false)
    (ko56 : PySem.W.kitOne K (.ref C_BadNumber) (.ref C_TooMany) = some false)
    (ko57 : PySem.W.kitOne K (.ref C_BadNumber) (.ref C_BadEnd) = some false)
    (a58 : PySem.W.nsIn K mainGlobals "_law_kept" = some (some (.ref f58)))
    (l58 : K.lookup f58 = some ⟨oc58, od58, .func (PySem.W.fnOf "_law_kept" "_law_kept" (defArgs s_l_kept) (defBody s_l_kept) (defScope s_l_kept) .none kV58 dc58 pm58 an58 cd58 ct58), sl58⟩)
    (c58 : PySem.W.codeIn K cd58 "_law_kept" = true)
    (k58 : PySem.W.keepIn K (.ref f58) = true)
    (z59 : PySem.W.nsIn K mainGlobals "abs" = some none)
    (a60 : PySem.W.nsIn K mainGlobals "law" = some (some (.ref f60)))
    (l60 : K.lookup f60 = some ⟨oc60, od60, .func (PySem.W.fnOf "law" "law" (defArgs s_law) (defBody s_law) (defScope s_law) .none kV60 dc60 pm60 an60 cd60 ct60), sl60⟩)
    (c60 : PySem.W.codeIn K cd60 "law" = true)
    (k60 : PySem.W.keepIn K (.ref f60) = true)
    : ∃ fd : FuncData, (∀ (s : Shared) (v : Value), BindsTo s fd ⟨[v], []⟩ [("_law_script", v)]) ∧ ∀ base : Heap, K.In base → base.Ns mainGlobals mg → FnOk l.prog w K mg base CX0 10 fa fd ["_law_script"] (spLaw K) := by
  have T : Txt K mg C_BadEnd C_BarbreaksError C_TooMany C_BadNumber C_Band C_Refused :=
    ⟨⟨⟨⟨_, _, _, _, _, _, _, _, _, _, _, _, _, _, _, x1, by rfl⟩, sa1, eC1, tC1, kC1⟩, PySem.W.mg_of X G g1, f1, _, a1, t1, (fun_mk (st := s_BadEnd_init) l1 c1 k1).binds (ps := ["self", "index"]) fun _ _ _ _ _ _ us hl => match us, hl with | [_, _], _ => rfl, (fun_mk (st := s_BadEnd_init) l1 c1 k1)⟩,
     PySem.W.mg_of X G g2,
     xn3,
     ⟨⟨⟨_, _, _, _, _, _, _, _, _, _, _, _, _, _, _, x4, by rfl⟩, sa4, eC4, tC4, kC4⟩, PySem.W.mg_of X G g4, f4, _, a4, t4, (fun_mk (st := s_TooMany_init) l4 c4 k4).binds (ps := ["self", "what", "most"]) fun _ _ _ _ _ _ us hl => match us, hl with | [_, _, _], _ => rfl, (fun_mk (st := s_TooMany_init) l4 c4 k4)⟩,
     PySem.W.mg_of X G g5,
     xn6,
     xn7,
     ⟨⟨⟨_, _, _, _, _, _, _, _, _, _, _, _, _, _, _, x8, by rfl⟩, sa8, eC8, tC8, kC8⟩, PySem.W.mg_of X G g8, f8, _, a8, t8, (fun_mk (st := s_BadNumber_init) l8 c8 k8).binds (ps := ["self", "number"]) fun _ _ _ _ _ _ us hl => match us, hl with | [_, _], _ => rfl, (fun_mk (st := s_BadNumber_init) l8 c8 k8)⟩,
     PySem.W.mg_of X G g9,
     xn10,
     ⟨f11, _, PySem.W.mg_of X G a11, (fun_mk (st := s_l_take) l11 c11 k11), (fun_mk (st := s_l_take) l11 c11 k11).binds (ps := ["_law_pool_here", "_law_size"]) fun _ _ _ _ _ _ us hl => match us, hl with | [_, _], _ => rfl⟩,
     PySem.W.mg_none_of X G z12,
     PySem.W.mg_none_of X G z13,
     ⟨f14, _, PySem.W.mg_of X G a14, (fun_mk (st := s_l_big) l14 c14 k14), (fun_mk (st := s_l_big) l14 c14 k14).binds (ps := ["_law_pool_here"]) fun _ _ _ _ _ _ us hl => match us, hl with | [_], _ => rfl⟩,
     PySem.W.mg_none_of X G z15,
     ⟨f16, _, PySem.W.mg_of X G a16, (fun_mk (st := s_l_pool) l16 c16 k16), (fun_mk (st := s_l_pool) l16 c16 k16).binds (ps := ["_law_script"]) fun _ _ _ _ _ _ us hl => match us, hl with | [_], _ => rfl⟩,
     PySem.W.mg_none_of X G z17,
     ⟨f18, _, PySem.W.mg_of X G a18, (fun_mk (st := s_l_is_int) l18 c18 k18), (fun_mk (st := s_l_is_int) l18 c18 k18).binds (ps := ["_law_x"]) fun _ _ _ _ _ _ us hl => match us, hl with | [_], _ => rfl⟩,
     PySem.W.mg_none_of X G z19,
     PySem.W.mg_none_of X G z20,
     ⟨f21, _, PySem.W.mg_of X G a21, (fun_mk (st := s_check_things) l21 c21 k21), (fun_mk (st := s_check_things) l21 c21 k21).binds (ps := ["count"]) fun _ _ _ _ _ _ us hl => match us, hl with | [_], _ => rfl⟩,
     ⟨u22, PySem.W.mg_of X G g22, r22⟩,
     ⟨f23, _, PySem.W.mg_of X G a23, (fun_mk (st := s_check_from_zero) l23 c23 k23), (fun_mk (st := s_check_from_zero) l23 c23 k23).binds (ps := ["number", "most"]) fun _ _ _ _ _ _ us hl => match us, hl with | [_, _], _ => rfl⟩,
     ⟨f24, _, PySem.W.mg_of X G a24, (fun_mk (st := s_check_ends) l24 c24 k24), (fun_mk (st := s_check_ends) l24 c24 k24).binds (ps := ["ends"]) fun _ _ _ _ _ _ us hl => match us, hl with | [_], _ => rfl⟩,
     PySem.W.mg_none_of X G z25,
     PySem.W.mg_of X G g26,
     ⟨pg26, hd26, po26, sa26⟩,
     n27,
     ⟨f28, _, ⟨mk28, a28, i28, kc28⟩, (fun_mk (st := s_Band_init) l28 c28 k28), (fun_mk (st := s_Band_init) l28 c28 k28).binds (ps := ["self", "ends"]) fun _ _ _ _ _ _ us hl => match us, hl with | [_, _], _ => rfl⟩,
     PySem.W.mg_none_of X G z29,
     ⟨f30, _, ⟨a30, i30, k30⟩, (fun_mk (st := s_Band_len) l30 c30 k30), (fun_mk (st := s_Band_len) l30 c30 k30).binds (ps := ["self"]) fun _ _ _ _ _ _ us hl => match us, hl with | [_], _ => rfl⟩,
     ⟨f31, _, ⟨a31, i31, k31⟩, (fun_mk (st := s_Band_near) l31 c31 k31), (fun_mk (st := s_Band_near) l31 c31 k31).binds (ps := ["self", "i", "k"]) fun _ _ _ _ _ _ us hl => match us, hl with | [_, _, _], _ => rfl⟩,
     PySem.W.mg_none_of X G z32,
     PySem.W.mg_none_of X G z33,
     ⟨f34, _, PySem.W.mg_of X G a34, (fun_mk (st := s_l_ends) l34 c34 k34), (fun_mk (st := s_l_ends) l34 c34 k34).binds (ps := ["_law_pool_here", "_law_count"]) fun _ _ _ _ _ _ us hl => match us, hl with | [_, _], _ => rfl⟩,
     ⟨f35, _, PySem.W.mg_of X G a35, (fun_mk (st := s_l_number) l35 c35 k35), (fun_mk (st := s_l_number) l35 c35 k35).binds (ps := ["_law_pool_here"]) fun _ _ _ _ _ _ us hl => match us, hl with | [_], _ => rfl⟩,
     ⟨f36, _, PySem.W.mg_of X G a36, (fun_mk (st := s_l_same) l36 c36 k36), (fun_mk (st := s_l_same) l36 c36 k36).binds (ps := ["_law_got", "_law_due"]) fun _ _ _ _ _ _ us hl => match us, hl with | [_, _], _ => rfl⟩,
     PySem.W.mg_none_of X G z37,
     PySem.W.mg_none_of X G z38,
     ⟨f39, _, PySem.W.mg_of X G a39, (fun_mk (st := s_is_cover) l39 c39 k39), (fun_mk (st := s_is_cover) l39 c39 k39).binds (ps := ["band", "groups"]) fun _ _ _ _ _ _ us hl => match us, hl with | [_, _], _ => rfl⟩,
     ⟨f40, _, PySem.W.mg_of X G a40, (fun_mk (st := s_cover_bound) l40 c40 k40), (fun_mk (st := s_cover_bound) l40 c40 k40).binds (ps := ["band", "many", "groups"]) fun _ _ _ _ _ _ us hl => match us, hl with | [_, _, _], _ => rfl⟩,
     PySem.W.mg_none_of X G z41,
     ⟨f42, _, PySem.W.mg_of X G a42, (fun_mk (st := s_l_bound) l42 c42 k42), (fun_mk (st := s_l_bound) l42 c42 k42).binds (ps := ["_law_ends_here", "_law_many", "_law_groups"]) fun _ _ _ _ _ _ us hl => match us, hl with | [_, _, _], _ => rfl⟩,
     ⟨f43, _, PySem.W.mg_of X G a43, (fun_mk (st := s_l_cuts) l43 c43 k43), (fun_mk (st := s_l_cuts) l43 c43 k43).binds (ps := ["_law_pool_here", "_law_ends_here"]) fun _ _ _ _ _ _ us hl => match us, hl with | [_, _], _ => rfl⟩,
     ⟨f44, _, PySem.W.mg_of X G a44, (fun_mk (st := s_l_one_changed) l44 c44 k44), (fun_mk (st := s_l_one_changed) l44 c44 k44).binds (ps := ["_law_pool_here", "_law_count", "_law_group"]) fun _ _ _ _ _ _ us hl => match us, hl with | [_, _, _], _ => rfl⟩,
     ⟨f45, _, PySem.W.mg_of X G a45, (fun_mk (st := s_l_changed) l45 c45 k45), (fun_mk (st := s_l_changed) l45 c45 k45).binds (ps := ["_law_pool_here", "_law_count", "_law_groups"]) fun _ _ _ _ _ _ us hl => match us, hl with | [_, _, _], _ => rfl⟩,
     ⟨f46, _, PySem.W.mg_of X G a46, (fun_mk (st := s_l_free) l46 c46 k46), (fun_mk (st := s_l_free) l46 c46 k46).binds (ps := ["_law_pool_here", "_law_count"]) fun _ _ _ _ _ _ us hl => match us, hl with | [_, _], _ => rfl⟩,
     ⟨f47, _, PySem.W.mg_of X G a47, (fun_mk (st := s_l_bounded) l47 c47 k47), (fun_mk (st := s_l_bounded) l47 c47 k47).binds (ps := ["_law_band", "_law_many", "_law_groups"]) fun _ _ _ _ _ _ us hl => match us, hl with | [_, _, _], _ => rfl⟩,
     PySem.W.mg_none_of X G z48,
     PySem.W.mg_of X G g49,
     PySem.W.mg_of X G g50,
     ⟨hg51, hk51, hs51, hd51, ha51, hn51, ht51, hm51⟩,
     PySem.W.exm_ref xa52 xb52 xc52 xd52,
     ko53,
     ko54,
     ko55,
     ko56,
     ko57,
     ⟨f58, _, PySem.W.mg_of X G a58, (fun_mk (st := s_l_kept) l58 c58 k58), (fun_mk (st := s_l_kept) l58 c58 k58).binds (ps := ["_law_band", "_law_ends_here", "_law_many", "_law_groups"]) fun _ _ _ _ _ _ us hl => match us, hl with | [_, _, _, _], _ => rfl⟩,
     PySem.W.mg_none_of X G z59,
     ⟨f60, _, PySem.W.mg_of X G a60, (fun_mk (st := s_law) l60 c60 k60), (fun_mk (st := s_law) l60 c60 k60).binds (ps := ["_law_script"]) fun _ _ _ _ _ _ us hl => match us, hl with | [_], _ => rfl⟩⟩
  obtain ⟨f, fd, g, F, b⟩ := T.law
  obtain rfl : f = fa := Value.ref.inj (Option.some.inj (g.symm.trans hfa))
  refine ⟨fd, fun s v => ?_, fun base _ _ => (ok_law (P := l.prog) (w := w) (base := base) T) f fd F⟩
  obtain ⟨oc, od, kV, doc, pm, an, cdv, ct, osl, rfl, lk, hcd⟩ := F.ex
  exact .of_eq rfl
theorem walk {l : PySem.W.OpenLaw} {q : Program} {loose : List Str} {XP : (Str → Option Value) → Heap → Prop} {YP : World → Heap → Prop} {d : DefRec} {K : Params → PySem.W.Frag} (hn : l.most = some 63) (hdf : d.params.defaults = [])
    (hY : ∀ (w : World) (h : Heap), YP w h → (K w.params).In h)
    (F : ∀ (w : World) (mg : Str → Option Value) (fa : Addr) (h : Heap), (K w.params).In h → h.Ns mainGlobals mg → mg d.name = some (.ref fa) →
      ∃ fd : FuncData, (∀ (s : Shared) (u : Value), BindsTo s fd ⟨[u], []⟩ [("_law_script", u)]) ∧ ∀ base : Heap, (K w.params).In base → base.Ns mainGlobals mg → FnOk l.prog w (K w.params) mg base CX0 10 fa fd ["_law_script"] (spLaw (K w.params))) :
    PySem.W.WalkO q loose XP YP l.row.toRowW d [] (fun f vs => PySem.call f vs) :=
  L2.walk_of (n := 63) (k := 10) (x := "_law_script") (CX := fun _ => CX0) (sp := fun w => spLaw (K w.params)) hn (by decide) hdf ⟨rfl, by decide, by decide⟩ hY F (fun _ _ a ns hl _ hS => ⟨a, ns, rfl, hS, hl, fun _ => rfl⟩) fun _ _ _ _ _ z => z
end Brk.K45
open PySem PySem.W PyProof.Rows in
set_option maxRecDepth 100000 in
set_option maxHeartbeats 0 in
theorem PySem.Challenge.cw_barbreaks_k45_cover_bounds_holds : PySem.Challenge.rw_barbreaks_k45_cover_bounds.Holds := by
  w_on; o_law; k_head; (case hw => w_witness2)
  k_fill
  refine Brk.K45.walk (l := PySem.Challenge.rw_barbreaks_k45_cover_bounds) rfl rfl (fun w h Y => PySem.W.kIn_of Y) ?F
  case F =>
    intro w mg fa h KX G hmg
    refine' Brk.K45.all_mk KX G hmg ?g1 ?x1 ?sa1 ?eC1 ?tC1 ?kC1 ?a1 ?t1 ?l1 ?c1 ?k1 ?g2 ?xn3 ?g4 ?x4 ?sa4 ?eC4 ?tC4 ?kC4 ?a4 ?t4 ?l4 ?c4 ?k4 ?g5 ?xn6 ?xn7 ?g8 ?x8 ?sa8 ?eC8 ?tC8 ?kC8 ?a8 ?t8 ?l8 ?c8 ?k8 ?g9 ?xn10 ?a11 ?l11 ?c11 ?k11 ?z12 ?z13 ?a14 ?l14 ?c14 ?k14 ?z15 ?a16 ?l16 ?c16 ?k16 ?z17 ?a18 ?l18 ?c18 ?k18 ?z19 ?z20 ?a21 ?l21 ?c21 ?k21 ?g22 ?r22 ?a23 ?l23 ?c23 ?k23 ?a24 ?l24 ?c24 ?k24 ?z25 ?g26 ?pg26 ?hd26 ?po26 ?sa26 ?n27 ?mk28 ?a28 ?i28 ?kc28 ?l28 ?c28 ?k28 ?z29 ?a30 ?i30 ?l30 ?c30 ?k30 ?a31 ?i31 ?l31 ?c31 ?k31 ?z32 ?z33 ?a34 ?l34 ?c34 ?k34 ?a35 ?l35 ?c35 ?k35 ?a36 ?l36 ?c36 ?k36 ?z37 ?z38 ?a39 ?l39 ?c39 ?k39 ?a40 ?l40 ?c40 ?k40 ?z41 ?a42 ?l42 ?c42 ?k42 ?a43 ?l43 ?c43 ?k43 ?a44 ?l44 ?c44 ?k44 ?a45 ?l45 ?c45 ?k45 ?a46 ?l46 ?c46 ?k46 ?a47 ?l47 ?c47 ?k47 ?z48 ?g49 ?g50 ?hg51 ?hk51 ?hs51 ?hd51 ?ha51 ?hn51 ?ht51 ?hm51 ?xa52 ?xb52 ?xc52 ?xd52 ?ko53 ?ko54 ?ko55 ?ko56 ?ko57 ?a58 ?l58 ?c58 ?k58 ?z59 ?a60 ?l60 ?c60 ?k60
    (case g1 => k_is)
    (case x1 => k_is)
    (case sa1 => k_is)
    (case eC1 => k_is)
    (case tC1 => k_is)
    (case kC1 => k_is)
    (case a1 => k_is)
    (case t1 => k_is)
    (case l1 => k_is)
    (case c1 => k_is)
    (case k1 => k_is)
    (case g2 => k_is)
    (case xn3 => k_is)
    (case g4 => k_is)
    (case x4 => k_is)
    (case sa4 => k_is)
    (case eC4 => k_is)
    (case tC4 => k_is)
    (case kC4 => k_is)
    (case a4 => k_is)
    (case t4 => k_is)
    (case l4 => k_is)
    (case c4 => k_is)
    (case k4 => k_is)
    (case g5 => k_is)
    (case xn6 => k_is)
    (case xn7 => k_is)
    (case g8 => k_is)
    (case x8 => k_is)
    (case sa8 => k_is)
    (case eC8 => k_is)
    (case tC8 => k_is)
    (case kC8 => k_is)
    (case a8 => k_is)
    (case t8 => k_is)
    (case l8 => k_is)
    (case c8 => k_is)
    (case k8 => k_is)
    (case g9 => k_is)
    (case xn10 => k_is)
    (case a11 => k_is)
    (case l11 => k_is)
    (case c11 => k_is)
    (case k11 => k_is)
    (case z12 => k_is)
    (case z13 => k_is)
    (case a14 => k_is)
    (case l14 => k_is)
    (case c14 => k_is)
    (case k14 => k_is)
    (case z15 => k_is)
    (case a16 => k_is)
    (case l16 => k_is)
    (case c16 => k_is)
    (case k16 => k_is)
    (case z17 => k_is)
    (case a18 => k_is)
    (case l18 => k_is)
    (case c18 => k_is)
    (case k18 => k_is)
    (case z19 => k_is)
    (case z20 => k_is)
    (case a21 => k_is)
    (case l21 => k_is)
    (case c21 => k_is)
    (case k21 => k_is)
    (case g22 => k_is)
    (case r22 => exact ⟨_, rfl⟩)
    (case a23 => k_is)
    (case l23 => k_is)
    (case c23 => k_is)
    (case k23 => k_is)
    (case a24 => k_is)
    (case l24 => k_is)
    (case c24 => k_is)
    (case k24 => k_is)
    (case z25 => k_is)
    (case g26 => k_is)
    (case pg26 => k_is)
    (case hd26 => k_is)
    (case po26 => k_is)
    (case sa26 => k_is)
    (case n27 => k_is)
    (case mk28 => k_is)
    (case a28 => k_is)
    (case i28 => k_is)
    (case kc28 => k_is)
    (case l28 => k_is)
    (case c28 => k_is)
    (case k28 => k_is)
    (case z29 => k_is)
    (case a30 => k_is)
    (case i30 => k_is)
    (case l30 => k_is)
    (case c30 => k_is)
    (case k30 => k_is)
    (case a31 => k_is)
    (case i31 => k_is)
    (case l31 => k_is)
    (case c31 => k_is)
    (case k31 => k_is)
    (case z32 => k_is)
    (case z33 => k_is)
    (case a34 => k_is)
    (case l34 => k_is)
    (case c34 => k_is)
    (case k34 => k_is)
    (case a35 => k_is)
    (case l35 => k_is)
    (case c35 => k_is)
    (case k35 => k_is)
    (case a36 => k_is)
    (case l36 => k_is)
    (case c36 => k_is)
    (case k36 => k_is)
    (case z37 => k_is)
    (case z38 => k_is)
    (case a39 => k_is)
    (case l39 => k_is)
    (case c39 => k_is)
    (case k39 => k_is)
    (case a40 => k_is)
    (case l40 => k_is)
    (case c40 => k_is)
    (case k40 => k_is)
    (case z41 => k_is)
    (case a42 => k_is)
    (case l42 => k_is)
    (case c42 => k_is)
    (case k42 => k_is)
    (case a43 => k_is)
    (case l43 => k_is)
    (case c43 => k_is)
    (case k43 => k_is)
    (case a44 => k_is)
    (case l44 => k_is)
    (case c44 => k_is)
    (case k44 => k_is)
    (case a45 => k_is)
    (case l45 => k_is)
    (case c45 => k_is)
    (case k45 => k_is)
    (case a46 => k_is)
    (case l46 => k_is)
    (case c46 => k_is)
    (case k46 => k_is)
    (case a47 => k_is)
    (case l47 => k_is)
    (case c47 => k_is)
    (case k47 => k_is)
    (case z48 => k_is)
    (case g49 => k_is)
    (case g50 => k_is)
    (case hg51 => k_is)
    (case hk51 => k_is)
    (case hs51 => k_is)
    (case hd51 => k_is)
    (case ha51 => k_is)
    (case hn51 => k_is)
    (case ht51 => k_is)
    (case hm51 => k_is)
    (case xa52 => k_is)
    (case xb52 => k_is)
    (case xc52 => k_is)
    (case xd52 => (first | k_is | rfl))
    (case ko53 => kit_is)
    (case ko54 => kit_is)
    (case ko55 => kit_is)
    (case ko56 => kit_is)
    (case ko57 => kit_is)
    (case a58 => k_is)
    (case l58 => k_is)
    (case c58 => k_is)
    (case k58 => k_is)
    (case z59 => k_is)
    (case a60 => k_is)
    (case l60 => k_is)
    (case c60 => k_is)
    (case k60 => k_is)
#print axioms PySem.Challenge.cw_barbreaks_k45_cover_bounds_holds
