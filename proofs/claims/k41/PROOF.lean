import PyProof.Rows.All
import Wide.All
import OpenK.AllK
import Wide.FinOn
import HandS.ForMost
import HandS.Wide
import HandS.IsInst
import HandS.Codes
import HandS.ClsMeth
import HandS.Defaults
import HandS.MakeKw
import HandS.MakeKwOnly
import HandS.Property
import HandS.WordsExc
import HandS.Exc
import HandS.ExcInit
import HandS.ExcIs
import HandS.ExcField
import KE.KExcIs
import HandS.Small
import HandS.StrMore
import HandS.Walk
import HandS.Iter
import KE.DataEq
import OpenK.KOps
import OpenK.KMeth
import HandS.TryOnly
import HandS.Conv
import HandS.ExcOwn
import KE.GoesEnum
import HandS.SortKw
import KE.DatumOrd
import PyProof.LongRange
import HandS.TupAny
import KE.KRevSl
import HandS.SortInts
import PySem.Challenge.RW_barbreaks_k41_band_parts
set_option Elab.async false
set_option linter.all false
set_option maxRecDepth 100000
/-! Own words over the hand layer: a def of the module with its promise, in one Prop. -/
namespace Brk
open PySem L2

/-- the module's name x holds a def that keeps the promise sp by at most level k -/
def Dk (P : Program) (w : World) (K : PySem.W.Frag) (mg : Str → Option Value) (base : Heap) (CX : CXT) (k : Nat) (x : Str) (ps : List Str) (sp : Sp) : Prop :=
  ∃ (f : Addr) (fd : FuncData), mg x = some (.ref f) ∧ PySem.W.keepIn K (.ref f) = true ∧ Binds K fd ps [] ∧ FnOk P w K mg base CX k f fd ps sp
/-- the module's name x holds the def whose text is st -/
def Df (K : PySem.W.Frag) (mg : Str → Option Value) (x : Str) (st : Stmt) (ps : List Str) : Prop :=
  ∃ (f : Addr) (fd : FuncData), mg x = some (.ref f) ∧ Fun K x x st f fd ∧ Binds K fd ps []
section
variable {X : Cx} {CX : CXT} {k : Nat} {ps : List Str} {sp : Sp} {E : XK} {x : Str} {p pos : Pos} {e : Expr} {es : List Expr} {t : TA}
theorem pe_d (D : Dk X.prog X.w X.K X.mg X.base CX k x ps sp) (hr : Room k X.A) (hx : Passes CX X E) (hg : Gl X x) (ha : PA X (e :: es) t)
    (hdb : (x == ("__debug__" : Str)) = false := by decide) (he : starEach (e :: es) X.env = (false, eval e X.env) :: starEach es X.env := by rfl) (hpl : (backTo pos (starEach es X.env)).any (·.1) = false := by rfl) :
    PE X (.Call (.Name x p) (e :: es) [] pos) (tCall sp [] E t) := by
  obtain ⟨f, fd, hm, hk, hb, F⟩ := D
  exact pe_call F hr hg hm hk hb .nil hx ha hdb he hpl
end
theorem Dk.mono {P : Program} {w : World} {K : PySem.W.Frag} {mg : Str → Option Value} {base : Heap} {CX : CXT} {k : Nat} {x : Str} {ps : List Str} {sp sp' : Sp} (D : Dk P w K mg base CX k x ps sp)
    (h : ∀ f fd, FnOk P w K mg base CX k f fd ps sp → FnOk P w K mg base CX k f fd ps sp') : Dk P w K mg base CX k x ps sp' := by
  obtain ⟨f, fd, a, b, c, F⟩ := D
  exact ⟨f, fd, a, b, c, h f fd F⟩

theorem bl_t {p : Prop} [Decidable p] (h : p) : V.bl (decide p) = V.bl true := by rw [decide_eq_true h]
theorem bl_f {p : Prop} [Decidable p] (h : ¬ p) : V.bl (decide p) = V.bl false := by rw [decide_eq_false h]
theorem pos_m7 : (0 : Int) < 2147483647 := by decide
theorem pos_m9 : (0 : Int) < 2147483399 := by decide
/-! ### heaps -/
/-- only what stands at p may have changed -/
def Off (p : Addr) (H H' : Hp) : Prop := ∀ b, b ≠ p → H' b = H b
theorem Off.refl {p : Addr} {H : Hp} : Off p H H := fun _ _ => rfl
theorem Off.trans {p : Addr} {H H1 H2 : Hp} (a : Off p H H1) (b : Off p H1 H2) : Off p H H2 := fun c hc => (b c hc).trans (a c hc)
theorem Off.upd {p : Addr} {H : Hp} {o : HO} : Off p H (upd H p o) := fun _ hb => upd_ne hb

/-! ### the script's pool: a list of four ints and the list of the script's numbers -/
def PL (c : Addr) (l : List V) : Prop := ∃ z i t d : Int, 0 ≤ i ∧ l = [.int z, .int i, .int t, .int d, .ref c]
structure Pool (ns : List Int) (c : Addr) (H : Hp) (p : Addr) : Prop where
  at_ : ∃ l, H p = some (.lst l) ∧ PL c l
  cells : H c = some (.lst (ns.map V.int))
theorem Pool.off {ns : List Int} {c : Addr} {H H' : Hp} {p q : Addr} (h : Pool ns c H p) (o : Off q H H') (h1 : p ≠ q) (h2 : c ≠ q) : Pool ns c H' p := by
  obtain ⟨⟨l, a, b⟩, d⟩ := h
  exact ⟨⟨l, (o p h1).trans a, b⟩, (o c h2).trans d⟩
theorem Pool.ne {ns : List Int} {c : Addr} {H : Hp} {p : Addr} (h : Pool ns c H p) : c ≠ p := by
  obtain ⟨⟨l, a, z, i, t, d, _, rfl⟩, b⟩ := h
  intro e
  rw [e, a] at b
  have q := HO.lst.inj (Option.some.inj b)
  have m : V.ref c ∈ ns.map V.int := by rw [← q]; simp
  simp at m
theorem Pool.same {ns : List Int} {c : Addr} {H H' : Hp} {p : Addr} (h : Pool ns c H p) (s : Same H H') : Pool ns c H' p := by
  obtain ⟨⟨l, a, b⟩, d⟩ := h
  exact ⟨⟨l, s _ _ a, b⟩, s _ _ d⟩
theorem Pool.upd {ns : List Int} {c : Addr} {H : Hp} {p : Addr} {l : List V} (h : Pool ns c H p) (hl : PL c l) : Pool ns c (L2.upd H p (.lst l)) p :=
  ⟨⟨l, upd_same, hl⟩, (upd_ne h.ne).trans h.cells⟩
theorem ints_at {ns : List Int} {i : Nat} {y : V} (h : (ns.map V.int)[i]? = some y) : ∃ z, ns[i]? = some z ∧ y = V.int z := by
  rw [List.getElem?_map] at h
  cases e : ns[i]? with
  | none => rw [e] at h; cases h
  | some z => rw [e] at h; exact ⟨z, rfl, (Option.some.inj h).symm⟩
theorem atI_ge {α : Type} {xs : List α} {i : Int} {v : α} (h0 : 0 ≤ i) (h : xs[i.toNat]? = some v) : atI xs i = some v := by
  have e : i = (i.toNat : Int) := by omega
  rw [e]
  exact atI_nat h

/-! ### promises of the drawing helpers -/
/-- a draw: the pool at p is asked; the answer is good; nothing but the pool's own list is another -/
def spTake : Sp := fun vs H Q _ => ∃ (p c : Addr) (ns : List Int) (n : Int), vs = [.ref p, .int n] ∧ Pool ns c H p ∧ 0 < n ∧ n.natAbs.log2 < 9000 ∧
  ∀ (r : Int) (H' : Hp), 0 ≤ r → r < n → Pool ns c H' p → Off p H H' → Q (.int r) H'
def spBig : Sp := fun vs H Q _ => ∃ (p c : Addr) (ns : List Int), vs = [.ref p] ∧ Pool ns c H p ∧
  ∀ (r : Int) (H' : Hp), 0 ≤ r → r < 10 ^ 27 → Pool ns c H' p → Off p H H' → Q (.int r) H'
/-- a draw by the pool alone; by the pool and a number -/
def spDraw (G : Int → Prop) : Sp := fun vs H Q _ => ∃ (p c : Addr) (ns : List Int), vs = [.ref p] ∧ Pool ns c H p ∧ ∀ (r : Int) (H' : Hp), G r → Pool ns c H' p → Off p H H' → Q (.int r) H'
def spDraw2 (A : Int → Prop) (G : Int → Int → Prop) : Sp := fun vs H Q _ => ∃ (p c : Addr) (ns : List Int) (s : Int), vs = [.ref p, .int s] ∧ Pool ns c H p ∧ A s ∧ ∀ (r : Int) (H' : Hp), G s r → Pool ns c H' p → Off p H H' → Q (.int r) H'
def GFree (r : Int) : Prop := -10 ^ 27 < r ∧ r < 10 ^ 27
def GStep (r : Int) : Prop := 1 ≤ r ∧ r ≤ 10 ^ 27
theorem log2_27 {n : Int} (h : 1 ≤ n) (h2 : n ≤ 10 ^ 27) : n.natAbs.log2 < 9000 := by
  have e : n.natAbs ≠ 0 := by omega
  refine (Nat.log2_lt e).mpr (Nat.lt_of_lt_of_le (m := 2 ^ 90) (by omega) (Nat.pow_le_pow_right (by decide) (by decide)))
/-- isinstance(x, int) and (not isinstance(x, bool)) -/
def spIsInt (K : PySem.W.Frag) : Sp := fun vs H Q _ => ∃ (x : V) (t : Value) (b1 b2 : Bool), vs = [x] ∧ TyX K H x t ∧ PySem.W.kitOne K t (.type "int") = some b1 ∧ PySem.W.kitOne K t (.type "bool") = some b2 ∧ Q (.bl (b1 && !b2)) H
theorem kInt {K : PySem.W.Frag} : PySem.W.kitOne K (.type "int") (.type "int") = some true := kit_ty (by decide +kernel)
theorem kIntB {K : PySem.W.Frag} : PySem.W.kitOne K (.type "int") (.type "bool") = some false := kit_ty (by decide +kernel)
theorem isInt_int {K : PySem.W.Frag} {H : Hp} {Q : VK} {E : XK} {i : Int} (h : Q (.bl true) H) : spIsInt K [.int i] H Q E := ⟨.int i, _, true, false, rfl, .base (.int i), kit_ty (by decide +kernel), kit_ty (by decide +kernel), h⟩
def spPool (K : PySem.W.Frag) : Sp := fun vs H Q _ => ∃ (a : Addr) (ns : List Int), vs = [.ref a] ∧ SqL K H a (ns.map V.int) ∧ ns.length ≤ 63 ∧
  ∀ (p c : Addr) (H' : Hp), Pool ns c H' p → H p = none → H c = none → Same H H' → Q (.ref p) H'

/-! ### classes: methods, makers, defs read off a class -/
/-- the class at C has the method m, a def whose text is st -/
def Mf (K : PySem.W.Frag) (C : Addr) (m qual : Str) (st : Stmt) (ps : List Str) : Prop := ∃ (f : Addr) (fd : FuncData), Meth K C m f ∧ Fun K m qual st f fd ∧ Binds K fd ps []
/-- .. and it keeps the promise sp -/
def Me (P : Program) (w : World) (K : PySem.W.Frag) (mg : Str → Option Value) (base : Heap) (CX : CXT) (k : Nat) (C : Addr) (m : Str) (ps : List Str) (sp : Sp) : Prop :=
  ∃ (f : Addr) (fd : FuncData), Meth K C m f ∧ Binds K fd ps [] ∧ FnOk P w K mg base CX k f fd ps sp
/-- the class of the name x, at C, is made by an __init__ that keeps sp, its last parameters filled by dvs -/
def MkD (P : Program) (w : World) (K : PySem.W.Frag) (mg : Str → Option Value) (base : Heap) (CX : CXT) (k : Nat) (x : Str) (C : Addr) (ps : List Str) (dvs : List V) (sp : Sp) : Prop :=
  ∃ (f : Addr) (fd : FuncData) (ds : List Value), mg x = some (.ref C) ∧ Mk K C f ∧ Binds K fd ps ds ∧ Vals dvs ds ∧ FnOk P w K mg base CX k f fd ps sp
section
variable {X : Cx} {CX : CXT} {k : Nat} {ps : List Str} {sp : Sp} {dvs : List V} {E : XK} {x m : Str} {C : Addr} {p pos apos : Pos} {o e : Expr} {es : List Expr} {ta : TE} {t : TA}
theorem pe_me {pl : Sem Bool} (M : Me X.prog X.w X.K X.mg X.base CX k C m ps sp) (c : Cls X.K C) (hr : Room k X.A) (hx : Passes CX X E) (he : PE X o ta) (ha : PA X (e :: es) t)
    (hst : starEach (e :: es) X.env = (false, eval e X.env) :: starEach es X.env := by rfl) (hpl : (backTo pos (starEach es X.env)).any (·.1) = false := by rfl)
    (ht : eval (.Call (.Attribute o m apos) (e :: es) [] pos) X.env = (do
      let ov ← eval o X.env
      standAt apos.atName
      let (f, first) ← holding [ov] (getMethod ov m pl)
      callWith pos f first (backTo pos (starEach (e :: es) X.env)) (backToKw pos (keywordEach [] X.env))) := by rfl) :
    PE X (.Call (.Attribute o m apos) (e :: es) [] pos) (tMeth C m sp [] E ta t) := by
  obtain ⟨f, fd, hm, hb, F⟩ := M
  exact pe_meth (pl := pl) he c hm F hr hb .nil hx ha hst hpl ht
theorem pe_mkd (M : MkD X.prog X.w X.K X.mg X.base CX k x C ps dvs sp) (hr : Room (k + 1) X.A) (hx : Passes CX X E) (hg : Gl X x) (ha : PA X (e :: es) t)
    (hdb : (x == ("__debug__" : Str)) = false := by decide) (he : starEach (e :: es) X.env = (false, eval e X.env) :: starEach es X.env := by rfl) (hpl : (backTo pos (starEach es X.env)).any (·.1) = false := by rfl) :
    PE X (.Call (.Name x p) (e :: es) [] pos) (tMake C sp dvs E t) := by
  obtain ⟨f, fd, ds, hm, M, hb, hd, F⟩ := M
  exact pe_make M F hr hg hm hb hd hx ha hdb he hpl
/-- C.m(e, ..), m a plain def of the class at C -/
theorem pe_cfn {mc : Value} {f : Addr} {fd : FuncData} {pl : Sem Bool} (he : PE X o ta) (r : ClX.CRead X.K C mc) (ca : PySem.W.findCls X.K (.ref C) mc m = some (.val (.ref f))) (hk : PySem.W.keepIn X.K (.ref f) = true) (hb : Binds X.K fd ps [])
    (F : FnOk X.prog X.w X.K X.mg X.base CX k f fd ps sp) (hr : Room k X.A) (hx : Passes CX X E) (ha : PA X (e :: es) t)
    (hst : starEach (e :: es) X.env = (false, eval e X.env) :: starEach es X.env := by rfl) (hpl : (backTo pos (starEach es X.env)).any (·.1) = false := by rfl)
    (ht : eval (.Call (.Attribute o m apos) (e :: es) [] pos) X.env = (do
      let ov ← eval o X.env
      standAt apos.atName
      let (f, first) ← holding [ov] (getMethod ov m pl)
      callWith pos f first (backTo pos (starEach (e :: es) X.env)) (backToKw pos (keywordEach [] X.env))) := by rfl) :
    PE X (.Call (.Attribute o m apos) (e :: es) [] pos) (fun σ H Q => ta σ H fun x H1 => x = .ref C ∧ t σ H1 fun vs H2 => sp (vs ++ []) H2 Q E) := by
  constructor
  intro pins s σ H Q I h
  refine PySem.W.methodCall_KW (pl := pl) (thn (he.run pins s σ H _ I h) fun u s1 hh => ?_) ht
  obtain ⟨v, H1, I1, rv, ev, q⟩ := hh
  subst ev
  obtain rfl : u = Value.ref C := rv
  refine PySem.W.method_cls I1.kIn r.ga ?_
  refine PySem.W.cls_value I1.kIn r.rd ca rfl ?_
  have J := I1.tok (s1.toks + 1)
  refine PySem.W.callWith_K (first := []) (h₀ := X.base) I1.ok.mod.kin hk ?_ hst hpl
  refine thn (ha.run pos pins _ σ H1 _ J q) fun us s2 hh2 => ?_
  obtain ⟨vs, H2, I2, rr, q2⟩ := hh2
  exact ⟨I2.kIn, run_fn F hr hb .nil hx I2 rr q2⟩
end

/-- the class at C gives out its def m when it is asked by its own name; the text st -/
def Sf (K : PySem.W.Frag) (C : Addr) (m qual : Str) (st : Stmt) (ps : List Str) : Prop := ∃ (mc : Value) (f : Addr) (fd : FuncData), ClX.CRead K C mc ∧ PySem.W.findCls K (.ref C) mc m = some (.val (.ref f)) ∧ Fun K m qual st f fd ∧ Binds K fd ps []
def Cf (P : Program) (w : World) (K : PySem.W.Frag) (mg : Str → Option Value) (base : Heap) (CX : CXT) (k : Nat) (C : Addr) (m : Str) (ps : List Str) (sp : Sp) : Prop :=
  ∃ (mc : Value) (f : Addr) (fd : FuncData), ClX.CRead K C mc ∧ PySem.W.findCls K (.ref C) mc m = some (.val (.ref f)) ∧ PySem.W.keepIn K (.ref f) = true ∧ Binds K fd ps [] ∧ FnOk P w K mg base CX k f fd ps sp
section
variable {X : Cx} {CX : CXT} {k : Nat} {ps : List Str} {sp : Sp} {E : XK} {m : Str} {C : Addr} {pos apos : Pos} {o e : Expr} {es : List Expr} {ta : TE} {t : TA}
theorem pe_cf {pl : Sem Bool} (M : Cf X.prog X.w X.K X.mg X.base CX k C m ps sp) (hr : Room k X.A) (hx : Passes CX X E) (he : PE X o ta) (ha : PA X (e :: es) t)
    (hst : starEach (e :: es) X.env = (false, eval e X.env) :: starEach es X.env := by rfl) (hpl : (backTo pos (starEach es X.env)).any (·.1) = false := by rfl)
    (ht : eval (.Call (.Attribute o m apos) (e :: es) [] pos) X.env = (do
      let ov ← eval o X.env
      standAt apos.atName
      let (f, first) ← holding [ov] (getMethod ov m pl)
      callWith pos f first (backTo pos (starEach (e :: es) X.env)) (backToKw pos (keywordEach [] X.env))) := by rfl) :
    PE X (.Call (.Attribute o m apos) (e :: es) [] pos) (fun σ H Q => ta σ H fun x H1 => x = .ref C ∧ t σ H1 fun vs H2 => sp (vs ++ []) H2 Q E) := by
  obtain ⟨mc, f, fd, r, ca, hk, hb, F⟩ := M
  exact pe_cfn (pl := pl) he r ca hk hb F hr hx ha hst hpl ht
end
/-- a call that writes n values and then the keywords ks, in the parameters' order -/
abbrev KA (K : PySem.W.Frag) (fd : FuncData) (ps : List Str) (n : Nat) (ks : List Str) : Prop := KBn K fd ps n ks (fun us ws => us ++ ws) (fun vs zs => vs ++ zs)
def CfK (P : Program) (w : World) (K : PySem.W.Frag) (mg : Str → Option Value) (base : Heap) (CX : CXT) (k : Nat) (C : Addr) (m : Str) (ps : List Str) (n : Nat) (ks : List Str) (sp : Sp) : Prop :=
  ∃ (mc : Value) (f : Addr) (fd : FuncData), ClX.CRead K C mc ∧ PySem.W.findCls K (.ref C) mc m = some (.val (.ref f)) ∧ PySem.W.keepIn K (.ref f) = true ∧ KA K fd ps n ks ∧ FnOk P w K mg base CX k f fd ps sp
def SfK (K : PySem.W.Frag) (C : Addr) (m qual : Str) (st : Stmt) (ps : List Str) (n : Nat) (ks : List Str) : Prop := ∃ (mc : Value) (f : Addr) (fd : FuncData), ClX.CRead K C mc ∧ PySem.W.findCls K (.ref C) mc m = some (.val (.ref f)) ∧ Fun K m qual st f fd ∧ KA K fd ps n ks
def MkK (P : Program) (w : World) (K : PySem.W.Frag) (mg : Str → Option Value) (base : Heap) (CX : CXT) (k : Nat) (x : Str) (C : Addr) (ps : List Str) (n : Nat) (ks : List Str) (sp : Sp) : Prop :=
  ∃ (f : Addr) (fd : FuncData), mg x = some (.ref C) ∧ Mk K C f ∧ KA K fd ps n ks ∧ FnOk P w K mg base CX k f fd ps sp
def IfK (K : PySem.W.Frag) (C : Addr) (qual : Str) (st : Stmt) (ps : List Str) (n : Nat) (ks : List Str) : Prop := ∃ (f : Addr) (fd : FuncData), Mk K C f ∧ Fun K "__init__" qual st f fd ∧ KA K fd ps n ks
section
variable {X : Cx} {CX : CXT} {k n : Nat} {ps ks : List Str} {sp : Sp} {E : XK} {x m : Str} {C : Addr} {p pos apos : Pos} {o e : Expr} {es : List Expr} {kws : List Keyword} {ta : TE} {t tk : TA}
theorem pe_cfK {pl : Sem Bool} (M : CfK X.prog X.w X.K X.mg X.base CX k C m ps n ks sp) (hr : Room k X.A) (hx : Passes CX X E) (he : PE X o ta) (ha : PA X (e :: es) t) (hkw : PK X kws tk)
    (hall : (backToKw pos (keywordEach kws X.env)).all (·.1.isSome) = true := by rfl) (hks : (backToKw pos (keywordEach kws X.env)).filterMap (·.1) = ks := by rfl)
    (hst : starEach (e :: es) X.env = (false, eval e X.env) :: starEach es X.env := by rfl)
    (hpl : ((backTo pos (starEach (e :: es) X.env)).any (·.1) || (backToKw pos (keywordEach kws X.env)).any (·.1.isNone)) = false := by rfl)
    (ht : eval (.Call (.Attribute o m apos) (e :: es) kws pos) X.env = (do
      let ov ← eval o X.env
      standAt apos.atName
      let (f, first) ← holding [ov] (getMethod ov m pl)
      callWith pos f first (backTo pos (starEach (e :: es) X.env)) (backToKw pos (keywordEach kws X.env))) := by rfl) :
    PE X (.Call (.Attribute o m apos) (e :: es) kws pos) (fun σ H Q => ta σ H fun x H1 => x = .ref C ∧ t σ H1 fun vs H2 => tk σ H2 fun zs H3 => vs.length = n ∧ zs.length = ks.length ∧ sp (vs ++ zs) H3 Q E) := by
  obtain ⟨mc, f, fd, r, ca, hk, hb, F⟩ := M
  constructor
  intro pins s σ H Q I h
  refine PySem.W.methodCall_KW (pl := pl) (thn (he.run pins s σ H _ I h) fun u s1 hh => ?_) ht
  obtain ⟨v, H1, I1, rv, ev, q⟩ := hh
  subst ev
  obtain rfl : u = Value.ref C := rv
  refine PySem.W.method_cls I1.kIn r.ga ?_
  refine PySem.W.cls_value I1.kIn r.rd ca rfl ?_
  have J := I1.tok (s1.toks + 1)
  refine PySem.W.callWith_KW (first := []) (h₀ := X.base) I1.ok.mod.kin hk hall ?_ hpl hst
  refine thn (ha.run pos pins _ σ H1 _ J q) fun us s2 hh2 => ?_
  obtain ⟨vs, H2, I2, rr, q2⟩ := hh2
  refine thn (hkw.run pos pins s2 σ H2 _ I2 q2) fun ws s3 hh3 => ?_
  obtain ⟨zs, H3, I3, rz, l1, l2, q3⟩ := hh3
  refine ⟨I3.kIn, ?_⟩
  rw [hks]
  exact run_fnN F hr hb hx I3 rr rz l1 l2 q3
theorem pe_mkK (M : MkK X.prog X.w X.K X.mg X.base CX k x C ps (n + 1) ks sp) (hr : Room (k + 1) X.A) (hx : Passes CX X E) (hg : Gl X x) (ha : PA X (e :: es) t) (hkw : PK X kws tk)
    (hall : (backToKw pos (keywordEach kws X.env)).all (·.1.isSome) = true := by rfl) (hks : (backToKw pos (keywordEach kws X.env)).filterMap (·.1) = ks := by rfl)
    (hdb : (x == ("__debug__" : Str)) = false := by decide) (he : starEach (e :: es) X.env = (false, eval e X.env) :: starEach es X.env := by rfl)
    (hpl : ((backTo pos (starEach (e :: es) X.env)).any (·.1) || (backToKw pos (keywordEach kws X.env)).any (·.1.isNone)) = false := by rfl) :
    PE X (.Call (.Name x p) (e :: es) kws pos) (tMakeN C n ks.length sp (fun vs zs => vs ++ zs) E t tk) := by
  obtain ⟨f, fd, hm, M, hb, F⟩ := M
  exact pe_makeN M F hr hg hm hb hx ha hkw hall hks hdb he hpl
end
def If0 (K : PySem.W.Frag) (C : Addr) (qual : Str) (st : Stmt) (ps : List Str) : Prop := ∃ (f : Addr) (fd : FuncData), Mk K C f ∧ Fun K "__init__" qual st f fd ∧ Binds K fd ps []
/-- an __init__ with written defaults dvs, those behind the first j filled in by a call -/
def IfD (K : PySem.W.Frag) (C : Addr) (qual : Str) (st : Stmt) (ps : List Str) (dvs : List V) (j : Nat) : Prop := ∃ (f : Addr) (fd : FuncData) (ds : List Value), Mk K C f ∧ FunD K "__init__" qual (defArgs st) (defBody st) (defScope st) dvs [] f fd ∧ Vals (dvs.drop j) ds ∧ Binds K fd ps ds
theorem ifD_mk {K : PySem.W.Frag} {C f T : Addr} {qual : Str} {st : Stmt} {ps : List Str} {dvs : List V} {j : Nat} {oc kV doc pm cdv ct oT : Value} {od an dT : Option Addr} {osl sT : Array (Option Value)} {its : Array Value} {nT : Nat} (M : Mk K C f)
    (l : K.lookup f = some ⟨oc, od, .func (PySem.W.fnOf "__init__" qual (defArgs st) (defBody st) (defScope st) (.ref T) kV doc pm an cdv ct), osl⟩) (c : PySem.W.codeIn K cdv qual = true) (k : PySem.W.keepIn K (.ref f) = true)
    (lT : K.lookup T = some ⟨oT, dT, .seq its nT, sT⟩) (vT : Vals dvs its.toList) (n : Nat) (hd : dvs ≠ []) (hn : n + (dvs.length - j) = ps.length)
    (h : ∀ (T : Addr) (kV doc pm : Value) (an : Option Addr) (cdv ct : Value) (us its : List Value), us.length = n → its.length = dvs.length →
      ∃ k, bindArgs (PySem.W.fnOf "__init__" qual (defArgs st) (defBody st) (defScope st) (.ref T) kV doc pm an cdv ct) ⟨us, []⟩ = seqItems? (.ref T) >>= k ∧ k (some its.toArray) = pure (ps.zip (us ++ its.drop j))) : IfD K C qual st ps dvs j := by
  have F : FunD K "__init__" qual (defArgs st) (defBody st) (defScope st) dvs [] f (PySem.W.fnOf "__init__" qual (defArgs st) (defBody st) (defScope st) (.ref T) kV doc pm an cdv ct) :=
    ⟨⟨oc, od, _, kV, doc, pm, an, cdv, ct, osl, rfl, l, c, .inr ⟨hd, T, _, its.toList, nT, rfl, lT, rfl, vT⟩, .inl rfl⟩, k⟩
  obtain ⟨ds, a, b⟩ := F.binds1 n j hd hn h
  exact ⟨f, _, ds, M, F, a, b⟩
def SfD (K : PySem.W.Frag) (C : Addr) (qual : Str) (st : Stmt) (ps : List Str) (dvs : List V) (j : Nat) : Prop := ∃ (mc : Value) (f : Addr) (fd : FuncData) (ds : List Value), ClX.CRead K C mc ∧ PySem.W.findCls K (.ref C) mc "__init__" = some (.val (.ref f)) ∧
  FunD K "__init__" qual (defArgs st) (defBody st) (defScope st) dvs [] f fd ∧ Vals (dvs.drop j) ds ∧ Binds K fd ps ds
theorem sfD_mk {K : PySem.W.Frag} {C f T : Addr} {qual : Str} {st : Stmt} {ps : List Str} {dvs : List V} {j : Nat} {oc kV doc pm cdv ct oT : Value} {od an dT : Option Addr} {osl sT : Array (Option Value)} {its : Array Value} {nT : Nat} {mc : Value} (r : ClX.CRead K C mc) (ca : PySem.W.findCls K (.ref C) mc "__init__" = some (.val (.ref f)))
    (l : K.lookup f = some ⟨oc, od, .func (PySem.W.fnOf "__init__" qual (defArgs st) (defBody st) (defScope st) (.ref T) kV doc pm an cdv ct), osl⟩) (c : PySem.W.codeIn K cdv qual = true) (k : PySem.W.keepIn K (.ref f) = true)
    (lT : K.lookup T = some ⟨oT, dT, .seq its nT, sT⟩) (vT : Vals dvs its.toList) (n : Nat) (hd : dvs ≠ []) (hn : n + (dvs.length - j) = ps.length)
    (h : ∀ (T : Addr) (kV doc pm : Value) (an : Option Addr) (cdv ct : Value) (us its : List Value), us.length = n → its.length = dvs.length →
      ∃ k, bindArgs (PySem.W.fnOf "__init__" qual (defArgs st) (defBody st) (defScope st) (.ref T) kV doc pm an cdv ct) ⟨us, []⟩ = seqItems? (.ref T) >>= k ∧ k (some its.toArray) = pure (ps.zip (us ++ its.drop j))) : SfD K C qual st ps dvs j := by
  have F : FunD K "__init__" qual (defArgs st) (defBody st) (defScope st) dvs [] f (PySem.W.fnOf "__init__" qual (defArgs st) (defBody st) (defScope st) (.ref T) kV doc pm an cdv ct) :=
    ⟨⟨oc, od, _, kV, doc, pm, an, cdv, ct, osl, rfl, l, c, .inr ⟨hd, T, _, its.toList, nT, rfl, lT, rfl, vT⟩, .inl rfl⟩, k⟩
  obtain ⟨ds, a, b⟩ := F.binds1 n j hd hn h
  exact ⟨mc, f, _, ds, r, ca, F, a, b⟩
/-- a constant of the class, asked by the class's name -/
def Kc (K : PySem.W.Frag) (C : Addr) (f : Str) (v : V) : Prop := ∃ (mc u : Value), ClX.CRead K C mc ∧ ClX.CVal K C mc f v u

/-! ### lists of signs -/
/-- a comprehension over a text's signs -/
theorem lc_text {x : Str} {g : TG} {tt : TT} {te : TE} {vs : List Nat} {σ : St} {H1 : Hp} {D : Addr} {Qd : Hp → Prop} (Pv : Nat → Hp → Prop) (h0 : Pv 0 (L2.upd H1 D (.lst [])))
    (hs : ∀ (i : Nat) (c : Nat) (H : Hp), x.cps[i]? = some c → Pv i H → g (.str ⟨#[c]⟩) (wipe σ vs) H fun σ2 H2 => wipe σ2 vs = wipe σ vs ∧ tt σ2 H2 fun b H3 =>
      if b = true then te σ2 H3 fun y H4 => ∃ acc, H4 D = some (.lst acc) ∧ acc.length < sizeLine ∧ Pv (i + 1) (L2.upd H4 D (.lst (acc ++ [y]))) else Pv (i + 1) H3) (hd : ∀ H, Pv x.cps.size H → Qd H) :
    ∃ W : Nat → Nat → Hp → Prop, (∃ m, W 0 m (L2.upd H1 D (.lst []))) ∧ ∀ i m H, W i m H →
      ((Its x).stop i H ∧ Qd H) ∨ ((Its x).go i H ∧ ∃ Nx : Hp → Prop, (∀ H', Nx H' → ∃ m', m' < m ∧ W (i + 1) m' H') ∧ ∀ y H', (Its x).yld i H y H' → g y (wipe σ vs) H' fun σ2 H2 => wipe σ2 vs = wipe σ vs ∧ tt σ2 H2 fun b H3 =>
        if b = true then te σ2 H3 fun y H4 => ∃ acc, H4 D = some (.lst acc) ∧ acc.length < sizeLine ∧ Nx (L2.upd H4 D (.lst (acc ++ [y]))) else Nx H3) := by
  refine ⟨fun i m H => m + i = x.cps.size ∧ Pv i H, ⟨x.cps.size, rfl, h0⟩, ?_⟩
  intro i m H hh
  obtain ⟨hm, p⟩ := hh
  by_cases z : m = 0
  · subst z
    have e : i = x.cps.size := by omega
    subst e
    exact Or.inl ⟨Nat.le_refl _, hd H p⟩
  · refine Or.inr ⟨by show i < x.cps.size; omega, Pv (i + 1), fun H' p' => ⟨m - 1, by omega, by omega, p'⟩, ?_⟩
    intro y H' yy
    obtain ⟨e, c, hc, ey⟩ := yy
    subst e ey
    exact hs i c _ hc p

/-! ### what else stays -/
/-- all that was tracked is as it was, but for what stands at p -/
def But (p : Addr) (H H' : Hp) : Prop := ∀ b o, H b = some o → b ≠ p → H' b = some o
theorem But.of_same {p : Addr} {H H' : Hp} (s : Same H H') : But p H H' := fun b o e _ => s b o e
theorem But.of_off {p : Addr} {H H' : Hp} (s : Off p H H') : But p H H' := fun b o e hb => by rw [s b hb]; exact e
theorem But.trans {p : Addr} {H H1 H2 : Hp} (a : But p H H1) (b : But p H1 H2) : But p H H2 := fun c o e hc => b c o (a c o e hc) hc
theorem But.upd {p : Addr} {H : Hp} {o : HO} : But p H (L2.upd H p o) := fun b u e hb => by rw [upd_ne hb]; exact e
theorem Same.new {H : Hp} {p : Addr} {o : HO} (h : H p = none) : Same H (L2.upd H p o) := fun b u e => by rw [upd_ne (ne_of_none e h)]; exact e
/-- a new instance and its __init__, which leaves all but the instance -/
theorem Same.inst {H H1 : Hp} {x dx C : Addr} (nx : H x = none) (nd : H dx = none) (k : But x (L2.upd (L2.upd H dx (.own x)) x (.ins C dx [])) H1) : Same H H1 := Same.made nx nd k
/-! ### names -/
def letS : Str := "abcdefghijklmnopqrstuvwxyz"
def digS : Str := "0123456789"
def signB (c : Nat) : Bool := decide (c ∈ letS.cps.toList) || decide (c ∈ digS.cps.toList)
/-- 1 to 12 small letters and digits, a letter first -/
def nameB (z : Str) : Bool := decide (1 ≤ z.cps.size) && (decide (z.cps.size ≤ 12) && (decide (z.cps.getD 0 0 ∈ letS.cps.toList) && z.cps.toList.all signB))
def spIsName : Sp := fun vs H Q _ => ∃ (z : Str), vs = [.str z] ∧ z.length ≤ 100000 ∧ ∀ H', Same H H' → Q (.bl (nameB z)) H'

/-! ### items -/
def barOf (s o t : Int) : Int := t + (o - t) % s
/-- a Grid at g -/
def GridAt (C : Addr) (H : Hp) (g : Addr) (s o : Int) : Prop := 0 < s ∧ ∃ dx, H g = some (.ins C dx [("step", .int s), ("offset", .int o)])
theorem GridAt.same {C : Addr} {H H' : Hp} {g : Addr} {s o : Int} (h : GridAt C H g s o) (e : Same H H') : GridAt C H' g s o := by
  obtain ⟨a, dx, b⟩ := h
  exact ⟨a, dx, e _ _ b⟩
def startOf (m : V) (mo : Int) : Int := match m with
  | .int i => if i > mo then i else mo
  | _ => mo
def spGrid0 (C : Addr) : Sp := fun vs H Q _ => ∃ (p dx : Addr) (s o : Int), vs = [.ref p, .int s, .int o] ∧ H p = some (.ins C dx []) ∧ 1 ≤ s ∧ ∀ H', GridAt C H' p s (o % s) → Off p H H' → Q .non H'
def spFirstBar (C : Addr) : Sp := fun vs H Q _ => ∃ (g : Addr) (s o t : Int), vs = [.ref g, .int t] ∧ GridAt C H g s o ∧ Q (.int (barOf s o t)) H
def spNamed0 (K : PySem.W.Frag) : Sp := fun vs H Q _ => ∃ (p C dx : Addr) (fs : List (Str × V)) (z : Str), vs = [.ref p, .str z] ∧ H p = some (.ins C dx fs) ∧ Cls K C ∧ NoAttr K C "name" ∧ nameB z = true ∧ z.length ≤ 1000 ∧ fs.length < 100 ∧
  ∀ H', H' p = some (.ins C dx (putF "name" (.str z) fs)) → But p H H' → Q .non H'
def putT (g m d : V) (fs : List (Str × V)) : List (Str × V) := putF "delay" d (putF "minute" m (putF "grid" g fs))
def spTimed0 (K : PySem.W.Frag) : Sp := fun vs H Q _ => ∃ (p C dx : Addr) (fs : List (Str × V)) (g m : V) (d : Int), vs = [.ref p, g, m, .int d] ∧ H p = some (.ins C dx fs) ∧ Cls K C ∧ NoAttr K C "grid" ∧ NoAttr K C "minute" ∧ NoAttr K C "delay" ∧
  0 ≤ d ∧ d ≤ 8 ∧ fs.length < 100 ∧ ∀ H', H' p = some (.ins C dx (putT g m (.int d) fs)) → Off p H H' → Q .non H'
structure ItemC (K : PySem.W.Frag) (C : Addr) : Prop where
  c : Cls K C
  n : NoAttr K C "name"
  g : NoAttr K C "grid"
  m : NoAttr K C "minute"
  d : NoAttr K C "delay"
def putI (z : Str) (g m d : V) (fs : List (Str × V)) : List (Str × V) := putT g m d (putF "name" (.str z) fs)
def spItem0 (K : PySem.W.Frag) : Sp := fun vs H Q _ => ∃ (p C dx : Addr) (fs : List (Str × V)) (z : Str) (g m : V) (d : Int), vs = [.ref p, .str z, g, m, .int d] ∧ H p = some (.ins C dx fs) ∧ ItemC K C ∧ nameB z = true ∧ z.length ≤ 1000 ∧
  0 ≤ d ∧ d ≤ 8 ∧ fs.length < 90 ∧ ∀ H', H' p = some (.ins C dx (putI z g m (.int d) fs)) → But p H H' → Q .non H'
theorem putF_length {f : Str} {v : V} : ∀ {fs : List (Str × V)}, (putF f v fs).length ≤ fs.length + 1
  | [] => Nat.le_refl _
  | q :: r => by
    unfold putF
    split
    · exact Nat.le_succ _
    · exact Nat.succ_le_succ putF_length
theorem putI_length (z : Str) (g m : V) (d : Int) : (putI z g m (.int d) []).length ≤ 4 := by
  have a1 := @putF_length "name" (.str z) []
  have a2 := @putF_length "grid" g (putF "name" (.str z) [])
  have a3 := @putF_length "minute" m (putF "grid" g (putF "name" (.str z) []))
  have a4 := @putF_length "delay" (.int d) (putF "minute" m (putF "grid" g (putF "name" (.str z) [])))
  have a0 : ([] : List (Str × V)).length = 0 := rfl
  show (putF "delay" (.int d) (putF "minute" m (putF "grid" g (putF "name" (.str z) [])))).length ≤ 4
  omega
def spPiece0 (K : PySem.W.Frag) : Sp := fun vs H Q _ => ∃ (p C dx : Addr) (z : Str) (g m : V) (l t d : Int), vs = [.ref p, .str z, g, .int l, .int t, m, .int d] ∧ H p = some (.ins C dx []) ∧ ItemC K C ∧ NoAttr K C "least" ∧ NoAttr K C "most" ∧ nameB z = true ∧ z.length ≤ 1000 ∧
  0 ≤ d ∧ d ≤ 8 ∧ 1 ≤ l ∧ l ≤ t ∧ t ≤ l + 8 ∧ ∀ H', H' p = some (.ins C dx (putF "most" (.int t) (putF "least" (.int l) (putI z g m (.int d) [])))) → But p H H' → Q .non H'
def spBreak0 (K : PySem.W.Frag) : Sp := fun vs H Q _ => ∃ (p C dx : Addr) (z : Str) (g m : V) (n u d y : Int), vs = [.ref p, .str z, g, m, .int n, .int u, .int d, .int y] ∧ H p = some (.ins C dx []) ∧ ItemC K C ∧ NoAttr K C "places" ∧ NoAttr K C "unit" ∧ NoAttr K C "patience" ∧ nameB z = true ∧ z.length ≤ 1000 ∧
  0 ≤ d ∧ d ≤ 8 ∧ 1 ≤ n ∧ n ≤ 12 ∧ 1 ≤ u ∧ 1 ≤ y ∧ y ≤ 64 ∧ ∀ H', H' p = some (.ins C dx (putF "patience" (.int y) (putF "unit" (.int u) (putF "places" (.int n) (putI z g m (.int d) []))))) → But p H H' → Q .non H'
/-- an item at a: its grid g, its minute m; its class knows begin_at, whose text is st -/
def ItAt (K : PySem.W.Frag) (st : Stmt) (H : Hp) (a g : Addr) (m : V) : Prop := ∃ (C dx : Addr) (fs : List (Str × V)), H a = some (.ins C dx fs) ∧ Cls K C ∧ Mf K C "begin_at" "Timed.begin_at" st ["self", "moment", "delay"] ∧ NoAttr K C "grid" ∧ NoAttr K C "minute" ∧
  fs.lookup ("grid" : Str) = some (.ref g) ∧ fs.lookup ("minute" : Str) = some m ∧ fs.lookup ("begin_at" : Str) = none
theorem ItAt.same {K : PySem.W.Frag} {st : Stmt} {H H' : Hp} {a g : Addr} {m : V} (h : ItAt K st H a g m) (e : Same H H') : ItAt K st H' a g m := by
  obtain ⟨C, dx, fs, h1, r⟩ := h
  exact ⟨C, dx, fs, e _ _ h1, r⟩
def MinOk (m : V) : Prop := m = .non ∨ ∃ i, m = .int i
def spBegin (K : PySem.W.Frag) (C CG : Addr) : Sp := fun vs H Q _ => ∃ (a g dx : Addr) (fs : List (Str × V)) (m : V) (mo de s o : Int), vs = [.ref a, .int mo, .int de] ∧ H a = some (.ins C dx fs) ∧ Cls K C ∧ NoAttr K C "grid" ∧ NoAttr K C "minute" ∧
  fs.lookup ("grid" : Str) = some (.ref g) ∧ fs.lookup ("minute" : Str) = some m ∧ MinOk m ∧ GridAt CG H g s o ∧ Q (.int (barOf s o (startOf m mo + de))) H
theorem sorted_two {a b : Int} {l : List Int} (p : l.Perm [a, b]) (s : l.Pairwise (· ≤ ·)) : l = [if b > a then a else b, if b > a then b else a] := by
  have hl : l.length = 2 := p.length_eq
  match l, hl, p, s with
  | [x, y], _, p, s =>
    have hxy : x ≤ y := by
      have q := (List.pairwise_cons.mp s).1 y (List.mem_singleton.mpr rfl)
      exact q
    have hx : x = a ∨ x = b := by
      have q := p.mem_iff (a := x)
      simpa using q
    rcases hx with e | e
    · subst e
      have q : [y].Perm [b] := (List.perm_cons x).mp p
      have ey : y = b := by simpa using q.mem_iff (a := y)
      subst ey
      by_cases c : y > x
      · rw [if_pos c, if_pos c]
      · rw [if_neg c, if_neg c]
        have z : x = y := by omega
        rw [z]
    · subst e
      have q : [y].Perm [a] := (List.perm_cons x).mp (p.trans (List.Perm.swap x a []))
      have ey : y = a := by simpa using q.mem_iff (a := y)
      subst ey
      by_cases c : x > y
      · omega
      · rw [if_neg c, if_neg c]
/-- tuples of two ints at the addresses -/
def RowsIn (H : Hp) : List Addr → List (Int × Int) → Prop
  | [], [] => True
  | a :: as, q :: qs => H a = some (.tup [.int q.1, .int q.2]) ∧ RowsIn H as qs
  | _, _ => False
theorem RowsIn.same {H H' : Hp} (s : Same H H') : ∀ {as : List Addr} {qs : List (Int × Int)}, RowsIn H as qs → RowsIn H' as qs
  | [], [], _ => trivial
  | _ :: _, _ :: _, h => ⟨s _ _ h.1, RowsIn.same s h.2⟩
  | [], _ :: _, h => h.elim
  | _ :: _, [], h => h.elim
theorem RowsIn.at_ {H : Hp} : ∀ {as : List Addr} {qs : List (Int × Int)} {i : Nat} {x : V}, RowsIn H as qs → (as.map V.ref)[i]? = some x → ∃ a q, x = .ref a ∧ qs[i]? = some q ∧ H a = some (.tup [.int q.1, .int q.2])
  | [], _, i, x, _, e => by simp at e
  | a :: as, q :: qs, 0, x, h, e => ⟨a, q, by simpa using e.symm, rfl, h.1⟩
  | a :: as, q :: qs, i + 1, x, h, e => by
    obtain ⟨b, r, e1, e2, e3⟩ := RowsIn.at_ (i := i) h.2 (by simpa using e)
    exact ⟨b, r, e1, by simpa using e2, e3⟩
  | _ :: _, [], _, _, h, _ => h.elim
theorem RowsIn.len {H : Hp} : ∀ {as : List Addr} {qs : List (Int × Int)}, RowsIn H as qs → as.length = qs.length
  | [], [], _ => rfl
  | _ :: _, _ :: _, h => congrArg Nat.succ (RowsIn.len h.2)
  | [], _ :: _, h => h.elim
  | _ :: _, [], h => h.elim
theorem bar_ge {s o t : Int} (hs : 0 < s) : 0 ≤ barOf s o t - t ∧ barOf s o t - t < s := by
  unfold barOf
  have h1 := Int.emod_nonneg (o - t) (by omega : s ≠ 0)
  have h2 := Int.emod_lt_of_pos (o - t) hs
  omega
theorem bar_mod {s o o' t : Int} (h : (o - o') % s = 0) : (barOf s o t - o') % s = 0 := by
  unfold barOf
  have e : t + (o - t) % s - o' = (o - o') - s * ((o - t) / s) := by
    have q := Int.emod_add_mul_ediv (o - t) s
    omega
  rw [e, Int.sub_mul_emod_self_left]
  exact h
/-- the first bar is not earlier for a later tick -/
theorem bar_mono {s o t t' : Int} (hs : 0 < s) (h : t ≤ t') : barOf s o t ≤ barOf s o t' := by
  have a := bar_ge (o := o) (t := t) hs
  have b := bar_ge (o := o) (t := t') hs
  have d : (barOf s o t - barOf s o t') % s = 0 := by
    have h1 : (barOf s o t - o) % s = 0 := bar_mod (by simp)
    have h2 : (barOf s o t' - o) % s = 0 := bar_mod (by simp)
    have e : barOf s o t - barOf s o t' = (barOf s o t - o) - (barOf s o t' - o) := by omega
    rw [e, Int.sub_emod, h1, h2]
    simp
  by_cases c : barOf s o t ≤ barOf s o t'
  · exact c
  · have h3 : 0 < barOf s o t - barOf s o t' := by omega
    have h4 : barOf s o t - barOf s o t' < s := by omega
    rw [Int.emod_eq_of_lt (by omega) h4] at d
    omega
theorem start_mono {m : V} {a b : Int} (h : a ≤ b) : startOf m a ≤ startOf m b := by
  unfold startOf
  split
  · split <;> split <;> omega
  · exact h
theorem off_mod {o s : Int} : (o % s - o) % s = 0 := by
  have e : o % s - o = 0 - s * (o / s) := by
    have q := Int.emod_add_mul_ediv o s
    omega
  rw [e, Int.sub_mul_emod_self_left]
  simp
def spAsked (K : PySem.W.Frag) (st : Stmt) (CG : Addr) : Sp := fun vs H Q _ => ∃ (it g r : Addr) (m : V) (s o : Int) (as : List Addr) (q0 q1 q2 q3 q4 q5 q6 q7 q8 : Int × Int), vs = [.ref it, .int s, .int o, m, .ref r] ∧ ItAt K st H it g m ∧ MinOk m ∧ GridAt CG H g s (o % s) ∧
  H r = some (.lst (as.map V.ref)) ∧ RowsIn H as [q0, q1, q2, q3, q4, q5, q6, q7, q8] ∧
  barOf s (o % s) (startOf m q0.1 + q0.2) ≤ barOf s (o % s) (startOf m q1.1 + q1.2) ∧ barOf s (o % s) (startOf m q1.1 + q1.2) ≤ barOf s (o % s) (startOf m q2.1 + q2.2) ∧
  barOf s (o % s) (startOf m q0.1 + q0.2) ≤ barOf s (o % s) (startOf m q3.1 + q3.2) ∧ barOf s (o % s) (startOf m q3.1 + q3.2) ≤ barOf s (o % s) (startOf m q2.1 + q2.2) ∧ q8 = q0 ∧ ∀ H', Same H H' → Q (.bl true) H'
theorem keepU {H : Hp} {b p : Addr} {o o' u : HO} (hb : H b = some o) (hp : H p = some o') (h : o ≠ o') : L2.upd H p u b = some o := by
  have n : b ≠ p := fun z => by
    rw [z, hp] at hb
    exact h (Option.some.inj hb).symm
  rw [upd_ne n]
  exact hb
theorem RowsIn.keep {H : Hp} {p : Addr} {xs : List V} {u : HO} (hp : H p = some (.lst xs)) : ∀ {as : List Addr} {qs : List (Int × Int)}, RowsIn H as qs → RowsIn (L2.upd H p u) as qs
  | [], [], _ => trivial
  | _ :: _, _ :: _, h => ⟨keepU h.1 hp (by intro z; cases z), RowsIn.keep hp h.2⟩
  | [], _ :: _, h => h.elim
  | _ :: _, [], h => h.elim
theorem ItAt.keep {K : PySem.W.Frag} {st : Stmt} {H : Hp} {a g p : Addr} {m : V} {xs : List V} {u : HO} (h : ItAt K st H a g m) (hp : H p = some (.lst xs)) : ItAt K st (L2.upd H p u) a g m := by
  obtain ⟨C, dx, fs, h1, r⟩ := h
  exact ⟨C, dx, fs, keepU h1 hp (by intro z; cases z), r⟩
theorem GridAt.keep {C : Addr} {H : Hp} {g p : Addr} {s o : Int} {xs : List V} {u : HO} (h : GridAt C H g s o) (hp : H p = some (.lst xs)) : GridAt C (L2.upd H p u) g s o := by
  obtain ⟨a, dx, b⟩ := h
  exact ⟨a, dx, keepU b hp (by intro z; cases z)⟩
theorem look_put {f : Str} {v : V} {fs : List (Str × V)} : (putF f v fs).lookup f = some v := by rw [lookup_putF, if_pos rfl]
theorem look_ne {f g : Str} {v : V} {fs : List (Str × V)} (h : ¬ g = f) : (putF f v fs).lookup g = fs.lookup g := by rw [lookup_putF, if_neg h]
theorem putT_grid {g m d : V} {fs : List (Str × V)} : (putT g m d fs).lookup ("grid" : Str) = some g := by
  unfold putT
  rw [look_ne (by decide +kernel), look_ne (by decide +kernel), look_put]
theorem putT_min {g m d : V} {fs : List (Str × V)} : (putT g m d fs).lookup ("minute" : Str) = some m := by
  unfold putT
  rw [look_ne (by decide +kernel), look_put]
theorem putT_no {g m d : V} {fs : List (Str × V)} (h : fs.lookup ("begin_at" : Str) = none) : (putT g m d fs).lookup ("begin_at" : Str) = none := by
  unfold putT
  rw [look_ne (by decide +kernel), look_ne (by decide +kernel), look_ne (by decide +kernel), h]
theorem putI_no {z : Str} {g m d : V} : (putI z g m d []).lookup ("begin_at" : Str) = none := by
  unfold putI
  refine putT_no ?_
  rw [look_ne (by decide +kernel)]
  rfl
theorem ble_f {a b : V} (h : a = b) : V.bl (!decide (a = b)) = V.bl false := by rw [decide_eq_true h]; rfl
def spClock : Sp := fun vs H Q _ => ∃ (p c : Addr) (ns : List Int) (m : Int), vs = [.ref p, .int m] ∧ Pool ns c H p ∧ ∀ (r : V) (H' : Hp), MinOk r → Pool ns c H' p → Off p H H' → Q r H'
def spLaw (K : PySem.W.Frag) : Sp := fun vs H Q _ => ∃ (a : Addr) (ns : List Int), vs = [.ref a] ∧ SqL K H a (ns.map V.int) ∧ ns.length ≤ 63 ∧ ∀ H', Q (.bl true) H'
end Brk

set_option Elab.async false
set_option linter.all false
set_option maxRecDepth 100000
set_option maxHeartbeats 4000000
/-! Own rules: an exception that an except suite keeps in a name, asked behind the try. -/
namespace Brk
open PySem PySem.Spec PyProof.Rows L2

/-- at a stands a caught exception of the class cls with the dict d -/
def ExH (cls : Value) (d : Option Addr) (a : Addr) : HO := .ext fun g => ∃ (ob : Obj) (ws : Array Value), g.get? a = some ob ∧ Zc cls d ob ∧ ob.data = .fields ws
theorem exH_ok {P : Program} {w : World} {H : Hp} {g : Heap} {a : Addr} {cls : Value} {d : Option Addr} {ob : Obj} {ws : Array Value} (e : g.get? a = some ob) (z : Zc cls d ob) (f : ob.data = .fields ws) : ObjOk P w H g a (ExH cls d a) := by
  refine ⟨⟨ob, ws, e, z, f⟩, ⟨ob, e⟩, ?_⟩
  intro g1 g2 hh keep
  obtain ⟨o1, w1, q1, q2⟩ := hh
  exact ⟨o1, w1, keep o1 q1, q2⟩
theorem exH_at {P : Program} {w : World} {H : Hp} {g : Heap} {a : Addr} {cls : Value} {d : Option Addr} (ok : HOk P w H g) (e : H a = some (ExH cls d a)) : ∃ (ob : Obj) (ws : Array Value), g.get? a = some ob ∧ Zc cls d ob ∧ ob.data = .fields ws :=
  (show ObjOk P w H g a (.ext fun g => ∃ (ob : Obj) (ws : Array Value), g.get? a = some ob ∧ Zc cls d ob ∧ ob.data = .fields ws) from ok a _ e).1
section
variable {X : Cx} {pins : List (Addr × Obj)} {σ : L2.St} {H : Hp} {s : Shared} {a : Addr} {o : HO}
/-- what stands at a, made since the frame began, is tracked from now on -/
theorem inv_hold (I : Inv X pins σ H s) (hx : X.ex = []) (old : X.s_0.heap.get? a = none) (na : H a = none) (nl : a ≠ X.env.locals) (nc : ∀ x c, X.env.cells.lookup x = some c → c ≠ a) (np : ∀ q ∈ X.pn ++ pins, q.1 ≠ a)
    (here : ObjOk X.prog X.w (L2.upd H a o) s.heap a o) : Inv X pins σ (L2.upd H a o) s := by
  have away : ∀ b u, X.s_0.heap.get? b = some u → b ≠ a := by
    intro b u e z
    rw [z, old] at e
    cases e
  refine ⟨I.ok, I.os, I.bare, ⟨I.base.keep, I.base.slot, ?_, I.base.there, ?_, ?_, ?_⟩, I.loc, I.cell, ?_, ?_, ?_, ?_, I.len⟩
  · intro b u e n hn
    rw [upd_ne (away b u e)]
    exact I.base.free b u e n hn
  · intro b xs e
    have q := I.base.tups b xs e
    rw [upd_ne (ne_of_none q na)]
    exact q
  · intro b u v e
    have q := I.base.frzs b u v e
    rw [upd_ne (ne_of_none q na)]
    exact q
  · intro b qs e
    obtain ⟨m, q⟩ := I.base.tbls b qs e
    exact ⟨m, by rw [upd_ne (ne_of_none q na)]; exact q⟩
  · rw [upd_ne nl.symm]
    exact I.free
  · intro x c e
    rw [upd_ne (nc x c e)]
    exact I.freeC x c e
  · intro q hq
    obtain ⟨e1, e2, e3⟩ := I.pin q hq
    exact ⟨e1, by rw [upd_ne (np q hq)]; exact e2, e3⟩
  · intro b u e
    by_cases hb : b = a
    · subst hb
      rw [upd_same] at e
      cases e
      exact here
    · rw [upd_ne hb] at e
      exact (I.hok b u e).stay (fun _ _ _ q => q) (fun c q => by rw [upd_ne (ne_of_none q na)]; exact q) fun c xs q => by rw [upd_ne (ne_of_none q na)]; exact q
end

/-- what such a try wishes of an exception of its body: the clause is its own, and the suite goes through to its end; behind it the exception is tracked -/
def wHold (K : PySem.W.Frag) (c : Value) (i : Nat) (ts : Addr → Value → Option Addr → TS) (D : Ends) : WX := fun cls d σ H =>
  PySem.W.exmOne K cls c = some true ∧ ∀ a, H a = none → ts a cls d { nx := fun σ1 H1 => D.nx (σ1.set i none) (L2.upd H1 a (ExH cls d a)), rt := fun _ _ => False, bk := fun _ _ => False, ct := fun _ _ => False } (σ.set i (some (.ref a))) H
section
variable {X : Cx} {x n : Str} {c : Value} {i : Nat} {body suite : List Stmt} {b0 : Stmt} {np pos pos1 : Pos} {tb : WX → TS} {ts : Addr → Value → Option Addr → TS}
/-- try: body / except x as n: suite, where the suite may hand the exception to a name -/
theorem ps_try_hold (hst : X.stack = X.env :: X.outer) (hfr : X.env.frame = some X.env.locals) (hnd : X.N.Nodup) (hslot : X.N[i]? = some n) (hloc : X.env.kindOf n = some .local) (hnm : Names X x c) (hex : X.ex = [])
    (hbody : ∀ (W : WX) (pn : List (Addr × Obj)) (xe : Value → Shared → Prop), Takes (X.tr pn xe) W → PassesOwn (model X.prog X.w) X.A X.env xe → PSs (X.tr pn xe) body (tb W))
    (hsuite : ∀ (a : Addr) (ob : Obj) (cls : Value) (d : Option Addr) (pn : List (Addr × Obj)), Zc cls d ob → (∃ ws, ob.data = .fields ws) → PSs (X.suite a ((a, ob) :: pn)) (b0 :: suite) (ts a cls d)) :
    PS X (.Try body [.ExceptHandler (some (.Name x np)) (some n) (b0 :: suite) pos1] [] [] pos) (fun D σ H => tb (wHold X.K c i ts D) D σ H) := by
  constructor
  intro pins s σ H D I h
  have good := I.ok
  have frames : X.A.frames = some (X.env :: X.outer) := by rw [good.frames, hst]
  refine wpAny_Try_except (wpAny_mono ((hbody (wHold X.K c i ts D) (X.pn ++ pins) (fun ex sh => wpAny (model X.prog X.w) X.A (noteFrame ex X.env)
    (fun _ sh1 => wpAny (model X.prog X.w) X.A (setFlight ex none) (fun _ sh2 => wpAny (model X.prog X.w) X.A (handleBy ex X.env [.ExceptHandler (some (.Name x np)) (some n) (b0 :: suite) pos1]) (SP X pins D) X.xe sh2) X.xe sh1) X.xe sh) ?_ PassesOwn.looking).run [] s σ H D (I.toTry _) h) ?_ fun _ _ z => z)
  · intro v sh air
    obtain ⟨a, B, sI, pinsI, σI, HI, cls, d, rfl, JI, ground, slots, sky, na, os, bare, caught, then_⟩ := air
    have J : Inv X pins σI HI sI := JI.ofTry good
    have sky2 : Sky B (X.env :: X.outer) a (Zc cls d) X.env.locals sh.heap := hst ▸ sky
    show wpAny _ _ (noteFrame (.ref a) X.env) _ _ _
    refine Sky.land Zc.steady frames hfr sky2 ?_
    intro g3 fly3 slots3
    have J3 : Inv X pins σI HI { sh with heap := g3 } := J.landed ground fly3.1 (slots.trans slots3) os bare
    obtain ⟨ob3, ws3, at3, z3, f3⟩ := fly3.there
    have nofr : a ∉ frs (X.env :: X.outer) := by
      intro hm
      obtain ⟨_, o1, e1, e2⟩ := (fly3.2.2.1).mem hm
      rw [at3] at e1
      cases e1
      exact e2 _ f3
    have nL : a ≠ X.env.locals := by
      intro z
      exact nofr (List.mem_filterMap.mpr ⟨X.env, List.mem_cons_self, by rw [hfr, z]⟩)
    have nF : a ∉ X.fs := by
      intro hm
      obtain ⟨e, he, q⟩ := List.mem_filterMap.mp hm
      exact nofr (List.mem_filterMap.mpr ⟨e, List.mem_cons_of_mem _ he, q⟩)
    have newI : sI.heap.get? a = none := by
      cases q : sI.heap.get? a with
      | none => rfl
      | some u =>
        have z := ground a u q (by rw [hst]; exact nofr)
        rw [fly3.2.1] at z
        cases z
    have new0 : X.s_0.heap.get? a = none := by
      cases q : X.s_0.heap.get? a with
      | none => rfl
      | some u =>
        obtain ⟨u2, q2⟩ := J.base.there a u q (by rw [hex]; exact fun z => nomatch z)
        rw [newI] at q2
        cases q2
    have S3 := J3.suite at3 f3 na nL nF
    refine wpAny_handleBy_cons (codeAny_handlers_test ?_) (by intro q; cases q)
    have kind : PySem.W.Looks (model X.prog X.w) g3 (typeOf (.ref a)) cls := by
      intro A Q E s1 keep q
      exact wpAny_typeOf_ref (keep _ _ at3) (by rw [z3.1]; exact q)
    have match_ := PySem.W.exm_one (M := model X.prog X.w) (J3.kIn) kind caught
    have named : ∀ {Q : Value → Shared → Prop} {E : Value → Shared → Prop}, Q c { sh with heap := g3 } → wpAny (model X.prog X.w) (X.A.mark (some (.ref a))) (eval (.Name x np) X.env) Q E { sh with heap := g3 } := by
      intro Q E q
      obtain ⟨hg, hdbg, hm | ⟨hm, hv, hnn⟩⟩ := hnm
      · exact ld_glob (X := X.suite a ((a, ob3) :: (X.pn ++ pins))) S3 hg hm q hdbg
      · exact ld_blt (X := X.suite a ((a, ob3) :: (X.pn ++ pins))) S3 hg hm hv q hnn hdbg
    refine named (match_.here (codeAny_handlers_suite_as (HandSPX.lands_againZ fly3 ?_)))
    intro g4 fly4 slots4
    have J4 : Inv X pins σI HI { sh with heap := g4 } := J.landed ground fly4.1 ((slots.trans slots3).trans slots4) os bare
    obtain ⟨ob4, ws4, at4, z4, f4⟩ := fly4.there
    have S4 := J4.suite at4 f4 na nL nF
    refine store_ok (X := X.suite a ((a, ob4) :: (X.pn ++ pins))) (v := .ref a) S4 hnd hslot (.inl hloc) rfl (fun s5 S5 => ?_) (.inr hloc)
    refine wpAny_mono ((hsuite a ob4 cls d (X.pn ++ pins) z4 ⟨_, f4⟩).run [] s5 _ HI _ S5 (then_ a na)) ?_ fun _ _ z => False.elim z
    intro fl s6 q6
    cases fl with
    | next =>
      obtain ⟨σ6, H6, S6, q⟩ := q6
      refine gone_ok (X := X.suite a ((a, ob4) :: (X.pn ++ pins))) S6 hnd hslot hloc ?_
      intro s7 S7
      obtain ⟨at7, na7, _⟩ := S7.pin (a, ob4) (List.mem_append_left _ List.mem_cons_self)
      refine ⟨_, _, inv_hold (S7.unsuite good) hex new0 na7 nL ?_ ?_ (exH_ok at7 z4 f4), q⟩
      · intro y cc e z
        obtain ⟨u, o1, e1, e2⟩ := S7.cell y cc e
        rw [z, at7] at e1
        cases e1
        rw [f4] at e2
        cases e2
      · intro p hp z
        have e1 := (J.pin p hp).1
        rw [z, newI] at e1
        cases e1
    | brk =>
      obtain ⟨_, _, _, z⟩ := q6
      exact z.elim
    | cont =>
      obtain ⟨_, _, _, z⟩ := q6
      exact z.elim
    | ret u =>
      obtain ⟨_, _, _, _, _, z⟩ := q6
      exact z.elim
  · intro fl s1 q1
    cases fl with
    | next =>
      obtain ⟨σ1, H1, J1, q⟩ := q1
      exact wpAny_execs_nil ⟨σ1, H1, J1.ofTry good, q⟩
    | brk =>
      obtain ⟨σ1, H1, J1, q⟩ := q1
      exact ⟨σ1, H1, J1.ofTry good, q⟩
    | cont =>
      obtain ⟨σ1, H1, J1, q⟩ := q1
      exact ⟨σ1, H1, J1.ofTry good, q⟩
    | ret u =>
      obtain ⟨v1, σ1, H1, J1, r1, q⟩ := q1
      exact ⟨v1, σ1, H1, J1.ofTry good, r1, q⟩
end
end Brk
namespace Brk
open PySem PySem.Spec PyProof.Rows L2
/-- the object at a, an instance of the exception class at D, its dict (none, or tracked) -/
theorem exH_inst {X : Cx} {pins : List (Addr × Obj)} {σ : L2.St} {H : Hp} {s : Shared} {a D : Addr} {d : Option Addr} (I : Inv X pins σ H s) (e : H a = some (ExH (.ref D) d a)) (hd : d = none ∨ ∃ dd fs, d = some dd ∧ H dd = some (.xd fs)) :
    ∃ (ob : Obj) (od : Option Obj), PySem.W.InstAt s.heap a ob D od := by
  obtain ⟨ob, ws, e1, e2, e3⟩ := exH_at I.hok e
  rcases hd with rfl | ⟨dd, fs, rfl, hdd⟩
  · exact ⟨ob, none, e1, e2.1, by unfold PySem.W.notCls; rw [e3] <;> rfl, by rw [e2.2]; trivial⟩
  · obtain ⟨mA, hns, _⟩ := (show ObjOk X.prog X.w H s.heap dd (.xd fs) from I.hok dd _ hdd)
    obtain ⟨od, ho, _⟩ := lookIn_ns hns
    exact ⟨ob, some od, e1, e2.1, by unfold PySem.W.notCls; rw [e3] <;> rfl, by rw [e2.2]; exact ho⟩
/-- the held exception at a in H -/
def HeldAt (H : Hp) (a D : Addr) : Prop := ∃ d, H a = some (ExH (.ref D) d a) ∧ (d = none ∨ ∃ dd fs, d = some dd ∧ H dd = some (.xd fs))
section
variable {X : Cx}
theorem call_isH : CallR X (.builtin "isinstance") (fun xs H Q => ∃ (a D : Addr) (c : V) (cv : Value) (b : Bool), xs = [.ref a, c] ∧ ClsV c cv ∧ HeldAt H a D ∧ ExcC X.K D ∧ PySem.W.kitOne X.K (.ref D) cv = some b ∧ Q (.bl b) H) := by
  intro pins s σ H xs us Q I r h
  obtain ⟨a, D, c, cv, b, rfl, k, ⟨d, ha, hd⟩, C, e, q⟩ := h
  obtain ⟨u1, u2, rfl, r1, r2⟩ := vals2 r
  have e2 := k.eq r2
  subst e2
  cases r1
  obtain ⟨ob, od, J⟩ := exH_inst I ha hd
  have hcl : (PySem.W.clsIn X.K D).isSome = true := by
    obtain ⟨cd, hc, _⟩ := PySem.W.any_some C.hd
    rw [hc]
    rfl
  exact PySem.W.kia_one (PySem.W.kitx_exc hcl C.hg C.hk C.hs C.ha C.hn C.ht C.hm) I.kIn J e (fun z => nomatch z) fun tk => ⟨.bl b, H, I.tok tk, rfl, q⟩
theorem call_isHT : CallR X (.builtin "isinstance") (fun xs H Q => ∃ (a D tp : Addr) (cs : List V) (ws : List Value) (b : Bool), xs = [.ref a, .ref tp] ∧ H tp = some (.tup cs) ∧ Paired ClsV cs ws ∧ HeldAt H a D ∧ ExcC X.K D ∧ PySem.W.kitAny X.K (.ref D) ws = some b ∧ Q (.bl b) H) := by
  intro pins s σ H xs us Q I r h
  obtain ⟨a, D, tp, cs, ws, b, rfl, hT, k, ⟨d, ha, hd⟩, C, e, q⟩ := h
  obtain ⟨u1, u2, rfl, r1, r2⟩ := vals2 r
  cases (show u2 = Value.ref tp from r2)
  cases (show u1 = Value.ref a from r1)
  obtain ⟨ob, od, J⟩ := exH_inst I ha hd
  obtain ⟨_, its, rv, o, h1, h2, n, h3⟩ := (show ObjOk X.prog X.w H s.heap tp (.tup cs) from I.hok tp _ hT)
  have e3 := ClsV.all k rv
  subst e3
  obtain ⟨oc, od2, dt, sl⟩ := o
  dsimp only at h2 h3
  subst h2 h3
  have hcl : (PySem.W.clsIn X.K D).isSome = true := by
    obtain ⟨cd, hc, _⟩ := PySem.W.any_some C.hd
    rw [hc]
    rfl
  exact PySem.W.kia_tup (PySem.W.kitx_exc hcl C.hg C.hk C.hs C.ha C.hn C.ht C.hm) I.kIn J h1 e (fun z => nomatch z) fun tk => ⟨.bl b, H, I.tok tk, rfl, q⟩
/-- e.n, e a held exception -/
theorem pe_xh {e : Expr} {te : TE} {pos : Pos} {n : Str} (he : PE X e te) (hb : attributeBase e n X.env (eval e X.env) = eval e X.env := by rfl) :
    PE X (.Attribute e n pos) (fun σ H Q => te σ H fun x H1 => ∃ (a C dd : Addr) (fs : List (Str × V)) (v : V), x = .ref a ∧ H1 a = some (ExH (.ref C) (some dd) a) ∧ H1 dd = some (.xd fs) ∧ XfC X.K C ∧ PySem.W.findIn X.K (.ref C) n = some none ∧ fs.lookup n = some v ∧ Q v H1) := by
  constructor
  intro pins s σ H Q I h
  refine attr_of hb (thn (he.run pins s σ H _ I h) ?_)
  intro u s1 hh
  obtain ⟨x, H1, I1, rx, a, C, dd, fs, v, ex, ha, hdd, T, hno, l, q⟩ := hh
  subst ex
  obtain rfl : u = Value.ref a := rx
  obtain ⟨ob, ws, e1, e2, e3⟩ := exH_at I1.hok ha
  obtain ⟨mA, hns, hr⟩ := (show ObjOk X.prog X.w H1 s1.heap dd (.xd fs) from I1.hok dd _ hdd)
  obtain ⟨od, ho, hl⟩ := lookIn_ns hns
  obtain ⟨u, hu, ru⟩ := RelO.some_of (v := v) (o := mA n) (by rw [← l]; exact hr n)
  have J : PySem.W.InstAt s1.heap a ob C (some od) := ⟨e1, e2.1, by unfold PySem.W.notCls; rw [e3] <;> rfl, by rw [e2.2]; exact ho⟩
  exact HandSPX.exc_get I1.kIn J T.ga T.gg T.exC (PySem.W.findObj_own T.hdC hno rfl (by rw [hl, hu])) (handed_of ru) ⟨v, H1, I1.tok _, ru, q⟩
end

/-! ### own error classes with an __init__ of one field, of two -/
def spEr1 (C : Addr) (f : Str) : Sp := fun vs H Q _ => ∃ (a : Addr) (v : V), vs = [.ref a, v] ∧ H a = some (exo a C none) ∧ ∀ dx, H dx = none → dx ≠ a → Q .non (L2.upd (L2.upd H dx (exd dx [(f, v)])) a (exo a C (some dx)))
def spEr2 (C : Addr) (f g : Str) : Sp := fun vs H Q _ => ∃ (a : Addr) (v w : V), vs = [.ref a, v, w] ∧ H a = some (exo a C none) ∧ ∀ dx, H dx = none → dx ≠ a → Q .non (L2.upd (L2.upd (L2.upd H dx (exd dx [(f, v)])) a (exo a C (some dx))) dx (exd dx [(g, w), (f, v)]))
/-- the error class of the name x, at C, whose __init__ keeps sp -/
structure ErC (P : Program) (w : World) (K : PySem.W.Frag) (mg : Str → Option Value) (base : Heap) (x : Str) (C : Addr) (ps : List Str) (sp : Sp) : Prop where
  T : OexC K C
  m : mg x = some (.ref C)
  ex : ∃ (fI : Addr) (fd : FuncData), PySem.W.findIn K (.ref C) "__init__" = some (some (.ref fI)) ∧ PySem.W.typeIn K (.ref fI) = some (.type "function") ∧ Binds K fd ps [] ∧ FnOk P w K mg base CX0 1 fI fd ps sp
/-- .. as the text gives it -/
structure ErF (K : PySem.W.Frag) (mg : Str → Option Value) (x : Str) (C : Addr) (qual : Str) (st : Stmt) (ps : List Str) : Prop where
  T : OexC K C
  m : mg x = some (.ref C)
  ex : ∃ (fI : Addr) (fd : FuncData), PySem.W.findIn K (.ref C) "__init__" = some (some (.ref fI)) ∧ PySem.W.typeIn K (.ref fI) = some (.type "function") ∧ Binds K fd ps [] ∧ Fun K "__init__" qual st fI fd
theorem del_made {H : Hp} {a d : Addr} {o1 o2 o3 o4 : HO} (ha : H a = none) (hd : H d = none) (n : d ≠ a) : L2.upd (del (L2.upd (L2.upd (L2.upd H a o1) d o2) a o3) a) d o4 = L2.upd H d o4 := by
  funext b
  by_cases h1 : b = d
  · rw [h1, upd_same, upd_same]
  · rw [upd_ne h1, upd_ne h1]
    by_cases h2 : b = a
    · rw [h2, del_same, ha]
    · rw [del_ne h2, upd_ne h2, upd_ne h1, upd_ne h2]
theorem del_made2 {H : Hp} {a d : Addr} {o1 o2 o3 o4 o5 : HO} (ha : H a = none) (hd : H d = none) (n : d ≠ a) : L2.upd (del (L2.upd (L2.upd (L2.upd (L2.upd H a o1) d o2) a o3) d o5) a) d o4 = L2.upd H d o4 := by
  funext b
  by_cases h1 : b = d
  · rw [h1, upd_same, upd_same]
  · rw [upd_ne h1, upd_ne h1]
    by_cases h2 : b = a
    · rw [h2, del_same, ha]
    · rw [del_ne h2, upd_ne h1, upd_ne h2, upd_ne h1, upd_ne h2]

section
variable {X : Cx} {x : Str} {C : Addr} {ps : List Str} {sp : Sp} {e : Expr} {es : List Expr} {ta : TA} {p pos : Pos}
theorem pmk_er (R : ErC X.prog X.w X.K X.mg X.base x C ps sp) (hr : Room 2 X.A) (hg : Gl X x) (ha : PA X (e :: es) ta)
    (hdb : (x == ("__debug__" : Str)) = false := by decide) (hs : starEach (e :: es) X.env = (false, eval e X.env) :: starEach es X.env := by rfl) (hpl : (backTo pos (starEach es X.env)).any (·.1) = false := by rfl) :
    PMk X (.Call (.Name x p) (e :: es) [] pos) (tMkO C sp [] ta) := by
  obtain ⟨fI, fd, i1, i2, hb, F⟩ := R.ex
  exact pmk_oex R.T i1 i2 F hr hb .nil (fun _ _ _ _ _ _ _ z => z.elim) hg R.m ha hdb hs hpl
/-- f(e, ..), where what f raises is wished for at the slots -/
theorem pe_dS {k : Nat} {E : L2.St → XK} (D : Dk X.prog X.w X.K X.mg X.base (L2.CX X.prog X.w) k x ps sp) (hr : Room k X.A) (hx : ∀ σ, PassesAt (L2.CX X.prog X.w) X σ (E σ)) (hg : Gl X x) (ha : PA X (e :: es) ta)
    (hdb : (x == ("__debug__" : Str)) = false := by decide) (hs : starEach (e :: es) X.env = (false, eval e X.env) :: starEach es X.env := by rfl) (hpl : (backTo pos (starEach es X.env)).any (·.1) = false := by rfl) :
    PE X (.Call (.Name x p) (e :: es) [] pos) (tCallS sp E ta) := by
  obtain ⟨f, fd, hm, hk, hb, F⟩ := D
  exact pe_callS F hr hg hm hk hb hx ha hdb hs hpl
end
theorem look1 {f : Str} {v : V} : List.lookup f [(f, v)] = some v := by simp [List.lookup]
theorem exc_xf {K : PySem.W.Frag} {D : Addr} (h : ExcC K D) : XfC K D := ⟨h.hg, h.hk, h.hs, h.hd⟩
theorem kitAny_no {K : PySem.W.Frag} {t c : Value} {cs : List Value} (h : PySem.W.kitOne K t c = some false) (r : PySem.W.kitAny K t cs = some false) : PySem.W.kitAny K t (c :: cs) = some false := kitAny_cons h (fun _ => r) fun z => nomatch z
theorem HeldAt.same {H H' : Hp} {a D : Addr} (h : HeldAt H a D) (s : Same H H') : HeldAt H' a D := by
  obtain ⟨d, e, q⟩ := h
  refine ⟨d, s _ _ e, ?_⟩
  rcases q with q | ⟨dd, fs, e1, e2⟩
  · exact .inl q
  · exact .inr ⟨dd, fs, e1, s _ _ e2⟩
theorem kStr {K : PySem.W.Frag} : PySem.W.kitOne K (.type "str") (.type "str") = some true := kit_ty (by decide +kernel)
end Brk

set_option Elab.async false
set_option linter.all false
set_option maxRecDepth 100000
set_option maxHeartbeats 4000000
/-! Own words about texts: written numbers. -/
namespace Brk
open PySem PySem.Spec PyProof.Rows L2
/-! ### written numbers, as lists of signs -/
def digL (l : List Nat) : Bool := l.all fun c => decide (48 ≤ c ∧ c ≤ 57)
theorem digL_all {l : List Nat} : digL l = true ↔ NumText.AllDigits l := by
  unfold digL NumText.AllDigits
  simp
/-- the digits behind a minus -/
def bodyL : List Nat → List Nat
  | 45 :: r => r
  | l => l
def negL : List Nat → Bool
  | 45 :: _ => true
  | _ => false
def valL (l : List Nat) : Option Int :=
  if 1 ≤ (bodyL l).length ∧ (bodyL l).length ≤ 40 then
    if digL (bodyL l) = true then
      if (bodyL l).head? = some 48 ∧ (negL l = true ∨ 1 < (bodyL l).length) then none
      else some (if negL l = true then 0 - (NumText.digitsVal (bodyL l) : Int) else (NumText.digitsVal (bodyL l) : Int))
    else none
  else none
def numberB (l : List Nat) : Bool :=
  if l = [48] then true else decide (1 ≤ (bodyL l).length) && (decide ((bodyL l).length ≤ 40) && (!decide ((bodyL l).head? = some 48) && digL (bodyL l)))
theorem number_val (l : List Nat) : numberB l = (valL l).isSome := by
  unfold numberB valL
  by_cases h0 : l = [48]
  · subst h0
    decide
  · rw [if_neg h0]
    by_cases h1 : 1 ≤ (bodyL l).length ∧ (bodyL l).length ≤ 40
    · rw [if_pos h1, decide_eq_true h1.1, decide_eq_true h1.2]
      by_cases h2 : digL (bodyL l) = true
      · rw [if_pos h2, h2]
        by_cases h3 : (bodyL l).head? = some 48
        · rw [decide_eq_true h3]
          by_cases h4 : negL l = true ∨ 1 < (bodyL l).length
          · rw [if_pos ⟨h3, h4⟩]
            rfl
          · exfalso
            have h5 : ¬ negL l = true := fun z => h4 (.inl z)
            have h6 : ¬ 1 < (bodyL l).length := fun z => h4 (.inr z)
            have e : bodyL l = l := by
              unfold bodyL
              split
              · exact absurd rfl h5
              · rfl
            rw [e] at h3 h6 h1
            match l, h3, h6, h1 with
            | [x], h3, _, _ =>
              have ex : x = 48 := by simpa using h3
              exact h0 (by rw [ex])
            | [], _, _, h1 => simp at h1
            | _ :: _ :: _, _, h6, _ => simp at h6
        · rw [decide_eq_false h3, if_neg (fun z => h3 z.1)]
          rfl
      · rw [if_neg h2, Bool.eq_false_iff.mpr h2]
        simp
    · rw [if_neg h1]
      by_cases h2 : 1 ≤ (bodyL l).length
      · rw [decide_eq_true h2, decide_eq_false (fun z => h1 ⟨h2, z⟩)]
        rfl
      · rw [decide_eq_false h2]
        rfl
/-- digits without a needless zero ahead are the signs of their value -/
theorem num_of_digits : ∀ (n : Nat) (l : List Nat), l.length = n → NumText.AllDigits l → l ≠ [] → (l.head? = some 48 → l.length = 1) → TL.numL (NumText.digitsVal l) = l ∧ (l.head? ≠ some 48 → 1 ≤ NumText.digitsVal l) := by
  intro n
  induction n with
  | zero =>
    intro l h _ hn
    exact absurd (List.length_eq_zero_iff.mp h) hn
  | succ n ih =>
    intro l h hd hn hz
    obtain ⟨r, c, rfl⟩ : ∃ r c, l = r ++ [c] := ⟨l.dropLast, l.getLast hn, (List.dropLast_concat_getLast hn).symm⟩
    have hc : 48 ≤ c ∧ c ≤ 57 := hd c (by simp)
    have hv : NumText.digitsVal (r ++ [c]) = NumText.digitsVal r * 10 + (c - 48) := by
      unfold NumText.digitsVal
      rw [List.foldl_append]
      rfl
    by_cases hr : r = []
    · subst hr
      have e : NumText.digitsVal ([] ++ [c]) = c - 48 := by rw [hv]; show 0 * 10 + (c - 48) = _; omega
      rw [e]
      constructor
      · rw [TL.numL_lt (by omega)]
        show [48 + (c - 48)] = [c]
        congr 1
        omega
      · intro q
        have : c ≠ 48 := fun z => q (by rw [z]; rfl)
        omega
    · have hrl : r.length = n := by
        rw [List.length_append, List.length_singleton] at h
        omega
      have h0 : r.head? ≠ some 48 := by
        intro q
        have q2 : (r ++ [c]).head? = some 48 := by
          rw [List.head?_append, q]
          rfl
        have z := hz q2
        rw [List.length_append, List.length_singleton] at z
        exact hr (List.length_eq_zero_iff.mp (by omega))
      obtain ⟨i1, i2⟩ := ih r hrl (fun x hx => hd x (by simp [hx])) hr (fun q => absurd q h0)
      have p := i2 h0
      rw [hv]
      constructor
      · rw [TL.numL_step (by omega)]
        have e1 : (NumText.digitsVal r * 10 + (c - 48)) / 10 = NumText.digitsVal r := by omega
        have e2 : 48 + (NumText.digitsVal r * 10 + (c - 48)) % 10 = c := by omega
        rw [e1, e2, i1]
      · intro _
        omega

/-! ### texts and their signs -/
theorem str_ext {a b : Str} (h : a.cps.toList = b.cps.toList) : a = b := by
  obtain ⟨x⟩ := a
  obtain ⟨y⟩ := b
  have e : x = y := Array.toList_inj.mp h
  rw [e]
theorem body_neg {l : List Nat} (h : negL l = true) : l = 45 :: bodyL l := by
  unfold negL at h
  split at h
  · rfl
  · exact absurd h Bool.false_ne_true
theorem body_pos {l : List Nat} (h : negL l = false) : bodyL l = l := by
  unfold negL at h
  unfold bodyL
  split at h
  · exact absurd h.symm Bool.false_ne_true
  · rfl
theorem body_len (l : List Nat) : (bodyL l).length ≤ l.length := by
  unfold bodyL
  split <;> simp
theorem val_parts {l : List Nat} {v : Int} (h : valL l = some v) : 1 ≤ (bodyL l).length ∧ (bodyL l).length ≤ 40 ∧ NumText.AllDigits (bodyL l) ∧ ((bodyL l).head? = some 48 → (bodyL l).length = 1 ∧ negL l = false) ∧
    v = (if negL l = true then 0 - (NumText.digitsVal (bodyL l) : Int) else (NumText.digitsVal (bodyL l) : Int)) := by
  unfold valL at h
  split at h
  · rename_i h1
    split at h
    · rename_i h2
      split at h
      · cases h
      · rename_i h3
        refine ⟨h1.1, h1.2, digL_all.mp h2, fun q => ?_, (Option.some.inj h).symm⟩
        constructor
        · have z : ¬ 1 < (bodyL l).length := fun z => h3 ⟨q, .inr z⟩
          have := h1.1
          omega
        · exact Bool.eq_false_iff.mpr fun z => h3 ⟨q, .inl z⟩
    · cases h
  · cases h
theorem int_of_text {z : Str} {v : Int} (h : valL z.cps.toList = some v) : intText? z = some v := by
  obtain ⟨h1, h2, h3, h4, rfl⟩ := val_parts h
  have ne : bodyL z.cps.toList ≠ [] := fun e => by rw [e] at h1; exact absurd h1 (by decide)
  have hl : z.length = z.cps.toList.length := (Array.length_toList).symm
  cases hn : negL z.cps.toList with
  | true =>
    have e := body_neg hn
    have q := intText_neg e h3 ne (by rw [hl, e, List.length_cons]; omega)
    rw [q, if_pos rfl]
    congr 1
    omega
  | false =>
    have e := body_pos hn
    rw [e] at h1 h2 h3 ne ⊢
    have q := intText_digits h3 ne (by rw [hl]; omega)
    rw [q, if_neg Bool.false_ne_true]
theorem text_of_int {z : Str} {v : Int} (h : valL z.cps.toList = some v) : Str.ofString (toString v) = z := by
  obtain ⟨h1, h2, h3, h4, rfl⟩ := val_parts h
  have ne : bodyL z.cps.toList ≠ [] := fun e => by rw [e] at h1; exact absurd h1 (by decide)
  obtain ⟨d1, d2⟩ := num_of_digits _ _ rfl h3 ne (fun q => (h4 q).1)
  refine str_ext ?_
  cases hn : negL z.cps.toList with
  | true =>
    have h0 : (bodyL z.cps.toList).head? ≠ some 48 := fun q => by
      have := (h4 q).2
      rw [hn] at this
      cases this
    have p := d2 h0
    have e := body_neg hn
    rw [if_pos rfl, PyProof.Rows.toString_neg (by omega)]
    have e2 : (0 - (0 - (NumText.digitsVal (bodyL z.cps.toList) : Int))) = ((NumText.digitsVal (bodyL z.cps.toList) : Nat) : Int) := by omega
    rw [e2, signs_ofString, String.toList_append, List.map_append, ← signs_ofString (toString _)]
    have e3 := TL.tl_num (NumText.digitsVal (bodyL z.cps.toList))
    unfold TL.tl at e3
    rw [e3, d1, e]
    rfl
  | false =>
    have e := body_pos hn
    rw [if_neg Bool.false_ne_true]
    have e3 := TL.tl_num (NumText.digitsVal (bodyL z.cps.toList))
    unfold TL.tl at e3
    rw [e3, d1, e]
theorem digits_lt : ∀ {l : List Nat}, NumText.AllDigits l → NumText.digitsVal l < 10 ^ l.length := by
  have key : ∀ (l : List Nat) (a k : Nat), NumText.AllDigits l → a < 10 ^ k → l.foldl (fun acc c => acc * 10 + (c - 48)) a < 10 ^ (k + l.length) := by
    intro l
    induction l with
    | nil => intro a k _ h; exact h
    | cons c r ih =>
      intro a k h ha
      have hc := h c (List.mem_cons_self ..)
      have q := ih (a * 10 + (c - 48)) (k + 1) (fun x hx => h x (List.mem_cons_of_mem _ hx)) (by rw [Nat.pow_succ]; omega)
      rw [List.foldl_cons, List.length_cons]
      have e : k + (r.length + 1) = k + 1 + r.length := by omega
      rw [e]
      exact q
  intro l h
  have q := key l 0 0 h (by decide)
  rw [Nat.zero_add] at q
  exact q
theorem val_small {l : List Nat} {v : Int} (h : valL l = some v) : v.natAbs.log2 < 1920 := by
  obtain ⟨h1, h2, h3, h4, rfl⟩ := val_parts h
  have q := digits_lt h3
  have b : NumText.digitsVal (bodyL l) < 10 ^ 40 := Nat.lt_of_lt_of_le q (Nat.pow_le_pow_right (by decide) h2)
  have e : (if negL l = true then 0 - (NumText.digitsVal (bodyL l) : Int) else (NumText.digitsVal (bodyL l) : Int)).natAbs = NumText.digitsVal (bodyL l) := by
    split <;> omega
  rw [e]
  by_cases z : NumText.digitsVal (bodyL l) = 0
  · rw [z]
    decide
  · exact (Nat.log2_lt z).mpr (Nat.lt_of_lt_of_le (m := 2 ^ 133) (by omega) (Nat.pow_le_pow_right (by decide) (by decide)))
/-- the first sign, the rest -/
theorem cut_first {z : Str} : decide (V.str (cutS z none (some 1)) = V.str "-") = negL z.cps.toList := by
  have e : (cutS z none (some 1)).cps.toList = z.cps.toList.take 1 := by
    unfold cutS
    rw [HT.sIx_none]
    have e1 : HT.sIx z.length z.length (some 1) = min 1 z.length := HT.sIx_nat _ _ 1
    rw [e1]
    show ((z.cps.toList.drop 0).take (min 1 z.length - 0)) = _
    rw [List.drop_zero, Nat.sub_zero]
    have hl : z.length = z.cps.toList.length := (Array.length_toList).symm
    rw [hl, List.take_eq_take_iff]
    omega
  have m : ("-" : Str).cps.toList = [45] := by decide +kernel
  cases hn : negL z.cps.toList with
  | true =>
    refine decide_eq_true ?_
    congr 1
    refine str_ext ?_
    rw [e, m, body_neg hn]
    rfl
  | false =>
    refine decide_eq_false fun q => ?_
    have q2 := congrArg (fun s : Str => s.cps.toList) (V.str.inj q)
    simp only [e, m] at q2
    cases hz : z.cps.toList with
    | nil => rw [hz] at q2; cases q2
    | cons c r =>
      rw [hz] at q2 hn
      have ec : c = 45 := by simpa using q2
      rw [ec] at hn
      cases hn
theorem cut_rest {z : Str} (h : negL z.cps.toList = true) : (cutS z (some 1) none).cps.toList = bodyL z.cps.toList := by
  have e := body_neg h
  have hl : z.length = z.cps.toList.length := (Array.length_toList).symm
  unfold cutS
  have e1 : HT.sIx z.length 0 (some 1) = min 1 z.length := HT.sIx_nat _ _ 1
  rw [e1, HT.sIx_none]
  have e2 : min 1 z.length = 1 := by rw [hl, e, List.length_cons]; omega
  rw [e2]
  show (z.cps.toList.drop 1).take (z.length - 1) = _
  rw [List.take_of_length_le (by rw [List.length_drop, ← hl]; exact Nat.le_refl _)]
  rw [e]
  rfl

theorem cut_prefix {z : Str} : (Txt.removeprefix z "-").cps.toList = bodyL z.cps.toList := by
  have hl : z.length = z.cps.toList.length := (Array.length_toList).symm
  have em : ("-" : Str) = ⟨#[45]⟩ := by decide +kernel
  unfold Txt.removeprefix
  rw [em]
  cases hn : negL z.cps.toList with
  | true =>
    have e := body_neg hn
    have h1 : Builtin.Str.subAt z ⟨#[45]⟩ 0 = true := ((StrLaws.subAt_one z 45 0).mpr (by rw [e]; rfl)).2
    rw [h1, if_pos rfl]
    have h2 : 1 ≤ z.length := by rw [hl, e, List.length_cons]; omega
    show (Txt.affix z (some (1, z.length))).cps.toList = _
    unfold Txt.affix
    have h3 : (z.length - 1 == z.length) = false := by
      rw [beq_eq_false_iff_ne]
      omega
    dsimp only
    rw [h3, if_neg Bool.false_ne_true]
    show (z.cps.extract 1 z.length).toList = _
    rw [Array.toList_extract, List.extract_eq_drop_take]
    rw [List.take_of_length_le (by rw [List.length_drop, hl]; exact Nat.le_refl _)]
    rw [e]
    rfl
  | false =>
    have h1 : Builtin.Str.subAt z ⟨#[45]⟩ 0 = false := by
      refine Bool.eq_false_iff.mpr fun q => ?_
      cases hz : z.cps.toList with
      | nil =>
        have ez : z = ⟨#[]⟩ := str_ext hz
        rw [ez] at q
        exact absurd q (by decide +kernel)
      | cons c r =>
        have q2 := (StrLaws.subAt_one z 45 0).mp ⟨by rw [hl, hz]; show 0 + 1 ≤ r.length + 1; omega, q⟩
        rw [hz] at q2 hn
        have ec : c = 45 := by simpa using q2
        rw [ec] at hn
        cases hn
    rw [h1, if_neg Bool.false_ne_true, body_pos hn]
    rfl
theorem find_dig {c : Nat} (h : 48 ≤ c ∧ c ≤ 57) : Txt.find "0123456789" ⟨#[c]⟩ = (c : Int) - 48 := by
  have q : c = 48 ∨ c = 49 ∨ c = 50 ∨ c = 51 ∨ c = 52 ∨ c = 53 ∨ c = 54 ∨ c = 55 ∨ c = 56 ∨ c = 57 := by omega
  rcases q with rfl | rfl | rfl | rfl | rfl | rfl | rfl | rfl | rfl | rfl <;> decide +kernel
theorem dig_mem {c : Nat} : c ∈ ("0123456789" : Str).cps.toList ↔ 48 ≤ c ∧ c ≤ 57 := by
  have e : ("0123456789" : Str).cps.toList = [48, 49, 50, 51, 52, 53, 54, 55, 56, 57] := by decide +kernel
  rw [e]
  simp only [List.mem_cons, List.not_mem_nil, or_false]
  omega
theorem find_no {c : Nat} (h : ¬ (48 ≤ c ∧ c ≤ 57)) : Txt.find "0123456789" ⟨#[c]⟩ = -1 := by
  have q := StrLaws.found_one "0123456789" c
  rw [decide_eq_false (fun z => h (dig_mem.mp z))] at q
  unfold Txt.find
  cases e : Builtin.Str.occurrences "0123456789" ⟨#[c]⟩ 0 ("0123456789" : Str).length 1 with
  | nil => rfl
  | cons x r =>
    rw [e] at q
    cases q
/-- a for over a text's signs -/
theorem for_text {x : Str} {g : TG} {tb : TS} {D : Ends} {σ : L2.St} {H : Hp} (Pv : Nat → L2.St → Hp → Prop) (h0 : Pv 0 σ H)
    (hs : ∀ (i c : Nat) (σ : L2.St) (H : Hp), x.cps[i]? = some c → Pv i σ H → g (.str ⟨#[c]⟩) σ H fun σ2 H2 => tb { D with nx := Pv (i + 1), ct := Pv (i + 1), bk := D.nx } σ2 H2) (hd : ∀ σ H, Pv x.cps.size σ H → D.nx σ H) :
    ∃ W : Nat → Nat → L2.St → Hp → Prop, (∃ m, W 0 m σ H) ∧ ∀ i m σ H, W i m σ H →
      ((Its x).stop i H ∧ D.nx σ H) ∨ ((Its x).go i H ∧ ∃ N : L2.St → Hp → Prop, (∀ σ' H', N σ' H' → ∃ m', m' < m ∧ W (i + 1) m' σ' H') ∧ ∀ y H', (Its x).yld i H y H' → g y σ H' fun σ2 H2 => tb { D with nx := N, ct := N, bk := D.nx } σ2 H2) := by
  refine ⟨fun i m σ H => m + i = x.cps.size ∧ Pv i σ H, ⟨x.cps.size, rfl, h0⟩, ?_⟩
  intro i m σ H hh
  obtain ⟨hm, p⟩ := hh
  by_cases z : m = 0
  · subst z
    have e : i = x.cps.size := by omega
    subst e
    exact Or.inl ⟨Nat.le_refl _, hd σ H p⟩
  · refine Or.inr ⟨by show i < x.cps.size; omega, Pv (i + 1), fun _ _ p' => ⟨m - 1, by omega, by omega, p'⟩, ?_⟩
    intro y H' yy
    obtain ⟨e, c, hc, ey⟩ := yy
    subst e ey
    exact hs i c σ _ hc p
section
variable {X : Cx}
/-- text * number: some text, of so many signs -/
theorem op_mulS : OpR X (binaryOp .Mult) (fun x y H Q => ∃ (z : Str) (i : Int), x = .str z ∧ y = .int i ∧ z.length ≤ 16 ∧ 0 ≤ i ∧ i ≤ 1000000 ∧ ∀ r : Str, (r.length : Int) = (z.length : Int) * i → Q (.str r) H) := by
  intro pins s σ H x y v u Q I rx ry h
  obtain ⟨z, i, rfl, rfl, h1, h2, h3, q⟩ := h
  obtain ⟨t, rfl⟩ := rx
  obtain ⟨t', rfl⟩ := ry
  refine PySem.W.KXi.mul rfl h1 (by omega) (by omega) fun t2 k _ e => ?_
  exact ⟨.str _, H, I.tok _, ⟨_, rfl⟩, q _ (e h2)⟩
end

def spIsNumber : Sp := fun vs H Q _ => ∃ (z : Str), vs = [.str z] ∧ z.length ≤ 100000 ∧ ∀ H', Same H H' → Q (.bl (numberB z.cps.toList)) H'

def vOpt : Option Int → V
  | some v => .int v
  | none => .non
def spValue : Sp := fun vs H Q _ => ∃ (z : Str), vs = [.str z] ∧ z.length ≤ 600 ∧ Q (vOpt (valL z.cps.toList)) H
def spReadNumber (C : Addr) : Sp := fun vs H Q E => ∃ (z : Str), vs = [.str z] ∧ z.length ≤ 600 ∧ (∀ v, valL z.cps.toList = some v → ∀ H', Same H H' → Q (.int v) H') ∧
  (valL z.cps.toList = none → ∀ H' d, Same H H' → H' d = none → E (.ref C) (some d) (L2.upd H' d (.xd [("text", .str z)])))
def spWriteNumber : Sp := fun vs H Q _ => ∃ (v : Int), vs = [.int v] ∧ v.natAbs.log2 < 1920 ∧ Q (.str (Str.ofString (toString v))) H
def spReadT : Sp := fun vs H Q _ => ∃ (z : Str), vs = [.str z] ∧ z.length ≤ 600 ∧ ∀ H', Same H H' → Q (.bl true) H'

theorem catL {a b : Str} (ha : a.length ≤ 1000) (hb : b.length ≤ 1000) : a.length + b.length ≤ sizeLine := Nat.le_trans (Nat.add_le_add ha hb) (by decide)
theorem cutS_len {z : Str} {lo hi : Option Int} : (cutS z lo hi).length ≤ z.length := by
  have h1 : (cutS z lo hi).length = ((z.cps.toList.drop (HT.sIx z.length 0 lo)).take (HT.sIx z.length z.length hi - HT.sIx z.length 0 lo)).length := by
    unfold cutS
    exact (Array.length_toList).symm
  have h2 : z.length = z.cps.toList.length := (Array.length_toList).symm
  rw [h1, h2, List.length_take, List.length_drop]
  omega
theorem str_at {z : Str} {i : Int} (h0 : 0 ≤ i) (h1 : i < z.length) : ∃ c, z.cps[i.toNat]? = some c := by
  have h : z.length = z.cps.size := rfl
  exact ⟨_, Array.getElem?_eq_getElem (by omega)⟩
theorem one_len {c : Nat} : (⟨#[c]⟩ : Str).length = 1 := rfl
theorem join_small {y : Str} (hy : y.length = 0) : ∀ {ys : List Str}, (∀ x ∈ ys, x.length ≤ 1) → (Txt.join y ys).length ≤ ys.length := by
  have key : ∀ (ys : List Str), (∀ x ∈ ys, x.length ≤ 1) → (Str.join y ys).length ≤ ys.length := by
    intro ys
    induction ys with
    | nil => intro _; exact Nat.le_refl _
    | cons a r ih =>
      intro h
      cases r with
      | nil =>
        have := h a (List.mem_singleton.mpr rfl)
        exact this
      | cons b q =>
        have i1 := ih fun x hx => h x (List.mem_cons_of_mem _ hx)
        have i2 := h a (List.mem_cons_self ..)
        show (a ++ y ++ Str.join y (b :: q)).length ≤ _
        rw [Str.length_append, Str.length_append, List.length_cons]
        omega
  intro ys h
  rw [TL.join_eq]
  exact key ys h
def spNear : Sp := fun vs H Q _ => ∃ (z : Str), vs = [.str z] ∧ z.length ≤ 100 ∧ ∀ (p : Addr) (ys : List Str) (H' : Hp), Same H H' → H' p = some (.lst (ys.map V.str)) → (∀ y ∈ ys, y.length ≤ 600) → Q (.ref p) H'
def spWritten : Sp := fun vs H Q _ => ∃ (p c : Addr) (ns : List Int), vs = [.ref p] ∧ Pool ns c H p ∧ ∀ (y : Str) (H' : Hp), y.length ≤ 60 → Pool ns c H' p → Q (.str y) H'
def spOther : Sp := fun vs H Q _ => ∃ (p c : Addr) (ns : List Int) (z : Str), vs = [.ref p, .str z] ∧ Pool ns c H p ∧ z.length ≤ 60 ∧ ∀ (y : Str) (H' : Hp), y.length ≤ 300 → Pool ns c H' p → Q (.str y) H'
end Brk

set_option Elab.async false
set_option linter.all false
set_option maxRecDepth 100000
set_option maxHeartbeats 4000000
/-! Own words: things that are made under a name, or refused for it. -/
namespace Brk
open PySem PySem.Spec PyProof.Rows L2
/-- a refused name: the new exception's dict has it -/
def RefN (CB : Addr) (z : Str) (H : Hp) (E : XK) : Prop := ∀ (H' : Hp) (d : Addr), Same H H' → H' d = some (.xd [("name", .str z)]) → E (.ref CB) (some d) H'
theorem RefN.from {CB : Addr} {z : Str} {H H1 : Hp} {E : XK} (r : RefN CB z H E) (s : Same H H1) : RefN CB z H1 E := fun H' d s' e => r H' d (s.trans s') e
def spNamedX (K : PySem.W.Frag) (CB : Addr) : Sp := fun vs H Q E => ∃ (p C dx : Addr) (fs : List (Str × V)) (z : Str), vs = [.ref p, .str z] ∧ H p = some (.ins C dx fs) ∧ Cls K C ∧ NoAttr K C "name" ∧ z.length ≤ 1000 ∧ fs.length < 100 ∧
  (nameB z = true → ∀ H', H' p = some (.ins C dx (putF "name" (.str z) fs)) → But p H H' → Q .non H') ∧ (nameB z = false → RefN CB z H E)
def spItemX (K : PySem.W.Frag) (CB : Addr) : Sp := fun vs H Q E => ∃ (p C dx : Addr) (fs : List (Str × V)) (z : Str) (g m : V) (d : Int), vs = [.ref p, .str z, g, m, .int d] ∧ H p = some (.ins C dx fs) ∧ ItemC K C ∧ z.length ≤ 1000 ∧ 0 ≤ d ∧ d ≤ 8 ∧ fs.length < 90 ∧
  (nameB z = true → ∀ H', H' p = some (.ins C dx (putI z g m (.int d) fs)) → But p H H' → Q .non H') ∧ (nameB z = false → RefN CB z H E)
/-- an instance of C at p with the name z -/
def NameAt (C p : Addr) (z : Str) (H : Hp) : Prop := ∃ (dx : Addr) (fs : List (Str × V)), H p = some (.ins C dx fs) ∧ fs.lookup ("name" : Str) = some (.str z)
theorem putI_name {z : Str} {g m d : V} {fs : List (Str × V)} : (putI z g m d fs).lookup ("name" : Str) = some (.str z) := by
  unfold putI putT
  rw [look_ne (by decide +kernel), look_ne (by decide +kernel), look_ne (by decide +kernel), look_put]
def spPieceX (K : PySem.W.Frag) (CB : Addr) : Sp := fun vs H Q E => ∃ (p C dx : Addr) (z : Str) (g m : V) (l t d : Int), vs = [.ref p, .str z, g, .int l, .int t, m, .int d] ∧ H p = some (.ins C dx []) ∧ ItemC K C ∧ NoAttr K C "least" ∧ NoAttr K C "most" ∧ z.length ≤ 1000 ∧
  0 ≤ d ∧ d ≤ 8 ∧ 1 ≤ l ∧ l ≤ t ∧ t ≤ l + 8 ∧ (nameB z = true → ∀ H', NameAt C p z H' → But p H H' → Q .non H') ∧ (nameB z = false → RefN CB z H E)
def spBreakX (K : PySem.W.Frag) (CB : Addr) : Sp := fun vs H Q E => ∃ (p C dx : Addr) (z : Str) (g m : V) (n u d y : Int), vs = [.ref p, .str z, g, m, .int n, .int u, .int d, .int y] ∧ H p = some (.ins C dx []) ∧ ItemC K C ∧ NoAttr K C "places" ∧ NoAttr K C "unit" ∧ NoAttr K C "patience" ∧ z.length ≤ 1000 ∧
  0 ≤ d ∧ d ≤ 8 ∧ 1 ≤ n ∧ n ≤ 12 ∧ 1 ≤ u ∧ 1 ≤ y ∧ y ≤ 64 ∧ (nameB z = true → ∀ H', NameAt C p z H' → But p H H' → Q .non H') ∧ (nameB z = false → RefN CB z H E)
/-! ### a house of one kind -/
def spFromOne : Sp := fun vs H Q _ => ∃ n m : Int, vs = [.int n, .int m] ∧ 1 ≤ n ∧ n ≤ m ∧ Q .non H
def spApart1 : Sp := fun vs H Q _ => ∃ n : Int, vs = [.int n] ∧ 1 ≤ n ∧ Q .non H
def spKind1 (CB : Addr) : Sp := fun vs H Q E => ∃ (l : Addr) (z : Str), vs = [.ref l] ∧ H l = some (.lst [.str z]) ∧ z.length ≤ 1000 ∧ (nameB z = true → ∀ H', Same H H' → Q .non H') ∧ (nameB z = false → RefN CB z H E)
def spSpan0 (C : Addr) : Sp := fun vs H Q _ => ∃ (p dx : Addr) (lo hi : Int), vs = [.ref p, .int lo, .int hi] ∧ H p = some (.ins C dx []) ∧ lo ≤ hi ∧ ∀ H', Off p H H' → Q .non H'
def spWays0 (K : PySem.W.Frag) : Sp := fun vs H Q _ => ∃ a : Addr, vs = [.ref a] ∧ SqT K H a [.int 0, .int 0] ∧ ∀ x H', Same H H' → Q (.ref x) H'
structure HouseC (K : PySem.W.Frag) (C : Addr) : Prop where
  c : Cls K C
  n1 : NoAttr K C "studios"
  n2 : NoAttr K C "crews"
  n3 : NoAttr K C "kinds"
  n4 : NoAttr K C "walk"
  n5 : NoAttr K C "pack"
  n6 : NoAttr K C "ahead"
  n7 : NoAttr K C "apart"
/-- a house at p whose kinds are the one text -/
def KindAt (C p : Addr) (z : Str) (H : Hp) : Prop := ∃ (dx t : Addr) (fs : List (Str × V)), H p = some (.ins C dx fs) ∧ fs.lookup ("kinds" : Str) = some (.ref t) ∧ H t = some (.tup [.str z])
def spHouseX (K : PySem.W.Frag) (C CB W1 W2 : Addr) : Sp := fun vs H Q E => ∃ (p dx l : Addr) (z : Str), vs = [.ref p, .int 1, .int 1, .ref l, .ref W1, .ref W2, .int 1, .int 1] ∧ H p = some (.ins C dx []) ∧ H l = some (.lst [.str z]) ∧ HouseC K C ∧ z.length ≤ 1000 ∧
  (nameB z = true → ∀ H', KindAt C p z H' → But p H H' → Q .non H') ∧ (nameB z = false → RefN CB z H E)
/-- what isinstance asks of an own class -/
structure OwnI (K : PySem.W.Frag) (C : Addr) : Prop where
  ha : PySem.W.findIn K (.ref C) "__class__" = some (some (.builtin "object.__class__"))
  hn : PySem.W.specialIn K (.builtin "object.__class__") "__get__" = some (some (.builtin "getset_descriptor.__get__"))
  ht : PySem.W.takesIn K (.builtin "object.__class__") = some true
  hm : PySem.W.mroIn K C (.type "object") = some true
theorem tyx_own {K : PySem.W.Frag} {H : Hp} {a C dx : Addr} {fs : List (Str × V)} (e : H a = some (.ins C dx fs)) (c : Cls K C) (o : OwnI K C) : TyX K H (.ref a) (.ref C) := .base (.ins e c o.ha o.hn o.ht o.hm)
structure NmC (K : PySem.W.Frag) (C CN : Addr) : Prop where
  c : Cls K C
  o : OwnI K C
  n : NoAttr K C "name"
  k : PySem.W.kitOne K (.ref C) (.ref CN) = some true
def spMadeX (K : PySem.W.Frag) (CN CH CB : Addr) : Sp := fun vs H Q E => ∃ (n : Int) (z : Str), vs = [.int n, .str z] ∧ 0 ≤ n ∧ n ≤ 4 ∧ z.length ≤ 1000 ∧
  (nameB z = true → ∀ x H', Same H H' → ((n ≤ 3 ∧ ∃ C, NmC K C CN ∧ NameAt C x z H') ∨ (n = 4 ∧ KindAt CH x z H')) → Q (.ref x) H') ∧ (nameB z = false → RefN CB z H E)
def spDoorX : Sp := fun vs H Q _ => ∃ (n : Int) (z : Str), vs = [.int n, .str z, .bl (nameB z)] ∧ 0 ≤ n ∧ n ≤ 4 ∧ z.length ≤ 1000 ∧ ∀ H', Same H H' → Q (.bl true) H'
def spLName : Sp := fun vs H Q _ => ∃ (z : Str), vs = [.str z] ∧ z.length ≤ 1000 ∧ Q (.bl (nameB z)) H
theorem NameAt.same {C p : Addr} {z : Str} {H H' : Hp} (h : NameAt C p z H) (s : Same H H') : NameAt C p z H' := by
  obtain ⟨dx, fs, a, b⟩ := h
  exact ⟨dx, fs, s _ _ a, b⟩
/-! ### names by place -/
theorem name_yes {z : Str} (h1 : 1 ≤ z.cps.size) (h2 : z.cps.size ≤ 12) (h : ∀ j c, z.cps[j]? = some c → signB c = true ∧ (j = 0 → c ∈ letS.cps.toList)) : nameB z = true := by
  unfold nameB
  have h0 : z.cps.getD 0 0 ∈ letS.cps.toList := by
    have e : z.cps[0]? = some (z.cps.getD 0 0) := by
      rw [Array.getElem?_eq_getElem (by omega)]
      simp [Array.getD, (by omega : 0 < z.cps.size)]
    exact (h 0 _ e).2 rfl
  rw [decide_eq_true h1, decide_eq_true h2, decide_eq_true h0]
  refine List.all_eq_true.mpr fun c hc => ?_
  obtain ⟨j, hj, e⟩ := List.getElem_of_mem hc
  rw [Array.length_toList] at hj
  exact (h j c (by rw [Array.getElem?_eq_getElem hj, ← e]; simp)).1
theorem name_no {z : Str} {j c : Nat} (hc : z.cps[j]? = some c) (h : ¬ (signB c = true ∧ (j = 0 → c ∈ letS.cps.toList))) : nameB z = false := by
  cases e : nameB z with
  | false => rfl
  | true =>
    exfalso
    unfold nameB at e
    rw [Bool.and_eq_true, Bool.and_eq_true, Bool.and_eq_true] at e
    obtain ⟨_, _, e3, e4⟩ := e
    refine h ⟨?_, fun j0 => ?_⟩
    · refine List.all_eq_true.mp e4 c ?_
      rw [← Array.getElem?_toList] at hc
      exact List.mem_of_getElem? hc
    · subst j0
      have q : z.cps.getD 0 0 = c := by
        obtain ⟨hlt, e5⟩ := Array.getElem?_eq_some_iff.mp hc
        simp [Array.getD, hlt, e5]
      rw [← q]
      exact of_decide_eq_true e3
theorem name_len {z : Str} (h : ¬ (1 ≤ z.cps.size ∧ z.cps.size ≤ 12)) : nameB z = false := by
  unfold nameB
  by_cases h1 : 1 ≤ z.cps.size
  · rw [decide_eq_false (fun h2 => h ⟨h1, h2⟩)]
    simp
  · rw [decide_eq_false h1]
    rfl
theorem find_neg {z : Str} {c : Nat} : decide (Txt.find z ⟨#[c]⟩ < 0) = !decide (c ∈ z.cps.toList) := by
  have q := StrLaws.found_one z c
  unfold Txt.find
  cases e : Builtin.Str.occurrences z ⟨#[c]⟩ 0 z.length 1 with
  | nil =>
    rw [e] at q
    rw [← q]
    rfl
  | cons x r =>
    rw [e] at q
    rw [← q]
    exact decide_eq_false (by show ¬ ((x : Nat) : Int) < 0; omega)
/-! ### a op1 b op2 c op3 d, as a test -/
def tChain3 (r r' r'' : R2) (ta tb tc td : TE) : TE := fun σ H Q => ta σ H fun x H1 => tb σ H1 fun y H2 => r x y H2 fun z H3 => ∃ k, z = .bl k ∧
  (if k = true then tc σ H3 fun w H4 => r' y w H4 fun z2 H5 => ∃ k2, z2 = .bl k2 ∧ (if k2 = true then td σ H5 fun w2 H6 => r'' w w2 H6 Q else Q (.bl false) H5) else Q (.bl false) H3)
theorem pt_chain3 {X : Cx} {a b c d : Expr} {ta tb tc td : TE} {pos : Pos} {op op' op'' : CmpOp} {r r' r'' : R2} (ho : OpR X (compareOp op) r) (ho' : OpR X (compareOp op') r') (ho'' : OpR X (compareOp op'') r'') (ha : PE X a ta) (hb : PE X b tb) (hc : PE X c tc) (hd : PE X d td)
    (hm : lastMarks [op, op', op''] [b, c, d] = false := by with_unfolding_all rfl) : PT X (.Compare a [op, op', op''] [b, c, d] pos) (tTest (tChain3 r r' r'' ta tb tc td)) := by
  refine ⟨fun pins s σ H Q I h => ?_⟩
  refine isTrue_chain (thn (ha.run pins s σ H _ I h) fun v s1 ⟨x, H1, I1, r1, q1⟩ => test_link (thn (hb.run pins s1 σ H1 _ I1 q1) fun u s2 ⟨y, H2, I2, r2, q2⟩ =>
    thn (ho pins s2 σ H2 x y v u _ I2 r1 r2 q2) fun e s3 ⟨z, H3, I3, r3, k, e0, q3⟩ => ?_)) hm
  subst e0
  cases r3
  refine wpAny_truthy_bool ?_
  cases k with
  | false =>
    obtain ⟨k', e', q'⟩ := q3
    cases e'
    exact ite_ff ⟨H3, I3, q'⟩
  | true =>
    refine ite_tt (test_link (thn (hc.run pins s3 σ H3 _ I3 q3) fun w' s4 ⟨z', H4, I4, r4, q4⟩ => thn (ho' pins s4 σ H4 y z' u w' _ I4 r2 r4 q4) fun d' s5 ⟨z2, H5, I5, r5, k2, e2, q5⟩ => ?_))
    subst e2
    cases r5
    refine wpAny_truthy_bool ?_
    cases k2 with
    | false =>
      obtain ⟨k', e', q'⟩ := q5
      cases e'
      exact ite_ff ⟨H5, I5, q'⟩
    | true =>
      refine ite_tt (test_last (thn (hd.run pins s5 σ H5 _ I5 q5) fun w2 s6 ⟨z3, H6, I6, r6, q6⟩ => thn (ho'' pins s6 σ H6 z' z3 w' w2 _ I6 r4 r6 q6) fun d2 s7 ⟨z4, H7, I7, r7, k3, e3, q7⟩ => ?_))
      subst e3
      cases r7
      exact wpAny_truthy_bool ⟨H7, I7, q7⟩
/-! ### an __init__ with keyword-only defaults -/
/-- n values and the keywords ks are written, the keyword-only defaults ms fill up -/
def IfG (K : PySem.W.Frag) (C : Addr) (qual : Str) (st : Stmt) (ps : List Str) (n : Nat) (ks : List Str) (ms : List V) : Prop := ∃ (f : Addr) (fd : FuncData) (gU : List Value → List Value → List Value), Mk K C f ∧ Fun K "__init__" qual st f fd ∧ KBn K fd ps n ks gU (fun vs zs => vs ++ (zs ++ ms))
def MkG (P : Program) (w : World) (K : PySem.W.Frag) (mg : Str → Option Value) (base : Heap) (CX : CXT) (k : Nat) (x : Str) (C : Addr) (ps : List Str) (n : Nat) (ks : List Str) (ms : List V) (sp : Sp) : Prop :=
  ∃ (f : Addr) (fd : FuncData) (gU : List Value → List Value → List Value), mg x = some (.ref C) ∧ Mk K C f ∧ KBn K fd ps n ks gU (fun vs zs => vs ++ (zs ++ ms)) ∧ FnOk P w K mg base CX k f fd ps sp
theorem ifG_mk {K : PySem.W.Frag} {C f D : Addr} {qual : Str} {st : Stmt} {ps ks : List Str} {oc doc pm cdv ct : Value} {od an : Option Addr} {osl : Array (Option Value)} (kws : List (Str × V)) (M : Mk K C f)
    (l : K.lookup f = some ⟨oc, od, .func (PySem.W.fnOf "__init__" qual (defArgs st) (defBody st) (defScope st) .none (.ref D) doc pm an cdv ct), osl⟩) (c : PySem.W.codeIn K cdv qual = true) (k : PySem.W.keepIn K (.ref f) = true)
    (hq : ∀ q ∈ kws, ∃ u, PySem.W.nsIn K D q.1 = some (some u) ∧ RelV q.2 u) (n : Nat) (hk : kws ≠ [])
    (h : ∀ (D : Addr) (doc pm : Value) (an : Option Addr) (cdv ct : Value) (us mv ws : List Value), us.length = n → mv.length = kws.length → ws.length = ks.length →
      KwChain D ((kws.map (·.1)).zip mv) (bindArgs (PySem.W.fnOf "__init__" qual (defArgs st) (defBody st) (defScope st) .none (.ref D) doc pm an cdv ct) ⟨us, ks.zip ws⟩) (ps.zip (us ++ (ws ++ mv)))) : IfG K C qual st ps n ks (kws.map (·.2)) := by
  have F : FunD K "__init__" qual (defArgs st) (defBody st) (defScope st) [] kws f (PySem.W.fnOf "__init__" qual (defArgs st) (defBody st) (defScope st) .none (.ref D) doc pm an cdv ct) :=
    ⟨⟨oc, od, _, _, doc, pm, an, cdv, ct, osl, rfl, l, c, .inl ⟨rfl, rfl⟩, .inr ⟨D, rfl, hq⟩⟩, k⟩
  obtain ⟨mv, b⟩ := F.kbinds0 n ks kws (fun us mv ws => us ++ (ws ++ mv)) hk (fun _ z => z) (fun r1 r2 r3 => r1.append (r3.append r2)) h
  exact ⟨f, _, _, M, fun_mk l c k, b⟩
section
variable {X : Cx} {CX : CXT} {k n : Nat} {ps ks : List Str} {ms : List V} {sp : Sp} {E : XK} {x : Str} {C : Addr} {p pos : Pos} {e : Expr} {es : List Expr} {kws : List Keyword} {t tk : TA}
theorem pe_mkG (M : MkG X.prog X.w X.K X.mg X.base CX k x C ps (n + 1) ks ms sp) (hr : Room (k + 1) X.A) (hx : Passes CX X E) (hg : Gl X x) (ha : PA X (e :: es) t) (hkw : PK X kws tk)
    (hall : (backToKw pos (keywordEach kws X.env)).all (·.1.isSome) = true := by rfl) (hks : (backToKw pos (keywordEach kws X.env)).filterMap (·.1) = ks := by rfl)
    (hdb : (x == ("__debug__" : Str)) = false := by decide) (he : starEach (e :: es) X.env = (false, eval e X.env) :: starEach es X.env := by rfl)
    (hpl : ((backTo pos (starEach (e :: es) X.env)).any (·.1) || (backToKw pos (keywordEach kws X.env)).any (·.1.isNone)) = false := by rfl) :
    PE X (.Call (.Name x p) (e :: es) kws pos) (tMakeK C n ks.length sp (fun vs zs => vs ++ (zs ++ ms)) E t tk) := by
  obtain ⟨f, fd, gU, hm, M, hb, F⟩ := M
  exact pe_makeK M F hr hg hm hb hx ha hkw hall hks hdb he hpl
end
theorem sqT_of {K : PySem.W.Frag} {W : Addr} {d : Option Addr} {i : Array Value} {n : Nat} {sl : Array (Option Value)} {xs : List V} (l : K.lookup W = some ⟨.type "tuple", d, .seq i n, sl⟩) (z : i.size ≤ sizeLine) (v : Vals xs i.toList) : ∀ H, SqT K H W xs := fun _ => .inr ⟨_, i, n, l, rfl, rfl, z, v⟩
/-- the __init__ of a class with one written default (a reference) and four keyword-only ones, called with four values -/
def IfW (K : PySem.W.Frag) (C : Addr) (qual : Str) (st : Stmt) (ps : List Str) (kws : List (Str × V)) (e : Addr) : Prop := ∃ (f : Addr) (fd : FuncData) (ds : List Value), Mk K C f ∧ FunD K "__init__" qual (defArgs st) (defBody st) (defScope st) [.ref e] kws f fd ∧ Vals (kws.map (·.2)) ds ∧ Binds K fd ps ds
theorem ifW_mk {K : PySem.W.Frag} {C f D T e : Addr} {qual : Str} {st : Stmt} {ps : List Str} {oc doc pm cdv ct oT : Value} {od an dT : Option Addr} {osl sT : Array (Option Value)} {iT : Array Value} {nT : Nat} (kws : List (Str × V)) (M : Mk K C f)
    (l : K.lookup f = some ⟨oc, od, .func (PySem.W.fnOf "__init__" qual (defArgs st) (defBody st) (defScope st) (.ref T) (.ref D) doc pm an cdv ct), osl⟩) (c : PySem.W.codeIn K cdv qual = true) (k : PySem.W.keepIn K (.ref f) = true)
    (lT : K.lookup T = some ⟨oT, dT, .seq iT nT, sT⟩) (vT : Vals [.ref e] iT.toList) (hq : ∀ q ∈ kws, ∃ u, PySem.W.nsIn K D q.1 = some (some u) ∧ RelV q.2 u) (n : Nat) (hk : kws ≠ []) (hn : n + kws.length = ps.length)
    (h : ∀ (T D : Addr) (doc pm : Value) (an : Option Addr) (cdv ct : Value) (us its ks : List Value), us.length = n → its.length = 1 → ks.length = kws.length →
      ∃ k, bindArgs (PySem.W.fnOf "__init__" qual (defArgs st) (defBody st) (defScope st) (.ref T) (.ref D) doc pm an cdv ct) ⟨us, []⟩ = seqItems? (.ref T) >>= k ∧ KwChain D ((kws.map (·.1)).zip ks) (k (some its.toArray)) (ps.zip (us ++ (its.drop 1 ++ ks)))) : IfW K C qual st ps kws e := by
  have F : FunD K "__init__" qual (defArgs st) (defBody st) (defScope st) [.ref e] kws f (PySem.W.fnOf "__init__" qual (defArgs st) (defBody st) (defScope st) (.ref T) (.ref D) doc pm an cdv ct) :=
    ⟨⟨oc, od, _, _, doc, pm, an, cdv, ct, osl, rfl, l, c, .inr ⟨by simp, T, _, iT.toList, nT, rfl, lT, rfl, vT⟩, .inr ⟨D, rfl, hq⟩⟩, k⟩
  obtain ⟨ds, a, b⟩ := F.binds n 1 (by simp) (by simpa using hn) (fun T D doc pm an cdv ct us its ks h1 h2 h3 => h T D doc pm an cdv ct us its ks h1 h2 h3) hk
  exact ⟨f, _, ds, M, F, by simpa using a, b⟩
theorem un_of {A : Around} {k : Nat} (hr : Room k A) : A.units + 64 < cLine := by
  have q := hr.un
  omega
theorem kBool {K : PySem.W.Frag} : PySem.W.kitOne K (.type "bool") (.type "bool") = some true := kit_ty (by decide +kernel)
theorem kTup {K : PySem.W.Frag} : PySem.W.kitOne K (.type "tuple") (.type "tuple") = some true := kit_ty (by decide +kernel)
theorem eqv_one {z : Str} : PyData.eqv (.tuple [.str z]) (.tuple [.str z]) = true := by simp [PyData.eqv, PyData.eqvAll]
/-- == of any texts, numbers, tuples and lists of such -/
def rEqP (K : PySem.W.Frag) : R2 := fun x y H Q => ∃ d e, Dp K H x d ∧ Dp K H y e ∧ d.plain = true ∧ e.plain = true ∧ d.depth + e.depth ≤ 60 ∧ Q (.bl (PyData.eqv d e)) H
theorem op_eqP {X : Cx} (hu : X.A.units + 64 < cLine) : OpR X (compareOp .Eq) (rEqP X.K) := by
  intro pins s σ H x y v u Q I rx ry h
  obtain ⟨d, e, hd, he, sd, se, hde, q⟩ := h
  obtain ⟨as, r1⟩ := Dp.reads I d x v hd rx
  obtain ⟨bs, r2⟩ := Dp.reads I e y u he ry
  exact SeqAt.eq_plain r1 r2 sd se (by omega) ⟨.bl _, H, I, rfl, q⟩
theorem pl_one {z : Str} : (PyData.tuple [.str z]).plain = true := by simp [PyData.plain, PyData.plainAll]
theorem dp_one {z : Str} : (PyData.tuple [.str z]).depth + (PyData.tuple [.str z]).depth ≤ 60 := by simp [PyData.depth, PyData.depthAll]
end Brk

set_option Elab.async false
set_option linter.all false
set_option maxRecDepth 100000
set_option maxHeartbeats 4000000
/-! Own words: drawn names (small letters and digits, a letter first, 1 to 12 of them, no two alike). -/
namespace Brk
open PySem PySem.Spec PyProof.Rows L2
theorem tl_app {a b : Str} : (a ++ b).cps.toList = a.cps.toList ++ b.cps.toList := by
  show (a.cps ++ b.cps).toList = _
  exact Array.toList_append
theorem tl_len {z : Str} : z.length = z.cps.toList.length := (Array.length_toList).symm
theorem cut_lo {z : Str} {k : Nat} : (cutS z none (some (k : Int))).cps.toList = z.cps.toList.take k := by
  unfold cutS
  rw [HT.sIx_none]
  have e1 : HT.sIx z.length z.length (some (k : Int)) = min k z.length := HT.sIx_nat _ _ k
  rw [e1]
  show ((z.cps.toList.drop 0).take (min k z.length - 0)) = _
  rw [List.drop_zero, Nat.sub_zero, tl_len, List.take_eq_take_iff]
  omega
theorem cut_hi {z : Str} {k : Nat} : (cutS z (some (k : Int)) none).cps.toList = z.cps.toList.drop k := by
  unfold cutS
  have e1 : HT.sIx z.length 0 (some (k : Int)) = min k z.length := HT.sIx_nat _ _ k
  rw [e1, HT.sIx_none]
  show (z.cps.toList.drop (min k z.length)).take (z.length - min k z.length) = _
  rw [List.take_of_length_le (by rw [List.length_drop, ← tl_len]; exact Nat.le_refl _)]
  by_cases h : k ≤ z.length
  · rw [Nat.min_eq_left h]
  · rw [Nat.min_eq_right (by omega), List.drop_eq_nil_of_le (by rw [← tl_len]; exact Nat.le_refl _), List.drop_eq_nil_of_le (by rw [← tl_len]; omega)]
/-- signs of a right name -/
def okL (cs : List Nat) : Prop := 1 ≤ cs.length ∧ cs.length ≤ 12 ∧ (∀ c ∈ cs, signB c = true) ∧ ∀ c, cs.head? = some c → c ∈ letS.cps.toList
theorem name_ok {z : Str} (h : okL z.cps.toList) : nameB z = true := by
  obtain ⟨h1, h2, h3, h4⟩ := h
  rw [Array.length_toList] at h1 h2
  refine name_yes h1 h2 fun j c hc => ?_
  have hl : z.cps.toList[j]? = some c := by rw [← hc]; exact Array.getElem?_toList.symm ▸ rfl
  refine ⟨h3 c (List.mem_of_getElem? hl), fun j0 => h4 c ?_⟩
  subst j0
  rw [List.head?_eq_getElem?]
  exact hl
theorem let_sign {c : Nat} (h : c ∈ letS.cps.toList) : signB c = true := by
  unfold signB
  rw [decide_eq_true h]
  rfl
theorem dig_sign {c : Nat} (h : c ∈ (letS ++ "0123456789").cps.toList) : signB c = true := by
  rw [tl_app] at h
  rcases List.mem_append.mp h with h | h
  · exact let_sign h
  · unfold signB
    rw [show decide (c ∈ digS.cps.toList) = true from decide_eq_true h, Bool.or_true]
theorem ok_let {cs : List Nat} (h1 : 1 ≤ cs.length) (h2 : cs.length ≤ 12) (h : ∀ c ∈ cs, c ∈ letS.cps.toList) : okL cs :=
  ⟨h1, h2, fun c hc => let_sign (h c hc), fun c hc => h c (List.mem_of_mem_head? hc)⟩
theorem ok_cons {c : Nat} {r : List Nat} (hc : c ∈ letS.cps.toList) (hr : r.length ≤ 11) (h : ∀ x ∈ r, signB x = true) : okL (c :: r) := by
  refine ⟨by rw [List.length_cons]; omega, by rw [List.length_cons]; omega, fun x hx => ?_, fun x hx => ?_⟩
  · rcases List.mem_cons.mp hx with rfl | hx
    · exact let_sign hc
    · exact h x hx
  · cases hx
    exact hc
theorem ok_first {cs : List Nat} {c : Nat} (h : okL cs) (hc : c ∈ letS.cps.toList) : okL (c :: cs.drop 1) :=
  ok_cons hc (by have := h.2.1; rw [List.length_drop]; omega) fun x hx => h.2.2.1 x (List.mem_of_mem_drop hx)
theorem ok_put {cs : List Nat} {c k : Nat} (h2 : cs.length ≤ 12) (hk : k < cs.length) (h : ∀ x ∈ cs, x ∈ letS.cps.toList) (hc : c ∈ letS.cps.toList) : okL (cs.take k ++ [c] ++ cs.drop (k + 1)) := by
  have e : (cs.take k ++ [c] ++ cs.drop (k + 1)).length = cs.length := by
    rw [List.length_append, List.length_append, List.length_take, List.length_drop, List.length_singleton]
    omega
  refine ok_let (by rw [e]; omega) (by rw [e]; exact h2) fun x hx => ?_
  rcases List.mem_append.mp hx with hx | hx
  · rcases List.mem_append.mp hx with hx | hx
    · exact h x (List.mem_of_mem_take hx)
    · rw [List.mem_singleton.mp hx]
      exact hc
  · exact h x (List.mem_of_mem_drop hx)
/-- a text of these signs, one by one -/
theorem join_chars {cs : List Nat} : (Txt.join "" (cs.map fun c => (⟨#[c]⟩ : Str))).cps.toList = cs := by
  rw [TL.join_eq]
  have e0 : ("" : Str).cps.toList = [] := by decide +kernel
  induction cs with
  | nil => exact e0
  | cons a r ih =>
    cases r with
    | nil => rfl
    | cons b q =>
      have ih' : (Str.join "" ((b :: q).map fun c => (⟨#[c]⟩ : Str))).cps.toList = b :: q := ih
      show ((⟨#[a]⟩ : Str) ++ ("" : Str) ++ Str.join "" ((b :: q).map fun c => (⟨#[c]⟩ : Str))).cps.toList = _
      rw [tl_app, tl_app, e0, ih']
      rfl
theorem let_at {k : Nat} (h : k < 26) : letS.cps[k]? = some (97 + k) := by
  have q : ∀ k : Fin 26, letS.cps[k.1]? = some (97 + k.1) := by decide +kernel
  exact q ⟨k, h⟩
theorem let_ix (v : Int) : ∃ ch, letS.cps[(v % 26).toNat]? = some ch ∧ ch ∈ letS.cps.toList ∧ ch = 97 + (v % 26).toNat := by
  have h1 := Int.emod_nonneg v (by decide : (26 : Int) ≠ 0)
  have h2 := Int.emod_lt_of_pos v (by decide : (0 : Int) < 26)
  have e := let_at (k := (v % 26).toNat) (by omega)
  refine ⟨_, e, ?_, rfl⟩
  rw [← Array.getElem?_toList] at e
  exact List.mem_of_getElem? e
theorem sg_ix (v : Int) : ∃ ch, (letS ++ "0123456789").cps[(v % 36).toNat]? = some ch ∧ ch ∈ (letS ++ "0123456789").cps.toList := by
  have h1 := Int.emod_nonneg v (by decide : (36 : Int) ≠ 0)
  have h2 := Int.emod_lt_of_pos v (by decide : (0 : Int) < 36)
  have hl : (letS ++ "0123456789").length = 36 := by decide +kernel
  obtain ⟨ch, e⟩ := str_at (z := letS ++ "0123456789") h1 (by omega)
  refine ⟨ch, e, ?_⟩
  rw [← Array.getElem?_toList] at e
  exact List.mem_of_getElem? e
theorem inV_str {z : Str} {xs : List Str} : inV (.str z) (xs.map V.str) = decide (z ∈ xs) := by
  rw [Bool.eq_iff_iff, decide_eq_true_iff]
  unfold inV
  rw [List.any_map, List.any_eq_true]
  constructor
  · rintro ⟨y, hy, e⟩
    have e' : (y == z) = true := e
    rw [← eq_of_beq e']
    exact hy
  · intro h
    exact ⟨z, h, beq_self_eq_true z⟩
theorem flat_strs {xs : List Str} : (xs.map V.str).all flatV = true := by
  rw [List.all_map]
  exact List.all_eq_true.mpr fun _ _ => rfl
/-- the t-th text that is tried in another's place -/
def cnd (tu : Int) (r : List Nat) (t : Nat) : Str := ⟨((97 + ((tu + (t : Int)) % 26).toNat) :: r).toArray⟩
theorem cnd_inj {tu : Int} {r : List Nat} {a b : Nat} (ha : a < 26) (hb : b < 26) (h : cnd tu r a = cnd tu r b) : a = b := by
  have e := congrArg (fun s : Str => s.cps.toList) h
  have e1 := (List.cons.inj (show (97 + ((tu + (a : Int)) % 26).toNat) :: r = (97 + ((tu + (b : Int)) % 26).toNat) :: r from e)).1
  omega
theorem cnd_all {tu : Int} {r : List Nat} {xs : List Str} (hx : xs.length ≤ 25) (h : ∀ t, t < 26 → cnd tu r t ∈ xs) : False := by
  have nd : ((List.range 26).map (cnd tu r)).Nodup := by
    rw [List.nodup_iff_pairwise_ne, List.pairwise_map]
    have q := (List.nodup_iff_pairwise_ne.mp (List.nodup_range (n := 26)))
    refine List.Pairwise.imp_of_mem (fun {a b} ha hb hab e => hab (cnd_inj (List.mem_range.mp ha) (List.mem_range.mp hb) e)) q
  have sb : ((List.range 26).map (cnd tu r)) ⊆ xs := fun y hy => by
    obtain ⟨t, ht, rfl⟩ := List.mem_map.mp hy
    exact h t (List.mem_range.mp ht)
  have l := List.Nodup.length_le_of_subset nd sb
  rw [List.length_map, List.length_range] at l
  omega
theorem But.updN {p l : Addr} {H H1 : Hp} {o : HO} (h : But p H H1) (nl : H l = none) : But p H (L2.upd H1 l o) := fun b u e hb => by
  rw [upd_ne (ne_of_none e nl)]
  exact h b u e hb
theorem sum_one : ∀ cs : List Nat, ((cs.map fun c => (⟨#[c]⟩ : Str)).map (·.length)).sum = cs.length
  | [] => rfl
  | c :: r => by
    have ih := sum_one r
    have e : (⟨#[c]⟩ : Str).length = 1 := rfl
    rw [List.map_cons, List.map_cons, List.sum_cons, ih, List.length_cons, e]
    omega
theorem p26 : (0 : Int) < 26 := by decide
theorem p36 : (0 : Int) < 36 := by decide
theorem p12 : (0 : Int) < 12 := by decide
def spNames : Sp := fun vs H Q _ => ∃ (p c : Addr) (ns : List Int) (m : Int), vs = [.ref p, .int m] ∧ Pool ns c H p ∧ 0 ≤ m ∧ m ≤ 25 ∧
  ∀ (l : Addr) (xs : List Str) (H' : Hp), H l = none → H' l = some (.lst (xs.map V.str)) → (xs.length : Int) = m → (∀ x ∈ xs, nameB x = true) → xs.Nodup → Pool ns c H' p → But p H H' → Q (.ref l) H'
end Brk

set_option Elab.async false
set_option linter.all false
set_option maxRecDepth 100000
set_option maxHeartbeats 4000000
/-! Own words: the first refusal that is due. -/
namespace Brk
open PySem PySem.Spec PyProof.Rows L2
/-- what is refused: the error's class, its field, the value; none: nothing -/
abbrev Du := Option (Addr × Str × V)
def duN (CB : Addr) (z : Str) : Du := if nameB z = true then none else some (CB, "name", .str z)
def duI (CN : Addr) (ok : Bool) (n : Int) : Du := if ok = true then none else some (CN, "number", .int n)
def dor : Du → Du → Du
  | none, b => b
  | some x, _ => some x
theorem dor_none {a b : Du} : dor a b = none ↔ a = none ∧ b = none := by
  cases a <;> simp [dor]
/-- a call that is through (ok), or lets the error o out; what stands at p may have been changed -/
def Out (o : Du) (p : Addr) (H : Hp) (E : XK) (ok : Prop) : Prop := (o = none → ok) ∧ ∀ D f v, o = some (D, f, v) → ∀ (H' : Hp) (d : Addr), But p H H' → H' d = some (.xd [(f, v)]) → E (.ref D) (some d) H'
theorem Out.fst {a b : Du} {p : Addr} {H : Hp} {E : XK} {ok ok' : Prop} (h : Out (dor a b) p H E ok) (k : Out b p H E ok → ok') : Out a p H E ok' := by
  refine ⟨fun e => k ?_, fun D f v e => h.2 D f v (by rw [e]; rfl)⟩
  subst e
  exact h
theorem Out.from {o : Du} {p : Addr} {H H1 : Hp} {E : XK} {ok : Prop} (h : Out o p H E ok) (b : But p H H1) : Out o p H1 E ok := ⟨h.1, fun D f v e H' d b' => h.2 D f v e H' d (b.trans b')⟩
theorem Out.imp {o : Du} {p : Addr} {H : Hp} {E : XK} {ok ok' : Prop} (h : Out o p H E ok) (k : ok → ok') : Out o p H E ok' := ⟨fun e => k (h.1 e), h.2⟩
theorem Out.num {CN : Addr} {b : Bool} {n : Int} {p : Addr} {H : Hp} {E : XK} {ok : Prop} (h : Out (duI CN b n) p H E ok) (hb : b = false) : ∀ (H' : Hp) (d : Addr), But p H H' → H' d = some (.xd [("number", .int n)]) → E (.ref CN) (some d) H' := h.2 _ _ _ (by rw [hb]; rfl)
theorem Out.yes {CN : Addr} {b : Bool} {n : Int} {p : Addr} {H : Hp} {E : XK} {ok : Prop} (h : Out (duI CN b n) p H E ok) (hb : b = true) : ok := h.1 (by rw [hb]; rfl)
theorem Out.noname {CB : Addr} {z : Str} {p : Addr} {H : Hp} {E : XK} {ok : Prop} (h : Out (duN CB z) p H E ok) (hb : nameB z = false) : RefN CB z H E := fun H' d s e => h.2 CB "name" (.str z) (by unfold duN; rw [hb]; rfl) H' d (But.of_same s) e
theorem Out.name {CB : Addr} {z : Str} {p : Addr} {H : Hp} {E : XK} {ok : Prop} (h : Out (duN CB z) p H E ok) (hb : nameB z = true) : ok := h.1 (by unfold duN; rw [hb]; rfl)
/-- lo ≤ n ≤ hi -/
def inB (lo n hi : Int) : Bool := decide (lo ≤ n) && decide (n ≤ hi)
theorem inB_t {lo n hi : Int} (a : lo ≤ n) (b : n ≤ hi) : inB lo n hi = true := by unfold inB; rw [decide_eq_true a, decide_eq_true b]; rfl
theorem inB_l {lo n hi : Int} (a : ¬ lo ≤ n) : inB lo n hi = false := by unfold inB; rw [decide_eq_false a]; rfl
theorem inB_r {lo n hi : Int} (b : ¬ n ≤ hi) : inB lo n hi = false := by unfold inB; rw [decide_eq_false b, Bool.and_false]
def dueT (CN : Addr) (d : Int) : Du := duI CN (inB 0 d 8) d
def dueI (CB CN : Addr) (z : Str) (d : Int) : Du := dor (duN CB z) (dueT CN d)
def dueP (CB CN : Addr) (z : Str) (d l t : Int) : Du := dor (dueI CB CN z d) (dor (duI CN (decide (1 ≤ l)) l) (duI CN (inB l t (l + 8)) t))
def dueB (CB CN : Addr) (z : Str) (d n u y : Int) : Du := dor (dueI CB CN z d) (dor (duI CN (inB 1 n 12) n) (dor (duI CN (decide (1 ≤ u)) u) (duI CN (inB 1 y 64) y)))
def spTimedG (K : PySem.W.Frag) (CN : Addr) : Sp := fun vs H Q E => ∃ (p C dx : Addr) (fs : List (Str × V)) (g m : V) (d : Int), vs = [.ref p, g, m, .int d] ∧ H p = some (.ins C dx fs) ∧ Cls K C ∧ NoAttr K C "grid" ∧ NoAttr K C "minute" ∧ NoAttr K C "delay" ∧ fs.length < 100 ∧
  Out (dueT CN d) p H E (∀ H', H' p = some (.ins C dx (putT g m (.int d) fs)) → But p H H' → Q .non H')
def spItemG (K : PySem.W.Frag) (CB CN : Addr) : Sp := fun vs H Q E => ∃ (p C dx : Addr) (fs : List (Str × V)) (z : Str) (g m : V) (d : Int), vs = [.ref p, .str z, g, m, .int d] ∧ H p = some (.ins C dx fs) ∧ ItemC K C ∧ z.length ≤ 1000 ∧ fs.length < 90 ∧
  Out (dueI CB CN z d) p H E (∀ H', H' p = some (.ins C dx (putI z g m (.int d) fs)) → But p H H' → Q .non H')
def putP (z : Str) (g m : V) (l t d : Int) : List (Str × V) := putF "most" (.int t) (putF "least" (.int l) (putI z g m (.int d) []))
def spPieceG (K : PySem.W.Frag) (CB CN : Addr) : Sp := fun vs H Q E => ∃ (p C dx : Addr) (z : Str) (g m : V) (l t d : Int), vs = [.ref p, .str z, g, .int l, .int t, m, .int d] ∧ H p = some (.ins C dx []) ∧ ItemC K C ∧ NoAttr K C "least" ∧ NoAttr K C "most" ∧ z.length ≤ 1000 ∧
  Out (dueP CB CN z d l t) p H E (∀ H', H' p = some (.ins C dx (putP z g m l t d)) → But p H H' → Q .non H')
def putB (z : Str) (g m : V) (n u d y : Int) : List (Str × V) := putF "patience" (.int y) (putF "unit" (.int u) (putF "places" (.int n) (putI z g m (.int d) [])))
def spBreakG (K : PySem.W.Frag) (CB CN : Addr) : Sp := fun vs H Q E => ∃ (p C dx : Addr) (z : Str) (g m : V) (n u d y : Int), vs = [.ref p, .str z, g, m, .int n, .int u, .int d, .int y] ∧ H p = some (.ins C dx []) ∧ ItemC K C ∧ NoAttr K C "places" ∧ NoAttr K C "unit" ∧ NoAttr K C "patience" ∧ z.length ≤ 1000 ∧
  Out (dueB CB CN z d n u y) p H E (∀ H', H' p = some (.ins C dx (putB z g m n u d y)) → But p H H' → Q .non H')
theorem But.made {H H1 : Hp} {a d p : Addr} (nd : H d = none) (b : But p H H1) (e : H1 d = none) {o : HO} : But p H (L2.upd H1 d o) := b.updN nd
/-! ### what a law reckons as due -/
def spEdge : Sp := fun vs H Q _ => ∃ (p c : Addr) (ns : List Int) (lo hi : Int), vs = [.ref p, .int lo, .int hi] ∧ Pool ns c H p ∧ lo ≤ hi ∧ hi - lo < 10 ^ 27 ∧ ∀ (r : Int) (H' : Hp), Pool ns c H' p → But p H H' → Q (.int r) H'
/-- a number, its least and its greatest value (none: no greatest) -/
abbrev QRow := Int × Int × Option Int
def badQ (q : QRow) : Bool := decide (q.1 < q.2.1) || (match q.2.2 with | none => false | some h => decide (q.1 > h))
def fstBad : List QRow → Option Int
  | [] => none
  | q :: r => if badQ q = true then some q.1 else fstBad r
def RowsQ (H : Hp) : List Addr → List QRow → Prop
  | [], [] => True
  | a :: as, q :: qs => H a = some (.tup [.int q.1, .int q.2.1, vOpt q.2.2]) ∧ RowsQ H as qs
  | _, _ => False
theorem RowsQ.same {H H' : Hp} (s : Same H H') : ∀ {as : List Addr} {qs : List QRow}, RowsQ H as qs → RowsQ H' as qs
  | [], [], _ => trivial
  | _ :: _, _ :: _, h => ⟨s _ _ h.1, RowsQ.same s h.2⟩
  | [], _ :: _, h => h.elim
  | _ :: _, [], h => h.elim
theorem RowsQ.len {H : Hp} : ∀ {as : List Addr} {qs : List QRow}, RowsQ H as qs → as.length = qs.length
  | [], [], _ => rfl
  | _ :: _, _ :: _, h => congrArg Nat.succ (RowsQ.len h.2)
  | [], _ :: _, h => h.elim
  | _ :: _, [], h => h.elim
theorem RowsQ.at_ {H : Hp} : ∀ {as : List Addr} {qs : List QRow} {i : Nat} {x : V}, RowsQ H as qs → (as.map V.ref)[i]? = some x → ∃ a q, x = .ref a ∧ qs[i]? = some q ∧ H a = some (.tup [.int q.1, .int q.2.1, vOpt q.2.2])
  | [], _, i, x, _, e => by simp at e
  | a :: as, q :: qs, 0, x, h, e => ⟨a, q, by simpa using e.symm, rfl, h.1⟩
  | a :: as, q :: qs, i + 1, x, h, e => by
    obtain ⟨b, r, e1, e2, e3⟩ := RowsQ.at_ (i := i) h.2 (by simpa using e)
    exact ⟨b, r, e1, by simpa using e2, e3⟩
  | _ :: _, [], _, _, h, _ => h.elim
theorem drop_at {α : Type} {l : List α} {i : Nat} {x : α} (h : l[i]? = some x) : l.drop i = x :: l.drop (i + 1) := by
  obtain ⟨h1, h2⟩ := List.getElem?_eq_some_iff.mp h
  rw [List.drop_eq_getElem_cons h1, h2]
def spDueL : Sp := fun vs H Q _ => ∃ (z : Str) (r : Addr) (as : List Addr) (qs : List QRow), vs = [.str z, .ref r] ∧ z.length ≤ 1000 ∧ H r = some (.lst (as.map V.ref)) ∧ RowsQ H as qs ∧
  (nameB z = false → ∀ t, H t = none → Q (.ref t) (L2.upd H t (.tup [.str "name", .str z]))) ∧
  (nameB z = true → ∀ n, fstBad qs = some n → ∀ t, H t = none → Q (.ref t) (L2.upd H t (.tup [.str "number", .int n]))) ∧ (nameB z = true → fstBad qs = none → Q .non H)
/-- lists of n ints at the addresses -/
def RowsL (H : Hp) (n : Nat) (as : List Addr) : Prop := ∀ a ∈ as, ∃ ys : List Int, H a = some (.lst (ys.map V.int)) ∧ ys.length = n
theorem RowsL.same {H H' : Hp} {n : Nat} {as : List Addr} (h : RowsL H n as) (s : Same H H') : RowsL H' n as := fun a ha => by
  obtain ⟨ys, e, l⟩ := h a ha
  exact ⟨ys, s _ _ e, l⟩
theorem RowsL.off {H H' : Hp} {n : Nat} {as : List Addr} {p : Addr} (h : RowsL H n as) (s : Off p H H') (hp : ∀ a ∈ as, a ≠ p) : RowsL H' n as := fun a ha => by
  obtain ⟨ys, e, l⟩ := h a ha
  exact ⟨ys, (s a (hp a ha)).trans e, l⟩
def spTurned : Sp := fun vs H Q _ => ∃ (r e : Addr) (xs : List Int) (es : List Addr), vs = [.ref r, .ref e] ∧ H r = some (.lst (xs.map V.int)) ∧ H e = some (.lst (es.map V.ref)) ∧ es.length = xs.length ∧ xs.length ≤ 10 ∧
  (∀ a ∈ es, ∃ ys : List Int, H a = some (.lst (ys.map V.int)) ∧ ys.length ≤ 10) ∧
  ∀ (l : Addr) (rows : List Addr) (H' : Hp), Same H H' → H' l = some (.lst (rows.map V.ref)) → RowsL H' xs.length rows → rows.length ≤ 100 → (∀ a ∈ rows, a ≠ l) → Q (.ref l) H'
theorem ix_of {n j : Nat} (h : j < n) : ixN n (j : Int) = some j := by
  have h1 : (0 : Int) ≤ (j : Int) := Int.natCast_nonneg j
  have h2 : (j : Int) < (n : Int) := Int.ofNat_lt.mpr h
  simp [ixN, h1, h2]
/-- the bounds of the numbers of an item: door 0 Timed, 1 Item, 2 Piece, 3 Break -/
def bQ (n a b c e : Int) : List QRow := (a, 0, some 8) :: (if n = 2 then [(b, 1, none), (c, b, some (b + 8))] else if n = 3 then [(b, 1, some 12), (c, 1, none), (e, 1, some 64)] else [])
def spBounds : Sp := fun vs H Q _ => ∃ (n : Int) (l : Addr) (a b c : Int) (rest : List Int), vs = [.int n, .ref l] ∧ H l = some (.lst ((a :: b :: c :: rest).map V.int)) ∧ (n = 3 → ∃ e, rest = [e]) ∧
  ∀ (r : Addr) (as : List Addr) (H' : Hp), Same H H' → H' r = some (.lst (as.map V.ref)) → RowsQ H' as (bQ n a b c (rest.headD 0)) → Q (.ref r) H'
theorem bad_in {lo n hi : Int} : badQ (n, lo, some hi) = !inB lo n hi := by
  unfold badQ inB
  by_cases h1 : lo ≤ n
  · by_cases h2 : n ≤ hi
    · simp [h1, h2]
    · have h3 : hi < n := by omega
      simp [h1, h2, h3]
  · have h3 : n < lo := by omega
    simp [h1, h3]
theorem bad_lo {lo n : Int} : badQ (n, lo, none) = !decide (lo ≤ n) := by
  unfold badQ
  by_cases h1 : lo ≤ n
  · simp [h1]
  · have h3 : n < lo := by omega
    simp [h1, h3]
/-- the first refusal, as the law tells it -/
def toDu (CB CN : Addr) (z : Str) (qs : List QRow) : Du := if nameB z = true then (match fstBad qs with | none => none | some n => some (CN, "number", .int n)) else some (CB, "name", .str z)
def numDu (CN : Addr) (qs : List QRow) : Du := match fstBad qs with | none => none | some n => some (CN, "number", .int n)
theorem numDu_cons {CN : Addr} {q : QRow} {r : List QRow} : numDu CN (q :: r) = dor (duI CN (!badQ q) q.1) (numDu CN r) := by
  unfold numDu duI
  cases h : badQ q <;> simp [fstBad, h, dor]
theorem dor_assoc {a b c : Du} : dor (dor a b) c = dor a (dor b c) := by
  cases a <;> rfl
theorem dor_nil {a : Du} : dor a none = a := by
  cases a <;> rfl
theorem toDu_eq {CB CN : Addr} {z : Str} {qs : List QRow} : toDu CB CN z qs = dor (duN CB z) (numDu CN qs) := by
  unfold toDu duN numDu
  cases nameB z <;> rfl
theorem dueT_eq {CN : Addr} {a b c e : Int} : dueT CN a = numDu CN (bQ 0 a b c e) := by
  show _ = numDu CN [(a, 0, some 8)]
  rw [numDu_cons, bad_in, Bool.not_not]
  exact dor_nil.symm
theorem dueI_eq {CB CN : Addr} {z : Str} {a b c e : Int} : dueI CB CN z a = toDu CB CN z (bQ 1 a b c e) := by
  rw [toDu_eq]
  show _ = dor (duN CB z) (numDu CN [(a, 0, some 8)])
  rw [numDu_cons, bad_in, Bool.not_not]
  show dor (duN CB z) (dueT CN a) = _
  rw [show numDu CN [] = none from rfl, dor_nil]
  rfl
theorem dueP_eq {CB CN : Addr} {z : Str} {a b c e : Int} : dueP CB CN z a b c = toDu CB CN z (bQ 2 a b c e) := by
  rw [toDu_eq]
  show _ = dor (duN CB z) (numDu CN [(a, 0, some 8), (b, 1, none), (c, b, some (b + 8))])
  rw [numDu_cons, numDu_cons, numDu_cons, bad_in, bad_in, bad_lo, Bool.not_not, Bool.not_not, Bool.not_not, show numDu CN [] = none from rfl, dor_nil]
  unfold dueP dueI dueT
  rw [dor_assoc]
theorem dueB_eq {CB CN : Addr} {z : Str} {a b c e : Int} : dueB CB CN z a b c e = toDu CB CN z (bQ 3 a b c e) := by
  rw [toDu_eq]
  show _ = dor (duN CB z) (numDu CN [(a, 0, some 8), (b, 1, some 12), (c, 1, none), (e, 1, some 64)])
  rw [numDu_cons, numDu_cons, numDu_cons, numDu_cons, bad_in, bad_in, bad_in, bad_lo, Bool.not_not, Bool.not_not, Bool.not_not, Bool.not_not, show numDu CN [] = none from rfl, dor_nil]
  unfold dueB dueI dueT
  rw [dor_assoc]
/-! ### keywords in another order -/
def pm {α : Type} (is : List Nat) (ws : List α) : List α := is.filterMap fun i => ws[i]?
theorem Vals.pm {vs : List V} {us : List Value} (r : Vals vs us) : ∀ is : List Nat, Vals (Brk.pm is vs) (Brk.pm is us)
  | [] => .nil
  | i :: is => by
    have ih := Vals.pm r is
    unfold Brk.pm at ih ⊢
    cases h : vs[i]? with
    | none =>
      have l := r.length
      have h2 : us[i]? = none := List.getElem?_eq_none_iff.mpr (by rw [← l]; exact List.getElem?_eq_none_iff.mp h)
      rw [List.filterMap_cons_none h, List.filterMap_cons_none h2]
      exact ih
    | some x =>
      obtain ⟨u, h2, r2⟩ := r.get h
      rw [List.filterMap_cons_some h, List.filterMap_cons_some h2]
      exact .cons r2 ih
def IfP (K : PySem.W.Frag) (C : Addr) (qual : Str) (st : Stmt) (ps : List Str) (n : Nat) (ks : List Str) (is : List Nat) : Prop := ∃ (f : Addr) (fd : FuncData), Mk K C f ∧ Fun K "__init__" qual st f fd ∧ KBn K fd ps n ks (fun us ws => us ++ pm is ws) (fun vs zs => vs ++ pm is zs)
def MkP (P : Program) (w : World) (K : PySem.W.Frag) (mg : Str → Option Value) (base : Heap) (CX : CXT) (k : Nat) (x : Str) (C : Addr) (ps : List Str) (n : Nat) (ks : List Str) (is : List Nat) (sp : Sp) : Prop :=
  ∃ (f : Addr) (fd : FuncData), mg x = some (.ref C) ∧ Mk K C f ∧ KBn K fd ps n ks (fun us ws => us ++ pm is ws) (fun vs zs => vs ++ pm is zs) ∧ FnOk P w K mg base CX k f fd ps sp
section
variable {X : Cx} {CX : CXT} {k n : Nat} {ps ks : List Str} {is : List Nat} {sp : Sp} {E : XK} {x : Str} {C : Addr} {p pos : Pos} {e : Expr} {es : List Expr} {kws : List Keyword} {t tk : TA}
theorem pe_mkP (M : MkP X.prog X.w X.K X.mg X.base CX k x C ps (n + 1) ks is sp) (hr : Room (k + 1) X.A) (hx : Passes CX X E) (hg : Gl X x) (ha : PA X (e :: es) t) (hkw : PK X kws tk)
    (hall : (backToKw pos (keywordEach kws X.env)).all (·.1.isSome) = true := by rfl) (hks : (backToKw pos (keywordEach kws X.env)).filterMap (·.1) = ks := by rfl)
    (hdb : (x == ("__debug__" : Str)) = false := by decide) (he : starEach (e :: es) X.env = (false, eval e X.env) :: starEach es X.env := by rfl)
    (hpl : ((backTo pos (starEach (e :: es) X.env)).any (·.1) || (backToKw pos (keywordEach kws X.env)).any (·.1.isNone)) = false := by rfl) :
    PE X (.Call (.Name x p) (e :: es) kws pos) (tMakeN C n ks.length sp (fun vs zs => vs ++ pm is zs) E t tk) := by
  obtain ⟨f, fd, hm, M, hb, F⟩ := M
  exact pe_makeN M F hr hg hm hb hx ha hkw hall hks hdb he hpl
end
/-! ### an item made, or the first refusal -/
def OutS (o : Du) (H : Hp) (E : XK) (ok : Prop) : Prop := (o = none → ok) ∧ ∀ D f v, o = some (D, f, v) → ∀ (H' : Hp) (d : Addr), Same H H' → H' d = some (.xd [(f, v)]) → E (.ref D) (some d) H'
theorem OutS.to {o : Du} {H : Hp} {E : XK} {ok ok' : Prop} {x dx C : Addr} (h : OutS o H E ok) (nx : H x = none) (nd : H dx = none) (k : ok → ok') : Out o x (L2.upd (L2.upd H dx (.own x)) x (.ins C dx [])) E ok' :=
  ⟨fun e => k (h.1 e), fun D f v e H' d b e2 => h.2 D f v e H' d (Same.inst nx nd b) e2⟩
/-- the refusal that is due at a door -/
def dueD (CB CN : Addr) (z : Str) (n a b c e : Int) : Du := if n = 0 then numDu CN (bQ 0 a b c e) else toDu CB CN z (bQ n a b c e)
structure TmC (K : PySem.W.Frag) (C CT : Addr) : Prop where
  c : Cls K C
  o : OwnI K C
  k : PySem.W.kitOne K (.ref C) (.ref CT) = some true
def spMade9 (K : PySem.W.Frag) (CB CN CT CK : Addr) : Sp := fun vs H Q E => ∃ (n : Int) (z : Str) (g m : V) (l : Addr) (a b c : Int) (rest : List Int), vs = [.int n, .str z, g, m, .ref l] ∧ 0 ≤ n ∧ n ≤ 3 ∧ z.length ≤ 1000 ∧ H l = some (.lst ((a :: b :: c :: rest).map V.int)) ∧ (n = 3 → ∃ e, rest = [e]) ∧
  OutS (dueD CB CN z n a b c (rest.headD 0)) H E (∀ x H', Same H H' → ((n ≤ 2 ∧ ∃ C dx fs, H' x = some (.ins C dx fs) ∧ TmC K C CT) ∨ (n = 3 ∧ ∃ dx, H' x = some (.ins CK dx (putB z g m b c a (rest.headD 0))))) → Q (.ref x) H')
def spRefd (CB CN : Addr) : Sp := fun vs H Q _ => ∃ (ex t D d : Addr) (f : Str) (v : V), vs = [.ref ex, .ref t] ∧ H ex = some (ExH (.ref D) (some d) ex) ∧ H d = some (.xd [(f, v)]) ∧ H t = some (.tup [.str f, v]) ∧
  ((D = CB ∧ f = "name" ∧ ∃ z, v = .str z) ∨ (D = CN ∧ f = "number" ∧ ∃ n, v = .int n)) ∧ ∀ H', Same H H' → Q (.bl true) H'
/-! ### properties -/
def Pf (K : PySem.W.Frag) (C : Addr) (f qual : Str) (st : Stmt) : Prop := ∃ (p g : Addr) (fd : FuncData), PropOf K C f p g ∧ Fun K f qual st g fd ∧ Binds K fd ["self"] []
def Pe (P : Program) (w : World) (K : PySem.W.Frag) (mg : Str → Option Value) (base : Heap) (CX : CXT) (k : Nat) (C : Addr) (f : Str) (sp : Sp) : Prop := ∃ (p g : Addr) (fd : FuncData), PropOf K C f p g ∧ Binds K fd ["self"] [] ∧ FnOk P w K mg base CX k g fd ["self"] sp
theorem pe_pr {X : Cx} {CX : CXT} {k : Nat} {C : Addr} {f : Str} {sp : Sp} {E : XK} {e : Expr} {pos : Pos} {ta : TE} (M : Pe X.prog X.w X.K X.mg X.base CX k C f sp) (c : Cls X.K C) (hr : Room (k + 1) X.A) (hx : Passes CX X.nox E) (he : PE X e ta)
    (hab : attributeBase e f X.env (eval e X.env) = eval e X.env := by rfl) : PE X (.Attribute e f pos) (tProp C sp [] E ta) := by
  obtain ⟨p, g, fd, hp, hb, F⟩ := M
  exact pe_prop he c hp F hr hb .nil hx hab
def spLength (C : Addr) : Sp := fun vs H Q _ => ∃ (a dx : Addr) (fs : List (Str × V)) (n u : Int), vs = [.ref a] ∧ H a = some (.ins C dx fs) ∧ fs.lookup ("places" : Str) = some (.int n) ∧ fs.lookup ("unit" : Str) = some (.int u) ∧ 1 ≤ n ∧ n ≤ 12 ∧ Q (.int (n * u)) H
def spLimit (C CG : Addr) : Sp := fun vs H Q _ => ∃ (a dx g : Addr) (fs : List (Str × V)) (y pt s o : Int), vs = [.ref a] ∧ H a = some (.ins C dx fs) ∧ fs.lookup ("grid" : Str) = some (.ref g) ∧ fs.lookup ("minute" : Str) = some (.int y) ∧ fs.lookup ("patience" : Str) = some (.int pt) ∧
  GridAt CG H g s o ∧ 1 ≤ pt ∧ pt ≤ 64 ∧ Q (.int (barOf s o y + (pt - 1) * s)) H
theorem putB_grid {z : Str} {g m : V} {n u d y : Int} : (putB z g m n u d y).lookup ("grid" : Str) = some g := by
  unfold putB putI
  rw [look_ne (by decide +kernel), look_ne (by decide +kernel), look_ne (by decide +kernel), putT_grid]
theorem putB_min {z : Str} {g m : V} {n u d y : Int} : (putB z g m n u d y).lookup ("minute" : Str) = some m := by
  unfold putB putI
  rw [look_ne (by decide +kernel), look_ne (by decide +kernel), look_ne (by decide +kernel), putT_min]
theorem putB_pat {z : Str} {g m : V} {n u d y : Int} : (putB z g m n u d y).lookup ("patience" : Str) = some (.int y) := by
  unfold putB
  rw [look_put]
theorem putB_unit {z : Str} {g m : V} {n u d y : Int} : (putB z g m n u d y).lookup ("unit" : Str) = some (.int u) := by
  unfold putB
  rw [look_ne (by decide +kernel), look_put]
theorem putB_places {z : Str} {g m : V} {n u d y : Int} : (putB z g m n u d y).lookup ("places" : Str) = some (.int n) := by
  unfold putB
  rw [look_ne (by decide +kernel), look_ne (by decide +kernel), look_put]
theorem numDu_some {CN D : Addr} {f : Str} {v : V} {qs : List QRow} (h : numDu CN qs = some (D, f, v)) : D = CN ∧ f = "number" ∧ ∃ n, v = .int n ∧ fstBad qs = some n := by
  unfold numDu at h
  cases e : fstBad qs with
  | none => rw [e] at h; cases h
  | some n =>
    rw [e] at h
    cases h
    exact ⟨rfl, rfl, n, rfl, rfl⟩
theorem toDu_some {CB CN D : Addr} {z f : Str} {v : V} {qs : List QRow} (h : toDu CB CN z qs = some (D, f, v)) : (D = CB ∧ f = "name" ∧ v = .str z ∧ nameB z = false) ∨ (D = CN ∧ f = "number" ∧ (∃ n, v = .int n ∧ fstBad qs = some n) ∧ nameB z = true) := by
  unfold toDu at h
  cases hz : nameB z with
  | false =>
    rw [hz] at h
    cases h
    exact .inl ⟨rfl, rfl, rfl, rfl⟩
  | true =>
    rw [hz, if_pos rfl] at h
    obtain ⟨a, b, c⟩ := numDu_some (CN := CN) h
    exact .inr ⟨a, b, c, rfl⟩
theorem dueD_some {CB CN D : Addr} {z f : Str} {v : V} {n a b c e : Int} (h : dueD CB CN z n a b c e = some (D, f, v)) : (D = CB ∧ f = "name" ∧ ∃ z, v = .str z) ∨ (D = CN ∧ f = "number" ∧ ∃ n, v = .int n) := by
  unfold dueD at h
  split at h
  · obtain ⟨x, y, n, q, _⟩ := numDu_some h
    exact .inr ⟨x, y, n, q⟩
  · rcases toDu_some h with ⟨x, y, q, _⟩ | ⟨x, y, ⟨n, q, _⟩, _⟩
    · exact .inl ⟨x, y, _, q⟩
    · exact .inr ⟨x, y, n, q⟩
/-- what the law reckons, as a value -/
def DueV (o : Du) (H : Hp) (dv : V) : Prop := (o = none ∧ dv = .non) ∨ ∃ D f v t, o = some (D, f, v) ∧ dv = .ref t ∧ H t = some (.tup [.str f, v])
theorem DueV.same {o : Du} {H H' : Hp} {dv : V} (h : DueV o H dv) (s : Same H H') : DueV o H' dv := by
  rcases h with h | ⟨D, f, v, t, a, b, c⟩
  · exact .inl h
  · exact .inr ⟨D, f, v, t, a, b, s _ _ c⟩
def spAsked9 : Sp := fun vs H Q _ => ∃ (n : Int) (z : Str) (gr l : Addr) (st off y a b c : Int) (rest : List Int), vs = [.int n, .str z, .ref gr, .int y, .ref l] ∧ 0 ≤ n ∧ n ≤ 3 ∧ z.length ≤ 1000 ∧ H gr = some (.tup [.int st, .int off]) ∧ 1 ≤ st ∧ H l = some (.lst ((a :: b :: c :: rest).map V.int)) ∧ (n = 3 → ∃ e, rest = [e]) ∧
  ∀ H', Same H H' → Q (.bl true) H'
theorem bQ_good {a b c e : Int} (h : fstBad (bQ 3 a b c e) = none) : (1 ≤ b ∧ b ≤ 12) ∧ 1 ≤ c ∧ 1 ≤ e ∧ e ≤ 64 := by
  have h' : fstBad [(a, 0, some 8), (b, 1, some 12), (c, 1, none), (e, 1, some 64)] = none := h
  simp only [fstBad, bad_in, bad_lo] at h'
  unfold inB at h'
  by_cases h1 : 1 ≤ b <;> by_cases h2 : b ≤ 12 <;> by_cases h3 : 1 ≤ c <;> by_cases h4 : 1 ≤ e <;> by_cases h5 : e ≤ 64 <;> by_cases h6 : 0 ≤ a <;> by_cases h7 : a ≤ 8 <;> simp [h1, h2, h3, h4, h5, h6, h7] at h' ⊢
/-- what stands behind the try -/
def TryV (K : PySem.W.Frag) (CT CK : Addr) (n : Int) (z : Str) (g m : V) (a b c e : Int) (o : Du) (H : Hp) (fv vv : V) : Prop :=
  (o = none ∧ fv = .non ∧ ∃ x, vv = .ref x ∧ ((n ≤ 2 ∧ ∃ C dx fs, H x = some (.ins C dx fs) ∧ TmC K C CT) ∨ (n = 3 ∧ ∃ dx, H x = some (.ins CK dx (putB z g m b c a e))))) ∨
  ∃ D f v ex d, o = some (D, f, v) ∧ fv = .ref ex ∧ H ex = some (ExH (.ref D) (some d) ex) ∧ H d = some (.xd [(f, v)])
theorem TryV.same {K : PySem.W.Frag} {CT CK : Addr} {n : Int} {z : Str} {g m : V} {a b c e : Int} {o : Du} {H H' : Hp} {fv vv : V} (h : TryV K CT CK n z g m a b c e o H fv vv) (s : Same H H') : TryV K CT CK n z g m a b c e o H' fv vv := by
  rcases h with ⟨h1, h2, x, h3, h⟩ | ⟨D, f, v, ex, d, h1, h2, h3, h4⟩
  · refine .inl ⟨h1, h2, x, h3, ?_⟩
    rcases h with ⟨q, C, dx, fs, e, t⟩ | ⟨q, dx, e⟩
    · exact .inl ⟨q, C, dx, fs, s _ _ e, t⟩
    · exact .inr ⟨q, dx, s _ _ e⟩
  · exact .inr ⟨D, f, v, ex, d, h1, h2, s _ _ h3, s _ _ h4⟩
theorem toDu_f {CB CN : Addr} {z : Str} {qs : List QRow} (h : nameB z = false) : toDu CB CN z qs = (some (CB, "name", .str z) : Du) := by unfold toDu; rw [h]; rfl
theorem toDu_n {CB CN : Addr} {z : Str} {qs : List QRow} {m : Int} (h : nameB z = true) (h2 : fstBad qs = some m) : toDu CB CN z qs = (some (CN, "number", .int m) : Du) := by unfold toDu; rw [h, h2]; rfl
theorem toDu_0 {CB CN : Addr} {z : Str} {qs : List QRow} (h : nameB z = true) (h2 : fstBad qs = none) : toDu CB CN z qs = none := by unfold toDu; rw [h, h2]; rfl
theorem name_le {z : Str} (h : nameB z = true) : z.length ≤ 12 := by
  by_cases q : 1 ≤ z.cps.size ∧ z.cps.size ≤ 12
  · exact q.2
  · rw [name_len q] at h
    cases h
theorem rowsL_one {H : Hp} {n : Nat} {a : Addr} {ys : List Int} (e : H a = some (.lst (ys.map V.int))) (l : ys.length = n) : ∃ ys : List Int, H a = some (.lst (ys.map V.int)) ∧ ys.length = n := ⟨ys, e, l⟩
/-- what the drawing of k09 leaves -/
structure Drawn9 (H : Hp) (gr r mx lg : Addr) (st off : Int) : Prop where
  g : H gr = some (.tup [.int st, .int off])
  r : ∃ ys : List Int, H r = some (.lst (ys.map V.int)) ∧ ys.length = 4
  m : ∃ ys : List Int, H mx = some (.lst (ys.map V.int)) ∧ ys.length = 4
  l : ∃ ys : List Int, H lg = some (.lst (ys.map V.int)) ∧ ys.length = 3
theorem Drawn9.same {H H' : Hp} {gr r mx lg : Addr} {st off : Int} (h : Drawn9 H gr r mx lg st off) (s : Same H H') : Drawn9 H' gr r mx lg st off := by
  obtain ⟨a, ⟨y1, b, b2⟩, ⟨y2, c, c2⟩, ⟨y3, d, d2⟩⟩ := h
  exact ⟨s _ _ a, ⟨y1, s _ _ b, b2⟩, ⟨y2, s _ _ c, c2⟩, ⟨y3, s _ _ d, d2⟩⟩
theorem ref_int {H : Hp} {as : List Addr} {i : Nat} {x : V} (h : (as.map V.ref)[i]? = some x) : ∃ a, a ∈ as ∧ x = .ref a := by
  rw [List.getElem?_map] at h
  cases e : as[i]? with
  | none => rw [e] at h; cases h
  | some a => rw [e] at h; exact ⟨a, List.mem_of_getElem? e, (Option.some.inj h).symm⟩
theorem three_of {ys : List Int} (h : ys.length = 3) : ∃ a b c, ys = a :: b :: c :: [] := by
  match ys, h with
  | [a, b, c], _ => exact ⟨a, b, c, rfl⟩
theorem four_of {ys : List Int} (h : ys.length = 4) : ∃ a b c d, ys = a :: b :: c :: [d] := by
  match ys, h with
  | [a, b, c, d], _ => exact ⟨a, b, c, d, rfl⟩
end Brk

set_option Elab.async false
set_option linter.all false
set_option maxRecDepth 100000
set_option maxHeartbeats 4000000
/-! Own rules: len(..) and + of an own class; a try with several clauses that name their exception; an own class's maker and method within a try. -/
namespace Brk
open PySem PySem.Spec PyProof.Rows L2
section
variable {X : Cx} {CX : CXT} {k : Nat} {ps : List Str} {sp : Sp} {E : XK} {pins : List (Addr × Obj)} {σ : L2.St} {H : Hp} {s : Shared}
/-- a def that a built-in calls -/
theorem run_in1 {f : Addr} {fd : FuncData} {us : List Value} {vs : List V} {Q : VK} (F : FnOk X.prog X.w X.K X.mg X.base CX k f fd ps sp) (room : Room (k + 1) X.A) (binds : Binds X.K fd ps []) (pass : Passes CX X E) (I : Inv X pins σ H s)
    (rel : Vals vs us) (h : sp vs H Q E) : wpAny (model X.prog X.w) X.A.in1 (call (.ref f) us) (EP X pins σ Q) X.xe s := by
  have len : us.length = ps.length := (rel.length).symm.trans (F.len _ _ _ _ h)
  have b := binds s us I.kIn (by simpa using len)
  rw [List.append_nil] at b
  refine wpAny_call (codeAny_mono (F.run X.A.in1 X.stack s H ⟨us, []⟩ us vs Q E room.in1 I.env0.in1 b rel h) ?_)
  intro o s1 hq
  cases o with
  | error e => exact pass pins σ H s e s1 I hq
  | ok fl =>
    cases fl with
    | ret u => exact I.after hq
    | next => exact hq.elim
    | brk => exact hq.elim
    | cont => exact hq.elim
/-- len(x), x of an own class with the method -/
theorem call_lenM {C : Addr} (M : Me X.prog X.w X.K X.mg X.base CX k C "__len__" ["self"] sp) (room : Room (k + 1) X.A) (pass : Passes CX X E) :
    CallR X (.builtin "len") (fun xs H Q => ∃ (a dx : Addr) (fs : List (Str × V)), xs = [.ref a] ∧ H a = some (.ins C dx fs) ∧ sp [.ref a] H (fun v H1 => ∃ n : Int, v = .int n ∧ (0 ≤ n ∧ n < 2 ^ 63) ∧ Q (.int n) H1) E) := by
  intro pins s σ H xs us Q I r h
  obtain ⟨a, dx, fs, rfl, ea, q⟩ := h
  obtain ⟨f, fd, hm, hb, F⟩ := M
  obtain ⟨u, rfl, ru⟩ := vals1 r
  obtain rfl : u = Value.ref a := ru
  obtain ⟨mA, O, _⟩ := ins_get I.hok ea
  obtain ⟨od, J, _⟩ := O.look
  obtain ⟨m, fr⟩ := I.fr
  refine PySem.W.len_K fr I.ok.mod.kin J hm.at_ hm.fn (wpAny_mono (run_in1 (us := [.ref a]) (vs := [.ref a]) F room hb pass I (.cons rfl .nil) q) ?_ fun _ _ z => z)
  intro v s1 hh
  obtain ⟨x, H1, I1, rx, n, e, hn, q1⟩ := hh
  subst e
  obtain ⟨t, rfl⟩ := rx
  exact ⟨hn, .int n, H1, I1.tok _, ⟨_, rfl⟩, q1⟩
/-- x + y, both of an own class with the method -/
theorem op_addM {C : Addr} {o2 : Str} (M : Me X.prog X.w X.K X.mg X.base CX k C "__add__" ["self", o2] sp) (room : Room k X.A) (pass : Passes CX X E) (sf : PySem.W.selfFirst X.K C = true) :
    OpR X (binaryOp .Add) (fun x y H Q => ∃ (a b dx dy : Addr) (fs gs : List (Str × V)), x = .ref a ∧ y = .ref b ∧ H a = some (.ins C dx fs) ∧ H b = some (.ins C dy gs) ∧ sp [.ref a, .ref b] H (fun v H1 => (∃ p, v = .ref p) ∧ Q v H1) E) := by
  intro pins s σ H x y v u Q I rx ry h
  obtain ⟨a, b, dx, dy, fs, gs, rfl, rfl, ea, eb, q⟩ := h
  obtain ⟨f, fd, hm, hb, F⟩ := M
  obtain rfl : v = Value.ref a := rx
  obtain rfl : u = Value.ref b := ry
  obtain ⟨mA, O, _⟩ := ins_get I.hok ea
  obtain ⟨od, J, _⟩ := O.look
  obtain ⟨mB, O2, _⟩ := ins_get I.hok eb
  obtain ⟨od2, J2, _⟩ := O2.look
  obtain ⟨m, fr⟩ := I.fr
  refine PySem.W.binop_K fr I.ok.mod.kin J J2.type sf hm.at_ hm.fn (wpAny_mono (run_fn (us := [.ref a, .ref b]) (vs := [.ref a, .ref b]) F room hb .nil pass I (.cons rfl (.cons rfl .nil)) q) ?_ fun _ _ z => z)
  intro v s1 hh
  obtain ⟨x, H1, I1, rx, ⟨p, e⟩, q1⟩ := hh
  subst e
  obtain rfl : v = Value.ref p := rx
  exact ⟨.ref p, H1, I1, rfl, q1⟩
end
section
variable {X : Cx} {CX : CXT} {k : Nat} {ps : List Str} {sp : Sp} {E : L2.St → XK} {pins : List (Addr × Obj)} {σ : L2.St} {H : Hp} {s : Shared} {C f : Addr} {fd : FuncData} {ds : List Value} {dvs : List V} {x m : Str} {p pos apos : Pos} {e o : Expr} {es : List Expr} {ta : TE} {t : TA}
/-- C(..) made, what its maker raises is wished for at the slots -/
theorem run_mkS {Q : VK} {us : List Value} {vs : List V} (M : Mk X.K C f) (F : FnOk X.prog X.w X.K X.mg X.base CX k f fd ps sp) (room : Room (k + 1) X.A) (binds : Binds X.K fd ps ds) (hd : Vals dvs ds) (pass : PassesAt CX X σ (E σ)) (I : Inv X pins σ H s) (rel : Vals vs us)
    (h : ∀ x dx, H x = none → H dx = none → dx ≠ x → sp (.ref x :: (vs ++ dvs)) (L2.upd (L2.upd H dx (.own x)) x (.ins C dx [])) (fun v H1 => v = .non ∧ Q (.ref x) H1) (E σ)) : wpAny (model X.prog X.w) X.A (call (.ref C) us) (EP X pins σ Q) X.xe s := by
  have free1 : H (s.heap.objs.size + 1) = none := I.hok.fresh (Nat.le_succ _)
  have free0 : H s.heap.objs.size = none := I.hok.fresh (Nat.le_refl _)
  have now := h (s.heap.objs.size + 1) s.heap.objs.size free1 free0 (Nat.ne_of_lt (Nat.lt_succ_self _))
  have J := Inv.made (C := C) I
  have rel2 : Vals (V.ref (s.heap.objs.size + 1) :: (vs ++ dvs)) (Value.ref (s.heap.objs.size + 1) :: (us ++ ds)) := .cons rfl (rel.append hd)
  have len : (Value.ref (s.heap.objs.size + 1) :: us ++ ds).length = ps.length := (rel2.length).symm.trans (F.len _ _ _ _ now)
  refine wpAny_call (make_map (f := f) I.kIn M.makes M.init (beq_iff_eq.mp M.fn) (codeAny_mono (F.run _ X.stack _ _ ⟨Value.ref (s.heap.objs.size + 1) :: us, []⟩ (Value.ref (s.heap.objs.size + 1) :: (us ++ ds)) _ _ (E σ) (room.make C us []) (J.env0.make C us []) (binds _ (Value.ref (s.heap.objs.size + 1) :: us) J.kIn len) rel2 now) ?_))
  intro o s1 hq
  cases o with
  | error er => exact pass pins _ _ er s1 J hq
  | ok fl =>
    cases fl with
    | ret u =>
      obtain ⟨v, H1, J1, rv, ev, q1⟩ := J.after hq
      subst ev
      exact ⟨rv, .ref _, H1, J1, rfl, q1⟩
    | next => exact hq.elim
    | brk => exact hq.elim
    | cont => exact hq.elim
def tMakeS (C : Addr) (sp : Sp) (dvs : List V) (E : L2.St → XK) (t : TA) : TE := fun σ H Q => t σ H fun vs H1 => ∀ x dx, H1 x = none → H1 dx = none → dx ≠ x →
  sp (.ref x :: (vs ++ dvs)) (L2.upd (L2.upd H1 dx (.own x)) x (.ins C dx [])) (fun v H2 => v = .non ∧ Q (.ref x) H2) (E σ)
theorem pe_mkS (M : MkD X.prog X.w X.K X.mg X.base CX k x C ps dvs sp) (room : Room (k + 1) X.A) (pass : ∀ σ, PassesAt CX X σ (E σ)) (hg : Gl X x) (ha : PA X (e :: es) t)
    (hdb : (x == ("__debug__" : Str)) = false := by decide) (hs : starEach (e :: es) X.env = (false, eval e X.env) :: starEach es X.env := by rfl) (hpl : (backTo pos (starEach es X.env)).any (·.1) = false := by rfl) :
    PE X (.Call (.Name x p) (e :: es) [] pos) (tMakeS C sp dvs E t) := by
  obtain ⟨f, fd, ds, hm, M, hb, hd, F⟩ := M
  constructor
  intro pins s σ H Q I h
  refine wpAny_Call_Name_kw (ld_glob I hg hm (PySem.W.callWith_K (h₀ := X.base) I.ok.mod.kin M.kp (thn (ha.run pos pins s σ H _ I h) ?_) hs hpl) hdb)
  intro us s1 hh
  obtain ⟨vs, H1, I1, rr, q⟩ := hh
  exact ⟨I1.kIn, run_mkS M F room hb hd (pass σ) I1 rr q⟩
def tMethS (C : Addr) (m : Str) (sp : Sp) (E : L2.St → XK) (ta : TE) (t : TA) : TE := fun σ H Q => ta σ H fun x H1 => ∃ (a dx : Addr) (fs : List (Str × V)), x = .ref a ∧ H1 a = some (.ins C dx fs) ∧ fs.lookup m = none ∧ t σ H1 fun vs H2 => sp (x :: vs) H2 Q (E σ)
theorem pe_meS {pl : Sem Bool} (M : Me X.prog X.w X.K X.mg X.base CX k C m ps sp) (c : Cls X.K C) (room : Room k X.A) (pass : ∀ σ, PassesAt CX X σ (E σ)) (he : PE X o ta) (ha : PA X (e :: es) t)
    (hs : starEach (e :: es) X.env = (false, eval e X.env) :: starEach es X.env := by rfl) (hpl : (backTo pos (starEach es X.env)).any (·.1) = false := by rfl)
    (ht : eval (.Call (.Attribute o m apos) (e :: es) [] pos) X.env = (do
      let ov ← eval o X.env
      standAt apos.atName
      let (f, first) ← holding [ov] (getMethod ov m pl)
      callWith pos f first (backTo pos (starEach (e :: es) X.env)) (backToKw pos (keywordEach [] X.env))) := by rfl) :
    PE X (.Call (.Attribute o m apos) (e :: es) [] pos) (tMethS C m sp E ta t) := by
  obtain ⟨f, fd, hm, hb, F⟩ := M
  constructor
  intro pins s σ H Q I h
  refine PySem.W.methodCall_KW (pl := pl) (thn (he.run pins s σ H _ I h) ?_) ht
  intro u s1 hh
  obtain ⟨x, H1, I1, rx, a, dx, fs, ex, ea, l, q⟩ := hh
  subst ex
  obtain rfl : u = Value.ref a := rx
  refine getmeth_ok I1 ea c hm l (PySem.W.callWith_K (first := [.ref a]) (h₀ := X.base) I1.ok.mod.kin hm.kp (thn (ha.run pos pins s1 σ H1 _ I1 q) ?_) hs hpl)
  intro us s2 hh2
  obtain ⟨vs, H2, I2, rr, q2⟩ := hh2
  exact ⟨I2.kIn, run_fnS (us := .ref a :: us) (vs := .ref a :: vs) F room hb (pass σ) I2 (.cons rfl rr) q2⟩
end

/-! ### a try whose clauses name their exceptions -/
/-- the wish: the first clause that takes the exception; its suite goes through; behind it the name is gone -/
def wHolds (K : PySem.W.Frag) (D : Ends) : List (Value × Nat × (Addr → Value → Option Addr → TS)) → WX
  | [] => fun _ _ _ _ => False
  | (c, i, ts) :: l => fun cls d σ H => ∃ b, PySem.W.exmOne K cls c = some b ∧
      (b = true → ∀ a, H a = none → ts a cls d { nx := fun σ1 H1 => D.nx (σ1.set i none) H1, rt := fun _ _ => False, bk := fun _ _ => False, ct := fun _ _ => False } (σ.set i (some (.ref a))) H) ∧ (b = false → wHolds K D l cls d σ H)
inductive HdsH (X : Cx) : List ExceptHandler → List (Value × Nat × (Addr → Value → Option Addr → TS)) → Prop
  | nil : HdsH X [] []
  | cons {x n : Str} {c : Value} {i : Nat} {ts : Addr → Value → Option Addr → TS} {b0 : Stmt} {suite : List Stmt} {np pos1 : Pos} {hds : List ExceptHandler} {l : List (Value × Nat × (Addr → Value → Option Addr → TS))}
      (hslot : X.N[i]? = some n) (hloc : X.env.kindOf n = some .local) (hnm : Names X x c)
      (hsuite : ∀ (a : Addr) (ob : Obj) (cls : Value) (d : Option Addr) (pn : List (Addr × Obj)), Zc cls d ob → (∃ ws, ob.data = .fields ws) → PSs (X.suite a ((a, ob) :: pn)) (b0 :: suite) (ts a cls d)) (r : HdsH X hds l) :
      HdsH X (.ExceptHandler (some (.Name x np)) (some n) (b0 :: suite) pos1 :: hds) ((c, i, ts) :: l)
section
variable {X : Cx} {body : List Stmt} {h0 : ExceptHandler} {hds : List ExceptHandler} {l : List (Value × Nat × (Addr → Value → Option Addr → TS))} {pos : Pos} {tb : WX → TS}
theorem ps_try_holds (hst : X.stack = X.env :: X.outer) (hfr : X.env.frame = some X.env.locals) (hnd : X.N.Nodup) (hex : X.ex = [])
    (hbody : ∀ (W : WX) (pn : List (Addr × Obj)) (xe : Value → Shared → Prop), Takes (X.tr pn xe) W → PassesOwn (model X.prog X.w) X.A X.env xe → PSs (X.tr pn xe) body (tb W)) (hh : HdsH X (h0 :: hds) l) :
    PS X (.Try body (h0 :: hds) [] [] pos) (fun D σ H => tb (wHolds X.K D l) D σ H) := by
  constructor
  intro pins s σ H D I h
  have good := I.ok
  have frames : X.A.frames = some (X.env :: X.outer) := by rw [good.frames, hst]
  refine wpAny_Try_except (wpAny_mono ((hbody (wHolds X.K D l) (X.pn ++ pins) (fun ex sh => wpAny (model X.prog X.w) X.A (noteFrame ex X.env)
    (fun _ sh1 => wpAny (model X.prog X.w) X.A (setFlight ex none) (fun _ sh2 => wpAny (model X.prog X.w) X.A (handleBy ex X.env (h0 :: hds)) (SP X pins D) X.xe sh2) X.xe sh1) X.xe sh) ?_ PassesOwn.looking).run [] s σ H D (I.toTry _) h) ?_ fun _ _ z => z)
  · intro v sh air
    obtain ⟨a, B, sI, pinsI, σI, HI, cls, d, rfl, JI, ground, slots, sky, na, os, bare, wish⟩ := air
    have J : Inv X pins σI HI sI := JI.ofTry good
    have sky2 : Sky B (X.env :: X.outer) a (Zc cls d) X.env.locals sh.heap := hst ▸ sky
    show wpAny _ _ (noteFrame (.ref a) X.env) _ _ _
    refine Sky.land Zc.steady frames hfr sky2 ?_
    intro g3 fly3 slots3
    have J3 : Inv X pins σI HI { sh with heap := g3 } := J.landed ground fly3.1 (slots.trans slots3) os bare
    obtain ⟨ob3, ws3, at3, z3, f3⟩ := fly3.there
    have nofr : a ∉ frs (X.env :: X.outer) := by
      intro hm
      obtain ⟨_, o1, e1, e2⟩ := (fly3.2.2.1).mem hm
      rw [at3] at e1
      cases e1
      exact e2 _ f3
    have nL : a ≠ X.env.locals := by
      intro z
      exact nofr (List.mem_filterMap.mpr ⟨X.env, List.mem_cons_self, by rw [hfr, z]⟩)
    have nF : a ∉ X.fs := by
      intro hm
      obtain ⟨e, he, q⟩ := List.mem_filterMap.mp hm
      exact nofr (List.mem_filterMap.mpr ⟨e, List.mem_cons_of_mem _ he, q⟩)
    have S3 := J3.suite at3 f3 na nL nF
    have kind : PySem.W.Looks (model X.prog X.w) g3 (typeOf (.ref a)) cls := by
      intro A Q E s1 keep q
      exact wpAny_typeOf_ref (keep _ _ at3) (by rw [z3.1]; exact q)
    have each : ∀ {hs : List ExceptHandler} {ll : List (Value × Nat × (Addr → Value → Option Addr → TS))}, HdsH X hs ll → wHolds X.K D ll cls d σI HI →
        wpAny (model X.prog X.w) X.A (handleBy (.ref a) X.env hs) (SP X pins D) X.xe { sh with heap := g3 } := by
      intro hs ll hk
      induction hk with
      | nil => intro w; exact w.elim
      | @cons x n c i ts b0 suite np pos1 hs2 l2 hslot hloc hnm hsuite r ih =>
        intro w
        obtain ⟨b, caught, yes, no⟩ := w
        refine wpAny_handleBy_cons (codeAny_handlers_test ?_) (by intro q; cases q)
        have match_ := PySem.W.exm_one (M := model X.prog X.w) (J3.kIn) kind caught
        have named : ∀ {Q : Value → Shared → Prop} {E : Value → Shared → Prop}, Q c { sh with heap := g3 } → wpAny (model X.prog X.w) (X.A.mark (some (.ref a))) (eval (.Name x np) X.env) Q E { sh with heap := g3 } := by
          intro Q E q
          obtain ⟨hg, hdbg, hm | ⟨hm, hv, hnn⟩⟩ := hnm
          · exact ld_glob (X := X.suite a ((a, ob3) :: (X.pn ++ pins))) S3 hg hm q hdbg
          · exact ld_blt (X := X.suite a ((a, ob3) :: (X.pn ++ pins))) S3 hg hm hv q hnn hdbg
        refine named (match_.here ?_)
        cases b with
        | false => exact ih (no rfl)
        | true =>
          refine codeAny_handlers_suite_as (HandSPX.lands_againZ fly3 ?_)
          intro g4 fly4 slots4
          have J4 : Inv X pins σI HI { sh with heap := g4 } := J.landed ground fly4.1 ((slots.trans slots3).trans slots4) os bare
          obtain ⟨ob4, ws4, at4, z4, f4⟩ := fly4.there
          have S4 := J4.suite at4 f4 na nL nF
          refine store_ok (X := X.suite a ((a, ob4) :: (X.pn ++ pins))) (v := .ref a) S4 hnd hslot (.inl hloc) rfl (fun s5 S5 => ?_) (.inr hloc)
          refine wpAny_mono ((hsuite a ob4 cls d (X.pn ++ pins) z4 ⟨_, f4⟩).run [] s5 _ HI _ S5 (yes rfl a na)) ?_ fun _ _ z => False.elim z
          intro fl s6 q6
          cases fl with
          | next =>
            obtain ⟨σ6, H6, S6, q⟩ := q6
            refine gone_ok (X := X.suite a ((a, ob4) :: (X.pn ++ pins))) S6 hnd hslot hloc ?_
            intro s7 S7
            exact ⟨_, _, S7.unsuite good, q⟩
          | brk =>
            obtain ⟨_, _, _, z⟩ := q6
            exact z.elim
          | cont =>
            obtain ⟨_, _, _, z⟩ := q6
            exact z.elim
          | ret u =>
            obtain ⟨_, _, _, _, _, z⟩ := q6
            exact z.elim
    exact each hh wish
  · intro fl s1 q1
    cases fl with
    | next =>
      obtain ⟨σ1, H1, J1, q⟩ := q1
      exact wpAny_execs_nil ⟨σ1, H1, J1.ofTry good, q⟩
    | brk =>
      obtain ⟨σ1, H1, J1, q⟩ := q1
      exact ⟨σ1, H1, J1.ofTry good, q⟩
    | cont =>
      obtain ⟨σ1, H1, J1, q⟩ := q1
      exact ⟨σ1, H1, J1.ofTry good, q⟩
    | ret u =>
      obtain ⟨v1, σ1, H1, J1, r1, q⟩ := q1
      exact ⟨v1, σ1, H1, J1.ofTry good, r1, q⟩
end

/-! ### the exception that a suite holds -/
section
variable {X : Cx} {a : Addr} {ob : Obj} {cls : Value} {d : Option Addr} {pn : List (Addr × Obj)}
theorem suite_inst {pins : List (Addr × Obj)} {σ : L2.St} {H : Hp} {s : Shared} {D : Addr} (hz : Zc cls d ob) (hf : ∃ ws, ob.data = .fields ws) (I : Inv (X.suite a ((a, ob) :: pn)) pins σ H s) (e : cls = .ref D) (hd : ∃ dd fs, d = some dd ∧ H dd = some (.xd fs)) :
    ∃ od : Option Obj, PySem.W.InstAt s.heap a ob D od := by
  obtain ⟨at_, _⟩ := I.pin (a, ob) (List.mem_append_left _ List.mem_cons_self)
  obtain ⟨ws, f⟩ := hf
  obtain ⟨dd, fs, rfl, hdd⟩ := hd
  obtain ⟨mA, hns, _⟩ := (show ObjOk X.prog X.w H s.heap dd (.xd fs) from I.hok dd _ hdd)
  obtain ⟨od, ho, _⟩ := lookIn_ns hns
  exact ⟨some od, at_, hz.1.trans e, by unfold PySem.W.notCls; rw [f] <;> rfl, by rw [hz.2]; exact ho⟩
theorem call_isS (hz : Zc cls d ob) (hf : ∃ ws, ob.data = .fields ws) : CallR (X.suite a ((a, ob) :: pn)) (.builtin "isinstance")
    (fun xs H Q => ∃ (D : Addr) (c : V) (cv : Value) (b : Bool), xs = [.ref a, c] ∧ cls = .ref D ∧ ClsV c cv ∧ (∃ dd fs, d = some dd ∧ H dd = some (.xd fs)) ∧ ExcC X.K D ∧ PySem.W.kitOne X.K (.ref D) cv = some b ∧ Q (.bl b) H) := by
  intro pins s σ H xs us Q I r h
  obtain ⟨D, c, cv, b, rfl, ec, k, hd, C, e, q⟩ := h
  obtain ⟨u1, u2, rfl, r1, r2⟩ := vals2 r
  have e2 := k.eq r2
  subst e2
  cases r1
  obtain ⟨od, J⟩ := suite_inst hz hf I ec hd
  have hcl : (PySem.W.clsIn X.K D).isSome = true := by
    obtain ⟨cd, hc, _⟩ := PySem.W.any_some C.hd
    rw [hc]
    rfl
  exact PySem.W.kia_one (PySem.W.kitx_exc hcl C.hg C.hk C.hs C.ha C.hn C.ht C.hm) I.kIn J e (fun z => nomatch z) fun tk => ⟨.bl b, H, I.tok tk, rfl, q⟩
/-- e.n -/
theorem pe_xs {e : Expr} {te : TE} {pos : Pos} {n : Str} (hz : Zc cls d ob) (hf : ∃ ws, ob.data = .fields ws) (he : PE (X.suite a ((a, ob) :: pn)) e te) (hb : attributeBase e n X.env (eval e X.env) = eval e X.env := by rfl) :
    PE (X.suite a ((a, ob) :: pn)) (.Attribute e n pos) (fun σ H Q => te σ H fun x H1 => ∃ (D dd : Addr) (fs : List (Str × V)) (v : V), x = .ref a ∧ cls = .ref D ∧ d = some dd ∧ H1 dd = some (.xd fs) ∧ ExcC X.K D ∧ PySem.W.findIn X.K (.ref D) n = some none ∧ fs.lookup n = some v ∧ Q v H1) := by
  constructor
  intro pins s σ H Q I h
  refine attr_of hb (thn (he.run pins s σ H _ I h) ?_)
  intro u s1 hh
  obtain ⟨x, H1, I1, rx, D, dd, fs, v, ex, ec, ed, hdd, T, hno, l, q⟩ := hh
  subst ex
  obtain rfl : u = Value.ref a := rx
  obtain ⟨mA, hns, hr⟩ := (show ObjOk X.prog X.w H1 s1.heap dd (.xd fs) from I1.hok dd _ hdd)
  obtain ⟨od, ho, hl⟩ := lookIn_ns hns
  obtain ⟨u, hu, ru⟩ := RelO.some_of (v := v) (o := mA n) (by rw [← l]; exact hr n)
  obtain ⟨at_, _⟩ := I1.pin (a, ob) (List.mem_append_left _ List.mem_cons_self)
  obtain ⟨ws, f⟩ := hf
  have J : PySem.W.InstAt s1.heap a ob D (some od) := ⟨at_, hz.1.trans ec, by unfold PySem.W.notCls; rw [f] <;> rfl, by rw [hz.2, ed]; exact ho⟩
  exact HandSPX.exc_get I1.kIn J (exc_xf T).ga (exc_xf T).gg (exc_xf T).exC (PySem.W.findObj_own (exc_xf T).hdC hno rfl (by rw [hl, hu])) (handed_of ru) ⟨v, H1, I1.tok _, ru, q⟩
end
end Brk

set_option Elab.async false
set_option linter.all false
set_option maxRecDepth 100000
set_option maxHeartbeats 4000000
/-! Own words: data that is compared, bands. -/
namespace Brk
open PySem L2
theorem passNo {X : Cx} {E : XK} (h : ∀ cls d H, ¬ E cls d H) : Passes (L2.CX X.prog X.w) X E := fun _ _ _ _ _ _ _ ⟨_, _, _, _, _, _, _, _, _, _, _, _, w⟩ => (h _ _ _ w).elim
abbrev passE {X : Cx} : Passes (L2.CX X.prog X.w) X E0 := passNo (fun _ _ _ z => z)

/-! ### data that is compared -/
def okD : Nat → PyData → Bool
  | _, .none => true
  | _, .bool _ => true
  | _, .int _ => true
  | _, .str _ => true
  | _, .dict _ => false
  | 0, .list _ => false
  | 0, .tuple _ => false
  | n + 1, .list ds => decide (ds.length ≤ 1000000) && ds.all (okD n)
  | n + 1, .tuple ds => decide (ds.length ≤ 1000000) && ds.all (okD n)
theorem okD_list {n : Nat} {ds : List PyData} (h : okD n (.list ds) = true) : ∃ m, n = m + 1 ∧ ds.length ≤ 1000000 ∧ ∀ d ∈ ds, okD m d = true := by
  cases n with
  | zero => cases h
  | succ m =>
    unfold okD at h
    rw [Bool.and_eq_true] at h
    exact ⟨m, rfl, of_decide_eq_true h.1, List.all_eq_true.mp h.2⟩
theorem okD_tuple {n : Nat} {ds : List PyData} (h : okD n (.tuple ds) = true) : ∃ m, n = m + 1 ∧ ds.length ≤ 1000000 ∧ ∀ d ∈ ds, okD m d = true := by
  cases n with
  | zero => cases h
  | succ m =>
    unfold okD at h
    rw [Bool.and_eq_true] at h
    exact ⟨m, rfl, of_decide_eq_true h.1, List.all_eq_true.mp h.2⟩
theorem okD_mkL {n : Nat} {ds : List PyData} (h : ds.length ≤ 1000000) (k : ∀ d ∈ ds, okD n d = true) : okD (n + 1) (.list ds) = true := by
  unfold okD
  rw [decide_eq_true h, List.all_eq_true.mpr k]
  rfl
theorem okD_mkT {n : Nat} {ds : List PyData} (h : ds.length ≤ 1000000) (k : ∀ d ∈ ds, okD n d = true) : okD (n + 1) (.tuple ds) = true := by
  unfold okD
  rw [decide_eq_true h, List.all_eq_true.mpr k]
  rfl
theorem plainAll_of {ds : List PyData} (h : ∀ d ∈ ds, d.plain = true) : PyData.plainAll ds = true := by
  induction ds with
  | nil => rfl
  | cons d ds ih => rw [PyData.plainAll, h d List.mem_cons_self, ih fun e he => h e (List.mem_cons_of_mem _ he)]; rfl
theorem depthAll_of {n : Nat} {ds : List PyData} (h : ∀ d ∈ ds, d.depth ≤ n) : PyData.depthAll ds ≤ n := by
  induction ds with
  | nil => simp [PyData.depthAll]
  | cons d ds ih =>
    have a := h d List.mem_cons_self
    have b := ih fun e he => h e (List.mem_cons_of_mem _ he)
    simp only [PyData.depthAll]
    omega
theorem okD_plain : ∀ (n : Nat) (d : PyData), okD n d = true → d.plain = true ∧ d.depth ≤ n
  | _, .none, _ => ⟨rfl, by simp [PyData.depth]⟩
  | _, .bool _, _ => ⟨rfl, by simp [PyData.depth]⟩
  | _, .int _, _ => ⟨rfl, by simp [PyData.depth]⟩
  | _, .str _, _ => ⟨rfl, by simp [PyData.depth]⟩
  | 0, .dict _, h => by simp [okD] at h
  | _ + 1, .dict _, h => by simp [okD] at h
  | 0, .list _, h => by simp [okD] at h
  | 0, .tuple _, h => by simp [okD] at h
  | n + 1, .list ds, h => by
    obtain ⟨m, e, _, k⟩ := okD_list h
    cases e
    refine ⟨by simp only [PyData.plain]; exact plainAll_of fun d hd => (okD_plain n d (k d hd)).1, ?_⟩
    have q := depthAll_of fun d hd => (okD_plain n d (k d hd)).2
    simp only [PyData.depth]
    omega
  | n + 1, .tuple ds, h => by
    obtain ⟨m, e, _, k⟩ := okD_tuple h
    cases e
    refine ⟨by simp only [PyData.plain]; exact plainAll_of fun d hd => (okD_plain n d (k d hd)).1, ?_⟩
    have q := depthAll_of fun d hd => (okD_plain n d (k d hd)).2
    simp only [PyData.depth]
    omega
def rEqK (K : PySem.W.Frag) : R2 := fun x y H Q => ∃ d e, Dp K H x d ∧ Dp K H y e ∧ okD 8 d = true ∧ okD 8 e = true ∧ Q (.bl (PyData.eqv d e)) H
def rNeK (K : PySem.W.Frag) : R2 := fun x y H Q => ∃ d e, Dp K H x d ∧ Dp K H y e ∧ okD 8 d = true ∧ okD 8 e = true ∧ Q (.bl (!PyData.eqv d e)) H
theorem op_eqK {X : Cx} (hu : X.A.units + 64 < cLine) : OpR X (compareOp .Eq) (rEqK X.K) := by
  intro pins s σ H x y v u Q I rx ry h
  obtain ⟨d, e, hd, he, sd, se, q⟩ := h
  obtain ⟨as, r1⟩ := Dp.reads I d x v hd rx
  obtain ⟨bs, r2⟩ := Dp.reads I e y u he ry
  have p1 := okD_plain _ _ sd
  have p2 := okD_plain _ _ se
  exact SeqAt.eq_plain r1 r2 p1.1 p2.1 (by omega) ⟨.bl _, H, I, rfl, q⟩
theorem op_neK {X : Cx} (hu : X.A.units + 64 < cLine) : OpR X (compareOp .NotEq) (rNeK X.K) := by
  intro pins s σ H x y v u Q I rx ry h
  obtain ⟨d, e, hd, he, sd, se, q⟩ := h
  obtain ⟨as, r1⟩ := Dp.reads I d x v hd rx
  obtain ⟨bs, r2⟩ := Dp.reads I e y u he ry
  have p1 := okD_plain _ _ sd
  have p2 := okD_plain _ _ se
  exact SeqAt.ne_plain r1 r2 p1.1 p2.1 (by omega) ⟨.bl _, H, I, rfl, q⟩
theorem okD_mono {n m : Nat} (h : n ≤ m) : ∀ {d : PyData}, okD n d = true → okD m d = true := by
  induction n generalizing m with
  | zero =>
    intro d hd
    cases d <;> first | (cases m <;> rfl) | (simp [okD] at hd)
  | succ n ih =>
    intro d hd
    obtain ⟨m, rfl⟩ : ∃ k, m = k + 1 := ⟨m - 1, by omega⟩
    cases d with
    | list ds =>
      obtain ⟨k, e, l, q⟩ := okD_list hd
      cases e
      exact okD_mkL l fun d hd => ih (by omega) (q d hd)
    | tuple ds =>
      obtain ⟨k, e, l, q⟩ := okD_tuple hd
      cases e
      exact okD_mkT l fun d hd => ih (by omega) (q d hd)
    | dict _ => simp [okD] at hd
    | none => rfl
    | bool _ => rfl
    | int _ => rfl
    | str _ => rfl
theorem tyx_sqL {K : PySem.W.Frag} {H : Hp} {a : Addr} {xs : List V} (h : SqL K H a xs) : TyX K H (.ref a) (.type "list") := by
  rcases h with (h | ⟨o, h⟩) | ⟨o, its, n, hk, hc, _⟩
  · exact .base (.lst h)
  · exact .base (.frz h)
  · exact .kList hk hc
theorem tyx_sqT {K : PySem.W.Frag} {H : Hp} {a : Addr} {xs : List V} (h : SqT K H a xs) : TyX K H (.ref a) (.type "tuple") := by
  rcases h with (h | ⟨o, h⟩) | ⟨o, its, n, hk, hc, _⟩
  · exact .base (.tup h)
  · exact .fTuple h
  · exact .kTuple hk hc
theorem sqL_same {K : PySem.W.Frag} {H H' : Hp} {a : Addr} {xs : List V} (h : SqL K H a xs) (s : Same H H') : SqL K H' a xs := by
  rcases h with (h | ⟨o, h⟩) | h
  · exact .inl (.inl (s _ _ h))
  · exact .inl (.inr ⟨o, s _ _ h⟩)
  · exact .inr h
theorem sqT_same {K : PySem.W.Frag} {H H' : Hp} {a : Addr} {xs : List V} (h : SqT K H a xs) (s : Same H H') : SqT K H' a xs := by
  rcases h with (h | ⟨o, h⟩) | h
  · exact .inl (.inl (s _ _ h))
  · exact .inl (.inr ⟨o, s _ _ h⟩)
  · exact .inr h
theorem DpAll.len {K : PySem.W.Frag} {H : Hp} : ∀ {vs : List V} {ds : List PyData}, DpAll K H vs ds → vs.length = ds.length
  | _, _, .nil => rfl
  | _, _, .cons _ r => congrArg Nat.succ (DpAll.len r)
theorem DpAll.at_ {K : PySem.W.Frag} {H : Hp} : ∀ {vs : List V} {ds : List PyData} {i : Nat}, DpAll K H vs ds → i < ds.length → ∃ v d, vs[i]? = some v ∧ ds[i]? = some d ∧ Dp K H v d
  | _, _, _, .nil, h => absurd h (Nat.not_lt_zero _)
  | _, _, 0, .cons a _, _ => ⟨_, _, rfl, rfl, a⟩
  | _, _, i + 1, .cons _ r, h => by
    obtain ⟨v, d, e1, e2, q⟩ := DpAll.at_ (i := i) r (Nat.lt_of_succ_lt_succ h)
    exact ⟨v, d, by simpa using e1, by simpa using e2, q⟩
mutual
theorem Dp.same {K : PySem.W.Frag} {H H' : Hp} (s : Same H H') : ∀ {v : V} {d : PyData}, Dp K H v d → Dp K H' v d
  | _, _, .non => .non
  | _, _, .bl b => .bl b
  | _, _, .int i => .int i
  | _, _, .str x => .str x
  | _, _, .lst h r => .lst (sqL_same h s) (DpAll.same s r)
  | _, _, .tup h r => .tup (sqT_same h s) (DpAll.same s r)
theorem DpAll.same {K : PySem.W.Frag} {H H' : Hp} (s : Same H H') : ∀ {vs : List V} {ds : List PyData}, DpAll K H vs ds → DpAll K H' vs ds
  | _, _, .nil => .nil
  | _, _, .cons a r => .cons (Dp.same s a) (DpAll.same s r)
end
theorem dpInts {K : PySem.W.Frag} {H : Hp} : ∀ {es : List Int}, DpAll K H (es.map V.int) (es.map PyData.int)
  | [] => .nil
  | _ :: _ => .cons (.int _) dpInts
theorem okInts {es : List Int} {n : Nat} : ∀ d ∈ es.map PyData.int, okD n d = true := by
  intro d hd
  obtain ⟨x, _, rfl⟩ := List.mem_map.mp hd
  cases n <;> rfl
/-- two values of the same data -/
def spSame (K : PySem.W.Frag) (n : Nat) : Sp := fun vs H Q _ => ∃ (x y : V) (d : PyData), vs = [x, y] ∧ Dp K H x d ∧ Dp K H y d ∧ okD n d = true ∧ Q (.bl true) H

/-! ### bands -/
abbrev iV (es : List Int) : List V := es.map V.int
def EndsOk (n : Int) (es : List Int) : Prop := (es.length : Int) = n ∧ ∀ (i : Nat) (x : Int), es[i]? = some x → (i : Int) ≤ x ∧ x < n ∧ ∀ y, es[i + 1]? = some y → x ≤ y
/-- the end ahead of place i, 0 ahead of the first -/
def ahead (es : List Int) (i : Nat) : Int := if i = 0 then 0 else es.getD (i - 1) 0
def badE (es : List Int) (i : Nat) : Bool := decide (es.getD i 0 < (i : Int)) || (decide ((es.length : Int) ≤ es.getD i 0) || decide (es.getD i 0 < ahead es i))
inductive BD
  | fine | many | at_ (i : Nat)
def bandDue (es : List Int) : BD := if 60 < es.length then .many else match (List.range es.length).find? (badE es) with | some i => .at_ i | none => .fine
theorem due_many {es : List Int} (h : 60 < es.length) : bandDue es = .many := by unfold bandDue; rw [if_pos h]
theorem find_range {p : Nat → Bool} {n i : Nat} (hi : i < n) (h : p i = true) (k : ∀ j, j < i → p j = false) : (List.range n).find? p = some i := by
  rw [List.find?_range_eq_some]
  exact ⟨h, List.mem_range.mpr hi, fun j hj => by rw [k j hj]; rfl⟩
theorem due_at {es : List Int} {i : Nat} (h : es.length ≤ 60) (hi : i < es.length) (hb : badE es i = true) (k : ∀ j, j < i → badE es j = false) : bandDue es = .at_ i := by
  unfold bandDue
  rw [if_neg (by omega), find_range hi hb k]
theorem due_fine {es : List Int} (h : es.length ≤ 60) (k : ∀ j, j < es.length → badE es j = false) : bandDue es = .fine := by
  unfold bandDue
  rw [if_neg (by omega), List.find?_eq_none.mpr fun j hj => by rw [k j (List.mem_range.mp hj)]; exact Bool.false_ne_true]
theorem getD_at {es : List Int} {i : Nat} {x : Int} (h : es[i]? = some x) : es.getD i 0 = x := by
  rw [List.getD_eq_getElem?_getD, h]
  rfl
theorem EndsOk.fine {n : Int} {es : List Int} (h : EndsOk n es) (hn : n ≤ 60) : bandDue es = .fine := by
  obtain ⟨hl, h⟩ := h
  refine due_fine (by omega) fun j hj => ?_
  have e : es[j]? = some es[j] := List.getElem?_eq_getElem hj
  obtain ⟨h1, h2, _⟩ := h j _ e
  unfold badE
  rw [getD_at e, decide_eq_false (by omega), decide_eq_false (by omega)]
  unfold ahead
  by_cases z : j = 0
  · rw [if_pos z, decide_eq_false (by omega)]
    rfl
  · rw [if_neg z]
    have e2 : es[j - 1]? = some (es[j - 1]'(by omega)) := List.getElem?_eq_getElem (by omega)
    have q := (h (j - 1) _ e2).2.2 es[j] (by rw [Nat.sub_add_cancel (by omega)]; exact e)
    rw [getD_at e2, decide_eq_false (by omega)]
    rfl
/-- what is told of ends that are refused -/
def dueD2 (es : List Int) : PyData := match bandDue es with
  | .many => .list [.str "many", .str "things", .int 60, .bool true, .bool true, .bool false, .bool false, .bool false]
  | .at_ i => .list [.str "end", .int (i : Nat), .bool true, .bool true, .bool false, .bool false, .bool false]
  | .fine => .list []
/-- a band at b -/
def BandAt (CB : Addr) (H : Hp) (b : Addr) (es : List Int) : Prop := ∃ dx t, H b = some (.ins CB dx [("ends", .ref t)]) ∧ H t = some (.tup (iV es))
theorem BandAt.same {CB : Addr} {H H' : Hp} {b : Addr} {es : List Int} (h : BandAt CB H b es) (s : Same H H') : BandAt CB H' b es := by
  obtain ⟨dx, t, e1, e2⟩ := h
  exact ⟨dx, t, s _ _ e1, s _ _ e2⟩
/-- all but the list or dict at p stays: so does a band -/
theorem BandAt.but {CB p : Addr} {H H' : Hp} {b : Addr} {es : List Int} {xs : List V} (h : BandAt CB H b es) (s : But p H H') (hp : H p = some (.lst xs)) : BandAt CB H' b es := by
  obtain ⟨dx, t, e1, e2⟩ := h
  refine ⟨dx, t, s _ _ e1 ?_, s _ _ e2 ?_⟩
  · rintro rfl
    rw [hp] at e1
    cases e1
  · rintro rfl
    rw [hp] at e2
    cases e2
/-- what is handed to a Band -/
def SqIn (H : Hp) (r : Addr) (es : List Int) : Prop := H r = some (.lst (iV es)) ∨ H r = some (.tup (iV es))
theorem SqIn.sq {K : PySem.W.Frag} {H : Hp} {r : Addr} {es : List Int} (h : SqIn H r es) : SqL K H r (iV es) ∨ SqT K H r (iV es) := h.imp SqL.of SqT.of
def xNum (CN : Addr) (n : Int) (H : Hp) (E : XK) : Prop := ∀ (H' : Hp) (d : Addr), Same H H' → H' d = some (.xd [("number", .int n)]) → E (.ref CN) (some d) H'
def xEnd (CE : Addr) (i : Nat) (H : Hp) (E : XK) : Prop := ∀ (H' : Hp) (d : Addr), Same H H' → H' d = some (.xd [("index", .int (i : Nat))]) → E (.ref CE) (some d) H'
def xMany (CT : Addr) (H : Hp) (E : XK) : Prop := ∀ (H' : Hp) (d : Addr), Same H H' → H' d = some (.xd [("most", .int 60), ("what", .str "things")]) → E (.ref CT) (some d) H'
theorem xNum.from {CN : Addr} {n : Int} {H H1 : Hp} {E : XK} (h : xNum CN n H E) (s : Same H H1) : xNum CN n H1 E := fun H' d s' e => h H' d (s.trans s') e
theorem xEnd.from {CE : Addr} {i : Nat} {H H1 : Hp} {E : XK} (h : xEnd CE i H E) (s : Same H H1) : xEnd CE i H1 E := fun H' d s' e => h H' d (s.trans s') e
theorem xMany.from {CT : Addr} {H H1 : Hp} {E : XK} (h : xMany CT H E) (s : Same H H1) : xMany CT H1 E := fun H' d s' e => h H' d (s.trans s') e
def spThings (CT : Addr) : Sp := fun vs H Q E => ∃ n : Int, vs = [.int n] ∧ (n ≤ 60 → Q .non H) ∧ (60 < n → xMany CT H E)
def spCkEnds (CE : Addr) : Sp := fun vs H Q E => ∃ (r : Addr) (es : List Int), vs = [.ref r] ∧ SqIn H r es ∧ es.length ≤ 60 ∧ (bandDue es = .fine → ∀ H', Same H H' → Q .non H') ∧ (∀ i, bandDue es = .at_ i → xEnd CE i H E)
def spFromZ (CN : Addr) : Sp := fun vs H Q E => ∃ n m : Int, vs = [.int n, .int m] ∧ (0 ≤ n ∧ n ≤ m → Q .non H) ∧ (¬ (0 ≤ n ∧ n ≤ m) → xNum CN n H E)
/-- a Band is made, or refused -/
def spBand (CB CT CE : Addr) : Sp := fun vs H Q E => ∃ (p dx r : Addr) (es : List Int), vs = [.ref p, .ref r] ∧ H p = some (.ins CB dx []) ∧ SqIn H r es ∧ es.length ≤ 1000 ∧
  (bandDue es = .fine → ∀ t H', H' p = some (.ins CB dx [("ends", .ref t)]) → H' t = some (.tup (iV es)) → But p H H' → Q .non H') ∧ (bandDue es = .many → xMany CT H E) ∧ (∀ i, bandDue es = .at_ i → xEnd CE i H E)
def mxI (i k : Int) : Int := if k > i then k else i
def mnI (i k : Int) : Int := if k < i then k else i
def nearE (es : List Int) (i k : Int) : Bool := decide (mxI i k ≤ es.getD (mnI i k).toNat 0)
def inN (es : List Int) (i : Int) : Prop := 0 ≤ i ∧ i < es.length
def spNearB (CB CN : Addr) : Sp := fun vs H Q E => ∃ (b : Addr) (es : List Int) (i k : Int), vs = [.ref b, .int i, .int k] ∧ BandAt CB H b es ∧ (inN es i → inN es k → Q (.bl (nearE es i k)) H) ∧ (¬ inN es i → xNum CN i H E) ∧ (inN es i → ¬ inN es k → xNum CN k H E)
def spLenB (CB : Addr) : Sp := fun vs H Q _ => ∃ (b : Addr) (es : List Int), vs = [.ref b] ∧ BandAt CB H b es ∧ Q (.int es.length) H
theorem near_at {es : List Int} {i k : Int} (hi : inN es i) (hk : inN es k) : atI es (mnI i k) = some (es.getD (mnI i k).toNat 0) := by
  obtain ⟨a1, a2⟩ := hi
  obtain ⟨b1, b2⟩ := hk
  have e1 : 0 ≤ mnI i k := by unfold mnI; split <;> omega
  have e2 : (mnI i k).toNat < es.length := by unfold mnI; split <;> omega
  refine atI_ge e1 ?_
  rw [List.getD_eq_getElem?_getD, List.getElem?_eq_getElem e2]
  rfl
theorem near_atV {es : List Int} {i k : Int} (hi : inN es i) (hk : inN es k) : atI (iV es) (mnI i k) = some (.int (es.getD (mnI i k).toNat 0)) := by
  obtain ⟨a1, a2⟩ := hi
  obtain ⟨b1, b2⟩ := hk
  have e1 : 0 ≤ mnI i k := by unfold mnI; split <;> omega
  have e2 : (mnI i k).toNat < es.length := by unfold mnI; split <;> omega
  refine atI_ge e1 ?_
  rw [List.getElem?_map, List.getD_eq_getElem?_getD, List.getElem?_eq_getElem e2]
  rfl
/-! ### the law's own helpers -/
def spEndsL : Sp := fun vs H Q _ => ∃ (p c : Addr) (ns : List Int) (n : Int), vs = [.ref p, .int n] ∧ Pool ns c H p ∧ 0 ≤ n ∧ n ≤ 100 ∧
  ∀ (l : Addr) (es : List Int) (H' : Hp), EndsOk n es → H' l = some (.lst (iV es)) → H l = none → Pool ns c H' p → But p H H' → Q (.ref l) H'
def spSpoil : Sp := fun vs H Q _ => ∃ (p c r : Addr) (ns : List Int) (es : List Int), vs = [.ref p, .ref r] ∧ Pool ns c H p ∧ H r = some (.lst (iV es)) ∧ r ≠ p ∧ es.length ≤ 100 ∧
  ∀ (l : Addr) (ws : List Int) (H' : Hp), ws.length = es.length → H' l = some (.lst (iV ws)) → H l = none → Pool ns c H' p → But p H H' → Q (.ref l) H'
def spNearL : Sp := fun vs H Q _ => ∃ (r : Addr) (es : List Int) (i k : Int), vs = [.ref r, .int i, .int k] ∧ H r = some (.lst (iV es)) ∧ inN es i ∧ inN es k ∧ Q (.bl (nearE es i k)) H
def spDueL2 (K : PySem.W.Frag) : Sp := fun vs H Q _ => ∃ (r : Addr) (es : List Int), vs = [.ref r] ∧ H r = some (.lst (iV es)) ∧ es.length ≤ 1000 ∧ ∀ (l : Addr) (H' : Hp), Dp K H' (.ref l) (dueD2 es) → Same H H' → Q (.ref l) H'
def spMadeB (K : PySem.W.Frag) (CB : Addr) : Sp := fun vs H Q _ => ∃ (r : Addr) (es : List Int), vs = [.ref r] ∧ SqIn H r es ∧ es.length ≤ 1000 ∧
  ∀ (l t : Addr) (bv : V) (H' : Hp), H' l = some (.lst [.ref t, bv]) → Dp K H' (.ref t) (dueD2 es) → (bandDue es = .fine → ∃ b, bv = .ref b ∧ BandAt CB H' b es) → Same H H' → Q (.ref l) H'
/-- what is told when near is asked -/
def askD (es : List Int) (i k : Int) : PyData := if 0 ≤ i ∧ i < es.length then (if 0 ≤ k ∧ k < es.length then .list [.list [], .bool (nearE es i k)] else .list [.list [.int k, .bool true, .bool true, .bool false, .bool false, .bool false], .none])
  else .list [.list [.int i, .bool true, .bool true, .bool false, .bool false, .bool false], .none]
def spAskB (K : PySem.W.Frag) (CB : Addr) : Sp := fun vs H Q _ => ∃ (b : Addr) (es : List Int) (i k : Int), vs = [.ref b, .int i, .int k] ∧ BandAt CB H b es ∧ es.length ≤ 1000 ∧ ∀ (l : Addr) (H' : Hp), Dp K H' (.ref l) (askD es i k) → Same H H' → Q (.ref l) H'
def spNearK (CB : Addr) : Sp := fun vs H Q _ => ∃ (b r : Addr) (es : List Int) (i k : Int), vs = [.ref b, .ref r, .int i, .int k] ∧ BandAt CB H b es ∧ H r = some (.lst (iV es)) ∧ es.length ≤ 1000 ∧ ∀ H', Same H H' → Q (.bl true) H'
def spBothK (CB : Addr) : Sp := fun vs H Q _ => ∃ (p c bs ls b0 b1 e0 e1 : Addr) (ns : List Int) (x0 x1 : List Int), vs = [.ref p, .ref bs, .ref ls] ∧ Pool ns c H p ∧ bs ≠ p ∧ ls ≠ p ∧ e0 ≠ p ∧ e1 ≠ p ∧ H bs = some (.lst [.ref b0, .ref b1]) ∧ H ls = some (.lst [.ref e0, .ref e1]) ∧
  BandAt CB H b0 x0 ∧ BandAt CB H b1 x1 ∧ H e0 = some (.lst (iV x0)) ∧ H e1 = some (.lst (iV x1)) ∧ x0.length ≤ 100 ∧ x1.length ≤ 100 ∧ ∀ H', Pool ns c H' p → But p H H' → Q (.bl true) H'
def spShown (CB : Addr) : Sp := fun vs H Q _ => ∃ (b r : Addr) (es : List Int), vs = [.ref b, .ref r] ∧ BandAt CB H b es ∧ H r = some (.lst (iV es)) ∧ es.length ≤ 1000 ∧ ∀ H', Same H H' → Q (.bl true) H'
end Brk
namespace Brk
open PySem L2
theorem But.free {p e : Addr} {H H1 : Hp} (b : But p H H1) (n : H1 e = none) (ne : e ≠ p) : H e = none := by
  cases q : H e with
  | none => rfl
  | some o =>
    have z := b e o q ne
    rw [n] at z
    cases z
theorem iV_snoc {es : List Int} {z : Int} : iV (es ++ [z]) = iV es ++ [.int z] := by unfold iV; rw [List.map_append]; rfl
def EndsPre (n : Int) (es : List Int) : Prop := ∀ (i : Nat) (x : Int), es[i]? = some x → (i : Int) ≤ x ∧ x < n ∧ ∀ y, es[i + 1]? = some y → x ≤ y
theorem EndsPre.snoc {n z : Int} {es : List Int} {i : Nat} (h : EndsPre n es) (hl : es.length = i) (h1 : (i : Int) ≤ z) (h2 : z < n) (h3 : ∀ x, 0 < i → es[i - 1]? = some x → x ≤ z) : EndsPre n (es ++ [z]) := by
  intro j x hx
  by_cases hj : j < es.length
  · rw [List.getElem?_append_left hj] at hx
    obtain ⟨a, b, c⟩ := h j x hx
    refine ⟨a, b, fun y hy => ?_⟩
    by_cases hj2 : j + 1 < es.length
    · rw [List.getElem?_append_left hj2] at hy
      exact c y hy
    · have e : j + 1 = es.length := by omega
      rw [List.getElem?_append_right (by omega), e, Nat.sub_self] at hy
      have e2 : y = z := by simpa using hy.symm
      rw [e2]
      refine h3 x (by omega) ?_
      rw [show i - 1 = j by omega]
      exact hx
  · have hlt := (List.getElem?_eq_some_iff.mp hx).1
    rw [List.length_append, List.length_singleton] at hlt
    have e : j = es.length := by omega
    rw [List.getElem?_append_right (by omega), e, Nat.sub_self] at hx
    have e2 : x = z := by simpa using hx.symm
    subst e2
    refine ⟨by omega, h2, fun y hy => ?_⟩
    have hlt2 := (List.getElem?_eq_some_iff.mp hy).1
    rw [List.length_append, List.length_singleton] at hlt2
    omega
end Brk
namespace Brk
open PySem L2
section
variable {X : Cx} {K : PySem.W.Frag}
/-! rules that name K, for a comprehension's block -/
theorem call_lenC (hK : X.K = K) : CallR X (.builtin "len") (fun xs H Q => ∃ p ys, xs = [.ref p] ∧ (SqL K H p ys ∨ SqT K H p ys) ∧ Q (.int ys.length) H) := by
  subst hK
  exact call_len_seq
theorem ix_listC (hK : X.K = K) : IxR X (rIxL K) := by
  subst hK
  exact ix_list
theorem ix_tupC (hK : X.K = K) : IxR X (rIxT K) := by
  subst hK
  exact ix_tup
end
end Brk
namespace Brk
open PySem L2
def rgI (a b : Int) : List Int := (List.range (b - a).toNat).map fun i => a + (i : Nat)
theorem rgV_iV {a b : Int} : rgV a b = iV (rgI a b) := by
  unfold rgV rgI iV
  rw [List.map_map]
  rfl
theorem rgI_len {a b : Int} : (rgI a b).length = (b - a).toNat := by
  unfold rgI
  rw [List.length_map, List.length_range]
theorem iV_app {xs ys : List Int} : iV xs ++ iV ys = iV (xs ++ ys) := by
  unfold iV
  rw [List.map_append]
end Brk
namespace Brk
open PySem L2
theorem ne_refl {d : PyData} (h : d.plain = true) : V.bl (!PyData.eqv d d) = V.bl false := by rw [SeqAt.eqv_refl_plain d h]; rfl
theorem okDue {es : List Int} : okD 1 (dueD2 es) = true := by
  unfold dueD2
  split <;> rfl
theorem plL {es : List Int} : (PyData.list (es.map PyData.int)).plain = true := by
  simp only [PyData.plain]
  refine plainAll_of fun d hd => ?_
  obtain ⟨x, _, rfl⟩ := List.mem_map.mp hd
  rfl
theorem okLi {es : List Int} (h : es.length ≤ 1000000) : okD 8 (.list (es.map PyData.int)) = true := okD_mkL (by rw [List.length_map]; exact h) okInts
theorem cut60 {es : List Int} : cutV (iV es) none (some 60) = iV (es.take 60) := by
  have e : HT.sIx (iV es).length (iV es).length (some 60) = min 60 (iV es).length := HT.sIx_nat _ _ 60
  unfold cutV
  rw [e, HT.sIx_none, Nat.sub_zero, List.drop_zero]
  unfold iV
  rw [List.map_take, List.length_map]
  by_cases h : es.length ≤ 60
  · rw [List.take_of_length_le (by rw [List.length_map]; omega), List.take_of_length_le (by rw [List.length_map]; omega)]
  · rw [Nat.min_eq_left (by omega)]
def clip (x : Int) : Int := if 59 < x then 59 else x
theorem clip_ok {n : Int} {es : List Int} (h : EndsOk n es) (hn : n ≤ 61) : EndsOk (min n 60) ((es.take 60).map clip) := by
  obtain ⟨hl, h⟩ := h
  have ll : ((es.take 60).map clip).length = min 60 es.length := by rw [List.length_map, List.length_take]
  refine ⟨by rw [ll]; omega, ?_⟩
  intro i x hx
  have hi : i < ((es.take 60).map clip).length := (List.getElem?_eq_some_iff.mp hx).1
  rw [ll] at hi
  have get : ∀ j, j < 60 → ((es.take 60).map clip)[j]? = (es[j]?).map clip := fun j hj => by rw [List.getElem?_map, List.getElem?_take, if_pos hj]
  rw [get i (by omega)] at hx
  have hx0 : es[i]? = some (es[i]'(by omega)) := List.getElem?_eq_getElem (by omega)
  rw [hx0] at hx
  have hxe : clip (es[i]'(by omega)) = x := by simpa using hx
  obtain ⟨a1, a2, a3⟩ := h i _ hx0
  unfold clip at hxe
  refine ⟨?_, ?_, fun y hy => ?_⟩
  · split at hxe <;> omega
  · split at hxe <;> omega
  · have hj : i + 1 < ((es.take 60).map clip).length := (List.getElem?_eq_some_iff.mp hy).1
    rw [ll] at hj
    rw [get (i + 1) (by omega)] at hy
    have hy0 : es[i + 1]? = some (es[i + 1]'(by omega)) := List.getElem?_eq_getElem (by omega)
    rw [hy0] at hy
    have hye : clip (es[i + 1]'(by omega)) = y := by simpa using hy
    have q := a3 _ hy0
    unfold clip at hye
    split at hxe <;> split at hye <;> omega
theorem EndsOk.len {n : Int} {es : List Int} (h : EndsOk n es) : (es.length : Int) = n := h.1
end Brk
namespace Brk
open PySem L2
theorem take_snoc {α : Type} {l : List α} {i : Nat} {x : α} (h : l[i]? = some x) : l.take i ++ [x] = l.take (i + 1) := by
  rw [List.take_add_one, h]
  rfl
end Brk
namespace Brk
open PySem L2
theorem pg_tupC {X : Cx} {K : PySem.W.Frag} {pos : Pos} {es : List Expr} {k : Nat} {t : TGs} {n : Nat} (hK : X.K = K) (hc : X.calm = true) (h : PGs X es t)
    (hn : (assignEach es X.env).length = n := by rfl) (one : (assignEach es X.env).findIdx? (·.1) = none := by rfl) : PG X (.Tuple es k pos) (gTup K n t) := by
  subst hK
  exact pg_tup hc h hn one
end Brk

set_option Elab.async false
set_option linter.all false
set_option maxRecDepth 100000
set_option maxHeartbeats 4000000
/-! Own rules: enumerate over a tuple. -/
namespace PySem
open Sem (wp)
theorem enumOf_new {v : Value} {o : Obj} {Hv : Heap → Prop} (B : Begins v o Hv) :
    Meets (Builtin.«enumerate.__new__» ⟨[.type "enumerate", v], []⟩) (fun _ R s0 => Hv s0.heap ∧
      R (.ok (.ret (.ref (s0.heap.push o).objs.size))) { s0 with heap := (s0.heap.push o).push ({ cls := .type "enumerate", data := .fields #[.none, .bool false, .ref s0.heap.objs.size, rawInt 0, .none, .none] } : Obj) }) :=
  .of_wp fun P W A0 R s0 hh => by
    obtain ⟨g0, gen0, dr0, tk0, os0⟩ := s0
    obtain ⟨hv, hh⟩ := hh
    have sub0 := sub_enumerate
    have begin_ : ∀ {A' : Around} {E : Value → Shared → Prop} {Q : Value → Shared → Prop}, Q (.ref g0.objs.size) ⟨g0.push o, gen0, dr0, tk0, os0⟩ → wpAny (model P W) A' (pyIter v) Q E ⟨g0, gen0, dr0, tk0, os0⟩ :=
      fun z => B.iter P W _ _ ⟨g0, gen0, dr0, tk0, os0⟩ _ hv z
    wp_walk using begin_
    refine wpAny_stack_any fun stk => wpAny_pure ?_
    split
    · rename_i c0 _ _ _ _ _
      cases (c0 == Value.type "enumerate")
      · wp_walk using begin_
        exact ⟨_, rfl, hh⟩
      · wp_walk using begin_
        exact ⟨_, rfl, hh⟩
    · wp_walk using begin_
      exact ⟨_, rfl, hh⟩
theorem enumOf_call {P : Program} {W : World} {A : Around} {E : Value → Shared → Prop} {s0 : Shared} {v : Value} {o : Obj} {Hv : Heap → Prop} {Q : Value → Shared → Prop} (B : Begins v o Hv) (hv : Hv s0.heap)
    (then_ : ∀ g, IsEnum g (s0.heap.objs.size + 1) s0.heap.objs.size 0 .none → g.get? s0.heap.objs.size = some o → (∀ b u, s0.heap.get? b = some u → g.get? b = some u) → Q (.ref (s0.heap.objs.size + 1)) { s0 with heap := g }) :
    wpAny (model P W) A (call (.type "enumerate") [v]) Q E s0 := by
  refine callType_new F.called_enumerate (by decide) (F.typeCall_enumerate_1 _) (F.newCall_enumerate_1 _) (fun ob => F.args_object_init_2 ob _) F.entry_enumerate_new (enumOf_new B) ⟨hv, ?_⟩
  have size1 : (s0.heap.push o).objs.size = s0.heap.objs.size + 1 := Heap.size_push ..
  have at1 := Heap.get?_push_size (s0.heap.push o) (o := ({ cls := .type "enumerate", data := .fields #[.none, .bool false, .ref s0.heap.objs.size, rawInt 0, .none, .none] } : Obj)) rfl
  show _ ∧ _
  rw [size1] at at1 ⊢
  have en : IsEnum ((s0.heap.push o).push ({ cls := .type "enumerate", data := .fields #[.none, .bool false, .ref s0.heap.objs.size, rawInt 0, .none, .none] } : Obj)) (s0.heap.objs.size + 1) s0.heap.objs.size 0 .none := at1
  exact ⟨⟨_, en, rfl⟩, then_ _ en (Heap.get?_push_of_some _ (Heap.get?_push_size _ B.free)) fun b u z => Heap.get?_push_of_some _ (Heap.get?_push_of_some _ z)⟩
end PySem
namespace Brk
open PySem PySem.Spec PyProof.Rows L2
/-- the tuple at a, each item in a new pair with its place -/
def IteT (K : PySem.W.Frag) (a : Addr) : It :=
  ⟨fun i H => ∃ (xs : List V) (x : V), SqT K H a xs ∧ xs[i]? = some x, fun i H v H' => ∃ t x, v = .ref t ∧ H t = none ∧ H' = L2.upd H t (.tup [.int (i : Nat), x]) ∧ ∀ xs, SqT K H a xs → xs[i]? = some x, fun i H => ∃ xs : List V, SqT K H a xs ∧ xs.length ≤ i⟩
theorem Inv.tup_inj {X : Cx} {pins : List (Addr × Obj)} {σ : L2.St} {H : Hp} {s : Shared} {a : Addr} {xs ys : List V} (I : Inv X pins σ H s) (h : SqT X.K H a xs) (h' : SqT X.K H a ys) : xs = ys := by
  obtain ⟨us, r, ⟨o, e, _, n, d⟩, _⟩ := I.tuple h
  obtain ⟨ws, r', ⟨o', e', _, n', d'⟩, _⟩ := I.tuple h'
  rw [e] at e'
  cases e'
  rw [d] at d'
  injection d' with d1 _
  have eq : us = ws := by simpa using congrArg Array.toList d1
  subst eq
  exact r.inj r'
theorem turn_enumT {P : Program} {W : World} {K : PySem.W.Frag} {elts : List Expr} {kk : Nat} {tpos : Pos} (a e it : Addr) :
    Turn P W K (.Tuple elts kk tpos) (IteT K a) [e, it] e (fun i h => (∃ old, IsEnum h e it ((i : Nat) : Int) old) ∧ h.IsTupleIter it a i ∧ e ≠ it) where
  mem := List.mem_cons_self
  obj := fun i h st b hb => by
    obtain ⟨⟨old, he⟩, ⟨o, ho, hc, hd⟩, _⟩ := st
    rcases List.mem_cons.mp hb with z | z
    · rw [z]
      exact ⟨_, he, fun v q => nomatch q⟩
    · rw [List.mem_singleton.mp z]
      exact ⟨o, ho, fun v q => by rw [hd] at q; cases q⟩
  keep := fun i h h' st k => ⟨⟨st.1.choose, k e (by simp) _ st.1.choose_spec⟩, st.2.1.at fun o q => k it (by simp) o q, st.2.2⟩
  item := by
    intro X hP hw hK calm i pins s σ H E I hf st hg
    subst hP hw hK
    obtain ⟨⟨old, he⟩, hit, hne⟩ := st
    obtain ⟨xs, x, hq, hx⟩ := hg
    obtain ⟨its, rv, p, _⟩ := I.tuple hq
    obtain ⟨u, hu, ru⟩ := rv.get hx
    have size_e : e < s.heap.objs.size := Heap.lt_size he
    have size_it : it < s.heap.objs.size := by
      obtain ⟨_, q, _⟩ := hit
      exact Heap.lt_size q
    have a_it : a ≠ it := by
      intro z
      obtain ⟨o1, q1, c1, _⟩ := id p
      obtain ⟨o2, q2, c2, _⟩ := id hit
      rw [z, q2] at q1
      cases q1
      rw [c1] at c2
      exact absurd c2 (by decide)
    have e_a : e ≠ a := by
      intro z
      obtain ⟨o1, q1, c1, _⟩ := id p
      have q2 := he
      unfold IsEnum at q2
      rw [z, q1] at q2
      cases q2
      have c2 : (Value.type "enumerate") = Value.type "tuple" := c1
      exact absurd c2 (by decide)
    have hi : i < its.toArray.size := by
      have q := (List.getElem?_eq_some_iff.mp hu).1
      simpa using q
    have calm0 : X.A.in1.handled = none := I.ok.hd calm
    refine wpAny_pyNext_enum_itemC (Draws.tuple calm0 it a a_it its.toArray) he ⟨hit, p⟩ hi hne (by simp [hne, e_a]) ?_
    intro y g tk hy out st2 hT _ keep
    have ey : y = u := by
      have q : its.toArray[i]? = some y := hy
      rw [List.getElem?_toArray, hu] at q
      exact (Option.some.inj q).symm
    subst ey
    refine ⟨_, rfl, wpAny_letOwnedTupleGo_enum (s := { s with heap := g, toks := tk + 1 }) out fun g2 he2 same => ?_⟩
    have hT2 : g2.get? s.heap.objs.size = some { cls := .type "tuple", data := .seq #[.int i tk, y] } := (same.2 _ (Nat.ne_of_gt size_e)).trans hT
    have here : ObjOk X.prog X.w (L2.upd H s.heap.objs.size (.tup [.int (i : Nat), x])) g2 s.heap.objs.size (.tup [.int (i : Nat), x]) :=
      ⟨by show 2 ≤ sizeLine; decide, [.int i tk, y], .cons ⟨_, rfl⟩ (.cons ru .nil), ⟨_, hT2, rfl, _, rfl⟩⟩
    have J : Inv X pins σ (L2.upd H s.heap.objs.size (.tup [.int (i : Nat), x])) { s with heap := g2, toks := tk + 1 } :=
      I.turnedNew (ch := [e, it]) (fun b o hb q => (same.2 b (fun z => hb (by simp [z]))).trans (keep b o (fun z => hb (by simp [z])) (fun z => hb (by simp [z])) q)) hf (Nat.le_refl _) here
    refine ⟨.ref s.heap.objs.size, _, J, rfl, ⟨_, x, rfl, I.hok.fresh (Nat.le_refl _), rfl, fun ys hy => by rw [Inv.tup_inj I hy hq]; exact hx⟩, ⟨⟨y, ?_⟩, st2.1.at fun o q => (same.2 it (Ne.symm hne)).trans q, hne⟩, ?_⟩
    · have e1 : ((i + 1 : Nat) : Int) = (i : Int) + 1 := by omega
      rw [e1]
      exact he2
    · intro b hb
      have hlt : b < s.heap.objs.size := by
        rcases List.mem_cons.mp hb with z | z
        · rw [z]
          exact size_e
        · rw [List.mem_singleton.mp z]
          exact size_it
      rw [upd_ne (Nat.ne_of_lt hlt)]
      exact (hf b hb).1
  done := by
    intro X hP hw hK calm i pins s σ H E I hf st hg
    subst hP hw hK
    obtain ⟨⟨old, he⟩, hit, hne⟩ := st
    obtain ⟨xs, hq, hx⟩ := hg
    obtain ⟨its, rv, p, _⟩ := I.tuple hq
    obtain ⟨f0, f1, f2, f3, f4, f5⟩ := hf it (by simp)
    have a_it : a ≠ it := by
      intro z
      obtain ⟨o1, q1, c1, _⟩ := id p
      obtain ⟨o2, q2, c2, _⟩ := id hit
      rw [z, q2] at q1
      cases q1
      rw [c1] at c2
      exact absurd c2 (by decide)
    have calm0 : X.A.in1.handled = none := I.ok.hd calm
    have len := rv.length
    have none_ : its.toArray[i]? = none := by
      rw [List.getElem?_toArray]
      exact List.getElem?_eq_none (by omega)
    have D : Draws X.prog X.w X.A.in1 it [it, a] i (fun _ _ => False) (fun j h => j = i ∧ h.IsTupleIter it a i ∧ h.IsTuple a its.toArray) :=
      { live := fun _ _ st => ⟨_, st.2.1.choose_spec.1⟩,
        frame := fun _ _ _ st k => ⟨st.1, st.2.1.at fun o z => k it (by simp) o z, st.2.2.at fun o z => k a (by simp) o z⟩,
        item := fun j _ _ _ hj st _ => absurd st.1 (Nat.ne_of_lt hj),
        done := fun _ _ _ st hE => wpAny_nextOf_tuple_end calm0 st.2.1 st.2.2 none_ hE }
    exact wpAny_pyNext_enum_endD D he ⟨rfl, hit, p⟩ fun g hx => ⟨rfl, I.turned (t' := s.toks) (fun b o hb q => hx b o hb q) f0 f1 f3 f4 f5⟩
  self := fun A i s Q E st h => wpAny_pyIter_enum st.1.choose_spec h
def iEnumT (K : PySem.W.Frag) (ta : TA) : TI := fun σ H R => ta σ H fun vs H1 => ∃ (a : Addr) (xs : List V), vs = [.ref a] ∧ SqT K H1 a xs ∧ R (IteT K a) H1
theorem pi_enumT {X : Cx} {e : Expr} {ta : TA} {p pos tpos : Pos} {elts : List Expr} {kk : Nat} (hg : Gl X "enumerate") (hm : X.mg "enumerate" = none) (ha : PA X [e] ta) (one : starEach [e] X.env = [(false, eval e X.env)] := by rfl) :
    PI X (.Tuple elts kk tpos) (.Call (.Name "enumerate" p) [e] [] pos) (iEnumT X.K ta) := by
  constructor
  intro pins s σ H R I h
  refine Call_ (ld_blt I hg hm boot_enumerate (PyProof.Rows.callWith_type1 (thn (ha.run pos pins s σ H _ I h) ?_) one rfl))
  intro us s1 hh
  obtain ⟨vs, H1, I1, r1, a, xs, ex, hq, q⟩ := hh
  subst ex
  cases r1 with
  | cons r rr =>
    cases rr
    cases r
    obtain ⟨its, rv, p', _⟩ := I1.tuple hq
    refine enumOf_call (begins_tuple a its.toArray) p' fun g he at0 keep => wpAny_pyIter_enum he ?_
    have I2 : Inv X pins σ H1 { s1 with heap := g } := I1.kept (t' := s1.toks) keep
    refine ⟨s1.heap.objs.size + 1, [s1.heap.objs.size + 1, s1.heap.objs.size], _, _, H1, rfl, I2, turn_enumT a _ _, ⟨⟨.none, he⟩, ⟨_, at0, rfl, rfl⟩, Nat.succ_ne_self _⟩, ?_, q⟩
    intro b hb
    have hle : s1.heap.objs.size ≤ b := by
      rcases List.mem_cons.mp hb with z | z
      · rw [z]
        exact Nat.le_add_right _ _
      · rw [List.mem_singleton.mp z]
        exact Nat.le_refl _
    exact I1.fpOk hle (I1.hok.fresh hle)
theorem walk_enumT {K : PySem.W.Frag} {a : Addr} {xs : List V} : Walk (IteT K a) xs.length (fun H => SqT K H a xs) (YPair (fun i => some (.int (i : Nat))) (fun i => xs[i]?)) := by
  refine ⟨fun i H hi q => ⟨xs, xs[i], q, by simp [hi]⟩, fun H q => ⟨xs, q, Nat.le_refl _⟩, ?_⟩
  intro i H v H' _ q y
  obtain ⟨t, x, h1, h2, h3, h4⟩ := y
  exact ⟨t, .int (i : Nat), x, h1, h2, h3, rfl, h4 xs q⟩
end Brk

set_option Elab.async false
set_option linter.all false
set_option maxRecDepth 100000
set_option maxHeartbeats 4000000
/-! Own words: chains by first fit, and peeled one after the other. -/
namespace Brk
open PySem L2
/-! ### plain -/
def okC (es cs : List Int) (t : Int) : Bool := match cs.getLast? with | none => true | some l => decide (es.getD l.toNat 0 < t)
def ffIns (es : List Int) : List (List Int) → Int → List (List Int)
  | [], _ => []
  | cs :: r, t => if okC es cs t = true then (cs ++ [t]) :: r else cs :: ffIns es r t
def things (n : Nat) : List Int := (List.range n).map fun i => ((i : Nat) : Int)
def ff (es : List Int) (n : Nat) : List (List Int) := (things es.length).foldl (ffIns es) (List.replicate n [])
def peelOne (es : List Int) : List Int → List Int → List Int × List Int
  | ch, [] => (ch, [])
  | ch, t :: ts => if okC es ch t = true then peelOne es (ch ++ [t]) ts else ((peelOne es ch ts).1, t :: (peelOne es ch ts).2)
def peel (es : List Int) : Nat → List Int → List (List Int)
  | 0, _ => []
  | n + 1, left => (peelOne es [] left).1 :: peel es n (peelOne es [] left).2
theorem ff_cons (es : List Int) : ∀ (ts : List Int) (cs : List Int) (r : List (List Int)), ts.foldl (ffIns es) (cs :: r) = (peelOne es cs ts).1 :: (peelOne es cs ts).2.foldl (ffIns es) r
  | [], _, _ => rfl
  | t :: ts, cs, r => by
    rw [List.foldl_cons]
    unfold ffIns peelOne
    by_cases h : okC es cs t = true
    · rw [if_pos h, if_pos h]
      exact ff_cons es ts (cs ++ [t]) r
    · rw [if_neg h, if_neg h]
      rw [ff_cons es ts cs (ffIns es r t)]
      rfl
theorem ff_nil (es : List Int) : ∀ ts : List Int, ts.foldl (ffIns es) [] = []
  | [] => rfl
  | t :: ts => by rw [List.foldl_cons]; exact ff_nil es ts
theorem ff_peel (es : List Int) : ∀ (n : Nat) (ts : List Int), ts.foldl (ffIns es) (List.replicate n []) = peel es n ts
  | 0, ts => ff_nil es ts
  | n + 1, ts => by
    rw [List.replicate_succ, ff_cons, ff_peel es n]
    rfl
theorem peelOne_snoc (es : List Int) : ∀ (ts : List Int) (ch : List Int) (t : Int), peelOne es ch (ts ++ [t]) = if okC es (peelOne es ch ts).1 t = true then ((peelOne es ch ts).1 ++ [t], (peelOne es ch ts).2) else ((peelOne es ch ts).1, (peelOne es ch ts).2 ++ [t])
  | [], ch, t => by
    show peelOne es ch [t] = _
    unfold peelOne
    by_cases h : okC es ch t = true
    · rw [if_pos h, if_pos h]
      rfl
    · rw [if_neg h, if_neg h]
      rfl
  | u :: ts, ch, t => by
    show peelOne es ch (u :: (ts ++ [t])) = _
    unfold peelOne
    by_cases h : okC es ch u = true
    · rw [if_pos h, if_pos h]
      exact peelOne_snoc es ts _ t
    · rw [if_neg h, if_neg h, peelOne_snoc es ts ch t]
      by_cases h2 : okC es (peelOne es ch ts).1 t = true
      · rw [if_pos h2, if_pos h2]
      · rw [if_neg h2, if_neg h2]
        rfl
def leftAt (es : List Int) : Nat → List Int → List Int
  | 0, l => l
  | n + 1, l => leftAt es n (peelOne es [] l).2
theorem peel_snoc (es : List Int) : ∀ (n : Nat) (l : List Int), peel es (n + 1) l = peel es n l ++ [(peelOne es [] (leftAt es n l)).1]
  | 0, l => rfl
  | n + 1, l => by
    show (peelOne es [] l).1 :: peel es (n + 1) (peelOne es [] l).2 = _
    rw [peel_snoc es n]
    rfl
theorem leftAt_snoc (es : List Int) : ∀ (n : Nat) (l : List Int), leftAt es (n + 1) l = (peelOne es [] (leftAt es n l)).2
  | 0, l => rfl
  | n + 1, l => leftAt_snoc es n (peelOne es [] l).2
theorem peel_take (es : List Int) : ∀ (n m : Nat) (l : List Int), m ≤ n → (peel es n l).take m = peel es m l
  | _, 0, _, _ => rfl
  | 0, m + 1, _, h => absurd h (Nat.not_succ_le_zero _)
  | n + 1, m + 1, l, h => by
    show (peelOne es [] l).1 :: (peel es n (peelOne es [] l).2).take m = _
    rw [peel_take es n m _ (Nat.le_of_succ_le_succ h)]
    rfl
theorem peel_len (es : List Int) : ∀ (n : Nat) (l : List Int), (peel es n l).length = n
  | 0, _ => rfl
  | n + 1, l => congrArg Nat.succ (peel_len es n _)
/-- what is peeled are the things themselves -/
theorem peelOne_mem (es : List Int) (P : Int → Prop) : ∀ (ts ch : List Int), (∀ x ∈ ch, P x) → (∀ x ∈ ts, P x) → (∀ x ∈ (peelOne es ch ts).1, P x) ∧ ∀ x ∈ (peelOne es ch ts).2, P x
  | [], ch, h1, _ => ⟨h1, fun x hx => by cases hx⟩
  | t :: ts, ch, h1, h2 => by
    have ht := h2 t List.mem_cons_self
    have hts : ∀ x ∈ ts, P x := fun x hx => h2 x (List.mem_cons_of_mem _ hx)
    unfold peelOne
    split
    · refine peelOne_mem es P ts (ch ++ [t]) (fun x hx => ?_) hts
      rcases List.mem_append.mp hx with hx | hx
      · exact h1 x hx
      · rw [List.mem_singleton.mp hx]
        exact ht
    · obtain ⟨a, b⟩ := peelOne_mem es P ts ch h1 hts
      refine ⟨a, fun x hx => ?_⟩
      rcases List.mem_cons.mp hx with rfl | hx
      · exact ht
      · exact b x hx
theorem peelOne_len (es : List Int) : ∀ (ts ch : List Int), (peelOne es ch ts).1.length ≤ ch.length + ts.length ∧ (peelOne es ch ts).2.length ≤ ts.length
  | [], ch => ⟨Nat.le_refl _, Nat.le_refl _⟩
  | t :: ts, ch => by
    unfold peelOne
    split
    · have := peelOne_len es ts (ch ++ [t])
      rw [List.length_append, List.length_singleton] at this
      rw [List.length_cons]
      omega
    · have := peelOne_len es ts ch
      simp only [List.length_cons]
      omega
theorem leftAt_mem (es : List Int) (P : Int → Prop) : ∀ (n : Nat) (l : List Int), (∀ x ∈ l, P x) → ∀ x ∈ leftAt es n l, P x
  | 0, _, h => h
  | n + 1, l, h => leftAt_mem es P n _ (peelOne_mem es P l [] (fun x hx => by cases hx) h).2
theorem leftAt_len (es : List Int) : ∀ (n : Nat) (l : List Int), (leftAt es n l).length ≤ l.length
  | 0, _ => Nat.le_refl _
  | n + 1, l => Nat.le_trans (leftAt_len es n _) (peelOne_len es l []).2
theorem peel_lens (es : List Int) : ∀ (n : Nat) (l : List Int), ∀ cs ∈ peel es n l, cs.length ≤ l.length
  | 0, _, cs, h => by cases h
  | n + 1, l, cs, h => by
    have q := peelOne_len es l []
    rcases List.mem_cons.mp h with rfl | h
    · have := q.1
      simpa using this
    · exact Nat.le_trans (peel_lens es n _ cs h) q.2
theorem things_mem {n : Nat} : ∀ x ∈ things n, 0 ≤ x ∧ x < n := fun x hx => by
  unfold things at hx
  obtain ⟨i, hi, rfl⟩ := List.mem_map.mp hx
  have := List.mem_range.mp hi
  omega
theorem things_len {n : Nat} : (things n).length = n := by
  unfold things
  rw [List.length_map, List.length_range]
theorem things_rg {n : Nat} : rgI 0 (n : Int) = things n := by
  unfold rgI things
  rw [Int.sub_zero, Int.toNat_natCast]
  congr 1
  funext i
  exact Int.zero_add _
theorem ffIns_at (es : List Int) {t : Int} : ∀ {css : List (List Int)} {j : Nat} {cs : List Int}, css[j]? = some cs → okC es cs t = true → (∀ (i : Nat) (c : List Int), i < j → css[i]? = some c → okC es c t = false) → ffIns es css t = css.set j (cs ++ [t])
  | [], j, cs, h, _, _ => by simp at h
  | c :: r, 0, cs, h, ok, _ => by
    have e : c = cs := by simpa using h
    subst e
    unfold ffIns
    rw [if_pos ok]
    rfl
  | c :: r, j + 1, cs, h, ok, no => by
    have n0 := no 0 c (Nat.succ_pos _) rfl
    unfold ffIns
    rw [n0, if_neg Bool.false_ne_true, ffIns_at es (by simpa using h) ok fun i d hi hd => no (i + 1) d (Nat.succ_lt_succ hi) (by simpa using hd)]
    rfl
theorem ffIns_no (es : List Int) {t : Int} : ∀ {css : List (List Int)}, (∀ (i : Nat) (c : List Int), css[i]? = some c → okC es c t = false) → ffIns es css t = css
  | [], _ => rfl
  | c :: r, no => by
    have n0 := no 0 c rfl
    unfold ffIns
    rw [n0, if_neg Bool.false_ne_true, ffIns_no es fun i d hd => no (i + 1) d (by simpa using hd)]
theorem ffIns_len (es : List Int) : ∀ (css : List (List Int)) (t : Int), (ffIns es css t).length = css.length
  | [], _ => rfl
  | cs :: r, t => by
    unfold ffIns
    split
    · rfl
    · rw [List.length_cons, ffIns_len es r t]; rfl
/-- all things of the chains are below n, and no chain has more than n -/
def Below (n : Int) (css : List (List Int)) : Prop := ∀ cs ∈ css, (cs.length : Int) ≤ n ∧ ∀ x ∈ cs, 0 ≤ x ∧ x < n
theorem ffIns_below (es : List Int) {t : Int} (ht : 0 ≤ t) : ∀ {css : List (List Int)}, Below t css → Below (t + 1) (ffIns es css t)
  | [], _ => fun cs h => by cases h
  | cs :: r, hb => by
    have up : Below (t + 1) (cs :: r) := fun c hc => ⟨by have := (hb c hc).1; omega, fun x hx => by have := (hb c hc).2 x hx; omega⟩
    unfold ffIns
    split
    · intro c hc
      rcases List.mem_cons.mp hc with rfl | hc
      · refine ⟨by have := (hb cs List.mem_cons_self).1; rw [List.length_append, List.length_singleton]; omega, fun x hx => ?_⟩
        rcases List.mem_append.mp hx with hx | hx
        · exact (up cs List.mem_cons_self).2 x hx
        · rw [List.mem_singleton.mp hx]
          omega
      · exact up c (List.mem_cons_of_mem _ hc)
    · intro c hc
      rcases List.mem_cons.mp hc with rfl | hc
      · exact up c List.mem_cons_self
      · exact ffIns_below es ht (css := r) (fun c hc => hb c (List.mem_cons_of_mem _ hc)) c hc
theorem things_succ {n : Nat} : things (n + 1) = things n ++ [(n : Int)] := by
  unfold things
  rw [List.range_succ, List.map_append]
  rfl
/-! ### lists of lists at addresses -/
def RowsC (H : Hp) : List Addr → List (List Int) → Prop
  | [], [] => True
  | a :: as, cs :: r => H a = some (.lst (iV cs)) ∧ RowsC H as r
  | _, _ => False
theorem RowsC.mono {H H' : Hp} : ∀ {as : List Addr} {css : List (List Int)}, RowsC H as css → (∀ a ∈ as, H' a = H a) → RowsC H' as css
  | [], [], _, _ => trivial
  | a :: as, _ :: _, h, s => ⟨(s a List.mem_cons_self).trans h.1, RowsC.mono h.2 fun b hb => s b (List.mem_cons_of_mem _ hb)⟩
  | [], _ :: _, h, _ => h.elim
  | _ :: _, [], h, _ => h.elim
theorem RowsC.same {H H' : Hp} (s : Same H H') : ∀ {as : List Addr} {css : List (List Int)}, RowsC H as css → RowsC H' as css
  | [], [], _ => trivial
  | _ :: _, _ :: _, h => ⟨s _ _ h.1, RowsC.same s h.2⟩
  | [], _ :: _, h => h.elim
  | _ :: _, [], h => h.elim
theorem RowsC.len {H : Hp} : ∀ {as : List Addr} {css : List (List Int)}, RowsC H as css → as.length = css.length
  | [], [], _ => rfl
  | _ :: _, _ :: _, h => congrArg Nat.succ (RowsC.len h.2)
  | [], _ :: _, h => h.elim
  | _ :: _, [], h => h.elim
theorem RowsC.at_ {H : Hp} : ∀ {as : List Addr} {css : List (List Int)} {i : Nat}, RowsC H as css → i < as.length → ∃ a cs, as[i]? = some a ∧ css[i]? = some cs ∧ H a = some (.lst (iV cs))
  | [], _, i, _, hi => absurd hi (Nat.not_lt_zero _)
  | a :: as, cs :: r, 0, h, _ => ⟨a, cs, rfl, rfl, h.1⟩
  | a :: as, cs :: r, i + 1, h, hi => by
    obtain ⟨b, c, e1, e2, e3⟩ := RowsC.at_ (i := i) h.2 (Nat.lt_of_succ_lt_succ hi)
    exact ⟨b, c, by simpa using e1, by simpa using e2, e3⟩
  | _ :: _, [], _, h, _ => h.elim
theorem RowsC.snoc {H : Hp} {b : Addr} {c : List Int} : ∀ {as : List Addr} {css : List (List Int)}, RowsC H as css → H b = some (.lst (iV c)) → RowsC H (as ++ [b]) (css ++ [c])
  | [], [], _, e => ⟨e, trivial⟩
  | _ :: _, _ :: _, h, e => ⟨h.1, RowsC.snoc h.2 e⟩
  | [], _ :: _, h, _ => h.elim
  | _ :: _, [], h, _ => h.elim
/-- the j-th list becomes another -/
theorem RowsC.set {H H' : Hp} {c : List Int} : ∀ {as : List Addr} {css : List (List Int)} {j : Nat} {a : Addr}, RowsC H as css → as.Nodup → as[j]? = some a → H' a = some (.lst (iV c)) → Off a H H' → RowsC H' as (css.set j c)
  | [], _, j, a, _, _, e, _, _ => by simp at e
  | b :: as, cs :: r, 0, a, h, nd, e, e2, o => by
    have eb : b = a := by simpa using e
    subst eb
    refine ⟨e2, RowsC.mono h.2 fun x hx => o x ?_⟩
    rintro rfl
    exact (List.nodup_cons.mp nd).1 hx
  | b :: as, cs :: r, j + 1, a, h, nd, e, e2, o => by
    have e' : as[j]? = some a := by simpa using e
    have nb : b ≠ a := by
      rintro rfl
      exact (List.nodup_cons.mp nd).1 (List.mem_of_getElem? e')
    exact ⟨(o b nb).trans h.1, RowsC.set h.2 (List.nodup_cons.mp nd).2 e' e2 o⟩
  | _ :: _, [], _, _, h, _, _, _, _ => h.elim
theorem RowsC.take {H : Hp} : ∀ {as : List Addr} {css : List (List Int)} (n : Nat), RowsC H as css → RowsC H (as.take n) (css.take n)
  | [], [], n, _ => by simp; trivial
  | _ :: _, _ :: _, 0, _ => trivial
  | _ :: _, _ :: _, n + 1, h => ⟨h.1, RowsC.take n h.2⟩
  | [], _ :: _, _, h => h.elim
  | _ :: _, [], _, h => h.elim
def dC (css : List (List Int)) : PyData := .list (css.map fun cs => .list (cs.map PyData.int))
theorem RowsC.dp {K : PySem.W.Frag} {H : Hp} : ∀ {as : List Addr} {css : List (List Int)}, RowsC H as css → DpAll K H (as.map V.ref) (css.map fun cs => .list (cs.map PyData.int))
  | [], [], _ => .nil
  | _ :: _, _ :: _, h => .cons (.lst (SqL.of h.1) dpInts) (RowsC.dp h.2)
  | [], _ :: _, h => h.elim
  | _ :: _, [], h => h.elim
theorem refs_at {as : List Addr} {i : Nat} {x : V} (h : (as.map V.ref)[i]? = some x) : ∃ a, as[i]? = some a ∧ x = .ref a := by
  rw [List.getElem?_map] at h
  cases e : as[i]? with
  | none => rw [e] at h; cases h
  | some z => rw [e] at h; exact ⟨z, rfl, (Option.some.inj h).symm⟩
theorem refs_ix {as : List Addr} {i : Nat} {a : Addr} (h : as[i]? = some a) : atI (as.map V.ref) ((i : Nat) : Int) = some (.ref a) := atI_nat (by rw [List.getElem?_map, h]; rfl)
/-- a list of lists at l, all new since H0 -/
structure ChAt (H0 H : Hp) (l : Addr) (as : List Addr) (css : List (List Int)) : Prop where
  at_ : H l = some (.lst (as.map V.ref))
  rows : RowsC H as css
  nd : (l :: as).Nodup
  new : ∀ a ∈ l :: as, H0 a = none
theorem ChAt.same {H0 H H' : Hp} {l : Addr} {as : List Addr} {css : List (List Int)} (h : ChAt H0 H l as css) (s : Same H H') : ChAt H0 H' l as css := ⟨s _ _ h.at_, h.rows.same s, h.nd, h.new⟩
theorem ChAt.dp {K : PySem.W.Frag} {H0 H : Hp} {l : Addr} {as : List Addr} {css : List (List Int)} (h : ChAt H0 H l as css) : Dp K H (.ref l) (dC css) := .lst (SqL.of h.at_) h.rows.dp
theorem snoc_or {α : Type} (l : List α) : l = [] ∨ ∃ i x, l = i ++ [x] := by
  rcases List.eq_nil_or_concat l with h | ⟨i, x, h⟩
  · exact .inl h
  · exact .inr ⟨i, x, by rw [h, List.concat_eq_append]⟩
theorem okC_snoc {es i : List Int} {l t : Int} : okC es (i ++ [l]) t = decide (es.getD l.toNat 0 < t) := by
  unfold okC
  rw [List.getLast?_append]
  rfl
theorem near_okC {es i : List Int} {l t : Int} (h : l < t) : nearE es l t = !okC es (i ++ [l]) t := by
  rw [okC_snoc]
  unfold nearE mxI mnI
  rw [if_pos h, if_neg (by omega)]
  by_cases q : es.getD l.toNat 0 < t
  · rw [decide_eq_true q, decide_eq_false (by omega)]
    rfl
  · rw [decide_eq_false q, decide_eq_true (by omega)]
    rfl
def szC (css : List (List Int)) : Int := (css.map fun cs => ((cs.length : Nat) : Int)).sum
def inR (n : Int) : Prop := 0 ≤ n ∧ n ≤ 60
def tD (n : Int) : PyData := .list [.int n, .bool true, .bool true, .bool false, .bool false, .bool false]
def spFirst (CB : Addr) : Sp := fun vs H Q _ => ∃ (b fd : Addr) (es : List Int) (as : List Addr) (css : List (List Int)) (t : Int), vs = [.ref b, .ref fd, .int t] ∧ BandAt CB H b es ∧ H fd = some (.lst (as.map V.ref)) ∧ RowsC H as css ∧ Below t css ∧ 0 ≤ t ∧ t < es.length ∧ es.length ≤ 1000 ∧
  (∀ (j : Nat) (cs : List Int), css[j]? = some cs → okC es cs t = true → (∀ (i : Nat) (c : List Int), i < j → css[i]? = some c → okC es c t = false) → ∀ H', Same H H' → Q (.int (j : Nat)) H') ∧ ((∀ (i : Nat) (c : List Int), css[i]? = some c → okC es c t = false) → ∀ H', Same H H' → Q .non H')
def spChains (CB CN : Addr) : Sp := fun vs H Q E => ∃ (b : Addr) (es : List Int) (n : Int), vs = [.ref b, .int n] ∧ BandAt CB H b es ∧ es.length ≤ 1000 ∧ (inR n → ∀ (fd : Addr) (as : List Addr) (H' : Hp), ChAt H H' fd as (ff es n.toNat) → Same H H' → Q (.ref fd) H') ∧ (¬ inR n → xNum CN n H E)
def spMost (CB CN : Addr) : Sp := fun vs H Q E => ∃ (b : Addr) (es : List Int) (n : Int), vs = [.ref b, .int n] ∧ BandAt CB H b es ∧ es.length ≤ 1000 ∧ (inR n → ∀ H', Same H H' → Q (.int (szC (ff es n.toNat))) H') ∧ (¬ inR n → xNum CN n H E)
def spPeeled : Sp := fun vs H Q _ => ∃ (r : Addr) (es : List Int) (n : Int), vs = [.ref r, .int n] ∧ H r = some (.lst (iV es)) ∧ es.length ≤ 1000 ∧ 0 ≤ n ∧ n ≤ 1000 ∧ (∀ x ∈ es, 0 ≤ x ∧ x < es.length) ∧ ∀ (l : Addr) (as : List Addr) (H' : Hp), ChAt H H' l as (peel es n.toNat (things es.length)) → Same H H' → Q (.ref l) H'
def spChained (K : PySem.W.Frag) (CB : Addr) : Sp := fun vs H Q _ => ∃ (b : Addr) (es : List Int) (n : Int), vs = [.ref b, .int n] ∧ BandAt CB H b es ∧ es.length ≤ 1000 ∧ ∀ (l t : Addr) (gv : V) (td : PyData) (H' : Hp), H' l = some (.lst [.ref t, gv]) → Dp K H' (.ref t) td →
  (inR n → td = .list [] ∧ ∃ fd as, gv = .ref fd ∧ ChAt H H' fd as (ff es n.toNat)) → (¬ inR n → td = tD n ∧ gv = .non) → Same H H' → Q (.ref l) H'
def spCounted (K : PySem.W.Frag) (CB : Addr) : Sp := fun vs H Q _ => ∃ (b : Addr) (es : List Int) (n : Int), vs = [.ref b, .int n] ∧ BandAt CB H b es ∧ es.length ≤ 1000 ∧ ∀ (l : Addr) (cd : PyData) (H' : Hp), Dp K H' (.ref l) cd →
  (inR n → cd = .list [.list [], .int (szC (ff es n.toNat))]) → (¬ inR n → cd = .list [tD n, .none]) → Same H H' → Q (.ref l) H'
def spBothA (CB : Addr) : Sp := fun vs H Q _ => ∃ (b dl : Addr) (es : List Int) (n : Int) (as : List Addr), vs = [.ref b, .int n, .ref dl] ∧ BandAt CB H b es ∧ es.length ≤ 1000 ∧ inR n ∧ H dl = some (.lst (as.map V.ref)) ∧ RowsC H as (ff es n.toNat) ∧ ∀ H', Same H H' → Q (.bl true) H'
def spKeptC (CB : Addr) : Sp := fun vs H Q _ => ∃ (b r : Addr) (es : List Int) (n fw : Int), vs = [.ref b, .ref r, .int n, .int fw] ∧ BandAt CB H b es ∧ H r = some (.lst (iV es)) ∧ es.length ≤ 1000 ∧ (∀ x ∈ es, 0 ≤ x ∧ x < es.length) ∧ ∀ H', Same H H' → Q (.bl true) H'
theorem okDC {css : List (List Int)} {n : Nat} (h : css.length ≤ 1000000) (k : ∀ cs ∈ css, cs.length ≤ 1000000) : okD (n + 2) (dC css) = true := by
  unfold dC
  refine okD_mkL (by rw [List.length_map]; exact h) fun d hd => ?_
  obtain ⟨cs, hcs, rfl⟩ := List.mem_map.mp hd
  exact okD_mkL (by rw [List.length_map]; exact k cs hcs) okInts
theorem ff_lens {es : List Int} {n : Nat} : (ff es n).length = n ∧ ∀ cs ∈ ff es n, cs.length ≤ es.length := by
  unfold ff
  rw [ff_peel]
  refine ⟨peel_len es n _, fun cs h => ?_⟩
  have := peel_lens es n _ cs h
  rw [things_len] at this
  exact this
theorem cutRefs {as : List Addr} {m : Nat} (h : m ≤ as.length) : cutV (as.map V.ref) none (some (m : Int)) = (as.take m).map V.ref := by
  unfold cutV
  rw [HT.sIx_nat, HT.sIx_none, Nat.sub_zero, List.drop_zero, List.length_map, Nat.min_eq_left h, List.map_take]
end Brk
namespace Brk
open PySem L2
theorem cutRefsI {as : List Addr} {m : Int} (h0 : 0 ≤ m) (h : m ≤ as.length) : cutV (as.map V.ref) none (some m) = (as.take m.toNat).map V.ref := by
  have e : m = ((m.toNat : Nat) : Int) := by omega
  rw [e, cutRefs (by omega), Int.toNat_natCast]
end Brk
namespace Brk
open PySem L2
/-- some number, drawn -/
def spNumB : Sp := fun vs H Q _ => ∃ (p c : Addr) (ns : List Int), vs = [.ref p] ∧ Pool ns c H p ∧ ∀ (r : Int) (H' : Hp), Pool ns c H' p → But p H H' → Q (.int r) H'
end Brk

set_option Elab.async false
set_option linter.all false
set_option maxRecDepth 100000
set_option maxHeartbeats 4000000
/-! Own words: the fewest chains; groups. -/
namespace Brk
open PySem L2
theorem maxOf_int : ∀ (ys : List Int) (y : Int), PySem.W.maxOf y ys ∈ y :: ys ∧ ∀ x ∈ y :: ys, x ≤ PySem.W.maxOf y ys
  | [], y => ⟨List.mem_cons_self, fun x hx => by rw [List.mem_singleton.mp hx]; exact Int.le_refl _⟩
  | z :: ys, y => by
    have e : PySem.W.maxOf y (z :: ys) = PySem.W.maxOf (if y < z then z else y) ys := by
      unfold PySem.W.maxOf
      rw [List.foldl_cons]
      congr 1
      by_cases h : y < z
      · rw [if_pos h, if_pos (by simpa [PySem.W.DatumOrd.lt] using h)]
      · rw [if_neg h, if_neg (by simpa [PySem.W.DatumOrd.lt] using h)]
    rw [e]
    obtain ⟨a, b⟩ := maxOf_int ys (if y < z then z else y)
    have c := b _ List.mem_cons_self
    have c2 : y ≤ PySem.W.maxOf (if y < z then z else y) ys ∧ z ≤ PySem.W.maxOf (if y < z then z else y) ys := by
      revert c
      generalize PySem.W.maxOf (if y < z then z else y) ys = m
      intro c
      constructor <;> (split at c <;> omega)
    refine ⟨?_, fun x hx => ?_⟩
    · rcases List.mem_cons.mp a with h | h
      · rw [h]
        split
        · exact List.mem_cons_of_mem _ List.mem_cons_self
        · exact List.mem_cons_self
      · exact List.mem_cons_of_mem _ (List.mem_cons_of_mem _ h)
    · rcases List.mem_cons.mp hx with rfl | hx
      · exact c2.1
      · rcases List.mem_cons.mp hx with rfl | hx
        · exact c2.2
        · exact b x (List.mem_cons_of_mem _ hx)
/-- max(xs, default=d) of whole numbers -/
theorem cr_maxD {X : Cx} (hc : X.calm = true) (hu : X.A.units + 64 < cLine) : CallRK X (.builtin "max") [Str.ofString "default"] (fun xs zs H Q => ∃ (a : Addr) (ns : List Int) (d : Int), xs = [.ref a] ∧ zs = [.int d] ∧ SqL X.K H a (iV ns) ∧ (ns = [] → Q (.int d) H) ∧ ∀ m, m ∈ ns → (∀ x ∈ ns, x ≤ m) → Q (.int m) H) := by
  intro pins s σ H xs zs us ws Q I r rz h
  obtain ⟨a, ns, d, rfl, rfl, hs, q0, q1⟩ := h
  obtain ⟨its, rv, hl, _⟩ := I.list hs
  obtain rfl := Vals.ref1 r
  obtain ⟨w1, rfl, e1⟩ := vals1 rz
  obtain ⟨t, rfl⟩ : ∃ t, w1 = Value.int d t := e1
  have hold : PySem.W.HoldAll s.heap its.toArray.toList ns := by
    simpa using PySem.W.HoldAll.of_ints rv.ints
  refine PySem.W.max_list_datum_default (I.ok.hd hc) hl.isList hold (by show X.A.units + 1 + 0 < cLine; omega) (fun e h' tk k => ⟨.int d, H, I.kept k, ⟨_, rfl⟩, q0 e⟩) fun y ys i v h' tk e hi hv k => ?_
  subst e
  obtain ⟨as, rd⟩ := hv
  obtain ⟨m1, m2⟩ := maxOf_int ys y
  change Reads _ _ (PyData.int (PySem.W.maxOf y ys)) _ at rd
  generalize PySem.W.maxOf y ys = m at *
  cases rd with
  | int _ t2 => exact ⟨.int m, H, I.kept k, ⟨_, rfl⟩, q1 m m1 m2⟩
/-! ### counting -/
theorem sub_len {α : Type} [DecidableEq α] : ∀ {l1 l2 : List α}, l1.Nodup → (∀ x ∈ l1, x ∈ l2) → l1.length ≤ l2.length
  | [], _, _, _ => Nat.zero_le _
  | a :: l1, l2, nd, sub => by
    obtain ⟨na, nd⟩ := List.nodup_cons.mp nd
    have ha := sub a List.mem_cons_self
    have q := sub_len (l2 := l2.erase a) nd fun x hx => (List.mem_erase_of_ne (by rintro rfl; exact na hx)).mpr (sub x (List.mem_cons_of_mem _ hx))
    rw [List.length_erase_of_mem ha] at q
    have := List.length_pos_of_mem ha
    rw [List.length_cons]
    omega
theorem mem_things {n : Nat} {x : Int} : x ∈ things n ↔ 0 ≤ x ∧ x < n := by
  refine ⟨things_mem x, fun ⟨h0, h1⟩ => ?_⟩
  unfold things
  exact List.mem_map.mpr ⟨x.toNat, List.mem_range.mpr (by omega), by omega⟩
theorem things_nodup {n : Nat} : (things n).Nodup := by
  unfold things
  rw [List.nodup_iff_pairwise_ne, List.pairwise_map]
  have := List.nodup_range (n := n)
  rw [List.nodup_iff_pairwise_ne] at this
  exact this.imp fun h e => h (by omega)
/-- the ints from a to b -/
theorem rgI_mem {a b x : Int} : x ∈ rgI a b ↔ a ≤ x ∧ x < b := by
  unfold rgI
  constructor
  · intro h
    obtain ⟨i, hi, rfl⟩ := List.mem_map.mp h
    have := List.mem_range.mp hi
    omega
  · rintro ⟨h0, h1⟩
    exact List.mem_map.mpr ⟨(x - a).toNat, List.mem_range.mpr (by omega), by omega⟩
theorem rgI_nodup {a b : Int} : (rgI a b).Nodup := by
  unfold rgI
  rw [List.nodup_iff_pairwise_ne, List.pairwise_map]
  have := List.nodup_range (n := (b - a).toNat)
  rw [List.nodup_iff_pairwise_ne] at this
  exact this.imp fun h e => h (by omega)
/-- nothing is left out of so many different things -/
theorem full_mem {n : Nat} {l : List Int} (nd : l.Nodup) (h : ∀ x ∈ l, 0 ≤ x ∧ x < (n : Int)) (hl : n ≤ l.length) {x : Int} (hx : 0 ≤ x ∧ x < (n : Int)) : x ∈ l := by
  by_cases hm : x ∈ l
  · exact hm
  · have q := sub_len (l2 := (things n).erase x) nd fun y hy => (List.mem_erase_of_ne (by rintro rfl; exact hm hy)).mpr (mem_things.mpr (h y hy))
    rw [List.length_erase_of_mem (mem_things.mpr hx), things_len] at q
    omega
/-! ### first fit -/
theorem set_flatten {α : Type} : ∀ {css : List (List α)} {j : Nat} {cs : List α} {t : α}, css[j]? = some cs → (css.set j (cs ++ [t])).flatten.Perm (css.flatten ++ [t])
  | [], j, cs, t, h => by simp at h
  | c :: r, 0, cs, t, h => by
    have e : c = cs := by simpa using h
    subst e
    show ((c ++ [t]) ++ r.flatten).Perm ((c ++ r.flatten) ++ [t])
    rw [List.append_assoc, List.append_assoc]
    exact (List.Perm.refl c).append List.perm_append_comm
  | c :: r, j + 1, cs, t, h => by
    show (c ++ (r.set j (cs ++ [t])).flatten).Perm ((c ++ r.flatten) ++ [t])
    rw [List.append_assoc]
    exact (List.Perm.refl c).append (set_flatten (by simpa using h))
/-- either all chains refuse the thing or one takes it -/
theorem ffIns_or (es : List Int) (t : Int) : ∀ css : List (List Int), ((∀ cs ∈ css, okC es cs t = false) ∧ ffIns es css t = css) ∨ ∃ (j : Nat) (cs : List Int), css[j]? = some cs ∧ okC es cs t = true ∧ ffIns es css t = css.set j (cs ++ [t])
  | [] => .inl ⟨(fun cs h => by cases h), rfl⟩
  | c :: r => by
    unfold ffIns
    by_cases h : okC es c t = true
    · rw [if_pos h]
      exact .inr ⟨0, c, rfl, h, rfl⟩
    · rw [if_neg h]
      rcases ffIns_or es t r with ⟨no, e⟩ | ⟨j, cs, e1, e2, e3⟩
      · refine .inl ⟨fun cs hc => ?_, by rw [e]⟩
        rcases List.mem_cons.mp hc with rfl | hc
        · exact Bool.eq_false_iff.mpr h
        · exact no cs hc
      · exact .inr ⟨j + 1, cs, by simpa using e1, e2, by rw [e3]; rfl⟩
/-- a chain: ascending things, none near to the one before it -/
def Chain (es : List Int) (cs : List Int) : Prop := cs.Pairwise fun x y => x < y ∧ es.getD x.toNat 0 < y
structure FF (es : List Int) (t : Nat) (css : List (List Int)) : Prop where
  nd : css.flatten.Nodup
  mem : ∀ x ∈ css.flatten, 0 ≤ x ∧ x < (t : Int)
  ch : ∀ cs ∈ css, Chain es cs
theorem okC_last {es cs : List Int} {t : Int} (h : okC es cs t = false) : ∃ i l, cs = i ++ [l] ∧ t ≤ es.getD l.toNat 0 := by
  rcases snoc_or cs with rfl | ⟨i, l, rfl⟩
  · cases h
  · rw [okC_snoc] at h
    exact ⟨i, l, rfl, by have := of_decide_eq_false h; omega⟩
theorem es_mono {n : Int} {es : List Int} (h : EndsOk n es) {i j : Nat} (hij : i ≤ j) (hj : j < es.length) : es.getD i 0 ≤ es.getD j 0 := by
  induction j with
  | zero =>
    have : i = 0 := by omega
    subst this
    exact Int.le_refl _
  | succ j ih =>
    by_cases z : i = j + 1
    · rw [z]
      exact Int.le_refl _
    · have q := ih (by omega) (by omega)
      have e1 : es[j]? = some (es[j]'(by omega)) := List.getElem?_eq_getElem (by omega)
      have e2 : es[j + 1]? = some (es[j + 1]'(by omega)) := List.getElem?_eq_getElem (by omega)
      have := (h.2 j _ e1).2.2 _ e2
      rw [getD_at e1] at q
      rw [getD_at e2]
      omega
theorem FF.step {n : Int} {es : List Int} {t : Nat} {css : List (List Int)} (hes : EndsOk n es) (f : FF es t css) (ht : t < es.length) : FF es (t + 1) (ffIns es css (t : Int)) := by
  rcases ffIns_or es (t : Int) css with ⟨no, e⟩ | ⟨j, cs, e1, e2, e3⟩
  · rw [e]
    exact ⟨f.nd, fun x hx => by have := f.mem x hx; omega, f.ch⟩
  · rw [e3]
    have p := set_flatten (t := (t : Int)) e1
    have hcs := List.mem_of_getElem? e1
    refine ⟨p.symm.nodup ?_, fun x hx => ?_, fun c hc => ?_⟩
    · refine List.nodup_append.mpr ⟨f.nd, by simp, fun a ha b hb => ?_⟩
      rw [List.mem_singleton.mp hb]
      have := f.mem a ha
      omega
    · have q := p.mem_iff.mp hx
      rcases List.mem_append.mp q with q | q
      · have := f.mem x q
        omega
      · rw [List.mem_singleton.mp q]
        omega
    · rcases List.mem_or_eq_of_mem_set hc with hc | rfl
      · exact f.ch c hc
      · unfold Chain
        refine List.pairwise_append.mpr ⟨f.ch cs hcs, List.pairwise_singleton _ _, fun x hx y hy => ?_⟩
        rw [List.mem_singleton.mp hy]
        have mx : ∀ z ∈ cs, 0 ≤ z ∧ z < (t : Int) := fun z hz => f.mem z (List.mem_flatten.mpr ⟨cs, hcs, hz⟩)
        refine ⟨(mx x hx).2, ?_⟩
        rcases snoc_or cs with rfl | ⟨i, l, rfl⟩
        · cases hx
        · rw [okC_snoc] at e2
          have hl := of_decide_eq_true e2
          have ml := mx l (by simp)
          rcases List.mem_append.mp hx with hx | hx
          · have q := (List.pairwise_append.mp (f.ch _ hcs)).2.2 x hx l (by simp)
            have m := es_mono hes (i := x.toNat) (j := l.toNat) (by omega) (by omega)
            omega
          · rw [List.mem_singleton.mp hx]
            exact hl
theorem ff_FF {n : Int} {es : List Int} (hes : EndsOk n es) (k : Nat) : ∀ t : Nat, t ≤ es.length → FF es t ((things t).foldl (ffIns es) (List.replicate k []))
  | 0, _ => ⟨by simp [things], fun x hx => by simp [things] at hx, fun cs hc => by rw [List.eq_of_mem_replicate hc]; exact List.Pairwise.nil⟩
  | t + 1, h => by
    rw [things_succ, List.foldl_append]
    exact (ff_FF hes k t (by omega)).step hes (by omega)
end Brk
namespace Brk
open PySem L2
/-- the size of the group that begins at i -/
def gsz (es : List Int) (i : Nat) : Int := es.getD i 0 - i + 1
def IsMax (es : List Int) (k : Int) : Prop := 0 ≤ k ∧ (∀ i, i < es.length → gsz es i ≤ k) ∧ ((es = [] ∧ k = 0) ∨ ∃ i, i < es.length ∧ k = gsz es i)
theorem IsMax.eq {es : List Int} {k m : Int} (h : IsMax es k) (h' : IsMax es m) : k = m := by
  obtain ⟨a0, a1, a2⟩ := h
  obtain ⟨b0, b1, b2⟩ := h'
  rcases a2 with ⟨e, e1⟩ | ⟨i, hi, e1⟩
  · rcases b2 with ⟨_, e2⟩ | ⟨j, hj, e2⟩
    · omega
    · rw [e] at hj
      exact absurd hj (Nat.not_lt_zero _)
  · rcases b2 with ⟨e, _⟩ | ⟨j, hj, e2⟩
    · rw [e] at hi
      exact absurd hi (Nat.not_lt_zero _)
    · have := a1 j hj
      have := b1 i hi
      omega
theorem lasts (es : List Int) (t : Int) : ∀ css : List (List Int), (∀ cs ∈ css, okC es cs t = false) → ∃ L : List Int, L.length = css.length ∧ L.Sublist css.flatten ∧ ∀ l ∈ L, t ≤ es.getD l.toNat 0
  | [], _ => ⟨[], rfl, List.Sublist.refl _, fun l hl => by cases hl⟩
  | cs :: r, h => by
    obtain ⟨L, h1, h2, h3⟩ := lasts es t r fun c hc => h c (List.mem_cons_of_mem _ hc)
    obtain ⟨i, l, rfl, hl⟩ := okC_last (h cs List.mem_cons_self)
    refine ⟨l :: L, congrArg Nat.succ h1, ?_, fun x hx => ?_⟩
    · show (l :: L).Sublist ((i ++ [l]) ++ r.flatten)
      rw [List.append_assoc]
      exact (List.Sublist.cons₂ l h2).trans (List.sublist_append_right _ _)
    · rcases List.mem_cons.mp hx with rfl | hx
      · exact hl
      · exact h3 x hx
theorem least_of : ∀ {L : List Int}, L ≠ [] → ∃ m ∈ L, ∀ l ∈ L, m ≤ l
  | [], h => absurd rfl h
  | [x], _ => ⟨x, List.mem_cons_self, fun l hl => by rw [List.mem_singleton.mp hl]; exact Int.le_refl _⟩
  | x :: y :: r, _ => by
    obtain ⟨m, hm, h⟩ := least_of (L := y :: r) (by simp)
    by_cases c : x ≤ m
    · refine ⟨x, List.mem_cons_self, fun l hl => ?_⟩
      rcases List.mem_cons.mp hl with rfl | hl
      · exact Int.le_refl _
      · have := h l hl
        omega
    · refine ⟨m, List.mem_cons_of_mem _ hm, fun l hl => ?_⟩
      rcases List.mem_cons.mp hl with rfl | hl
      · omega
      · exact h l hl
/-- with as many chains as the largest group has things, none is refused -/
theorem taken {n : Int} {es : List Int} {t : Nat} {css : List (List Int)} {k : Int} (hes : EndsOk n es) (f : FF es t css) (ht : t < es.length) (hk : IsMax es k) (hl : (css.length : Int) = k) : ¬ ∀ cs ∈ css, okC es cs (t : Int) = false := by
  intro no
  obtain ⟨L, h1, h2, h3⟩ := lasts es (t : Int) css no
  have nd : L.Nodup := h2.nodup f.nd
  have mem : ∀ l ∈ L, 0 ≤ l ∧ l < (t : Int) := fun l hl => f.mem l (h2.subset hl)
  have k1 : 1 ≤ k := by
    have e0 : es[t]? = some (es[t]'ht) := List.getElem?_eq_getElem ht
    have q := (hes.2 t _ e0).1
    have := hk.2.1 t ht
    unfold gsz at this
    rw [getD_at e0] at this
    omega
  obtain ⟨m, hm, hmin⟩ := least_of (L := L) (by intro z; rw [z] at h1; simp at h1; omega)
  have q := sub_len (l2 := rgI m (t : Int)) nd fun l hl => rgI_mem.mpr ⟨hmin l hl, (mem l hl).2⟩
  rw [rgI_len] at q
  have mm := mem m hm
  have g := hk.2.1 m.toNat (by omega)
  have e := h3 m hm
  unfold gsz at g
  omega
theorem ffIns_flat (es : List Int) {t : Int} {css : List (List Int)} (h : ¬ ∀ cs ∈ css, okC es cs t = false) : (ffIns es css t).flatten.length = css.flatten.length + 1 := by
  rcases ffIns_or es t css with ⟨no, _⟩ | ⟨j, cs, e1, _, e3⟩
  · exact absurd no h
  · rw [e3, (set_flatten (t := t) e1).length_eq, List.length_append]
    rfl
theorem ff_len {es : List Int} {k : Nat} : ∀ ts : List Int, (ts.foldl (ffIns es) (List.replicate k [])).length = k := by
  intro ts
  rw [ff_peel]
  exact peel_len es k ts
theorem all_taken {n : Int} {es : List Int} {k : Int} (hes : EndsOk n es) (hk : IsMax es k) : ∀ t : Nat, t ≤ es.length → ((things t).foldl (ffIns es) (List.replicate k.toNat [])).flatten.length = t
  | 0, _ => by
    have : ∀ m : Nat, (List.replicate m ([] : List Int)).flatten = [] := fun m => by induction m with
      | zero => rfl
      | succ m ih => rw [List.replicate_succ, List.flatten_cons, ih]; rfl
    show (List.replicate k.toNat ([] : List Int)).flatten.length = 0
    rw [this]
    rfl
  | t + 1, h => by
    have ih := all_taken hes hk t (by omega)
    have f := ff_FF hes k.toNat t (by omega)
    rw [things_succ, List.foldl_append]
    have l := ff_len (es := es) (k := k.toNat) (things t)
    have k0 := hk.1
    rw [show ([(t : Int)].foldl (ffIns es) ((things t).foldl (ffIns es) (List.replicate k.toNat []))) = ffIns es ((things t).foldl (ffIns es) (List.replicate k.toNat [])) (t : Int) from rfl, ffIns_flat es (taken hes f (by omega) hk (by rw [l]; omega)), ih]
theorem chain_one {n : Int} {es cs : List Int} {g : Nat} (hes : EndsOk n es) (hc : Chain es cs) (mem : ∀ x ∈ cs, 0 ≤ x ∧ x < (es.length : Int)) : (cs.filter fun x => decide ((g : Int) ≤ x ∧ x ≤ es.getD g 0)).length ≤ 1 := by
  have p := List.Pairwise.filter (fun x => decide ((g : Int) ≤ x ∧ x ≤ es.getD g 0)) hc
  have m : ∀ x ∈ cs.filter (fun x => decide ((g : Int) ≤ x ∧ x ≤ es.getD g 0)), x ∈ cs ∧ (g : Int) ≤ x ∧ x ≤ es.getD g 0 := fun x hx => by
    obtain ⟨a, b⟩ := List.mem_filter.mp hx
    exact ⟨a, of_decide_eq_true b⟩
  generalize cs.filter (fun x => decide ((g : Int) ≤ x ∧ x ≤ es.getD g 0)) = l at p m
  match l, p, m with
  | [], _, _ => exact Nat.zero_le _
  | [x], _, _ => exact Nat.le_refl _
  | x :: y :: r, p, m =>
    exfalso
    have q := (List.pairwise_cons.mp p).1 y List.mem_cons_self
    obtain ⟨mx, x1, x2⟩ := m x List.mem_cons_self
    obtain ⟨_, y1, y2⟩ := m y (List.mem_cons_of_mem _ List.mem_cons_self)
    have b := mem x mx
    have mo := es_mono hes (i := g) (j := x.toNat) (by omega) (by omega)
    omega
theorem chains_few {n : Int} {es : List Int} {g : Nat} (hes : EndsOk n es) : ∀ css : List (List Int), (∀ cs ∈ css, Chain es cs) → (∀ x ∈ css.flatten, 0 ≤ x ∧ x < (es.length : Int)) → (css.flatten.filter fun x => decide ((g : Int) ≤ x ∧ x ≤ es.getD g 0)).length ≤ css.length
  | [], _, _ => Nat.le_refl _
  | c :: r, hc, hm => by
    have a := chain_one (g := g) hes (hc c List.mem_cons_self) fun x hx => hm x (by rw [List.flatten_cons]; exact List.mem_append_left _ hx)
    have b := chains_few (g := g) hes r (fun d hd => hc d (List.mem_cons_of_mem _ hd)) fun x hx => hm x (by rw [List.flatten_cons]; exact List.mem_append_right _ hx)
    rw [List.flatten_cons, List.filter_append, List.length_append, List.length_cons]
    omega
/-- fewer chains than the largest group has things leave a thing out -/
theorem some_left {n : Int} {es : List Int} {k : Int} {m : Nat} (hes : EndsOk n es) (hk : IsMax es k) (hm : (m : Int) < k) : (ff es m).flatten.length < es.length := by
  have f := ff_FF hes m es.length (Nat.le_refl _)
  have l := ff_len (es := es) (k := m) (things es.length)
  have fe : (things es.length).foldl (ffIns es) (List.replicate m []) = ff es m := rfl
  rw [fe] at f l
  rcases hk.2.2 with ⟨_, e⟩ | ⟨g, hg, e⟩
  · omega
  · rcases Nat.lt_or_ge (ff es m).flatten.length es.length with h | h
    · exact h
    · exfalso
      have e0 : es[g]? = some (es[g]'hg) := List.getElem?_eq_getElem hg
      have eg := (hes.2 g _ e0)
      have hl := hes.1
      have few := chains_few (g := g) hes (ff es m) f.ch f.mem
      have q := sub_len (l1 := rgI (g : Int) (es.getD g 0 + 1)) (l2 := (ff es m).flatten.filter fun x => decide ((g : Int) ≤ x ∧ x ≤ es.getD g 0)) rgI_nodup fun x hx => by
        have hx := rgI_mem.mp hx
        refine List.mem_filter.mpr ⟨full_mem f.nd f.mem h ⟨by omega, ?_⟩, decide_eq_true ⟨hx.1, by omega⟩⟩
        rw [getD_at e0] at hx
        omega
      rw [rgI_len] at q
      unfold gsz at e
      omega
theorem szC_flat (css : List (List Int)) : szC css = ((css.flatten.length : Nat) : Int) := by
  unfold szC
  induction css with
  | nil => rfl
  | cons c r ih =>
    rw [List.map_cons, List.sum_cons, ih, List.flatten_cons, List.length_append]
    omega
end Brk
namespace Brk
open PySem L2
theorem inV_no {t : Int} {l : List Int} (h : t ∉ l) : inV (.int t) (iV l) = false := by
  unfold inV iV
  rw [List.any_map, List.any_eq_false]
  intro x hx
  simp only [Function.comp]
  unfold eqV
  simp
  rintro rfl
  exact h hx
theorem flat_iV {l : List Int} : (iV l).all flatV = true := by
  unfold iV
  rw [List.all_map, List.all_eq_true]
  intro x _
  rfl
theorem near_up {es : List Int} {i k : Int} (h : i ≤ k) : nearE es i k = decide (k ≤ es.getD i.toNat 0) := by
  unfold nearE mxI mnI
  by_cases z : k > i
  · rw [if_pos z, if_neg (by omega)]
  · have e : k = i := by omega
    subst e
    rw [if_neg z]
def spFewest (CB : Addr) : Sp := fun vs H Q _ => ∃ (b : Addr) (es : List Int) (n : Int), vs = [.ref b] ∧ BandAt CB H b es ∧ EndsOk n es ∧ es.length ≤ 1000 ∧ ∀ (k : Int) (H' : Hp), IsMax es k → Same H H' → Q (.int k) H'
/-- the first longest group -/
def spGroup : Sp := fun vs H Q _ => ∃ (r : Addr) (es : List Int) (n : Int), vs = [.ref r] ∧ H r = some (.lst (iV es)) ∧ EndsOk n es ∧ es.length ≤ 1000 ∧
  ∀ (l : Addr) (g : List Int) (H' : Hp), H' l = some (.lst (iV g)) → IsMax es g.length → (g = [] ∨ ∃ i, i < es.length ∧ g = rgI i (es.getD i 0 + 1)) → Same H H' → Q (.ref l) H'
def spChainL (K : PySem.W.Frag) : Sp := fun vs H Q _ => ∃ (r c : Addr) (es cs : List Int), vs = [.ref r, .ref c] ∧ H r = some (.lst (iV es)) ∧ H c = some (.lst (iV cs)) ∧ es.length ≤ 1000 ∧ cs.length ≤ 1000 ∧ Chain es cs ∧ (∀ x ∈ cs, 0 ≤ x ∧ x < (es.length : Int)) ∧ Q (.bl true) H
def spHeld : Sp := fun vs H Q _ => ∃ (r l : Addr) (es : List Int) (n : Int) (as : List Addr) (css : List (List Int)), vs = [.ref r, .ref l, .int n] ∧ H r = some (.lst (iV es)) ∧ H l = some (.lst (as.map V.ref)) ∧ RowsC H as css ∧ (css.length : Int) = n ∧ es.length ≤ 1000 ∧ n ≤ 1000 ∧ FF es es.length css ∧
  ∀ H', Same H H' → Q (.int ((css.flatten.length : Nat) : Int)) H'
def spLess (CB : Addr) : Sp := fun vs H Q _ => ∃ (b : Addr) (es : List Int) (n m : Int), vs = [.ref b, .int n, .int m] ∧ BandAt CB H b es ∧ es.length ≤ 1000 ∧ inR n ∧ szC (ff es n.toNat) < m ∧ ∀ H', Same H H' → Q (.bl true) H'
def spKeptG (CB : Addr) : Sp := fun vs H Q _ => ∃ (p c b r : Addr) (ns es : List Int) (n : Int), vs = [.ref p, .ref b, .ref r] ∧ Pool ns c H p ∧ BandAt CB H b es ∧ H r = some (.lst (iV es)) ∧ r ≠ p ∧ EndsOk n es ∧ n ≤ 60 ∧ ∀ H', Pool ns c H' p → But p H H' → Q (.bl true) H'
theorem FF.len {es : List Int} {t : Nat} {css : List (List Int)} (f : FF es t css) : css.flatten.length ≤ t := by
  have := sub_len (l2 := things t) f.nd fun x hx => mem_things.mpr (f.mem x hx)
  rw [things_len] at this
  exact this
end Brk
namespace Brk
open PySem L2
theorem rgI_snoc {a b : Int} (h : a ≤ b) : rgI a (b + 1) = rgI a b ++ [b] := by
  unfold rgI
  rw [show (b + 1 - a).toNat = (b - a).toNat + 1 by omega, List.range_succ, List.map_append]
  congr 1
  show [a + (((b - a).toNat : Nat) : Int)] = [b]
  rw [show a + (((b - a).toNat : Nat) : Int) = b by omega]
theorem rgI_nil {a : Int} : rgI a a = [] := by
  unfold rgI
  rw [Int.sub_self]
  rfl
theorem rgI_first {a b : Int} (h : a < b) : (rgI a b)[0]? = some a := by
  unfold rgI
  rw [List.getElem?_map, List.getElem?_range (by omega : 0 < (b - a).toNat)]
  show some (a + ((0 : Nat) : Int)) = some a
  rw [show a + ((0 : Nat) : Int) = a by omega]
theorem gsz_pos {n : Int} {es : List Int} (h : EndsOk n es) {i : Nat} (hi : i < es.length) : 1 ≤ gsz es i ∧ gsz es i ≤ n ∧ es.getD i 0 < n ∧ (i : Int) ≤ es.getD i 0 := by
  have e0 : es[i]? = some (es[i]'hi) := List.getElem?_eq_getElem hi
  obtain ⟨a, b, _⟩ := h.2 i _ e0
  unfold gsz
  rw [getD_at e0]
  omega
end Brk

set_option Elab.async false
set_option linter.all false
set_option maxRecDepth 100000
set_option maxHeartbeats 4000000
/-! Own rules: range(low, high) over any integers. -/
namespace Brk
open PySem PySem.Spec PyProof.Rows L2
theorem turn_long {P : Program} {w : World} {K : PySem.W.Frag} {tg : Expr} (it : Addr) (lo : Int) (n : Nat) : Turn P w K tg (Itr lo n) [it] it (fun i h => IsLongIter h it (lo + (i : Nat) * 1) ((n : Int) - (i : Nat)) 1) where
  mem := by simp
  obj := fun i h st b hb => by
    have e : b = it := by simpa using hb
    subst e
    exact ⟨_, st, fun v z => by
      have z' : Data.fields _ = Data.cell v := z
      cases z'⟩
  keep := fun i h h' st k => k it (by simp) _ st
  item := by
    intro X hP hw hK hc i pins s σ H E I hf st hg
    subst hP hw hK
    obtain ⟨f0, f1, f2, f3, f4, f5⟩ := hf it (by simp)
    have W := Walks.longrange (prog := X.prog) (w := X.w) (I.ok.hd hc) it lo 1 n
    refine W.item i s _ _ hg st fun v h' tk hv st' kk => ?_
    obtain ⟨t, rfl⟩ := hv
    have I1 : Inv X pins σ H { s with heap := h', toks := tk } := I.turned (fun b o hb e => kk b o (by simpa using hb) e) f0 f1 f3 f4 f5
    refine ⟨_, rfl, go_of (s := { s with heap := h', toks := tk }) (n := "longrange_iterator") st' rfl rfl (by decide) ⟨.int (lo + i), H, I1, ⟨t, ?_⟩, ⟨rfl, rfl⟩, st', fun b hb => (hf b hb).1⟩⟩
    rw [Int.mul_one]
  done := by
    intro X hP hw hK hc i pins s σ H E I hf st hg
    subst hP hw hK
    obtain ⟨f0, f1, f2, f3, f4, f5⟩ := hf it (by simp)
    exact wpAny_pyNext_long_end (I.ok.hd hc) st (by have : n ≤ i := hg; omega) fun h' eb => ⟨rfl, I.turned (t' := s.toks) (fun b o hb e => eb b o hb e) f0 f1 f3 f4 f5⟩
  self := fun _ _ _ _ _ st h => wpAny_pyIter_longiter st h
section
variable {X : Cx} {tg : Expr}
theorem range_itW {pins : List (Addr × Obj)} {σ : L2.St} {H : Hp} {s : Shared} {R : It → Hp → Prop} {E : Value → Shared → Prop} {lo hi : Int} {t u v : Tok} {tk : Nat} (I : Inv X pins σ H s)
    (q : R (Itr lo (hi - lo).toNat) H) : wpAny (model X.prog X.w) X.A (pyIter (.ref s.heap.objs.size)) (PIE X pins σ tg R) E { s with heap := s.heap.push { cls := .type "range", data := .fields #[.int lo t, .int hi u, .int 1 v] }, toks := tk } := by
  have I1 : Inv X pins σ H { s with heap := s.heap.push { cls := .type "range", data := .fields #[.int lo t, .int hi u, .int 1 v] }, toks := tk } := I.kept fun b o e => Heap.get?_push_of_some _ e
  have e1 : lo + ((0 : Nat) : Int) * 1 = lo := by simp
  have e2 : (((hi - lo).toNat : Nat) : Int) - ((0 : Nat) : Int) = Builtin.Range.rangeSize lo hi 1 := by rw [rangeSize_one]; split <;> omega
  cases sm : Builtin.Range.small lo hi 1 with
  | true =>
    refine wpAny_pyIter_range (IsRange.new ..) sm ?_
    refine ⟨(s.heap.push { cls := .type "range", data := .fields #[.int lo t, .int hi u, .int 1 v] }).objs.size, [(s.heap.push { cls := .type "range", data := .fields #[.int lo t, .int hi u, .int 1 v] }).objs.size], _, _, H, rfl,
      I1.kept (t' := tk) fun b o e => Heap.get?_push_of_some _ e, turn_range _ lo (hi - lo).toNat, ?_, fun b hb => ?_, q⟩
    · show IsRangeIter _ _ (lo + ((0 : Nat) : Int) * 1) ((((hi - lo).toNat : Nat) : Int) - ((0 : Nat) : Int)) 1
      rw [e1, e2]
      exact Heap.get?_push_size _ rfl
    · have e : b = (s.heap.push { cls := .type "range", data := .fields #[.int lo t, .int hi u, .int 1 v] }).objs.size := by simpa using hb
      subst e
      exact I1.fpOk (Nat.le_refl _) (I1.hok.fresh (Nat.le_refl _))
  | false =>
    refine wpAny_pyIter_longrange (IsRange.new ..) sm ?_
    refine ⟨(s.heap.push { cls := .type "range", data := .fields #[.int lo t, .int hi u, .int 1 v] }).objs.size, [(s.heap.push { cls := .type "range", data := .fields #[.int lo t, .int hi u, .int 1 v] }).objs.size], _, _, H, rfl,
      I1.kept (t' := tk) fun b o e => Heap.get?_push_of_some _ e, turn_long _ lo (hi - lo).toNat, ?_, fun b hb => ?_, q⟩
    · show IsLongIter _ _ (lo + ((0 : Nat) : Int) * 1) ((((hi - lo).toNat : Nat) : Int) - ((0 : Nat) : Int)) 1
      rw [e1, e2]
      exact Heap.get?_push_size _ rfl
    · have e : b = (s.heap.push { cls := .type "range", data := .fields #[.int lo t, .int hi u, .int 1 v] }).objs.size := by simpa using hb
      subst e
      exact I1.fpOk (Nat.le_refl _) (I1.hok.fresh (Nat.le_refl _))
def iRng2W (ta : TA) : TI := fun σ H R => ta σ H fun vs H1 => ∃ i j : Int, vs = [.int i, .int j] ∧ R (Itr i (j - i).toNat) H1
theorem pi_range2W {a b : Expr} {ta : TA} {p pos : Pos} (hg : Gl X "range") (hm : X.mg "range" = none) (ha : PA X [a, b] ta) (hs : starEach [a, b] X.env = [(false, eval a X.env), (false, eval b X.env)] := by rfl) (hs2 : starEach [b] X.env = [(false, eval b X.env)] := by rfl) :
    PI X tg (.Call (.Name "range" p) [a, b] [] pos) (iRng2W ta) := by
  refine ⟨fun pins s σ H R I h => ?_⟩
  refine Call_ (ld_blt I hg hm boot_range (PyProof.Rows.callWith_type1 (thn (ha.run pos pins s σ H _ I h) fun us s1 ⟨vs, H1, I1, r1, q1⟩ => ?_) (by rw [hs, hs2]) (by rw [hs2]; rfl)))
  obtain ⟨i, j, e, q⟩ := q1
  subst e
  cases r1 with
  | cons r rr =>
    cases rr with
    | cons r' rr =>
      cases rr
      obtain ⟨t, rfl⟩ := r
      obtain ⟨t', rfl⟩ := r'
      exact call_range_2 (range_itW I1 q)
end
end Brk

set_option Elab.async false
set_option linter.all false
set_option maxRecDepth 100000
set_option maxHeartbeats 4000000
/-! Grids: `in` over an own class; what the defs promise; bars between two ticks. -/
namespace Brk
open PySem PySem.Spec PyProof.Rows L2
section
variable {X : Cx} {CX : CXT} {k : Nat} {sp : Sp} {E : XK}
/-- y in x, x of an own class with the method, which answers a truth -/
theorem op_inM {C : Addr} {o2 : Str} (M : Me X.prog X.w X.K X.mg X.base CX k C "__contains__" ["self", o2] sp) (room : Room k X.A) (pass : Passes CX X E) :
    OpR X (compareOp .In) (fun y x H Q => ∃ (a dx : Addr) (fs : List (Str × V)), x = .ref a ∧ H a = some (.ins C dx fs) ∧ sp [.ref a, y] H (fun v H1 => ∃ b : Bool, v = .bl b ∧ Q (.bl b) H1) E) := by
  intro pins s σ H y x u v Q I ry rx h
  obtain ⟨a, dx, fs, rfl, ea, q⟩ := h
  obtain ⟨f, fd, hm, hb, F⟩ := M
  obtain rfl : v = Value.ref a := rx
  obtain ⟨mA, O, _⟩ := ins_get I.hok ea
  obtain ⟨od, J, _⟩ := O.look
  obtain ⟨m, fr⟩ := I.fr
  refine PySem.W.in_K fr I.ok.mod.kin J hm.at_ hm.fn (wpAny_mono (run_fn (us := [.ref a, u]) (vs := [.ref a, y]) F room hb .nil pass I (.cons rfl (.cons ry .nil)) q) ?_ fun _ _ z => z)
  intro r s1 hh
  obtain ⟨w, H1, I1, rw_, b, e, q1⟩ := hh
  subst e
  obtain rfl : r = Value.bool b := rw_
  exact wpAny_truthy_bool ⟨.bl b, H1, I1, rfl, q1⟩
end
def lastOf (s o t : Int) : Int := t - (t - o) % s
def betw (s o lo hi : Int) : Int := if hi ≤ lo then 0 else (barOf s o hi - barOf s o lo) / s
def cntOf (s o lo hi : Int) : Int := if hi ≤ lo then 0 else (hi - 1 - o) / s - (lo - 1 - o) / s
def spGridX (C CB : Addr) : Sp := fun vs H Q E => ∃ (p dx : Addr) (s o : Int), vs = [.ref p, .int s, .int o] ∧ H p = some (.ins C dx []) ∧ (1 ≤ s → ∀ H', GridAt C H' p s (o % s) → Off p H H' → Q .non H') ∧ (¬ 1 ≤ s → xNum CB s H E)
def spLastBar (C : Addr) : Sp := fun vs H Q _ => ∃ (g : Addr) (s o t : Int), vs = [.ref g, .int t] ∧ GridAt C H g s o ∧ Q (.int (lastOf s o t)) H
def spBetween (C : Addr) : Sp := fun vs H Q _ => ∃ (g : Addr) (s o lo hi : Int), vs = [.ref g, .int lo, .int hi] ∧ GridAt C H g s o ∧ s ≤ 10 ^ 27 ∧ Q (.int (betw s o lo hi)) H
def spHas (C : Addr) : Sp := fun vs H Q _ => ∃ (g : Addr) (s o t : Int), vs = [.ref g, .int t] ∧ GridAt C H g s o ∧ Q (.bl (decide (V.int ((t - o) % s) = V.int 0))) H
def spTickG : Sp := fun vs H Q _ => ∃ (p c : Addr) (ns : List Int) (s o : Int), vs = [.ref p, .int s, .int o] ∧ Pool ns c H p ∧ ∀ (r : Int) (H' : Hp), Pool ns c H' p → Off p H H' → Q (.int r) H'
def spGMade (C : Addr) : Sp := fun vs H Q _ => ∃ (g : Addr) (s o : Int), vs = [.ref g, .int s, .int o] ∧ GridAt C H g s (o % s) ∧ Q (.bl true) H
def spGAsked (C : Addr) : Sp := fun vs H Q _ => ∃ (g : Addr) (s o t : Int), vs = [.ref g, .int s, .int o, .int t] ∧ GridAt C H g s (o % s) ∧ Q (.bl true) H
def spGCount : Sp := fun vs H Q _ => ∃ (s o lo hi : Int), vs = [.int s, .int o, .int lo, .int hi] ∧ 1 ≤ s ∧ s ≤ 10 ^ 27 ∧ ∀ H', Same H H' → Q (.int (cntOf s o lo hi)) H'
def spGCounted (C : Addr) : Sp := fun vs H Q _ => ∃ (g : Addr) (s o lo hi : Int), vs = [.ref g, .int s, .int o, .int lo, .int hi] ∧ GridAt C H g s (o % s) ∧ s ≤ 10 ^ 27 ∧ ∀ H', Same H H' → Q (.bl true) H'
def spGRefused : Sp := fun vs H Q _ => ∃ (s o : Int), vs = [.int s, .int o] ∧ s < 1 ∧ ∀ H', Same H H' → Q (.bl true) H'

/-! ### numbers -/
theorem emod_off {s o : Int} : (o % s - o) % s = 0 := by
  rw [Int.sub_emod, Int.emod_emod, ← Int.sub_emod]
  simp
theorem sub_off {s o t : Int} : (t - o % s) % s = (t - o) % s := by
  rw [Int.sub_emod, Int.emod_emod, ← Int.sub_emod]
theorem off_sub {s o t : Int} : (o % s - t) % s = (o - t) % s := by
  rw [Int.sub_emod, Int.emod_emod, ← Int.sub_emod]
/-- the first bar is t's bar -/
theorem bar_on {s o t : Int} : (barOf s (o % s) t - o) % s = 0 := by
  unfold barOf
  rw [off_sub]
  have e : t + (o - t) % s - o = (o - t) % s - (o - t) := by omega
  rw [e]
  exact emod_off
theorem last_on {s o t : Int} : (lastOf s (o % s) t - o) % s = 0 := by
  unfold lastOf
  rw [sub_off]
  have e : t - (t - o) % s - o = (t - o) - (t - o) % s := by omega
  rw [e, Int.sub_emod, Int.emod_emod]
  simp
theorem bar_eq {s o t : Int} (hs : 0 < s) : barOf s (o % s) t = o + s * ((t - 1 - o) / s + 1) := by
  unfold barOf
  rw [off_sub]
  have e := Int.mul_ediv_add_emod (t - 1 - o) s
  have r0 := Int.emod_nonneg (t - 1 - o) (Int.ne_of_gt hs)
  have r1 := Int.emod_lt_of_pos (t - 1 - o) hs
  generalize (t - 1 - o) % s = r at e r0 r1
  generalize (t - 1 - o) / s = q at e ⊢
  have e2 : o - t = (s - 1 - r) + s * (-(q + 1)) := by
    rw [Int.mul_neg, Int.mul_add, Int.mul_one]
    omega
  rw [e2, Int.add_mul_emod_self_left, Int.emod_eq_of_lt (by omega) (by omega), Int.mul_add, Int.mul_one]
  omega
theorem betw_cnt {s o lo hi : Int} (hs : 0 < s) : betw s (o % s) lo hi = cntOf s o lo hi := by
  unfold betw cntOf
  split
  · rfl
  · rw [bar_eq hs, bar_eq hs]
    have e : o + s * ((hi - 1 - o) / s + 1) - (o + s * ((lo - 1 - o) / s + 1)) = s * (((hi - 1 - o) / s + 1) - ((lo - 1 - o) / s + 1)) := by
      rw [Int.mul_sub]
      omega
    rw [e, Int.mul_ediv_cancel_left _ (Int.ne_of_gt hs)]
    omega
theorem step_div {s x : Int} (hs : 0 < s) : x / s - (x - 1) / s = if x % s = 0 then 1 else 0 := by
  have e := Int.mul_ediv_add_emod x s
  have r0 := Int.emod_nonneg x (Int.ne_of_gt hs)
  have r1 := Int.emod_lt_of_pos x hs
  generalize x % s = r at e r0 r1 ⊢
  generalize x / s = q at e ⊢
  by_cases z : r = 0
  · rw [if_pos z]
    have e2 : x - 1 = (s - 1) + s * (q - 1) := by
      rw [Int.mul_sub, Int.mul_one]
      omega
    rw [e2, Int.add_mul_ediv_left _ _ (Int.ne_of_gt hs), Int.ediv_eq_zero_of_lt (by omega) (by omega)]
    omega
  · rw [if_neg z]
    have e2 : x - 1 = (r - 1) + s * q := by omega
    rw [e2, Int.add_mul_ediv_left _ _ (Int.ne_of_gt hs), Int.ediv_eq_zero_of_lt (by omega) (by omega)]
    omega
/-- the bars among n ticks from lo -/
def onBars (s o lo : Int) : Nat → List Int
  | 0 => []
  | n + 1 => if (lo + (n : Nat) - o) % s = 0 then onBars s o lo n ++ [lo + (n : Nat)] else onBars s o lo n
theorem onBars_len {s o lo : Int} (hs : 0 < s) : ∀ n : Nat, ((onBars s o lo n).length : Int) = (lo + (n : Nat) - 1 - o) / s - (lo - 1 - o) / s
  | 0 => by
    show (0 : Int) = _
    rw [show lo + ((0 : Nat) : Int) - 1 - o = lo - 1 - o by simp]
    omega
  | n + 1 => by
    have ih := onBars_len (o := o) (lo := lo) hs n
    have st := step_div (x := lo + (n : Nat) - o) hs
    rw [show lo + (n : Nat) - o - 1 = lo + (n : Nat) - 1 - o by omega] at st
    rw [show lo + ((n + 1 : Nat) : Int) - 1 - o = lo + (n : Nat) - o by push_cast; omega]
    unfold onBars
    split
    · rename_i z
      rw [if_pos z] at st
      rw [List.length_append]
      push_cast
      simp only [List.length_cons, List.length_nil]
      omega
    · rename_i z
      rw [if_neg z] at st
      omega
theorem onBars_le {s o lo : Int} : ∀ n : Nat, (onBars s o lo n).length ≤ n
  | 0 => Nat.le_refl _
  | n + 1 => by
    have := onBars_le (s := s) (o := o) (lo := lo) n
    unfold onBars
    split
    · rw [List.length_append]
      simp only [List.length_cons, List.length_nil]
      omega
    · omega
end Brk
namespace Brk
open L2
theorem bl_q {Q : VK} {H : Hp} {b c : Bool} (e : b = c) (q : Q (.bl c) H) : Q (.bl b) H := e ▸ q
end Brk
namespace Brk
theorem onBars_on {s o lo : Int} {i : Nat} (z : (lo + (i : Nat) - o) % s = 0) : onBars s o lo (i + 1) = onBars s o lo i ++ [lo + (i : Nat)] := if_pos z
theorem onBars_off {s o lo : Int} {i : Nat} (z : ¬ (lo + (i : Nat) - o) % s = 0) : onBars s o lo (i + 1) = onBars s o lo i := if_neg z
end Brk

set_option Elab.async false
set_option linter.all false
set_option maxRecDepth 100000
set_option maxHeartbeats 4000000
/-! A static method asked off its class; blocks within blocks; bands by positions. -/
namespace Brk
open PySem PySem.Spec PyProof.Rows L2
/-- C.m is a static method: its record at p, its def at f -/
structure SmRd (K : PySem.W.Frag) (C : Addr) (mc : Value) (m : Str) (p f : Addr) : Prop where
  rd : ClX.CRead K C mc
  at_ : PySem.W.findCls K (.ref C) mc m = some (.get (.builtin "staticmethod.__get__") (.ref p) .none (.ref C))
  rc : ∃ rest, PySem.W.recIn K p "staticmethod" = some (.ref f :: rest)
def Ssf (K : PySem.W.Frag) (C : Addr) (m qual : Str) (st : Stmt) (ps : List Str) : Prop := ∃ (mc : Value) (p f : Addr) (fd : FuncData), SmRd K C mc m p f ∧ Fun K m qual st f fd ∧ Binds K fd ps []
def Sm (P : Program) (w : World) (K : PySem.W.Frag) (mg : Str → Option Value) (base : Heap) (CX : CXT) (k : Nat) (C : Addr) (m : Str) (ps : List Str) (sp : Sp) : Prop :=
  ∃ (mc : Value) (p f : Addr) (fd : FuncData), SmRd K C mc m p f ∧ PySem.W.keepIn K (.ref f) = true ∧ Binds K fd ps [] ∧ FnOk P w K mg base CX k f fd ps sp
section
variable {X : Cx} {CX : CXT} {k : Nat} {ps : List Str} {sp : Sp} {E : L2.St → XK} {C : Addr} {m : Str} {pos apos : Pos} {e o : Expr} {es : List Expr} {ta : TE} {t : TA}
theorem pe_smS {pl : Sem Bool} (M : Sm X.prog X.w X.K X.mg X.base CX k C m ps sp) (room : Room k X.A) (pass : ∀ σ, PassesAt CX X σ (E σ)) (he : PE X o ta) (ha : PA X (e :: es) t)
    (hst : starEach (e :: es) X.env = (false, eval e X.env) :: starEach es X.env := by rfl) (hpl : (backTo pos (starEach es X.env)).any (·.1) = false := by rfl)
    (ht : eval (.Call (.Attribute o m apos) (e :: es) [] pos) X.env = (do
      let ov ← eval o X.env
      standAt apos.atName
      let (f, first) ← holding [ov] (getMethod ov m pl)
      callWith pos f first (backTo pos (starEach (e :: es) X.env)) (backToKw pos (keywordEach [] X.env))) := by rfl) :
    PE X (.Call (.Attribute o m apos) (e :: es) [] pos) (fun σ H Q => ta σ H fun x H1 => x = .ref C ∧ t σ H1 fun vs H2 => sp vs H2 Q (E σ)) := by
  obtain ⟨mc, p, f, fd, ⟨r, ca, rest, hrec⟩, hk, hb, F⟩ := M
  constructor
  intro pins s σ H Q I h
  refine PySem.W.methodCall_KW (pl := pl) (thn (he.run pins s σ H _ I h) fun u s1 hh => ?_) ht
  obtain ⟨v, H1, I1, rv, ev, q⟩ := hh
  subst ev
  obtain rfl : u = Value.ref C := rv
  refine PySem.W.method_cls I1.kIn r.ga ?_
  refine PySem.W.cls_bind I1.kIn r.rd ca (wpAny_call (PySem.W.sm_get (s := { s1 with toks := s1.toks + 1 }) I1.kIn hrec (PySem.W.handed_on rfl ?_)))
  have J := I1.tok (s1.toks + 1)
  refine PySem.W.callWith_K (first := []) (h₀ := X.base) I1.ok.mod.kin hk ?_ hst hpl
  refine thn (ha.run pos pins _ σ H1 _ J q) fun us s2 hh2 => ?_
  obtain ⟨vs, H2, I2, rr, q2⟩ := hh2
  exact ⟨I2.kIn, run_fnS F room hb (pass σ) I2 rr q2⟩
end
section
variable {X : Cx} {K : PySem.W.Frag}
theorem sl_listC (hK : X.K = K) : SlR X (rSlL K) := by
  subst hK
  exact sl_list
theorem sl_tupC (hK : X.K = K) : SlR X (rSlA K) := by
  subst hK
  exact sl_tupA
theorem pi_listC {l tg : Expr} {tl : TE} (hK : X.K = K) (hl : PE X l tl) : PI X tg l (iList K tl) := by
  subst hK
  exact pi_list hl
theorem pi_tupC {l tg : Expr} {tl : TE} (hK : X.K = K) (hl : PE X l tl) : PI X tg l (iTup K tl) := by
  subst hK
  exact pi_tup hl
end
end Brk
namespace Brk
open PySem PySem.Spec PyProof.Rows L2
def Rises (ps : List Int) : Prop := ∀ (i : Nat) (x y : Int), ps[i]? = some x → ps[i + 1]? = some y → x ≤ y
def fallE (ps : List Int) (i : Nat) : Bool := decide (1 ≤ i) && decide (ps.getD i 0 < ps.getD (i - 1) 0)
inductive SD
  | fine | many | gap | fall (i : Nat)
def sDue (ps : List Int) (g : Int) : SD := if 60 < ps.length then .many else if g < 1 then .gap else match (List.range ps.length).find? (fallE ps) with | some i => .fall i | none => .fine
theorem sdue_many {ps : List Int} {g : Int} (h : 60 < ps.length) : sDue ps g = .many := by unfold sDue; rw [if_pos h]
theorem sdue_gap {ps : List Int} {g : Int} (h : ps.length ≤ 60) (hg : g < 1) : sDue ps g = .gap := by unfold sDue; rw [if_neg (by omega), if_pos hg]
theorem sdue_fall {ps : List Int} {g : Int} {i : Nat} (h : ps.length ≤ 60) (hg : ¬ g < 1) (hi : i < ps.length) (hf : fallE ps i = true) (k : ∀ j, j < i → fallE ps j = false) : sDue ps g = .fall i := by
  unfold sDue
  rw [if_neg (by omega), if_neg hg, find_range hi hf k]
theorem sdue_fine {ps : List Int} {g : Int} (h : ps.length ≤ 60) (hg : ¬ g < 1) (k : ∀ j, j < ps.length → fallE ps j = false) : sDue ps g = .fine := by
  unfold sDue
  rw [if_neg (by omega), if_neg hg, List.find?_eq_none.mpr fun j hj => by rw [k j (List.mem_range.mp hj)]; exact Bool.false_ne_true]
theorem getD_get {ps : List Int} {i : Nat} (h : i < ps.length) : ps[i]? = some (ps.getD i 0) := by
  rw [List.getD_eq_getElem?_getD, List.getElem?_eq_getElem h]
  rfl
theorem Rises.fine {ps : List Int} {g : Int} (r : Rises ps) (h : ps.length ≤ 60) (hg : 1 ≤ g) : sDue ps g = .fine := by
  refine sdue_fine h (by omega) fun j hj => ?_
  unfold fallE
  by_cases z : 1 ≤ j
  · have q := r (j - 1) _ _ (getD_get (by omega)) (by rw [Nat.sub_add_cancel z]; exact getD_get hj)
    rw [decide_eq_false (by omega : ¬ ps.getD j 0 < ps.getD (j - 1) 0), Bool.and_false]
  · rw [decide_eq_false z, Bool.false_and]
theorem rises_of {ps : List Int} (k : ∀ j, j < ps.length → fallE ps j = false) : Rises ps := by
  intro i x y hx hy
  have hi : i + 1 < ps.length := (List.getElem?_eq_some_iff.mp hy).1
  have q := k (i + 1) hi
  unfold fallE at q
  rw [decide_eq_true (Nat.le_add_left 1 i), Bool.true_and, Nat.add_sub_cancel, getD_at hx, getD_at hy] at q
  have := of_decide_eq_false q
  omega
theorem fine_rises {ps : List Int} {g : Int} (h : sDue ps g = .fine) : ps.length ≤ 60 ∧ 1 ≤ g ∧ Rises ps := by
  unfold sDue at h
  split at h
  · cases h
  split at h
  · cases h
  split at h
  · cases h
  · rename_i h1 h2 h3
    refine ⟨by omega, by omega, rises_of fun j hj => ?_⟩
    have q := List.find?_eq_none.mp h3 j (List.mem_range.mpr hj)
    exact Bool.eq_false_iff.mpr q
/-- what is told of positions that are refused -/
def sDueD (ps : List Int) (g : Int) : PyData := match sDue ps g with
  | .many => .list [.str "many", .str "things", .int 60, .bool true, .bool true, .bool false, .bool false, .bool false]
  | .gap => .list [.str "number", .int g, .bool true, .bool true, .bool false, .bool false, .bool false]
  | .fall i => .list [.str "number", .int (ps.getD i 0), .bool true, .bool true, .bool false, .bool false, .bool false]
  | .fine => .list []
theorem okSDue {ps : List Int} {g : Int} : okD 1 (sDueD ps g) = true := by
  unfold sDueD
  split <;> rfl
theorem Rises.mono {ps : List Int} (r : Rises ps) : ∀ {i j : Nat} {x y : Int}, i ≤ j → ps[i]? = some x → ps[j]? = some y → x ≤ y := by
  intro i j
  induction j with
  | zero =>
    intro x y h hx hy
    have : i = 0 := by omega
    subst this
    rw [hx] at hy
    have := Option.some.inj hy
    omega
  | succ j ih =>
    intro x y h hx hy
    by_cases z : i = j + 1
    · subst z
      rw [hx] at hy
      have := Option.some.inj hy
      omega
    · have hj : j < ps.length := by have := (List.getElem?_eq_some_iff.mp hy).1; omega
      have a := ih (by omega) hx (getD_get hj)
      have b := r j _ _ (getD_get hj) hy
      omega
theorem filt_pre {p : Int → Bool} (hp : ∀ x y, x ≤ y → p y = true → p x = true) : ∀ {L : List Int}, (∀ (i j : Nat) (x y : Int), i ≤ j → L[i]? = some x → L[j]? = some y → x ≤ y) →
    ∀ (k : Nat) (x : Int), L[k]? = some x → (p x = true ↔ k < (L.filter p).length)
  | [], _, k, x, h => by simp at h
  | a :: t, m, k, x, h => by
    have mt : ∀ (i j : Nat) (x y : Int), i ≤ j → t[i]? = some x → t[j]? = some y → x ≤ y := fun i j x y hij hx hy => m (i + 1) (j + 1) x y (by omega) (by simpa using hx) (by simpa using hy)
    by_cases ha : p a = true
    · rw [List.filter_cons_of_pos ha, List.length_cons]
      cases k with
      | zero =>
        have e : a = x := by simpa using h
        subst e
        exact ⟨fun _ => Nat.succ_pos _, fun _ => ha⟩
      | succ k =>
        have := filt_pre hp mt k x (by simpa using h)
        rw [this]
        omega
    · have le : a ≤ x := m 0 k a x (Nat.zero_le _) rfl h
      have none_ : (a :: t).filter p = [] := by
        rw [List.filter_eq_nil_iff]
        intro y hy
        obtain ⟨j, hj⟩ := List.getElem?_of_mem hy
        have := m 0 j a y (Nat.zero_le _) rfl hj
        exact fun z => ha (hp a y this z)
      rw [none_]
      exact ⟨fun z => absurd (hp a x le z) ha, fun z => absurd z (Nat.not_lt_zero _)⟩
def nearC (ps : List Int) (g : Int) (i : Nat) : Nat := ((ps.drop i).filter fun q => decide (q - ps.getD i 0 < g)).length
def spE (ps : List Int) (g : Int) : List Int := (List.range ps.length).map fun i : Nat => (i : Int) + (nearC ps g i : Nat) - 1
theorem spE_len {ps : List Int} {g : Int} : (spE ps g).length = ps.length := by unfold spE; rw [List.length_map, List.length_range]
theorem spE_at {ps : List Int} {g : Int} {i : Nat} (h : i < ps.length) : (spE ps g)[i]? = some ((i : Int) + (nearC ps g i : Nat) - 1) := by
  unfold spE
  rw [List.getElem?_map, List.getElem?_range h]
  rfl
theorem near_iff {ps : List Int} {g : Int} (r : Rises ps) {i k : Nat} (hik : i ≤ k) (hk : k < ps.length) : (ps.getD k 0 - ps.getD i 0 < g) ↔ (k : Int) ≤ (i : Int) + (nearC ps g i : Nat) - 1 := by
  have q := filt_pre (p := fun q => decide (q - ps.getD i 0 < g)) (fun x y h z => by
    have := of_decide_eq_true z
    exact decide_eq_true (by omega)) (L := ps.drop i) (fun a b x y hab hx hy => r.mono (i := i + a) (j := i + b) (by omega) (by rw [← List.getElem?_drop]; exact hx) (by rw [← List.getElem?_drop]; exact hy)) (k - i) (ps.getD k 0) (by rw [List.getElem?_drop, show i + (k - i) = k by omega]; exact getD_get hk)
  rw [decide_eq_true_iff] at q
  rw [q]
  unfold nearC
  omega
theorem nearC_le {ps : List Int} {g : Int} {i : Nat} : nearC ps g i ≤ ps.length - i := by
  unfold nearC
  exact Nat.le_trans (List.length_filter_le _ _) (by rw [List.length_drop]; exact Nat.le_refl _)
theorem spE_ok {ps : List Int} {g : Int} (r : Rises ps) (hg : 1 ≤ g) : EndsOk ps.length (spE ps g) := by
  refine ⟨by rw [spE_len], fun i x hx => ?_⟩
  have hi : i < ps.length := by
    have := (List.getElem?_eq_some_iff.mp hx).1
    rw [spE_len] at this
    exact this
  rw [spE_at hi] at hx
  have ex := Option.some.inj hx
  have own := (near_iff (g := g) r (Nat.le_refl i) hi).mp (by omega)
  have le := nearC_le (ps := ps) (g := g) (i := i)
  refine ⟨by omega, by omega, fun y hy => ?_⟩
  have hi1 : i + 1 < ps.length := by
    have := (List.getElem?_eq_some_iff.mp hy).1
    rw [spE_len] at this
    exact this
  rw [spE_at hi1] at hy
  have ey := Option.some.inj hy
  have own1 := (near_iff (g := g) r (Nat.le_refl (i + 1)) hi1).mp (by omega)
  by_cases z : x ≤ ((i + 1 : Nat) : Int)
  · omega
  · obtain ⟨e, he⟩ : ∃ e : Nat, x = (e : Int) := ⟨x.toNat, by omega⟩
    have he1 : e < ps.length := by omega
    have a := (near_iff (g := g) r (i := i) (k := e) (by omega) he1).mpr (by omega)
    have m := r i _ _ (getD_get hi) (getD_get hi1)
    have b := (near_iff (g := g) r (i := i + 1) (k := e) (by omega) he1).mp (by omega)
    omega
theorem near_abs {ps : List Int} {g : Int} (r : Rises ps) {i k : Nat} (hi : i < ps.length) (hk : k < ps.length) : nearE (spE ps g) (i : Int) (k : Int) = decide (((ps.getD i 0 - ps.getD k 0).natAbs : Int) < g) := by
  unfold nearE mxI mnI
  by_cases h : (k : Int) > (i : Int)
  · rw [if_pos h, if_neg (by omega), Int.toNat_natCast, getD_at (spE_at hi)]
    have q := near_iff (g := g) r (i := i) (k := k) (by omega) hk
    have m := r.mono (i := i) (j := k) (by omega) (getD_get hi) (getD_get hk)
    have e : ((ps.getD i 0 - ps.getD k 0).natAbs : Int) = ps.getD k 0 - ps.getD i 0 := by omega
    rw [e]
    exact decide_eq_decide.mpr q.symm
  · rw [if_neg h]
    have q := near_iff (g := g) r (i := k) (k := i) (by omega) hi
    have m := r.mono (i := k) (j := i) (by omega) (getD_get hk) (getD_get hi)
    have e : ((ps.getD i 0 - ps.getD k 0).natAbs : Int) = ps.getD i 0 - ps.getD k 0 := by omega
    rw [e]
    by_cases h2 : (k : Int) < (i : Int)
    · rw [if_pos h2, Int.toNat_natCast, getD_at (spE_at hk)]
      exact decide_eq_decide.mpr q.symm
    · have : i = k := by omega
      subst this
      rw [if_neg h2, Int.toNat_natCast, getD_at (spE_at hi)]
      exact decide_eq_decide.mpr q.symm
end Brk
namespace Brk
open PySem PySem.Spec PyProof.Rows L2
def spRising (CN : Addr) : Sp := fun vs H Q E => ∃ (r : Addr) (ps : List Int), vs = [.ref r] ∧ SqIn H r ps ∧ ps.length ≤ 60 ∧ ((∀ j, j < ps.length → fallE ps j = false) → Q .non H) ∧ (∀ i, i < ps.length → fallE ps i = true → (∀ j, j < i → fallE ps j = false) → xNum CN (ps.getD i 0) H E)
def spSpaced (CB CT CN : Addr) : Sp := fun vs H Q E => ∃ (r : Addr) (ps : List Int) (g : Int), vs = [.ref r, .int g] ∧ SqIn H r ps ∧ ps.length ≤ 1000 ∧ (sDue ps g = .fine → ∀ (x : Addr) (H' : Hp), BandAt CB H' x (spE ps g) → Same H H' → Q (.ref x) H') ∧
  (sDue ps g = .many → xMany CT H E) ∧ (sDue ps g = .gap → xNum CN g H E) ∧ (∀ i, sDue ps g = .fall i → xNum CN (ps.getD i 0) H E)
end Brk
namespace Brk
open PySem PySem.Spec PyProof.Rows L2
theorem atV {ps : List Int} {i : Nat} {z : Int} (h : i < ps.length) (e : z = (i : Int)) : atI (iV ps) z = some (.int (ps.getD i 0)) := by
  subst e
  refine atI_nat ?_
  rw [List.getElem?_map, getD_get h]
  rfl
theorem cutFrom {es : List Int} {i : Nat} (h : i ≤ es.length) : cutV (iV es) (some ((i : Nat) : Int)) none = iV (es.drop i) := by
  have e : HT.sIx (iV es).length 0 (some ((i : Nat) : Int)) = min i (iV es).length := HT.sIx_nat _ _ i
  unfold cutV
  rw [e, HT.sIx_none, List.length_map, Nat.min_eq_left h]
  unfold iV
  rw [List.map_drop]
  refine List.take_of_length_le ?_
  rw [List.length_drop, List.length_map]
  exact Nat.le_refl _
end Brk
namespace Brk
open PySem PySem.Spec PyProof.Rows L2
theorem listFrom {K : PySem.W.Frag} {σ : L2.St} {H : Hp} {r : Addr} {ps : List Int} {i : Nat} {Q : VK} (hs : H r = some (.lst (iV ps))) (hi : i ≤ ps.length) (k : ∀ q Hq, Hq q = some (.lst (iV (ps.drop i))) → Same H Hq → Q (.ref q) Hq) :
    tNoPart σ H (fun u H3 => rSlL K (.ref r) (some ((i : Nat) : Int)) u H3 Q) :=
  ⟨r, _, rfl, SqL.of hs, fun p np => k p _ (upd_same.trans (congrArg (fun l => some (HO.lst l)) (cutFrom hi))) (Same.new np)⟩
theorem tupFrom {K : PySem.W.Frag} {σ : L2.St} {H : Hp} {r : Addr} {ps : List Int} {i : Nat} {Q : VK} (hs : H r = some (.tup (iV ps))) (hi : i ≤ ps.length) (k : ∀ q Hq, Hq q = some (.tup (iV (ps.drop i))) → Same H Hq → Q (.ref q) Hq) :
    tNoPart σ H (fun u H3 => rSlA K (.ref r) (some ((i : Nat) : Int)) u H3 Q) := by
  show rSlA K (.ref r) (some ((i : Nat) : Int)) none H Q
  refine ⟨r, _, rfl, SqT.of hs, fun w => k r H ?_ (Same.refl _), fun _ p np => k p _ (upd_same.trans (congrArg (fun l => some (HO.tup l)) (cutFrom hi))) (Same.new np)⟩
  have e : HT.sIx (iV ps).length 0 (some ((i : Nat) : Int)) = min i (iV ps).length := HT.sIx_nat _ _ i
  have z := w.1
  rw [e, List.length_map, Nat.min_eq_left hi] at z
  subst z
  exact hs
theorem filter_snoc {p : Int → Bool} {L : List Int} {j : Nat} {y : Int} (h : L[j]? = some y) : (L.take (j + 1)).filter p = if p y = true then (L.take j).filter p ++ [y] else (L.take j).filter p := by
  rw [← take_snoc h, List.filter_append]
  by_cases z : p y = true
  · rw [if_pos z, List.filter_cons_of_pos z]
    rfl
  · rw [if_neg z, List.filter_cons_of_neg z]
    simp
end Brk
namespace Brk
open PySem PySem.Spec PyProof.Rows L2
theorem Rises.snoc {ps : List Int} {z : Int} (r : Rises ps) (h : ∀ x, 0 < ps.length → ps[ps.length - 1]? = some x → x ≤ z) : Rises (ps ++ [z]) := by
  intro i x y hx hy
  have hl : i + 1 < ps.length + 1 := by
    have := (List.getElem?_eq_some_iff.mp hy).1
    rw [List.length_append] at this
    exact this
  rw [List.getElem?_append_left (by omega)] at hx
  by_cases z2 : i + 1 < ps.length
  · rw [List.getElem?_append_left z2] at hy
    exact r i x y hx hy
  · have e : i + 1 = ps.length := by omega
    rw [List.getElem?_append_right (by omega), e, Nat.sub_self] at hy
    have ey : z = y := by simpa using hy
    subst ey
    exact h x (by omega) (by rw [← e, Nat.add_sub_cancel]; exact hx)
theorem Rises.nil : Rises [] := fun i x y h => by simp at h
theorem Rises.take {ps : List Int} (r : Rises ps) (n : Nat) : Rises (ps.take n) := fun i x y hx hy => by
  rw [List.getElem?_take] at hx hy
  split at hx
  · split at hy
    · exact r i x y hx hy
    · cases hy
  · cases hx
def spPosL : Sp := fun vs H Q _ => ∃ (p c : Addr) (ns : List Int) (n : Int), vs = [.ref p, .int n] ∧ Pool ns c H p ∧ 0 ≤ n ∧ n ≤ 100 ∧
  ∀ (l : Addr) (ps : List Int) (H' : Hp), (ps.length : Int) = n → Rises ps → H' l = some (.lst (iV ps)) → H l = none → Pool ns c H' p → But p H H' → Q (.ref l) H'
def spDistL : Sp := fun vs H Q _ => ∃ (p c r : Addr) (ns ps : List Int), vs = [.ref p, .ref r] ∧ Pool ns c H p ∧ H r = some (.lst (iV ps)) ∧ r ≠ p ∧ ps.length ≤ 100 ∧ ∀ (g : Int) (H' : Hp), Pool ns c H' p → Off p H H' → Q (.int g) H'
def spDueS (K : PySem.W.Frag) : Sp := fun vs H Q _ => ∃ (r : Addr) (ps : List Int) (g : Int), vs = [.ref r, .int g] ∧ H r = some (.lst (iV ps)) ∧ ps.length ≤ 1000 ∧ ∀ (l : Addr) (H' : Hp), Dp K H' (.ref l) (sDueD ps g) → Same H H' → Q (.ref l) H'
def spMadeS (K : PySem.W.Frag) (CB : Addr) : Sp := fun vs H Q _ => ∃ (r : Addr) (ps : List Int) (g : Int), vs = [.ref r, .int g] ∧ SqIn H r ps ∧ ps.length ≤ 1000 ∧
  ∀ (l t : Addr) (bv : V) (H' : Hp), H' l = some (.lst [.ref t, bv]) → H t = none → Dp K H' (.ref t) (sDueD ps g) → (sDue ps g = .fine → ∃ b, bv = .ref b ∧ BandAt CB H' b (spE ps g)) → Same H H' → Q (.ref l) H'
def spLastL : Sp := fun vs H Q _ => ∃ (r : Addr) (ps : List Int) (g : Int), vs = [.ref r, .int g] ∧ H r = some (.lst (iV ps)) ∧ ps.length ≤ 60 ∧ Rises ps ∧ 1 ≤ g ∧ ∀ (t : Addr) (H' : Hp), H' t = some (.tup (iV (spE ps g))) → Same H H' → Q (.ref t) H'
def spSpacedL (CB : Addr) : Sp := fun vs H Q _ => ∃ (p c b r : Addr) (ns ps : List Int) (g : Int), vs = [.ref p, .ref b, .ref r, .int g] ∧ Pool ns c H p ∧ BandAt CB H b (spE ps g) ∧ H r = some (.lst (iV ps)) ∧ r ≠ p ∧ ps.length ≤ 60 ∧ Rises ps ∧ 1 ≤ g ∧ ∀ H', Pool ns c H' p → But p H H' → Q (.bl true) H'
end Brk
namespace Brk
open PySem PySem.Spec PyProof.Rows L2
theorem sdueD_many {ps : List Int} {g : Int} (h : sDue ps g = .many) : sDueD ps g = .list [.str "many", .str "things", .int 60, .bool true, .bool true, .bool false, .bool false, .bool false] := by unfold sDueD; rw [h]
theorem sdueD_gap {ps : List Int} {g : Int} (h : sDue ps g = .gap) : sDueD ps g = .list [.str "number", .int g, .bool true, .bool true, .bool false, .bool false, .bool false] := by unfold sDueD; rw [h]
theorem sdueD_fall {ps : List Int} {g : Int} {i : Nat} (h : sDue ps g = .fall i) : sDueD ps g = .list [.str "number", .int (ps.getD i 0), .bool true, .bool true, .bool false, .bool false, .bool false] := by unfold sDueD; rw [h]
theorem sdueD_fine {ps : List Int} {g : Int} (h : sDue ps g = .fine) : sDueD ps g = .list [] := by unfold sDueD; rw [h]
/-- the last thing near to i among the first j behind it -/
def lastAt (ps : List Int) (g : Int) (i j : Nat) : Int := if j = 0 then i else min ((i : Int) + (j : Nat) - 1) ((i : Int) + (nearC ps g i : Nat) - 1)
theorem lastAt_in {ps : List Int} {g : Int} {i j : Nat} (r : Rises ps) (h : i + j < ps.length) (q : ps.getD (i + j) 0 - ps.getD i 0 < g) : lastAt ps g i (j + 1) = ((i + j : Nat) : Int) := by
  have := (near_iff r (Nat.le_add_right i j) h).mp q
  unfold lastAt
  rw [if_neg (Nat.succ_ne_zero j)]
  omega
theorem lastAt_out {ps : List Int} {g : Int} {i j : Nat} (r : Rises ps) (hg : 1 ≤ g) (h : i + j < ps.length) (q : ¬ ps.getD (i + j) 0 - ps.getD i 0 < g) : lastAt ps g i (j + 1) = lastAt ps g i j := by
  have a := fun z => q ((near_iff r (Nat.le_add_right i j) h).mpr z)
  have j0 : j ≠ 0 := by
    rintro rfl
    rw [Nat.add_zero] at q
    omega
  unfold lastAt
  rw [if_neg (Nat.succ_ne_zero j), if_neg j0]
  have a' : ¬ (((i + j : Nat) : Int) ≤ (i : Int) + (nearC ps g i : Nat) - 1) := a
  omega
theorem lastAt_end {ps : List Int} {g : Int} {i : Nat} (h : i < ps.length) : lastAt ps g i (ps.length - i) = (i : Int) + (nearC ps g i : Nat) - 1 := by
  have := nearC_le (ps := ps) (g := g) (i := i)
  unfold lastAt
  rw [if_neg (by omega)]
  omega
end Brk
namespace Brk
open PySem PySem.Spec PyProof.Rows L2
theorem near_due {ps : List Int} {g : Int} (r : Rises ps) {i k : Nat} (hi : i < ps.length) (hk : k < ps.length) :
    decide ((if ps.getD i 0 - ps.getD k 0 < 0 then -(ps.getD i 0 - ps.getD k 0) else ps.getD i 0 - ps.getD k 0) < g) = nearE (spE ps g) (i : Int) (k : Int) := by
  rw [near_abs r hi hk]
  refine decide_eq_decide.mpr ?_
  split <;> omega
theorem near_sym {ps : List Int} {g : Int} (r : Rises ps) {i k : Nat} (hi : i < ps.length) (hk : k < ps.length) : nearE (spE ps g) (k : Int) (i : Int) = nearE (spE ps g) (i : Int) (k : Int) := by
  rw [near_abs r hi hk, near_abs r hk hi]
  refine decide_eq_decide.mpr ?_
  omega
theorem rgI_in {a b x : Int} (h : x ∈ rgI a b) : a ≤ x ∧ x < b := by
  unfold rgI at h
  obtain ⟨i, hi, rfl⟩ := List.mem_map.mp h
  have := List.mem_range.mp hi
  omega
end Brk
namespace Brk
open L2
theorem gset {i : Nat} {x y : V} {σ : L2.St} {H : Hp} {Q : L2.St → Hp → Prop} (e : x = y) (q : gName i y σ H Q) : gName i x σ H Q := e ▸ q
end Brk
namespace Brk
open PySem PySem.Spec PyProof.Rows L2
theorem free_of {H H' : Hp} {x : Addr} (s : Same H H') (n : H' x = none) : H x = none := by
  cases e : H x with
  | none => rfl
  | some o =>
    rw [s _ _ e] at n
    cases n
theorem sqL_off {K : PySem.W.Frag} {H H' : Hp} {a p : Addr} {xs : List V} (h : SqL K H a xs) (o : Off p H H') (n : a ≠ p) : SqL K H' a xs := by
  rcases h with (h | ⟨w, h⟩) | h
  · exact .inl (.inl ((o a n).trans h))
  · exact .inl (.inr ⟨w, (o a n).trans h⟩)
  · exact .inr h
theorem dp_nil_off {K : PySem.W.Frag} {H H' : Hp} {a p : Addr} (h : Dp K H (.ref a) (.list [])) (o : Off p H H') (n : a ≠ p) : Dp K H' (.ref a) (.list []) := by
  cases h with
  | lst h r =>
    cases r
    exact .lst (sqL_off h o n) .nil
end Brk

set_option Elab.async false
set_option linter.all false
set_option maxRecDepth 100000
set_option maxHeartbeats 4000000
/-! Covers: lists of tuples of two numbers. -/
namespace Brk
open PySem PySem.Spec PyProof.Rows L2
/-- v is a tuple of the two numbers g -/
def GIs (H : Hp) (v : V) (g : Int × Int) : Prop := ∃ a, v = .ref a ∧ H a = some (.tup [.int g.1, .int g.2])
def Grp (H : Hp) (vs : List V) (gs : List (Int × Int)) : Prop := vs.length = gs.length ∧ ∀ (i : Nat) (v : V) (g : Int × Int), vs[i]? = some v → gs[i]? = some g → GIs H v g
theorem GIs.same {H H' : Hp} {v : V} {g : Int × Int} (h : GIs H v g) (s : Same H H') : GIs H' v g := by
  obtain ⟨a, e, q⟩ := h
  exact ⟨a, e, s _ _ q⟩
theorem GIs.but {H H' : Hp} {v : V} {g : Int × Int} {p : Addr} {xs : List V} (h : GIs H v g) (b : But p H H') (hp : H p = some (.lst xs)) : GIs H' v g := by
  obtain ⟨a, e, q⟩ := h
  refine ⟨a, e, b _ _ q ?_⟩
  rintro rfl
  rw [hp] at q
  cases q
theorem Grp.same {H H' : Hp} {vs : List V} {gs : List (Int × Int)} (h : Grp H vs gs) (s : Same H H') : Grp H' vs gs := ⟨h.1, fun i v g a b => (h.2 i v g a b).same s⟩
theorem Grp.but {H H' : Hp} {vs : List V} {gs : List (Int × Int)} {p : Addr} {xs : List V} (h : Grp H vs gs) (b : But p H H') (hp : H p = some (.lst xs)) : Grp H' vs gs := ⟨h.1, fun i v g a c => (h.2 i v g a c).but b hp⟩
theorem Grp.nil {H : Hp} : Grp H [] [] := ⟨rfl, fun i v g h => by simp at h⟩
theorem Grp.one {H : Hp} {v : V} {g : Int × Int} (h : GIs H v g) : Grp H [v] [g] := ⟨rfl, fun i x y hx hy => by
  cases i with
  | zero =>
    have e1 : v = x := by simpa using hx
    have e2 : g = y := by simpa using hy
    subst e1 e2
    exact h
  | succ i => simp at hx⟩
theorem Grp.app {H : Hp} {vs ws : List V} {gs hs : List (Int × Int)} (a : Grp H vs gs) (b : Grp H ws hs) : Grp H (vs ++ ws) (gs ++ hs) := by
  refine ⟨by rw [List.length_append, List.length_append, a.1, b.1], fun i v g hv hg => ?_⟩
  by_cases h : i < vs.length
  · rw [List.getElem?_append_left h] at hv
    rw [List.getElem?_append_left (by rw [← a.1]; exact h)] at hg
    exact a.2 i v g hv hg
  · rw [List.getElem?_append_right (by omega)] at hv
    rw [List.getElem?_append_right (by rw [← a.1]; omega), ← a.1] at hg
    exact b.2 _ v g hv hg
theorem Grp.take {H : Hp} {vs : List V} {gs : List (Int × Int)} (a : Grp H vs gs) (n : Nat) : Grp H (vs.take n) (gs.take n) := by
  refine ⟨by rw [List.length_take, List.length_take, a.1], fun i v g hv hg => ?_⟩
  rw [List.getElem?_take] at hv hg
  split at hv
  · rename_i h
    rw [if_pos h] at hg
    exact a.2 i v g hv hg
  · cases hv
theorem Grp.drop {H : Hp} {vs : List V} {gs : List (Int × Int)} (a : Grp H vs gs) (n : Nat) : Grp H (vs.drop n) (gs.drop n) := by
  refine ⟨by rw [List.length_drop, List.length_drop, a.1], fun i v g hv hg => ?_⟩
  rw [List.getElem?_drop] at hv hg
  exact a.2 _ v g hv hg
theorem Grp.set {H : Hp} {vs : List V} {gs : List (Int × Int)} {v : V} {g : Int × Int} (a : Grp H vs gs) (h : GIs H v g) (n : Nat) : Grp H (vs.set n v) (gs.set n g) := by
  refine ⟨by rw [List.length_set, List.length_set, a.1], fun i x y hx hy => ?_⟩
  by_cases z : n = i
  · subst z
    rw [List.getElem?_set_self'] at hx hy
    cases e : vs[n]? with
    | none => rw [e] at hx; cases hx
    | some w =>
      cases e2 : gs[n]? with
      | none => rw [e2] at hy; cases hy
      | some w2 =>
        rw [e] at hx
        rw [e2] at hy
        have q1 : v = x := by simpa using hx
        have q2 : g = y := by simpa using hy
        subst q1 q2
        exact h
  · rw [List.getElem?_set_ne z] at hx hy
    exact a.2 i x y hx hy
/-- the item at i -/
theorem Grp.at_ {H : Hp} {vs : List V} {gs : List (Int × Int)} {i : Nat} (h : Grp H vs gs) (hi : i < gs.length) : ∃ a, vs[i]? = some (.ref a) ∧ H a = some (.tup [.int (gs.getD i (0, 0)).1, .int (gs.getD i (0, 0)).2]) := by
  have hv : i < vs.length := by rw [h.1]; exact hi
  have eg : gs[i]? = some (gs.getD i (0, 0)) := by
    rw [List.getD_eq_getElem?_getD, List.getElem?_eq_getElem hi]
    rfl
  obtain ⟨a, e, q⟩ := h.2 i _ _ (List.getElem?_eq_getElem hv) eg
  exact ⟨a, by rw [List.getElem?_eq_getElem hv, e], q⟩
theorem Grp.of_at {H : Hp} {vs : List V} {gs : List (Int × Int)} {i : Nat} {v : V} (h : Grp H vs gs) (hv : vs[i]? = some v) : ∃ a, v = .ref a ∧ i < gs.length ∧ H a = some (.tup [.int (gs.getD i (0, 0)).1, .int (gs.getD i (0, 0)).2]) := by
  have hi : i < gs.length := by
    rw [← h.1]
    exact (List.getElem?_eq_some_iff.mp hv).1
  obtain ⟨a, e, q⟩ := h.at_ hi
  rw [hv] at e
  exact ⟨a, Option.some.inj e, hi, q⟩
def gD (gs : List (Int × Int)) : List PyData := gs.map fun g => .tuple [.int g.1, .int g.2]
theorem Grp.dp {K : PySem.W.Frag} {H : Hp} : ∀ {vs : List V} {gs : List (Int × Int)}, Grp H vs gs → DpAll K H vs (gD gs)
  | [], [], _ => .nil
  | [], _ :: _, h => by have := h.1; simp at this
  | _ :: _, [], h => by have := h.1; simp at this
  | v :: vs, g :: gs, h => by
    obtain ⟨a, e, q⟩ := h.2 0 v g rfl rfl
    subst e
    exact .cons (.tup (SqT.of q) (.cons (.int _) (.cons (.int _) .nil))) (Grp.dp ⟨by have := h.1; simpa using this, fun i x y hx hy => h.2 (i + 1) x y (by simpa using hx) (by simpa using hy)⟩)
theorem okGD {gs : List (Int × Int)} : ∀ d ∈ gD gs, okD 1 d = true := by
  intro d hd
  obtain ⟨g, _, rfl⟩ := List.mem_map.mp hd
  rfl

/-! ### covers -/
def stG (gs : List (Int × Int)) (k : Nat) : Int := if k = 0 then 0 else (gs.getD (k - 1) (0, 0)).2 + 1
theorem stG_succ {gs : List (Int × Int)} {k : Nat} : stG gs (k + 1) = (gs.getD k (0, 0)).2 + 1 := by
  unfold stG
  rw [if_neg (Nat.succ_ne_zero k), Nat.add_sub_cancel]
def okG (es : List Int) (gs : List (Int × Int)) (k : Nat) : Bool :=
  decide ((gs.getD k (0, 0)).1 = stG gs k) && (decide ((gs.getD k (0, 0)).1 ≤ (gs.getD k (0, 0)).2) && (decide ((gs.getD k (0, 0)).2 < es.length) && decide ((gs.getD k (0, 0)).2 ≤ es.getD (gs.getD k (0, 0)).1.toNat 0)))
def covB (es : List Int) (gs : List (Int × Int)) : Bool := (List.range gs.length).all (okG es gs) && decide (stG gs gs.length = es.length)
theorem covB_no {es : List Int} {gs : List (Int × Int)} {k : Nat} (hk : k < gs.length) (h : okG es gs k = false) : covB es gs = false := by
  unfold covB
  rw [List.all_eq_false.mpr ⟨k, List.mem_range.mpr hk, by rw [h]; exact Bool.false_ne_true⟩]
  rfl
theorem covB_end {es : List Int} {gs : List (Int × Int)} (h : ∀ k, k < gs.length → okG es gs k = true) : covB es gs = decide (stG gs gs.length = es.length) := by
  unfold covB
  rw [List.all_eq_true.mpr fun k hk => h k (List.mem_range.mp hk)]
  rfl
theorem okG_parts {es : List Int} {gs : List (Int × Int)} {k : Nat} (h : okG es gs k = true) : (gs.getD k (0, 0)).1 = stG gs k ∧ (gs.getD k (0, 0)).1 ≤ (gs.getD k (0, 0)).2 ∧ (gs.getD k (0, 0)).2 < es.length ∧ (gs.getD k (0, 0)).2 ≤ es.getD (gs.getD k (0, 0)).1.toNat 0 := by
  unfold okG at h
  simp only [Bool.and_eq_true, decide_eq_true_eq] at h
  exact h
theorem stG_pos {es : List Int} {gs : List (Int × Int)} {k : Nat} (h : ∀ j, j < k → okG es gs j = true) : 0 ≤ stG gs k := by
  induction k with
  | zero => exact Int.le_refl _
  | succ k ih =>
    have q := ih fun j hj => h j (by omega)
    obtain ⟨a, b, _⟩ := okG_parts (h k (by omega))
    rw [stG_succ]
    omega
def mn2 (m x : Int) : Int := if x < m then x else m
def totG (m : Int) (gs : List (Int × Int)) : Nat → Int
  | 0 => 0
  | k + 1 => totG m gs k + mn2 m ((gs.getD k (0, 0)).2 - (gs.getD k (0, 0)).1 + 1)
theorem totG_pos {es : List Int} {gs : List (Int × Int)} {m : Int} (hm : 0 ≤ m) : ∀ k, (∀ j, j < k → okG es gs j = true) → 0 ≤ totG m gs k
  | 0, _ => Int.le_refl _
  | k + 1, h => by
    have q := totG_pos (es := es) hm k fun j hj => h j (by omega)
    obtain ⟨_, b, _⟩ := okG_parts (h k (by omega))
    have : 0 ≤ mn2 m ((gs.getD k (0, 0)).2 - (gs.getD k (0, 0)).1 + 1) := by unfold mn2; split <;> omega
    show 0 ≤ totG m gs k + _
    omega
theorem covB_all {es : List Int} {gs : List (Int × Int)} (h : covB es gs = true) : ∀ k, k < gs.length → okG es gs k = true := by
  unfold covB at h
  rw [Bool.and_eq_true] at h
  intro k hk
  exact List.all_eq_true.mp h.1 k (List.mem_range.mpr hk)
theorem sum_tot {m : Int} {gs : List (Int × Int)} : ∀ k, ((List.range k).map fun j => mn2 m ((gs.getD j (0, 0)).2 - (gs.getD j (0, 0)).1 + 1)).sum = totG m gs k
  | 0 => rfl
  | k + 1 => by
    rw [List.range_succ, List.map_append, List.sum_append, sum_tot k]
    show totG m gs k + (_ + 0) = totG m gs k + _
    rw [Int.add_zero]
/-- a list or a tuple of such tuples -/
def GSq (H : Hp) (r : Addr) (vs : List V) : Prop := H r = some (.lst vs) ∨ H r = some (.tup vs)
def spIsCov (CB : Addr) : Sp := fun vs H Q _ => ∃ (b r : Addr) (es : List Int) (ws : List V) (gs : List (Int × Int)), vs = [.ref b, .ref r] ∧ BandAt CB H b es ∧ es.length ≤ 100 ∧ GSq H r ws ∧ Grp H ws gs ∧ Q (.bl (covB es gs)) H
def covV (m : Int) (es : List Int) (gs : List (Int × Int)) : V := if covB es gs = true then .int (totG m gs gs.length) else .non
def spCovBound (CB CN : Addr) : Sp := fun vs H Q E => ∃ (b r : Addr) (m : Int) (es : List Int) (ws : List V) (gs : List (Int × Int)), vs = [.ref b, .int m, .ref r] ∧ BandAt CB H b es ∧ es.length ≤ 100 ∧ GSq H r ws ∧ Grp H ws gs ∧ gs.length ≤ 1000 ∧
  (0 ≤ m ∧ m ≤ 60 → ∀ H', Same H H' → Q (covV m es gs) H') ∧ (¬ (0 ≤ m ∧ m ≤ 60) → xNum CN m H E)
def spBoundL : Sp := fun vs H Q _ => ∃ (el l : Addr) (m : Int) (es : List Int) (ws : List V) (gs : List (Int × Int)), vs = [.ref el, .int m, .ref l] ∧ H el = some (.lst (iV es)) ∧ H l = some (.lst ws) ∧ Grp H ws gs ∧ Q (.int (if covB es gs = true then totG m gs gs.length else -1)) H
end Brk
namespace Brk
open PySem PySem.Spec PyProof.Rows L2
theorem cutTo {ws : List V} {n : Nat} : cutV ws none (some ((n : Nat) : Int)) = ws.take n := by
  have e : HT.sIx ws.length ws.length (some ((n : Nat) : Int)) = min n ws.length := HT.sIx_nat _ _ n
  unfold cutV
  rw [e, HT.sIx_none, Nat.sub_zero, List.drop_zero]
  by_cases h : n ≤ ws.length
  · rw [Nat.min_eq_left h]
  · rw [Nat.min_eq_right (by omega), List.take_of_length_le (Nat.le_refl _), List.take_of_length_le (by omega)]
theorem cutFr {ws : List V} {n : Nat} : cutV ws (some ((n : Nat) : Int)) none = ws.drop n := by
  have e : HT.sIx ws.length 0 (some ((n : Nat) : Int)) = min n ws.length := HT.sIx_nat _ _ n
  unfold cutV
  rw [e, HT.sIx_none]
  by_cases h : n ≤ ws.length
  · rw [Nat.min_eq_left h]
    exact List.take_of_length_le (by rw [List.length_drop]; exact Nat.le_refl _)
  · rw [Nat.min_eq_right (by omega), List.drop_eq_nil_of_le (Nat.le_refl _), List.drop_eq_nil_of_le (by omega), List.take_nil]
/-- a list of groups at l -/
def GLs (H : Hp) (l : Addr) (gs : List (Int × Int)) : Prop := ∃ ws, H l = some (.lst ws) ∧ Grp H ws gs
theorem GLs.same {H H' : Hp} {l : Addr} {gs : List (Int × Int)} (h : GLs H l gs) (s : Same H H') : GLs H' l gs := by
  obtain ⟨ws, e, q⟩ := h
  exact ⟨ws, s _ _ e, q.same s⟩
theorem GLs.but {H H' : Hp} {l : Addr} {gs : List (Int × Int)} {p : Addr} {xs : List V} (h : GLs H l gs) (b : But p H H') (hp : H p = some (.lst xs)) (n : l ≠ p) : GLs H' l gs := by
  obtain ⟨ws, e, q⟩ := h
  exact ⟨ws, b _ _ e n, q.but b hp⟩
def Tame (gs : List (Int × Int)) : Prop := ∀ g ∈ gs, g.1 ≤ g.2 ∧ g.2 ≤ g.1 + 100
def spCuts : Sp := fun vs H Q _ => ∃ (p c el : Addr) (ns es : List Int) (n : Int), vs = [.ref p, .ref el] ∧ Pool ns c H p ∧ H el = some (.lst (iV es)) ∧ el ≠ p ∧ EndsOk n es ∧ n ≤ 100 ∧
  ∀ (l : Addr) (gs : List (Int × Int)) (H' : Hp), GLs H' l gs → Tame gs → gs.length ≤ 100 → H l = none → Pool ns c H' p → But p H H' → Q (.ref l) H'
def spOneCh : Sp := fun vs H Q _ => ∃ (p c a : Addr) (ns : List Int) (n : Int) (g : Int × Int), vs = [.ref p, .int n, .ref a] ∧ Pool ns c H p ∧ H a = some (.tup [.int g.1, .int g.2]) ∧ a ≠ p ∧
  ∀ (v : V) (g' : Int × Int) (H' : Hp), GIs H' v g' → Pool ns c H' p → But p H H' → Q v H'
def spChanged : Sp := fun vs H Q _ => ∃ (p c l : Addr) (ns : List Int) (n : Int) (gs : List (Int × Int)), vs = [.ref p, .int n, .ref l] ∧ Pool ns c H p ∧ GLs H l gs ∧ l ≠ p ∧ Tame gs ∧ gs.length ≤ 100 ∧
  ∀ (l' : Addr) (gs' : List (Int × Int)) (H' : Hp), GLs H' l' gs' → gs'.length ≤ 300 → H l' = none → Pool ns c H' p → But p H H' → Q (.ref l') H'
def spFreeG : Sp := fun vs H Q _ => ∃ (p c : Addr) (ns : List Int) (n : Int), vs = [.ref p, .int n] ∧ Pool ns c H p ∧ 0 ≤ n ∧ n ≤ 100 ∧
  ∀ (l : Addr) (gs : List (Int × Int)) (H' : Hp), GLs H' l gs → gs.length ≤ 300 → H l = none → Pool ns c H' p → But p H H' → Q (.ref l) H'
def bdD (m : Int) (es : List Int) (gs : List (Int × Int)) : PyData := if 0 ≤ m ∧ m ≤ 60 then .list [.list [], if covB es gs = true then .int (totG m gs gs.length) else .none] else .list [.list [.int m, .bool true, .bool true, .bool false, .bool false, .bool false], .none]
theorem okBD {m : Int} {es : List Int} {gs : List (Int × Int)} : okD 2 (bdD m es gs) = true := by
  unfold bdD
  split
  · split <;> rfl
  · rfl
def spBdd (K : PySem.W.Frag) (CB : Addr) : Sp := fun vs H Q _ => ∃ (b r : Addr) (m : Int) (es : List Int) (ws : List V) (gs : List (Int × Int)), vs = [.ref b, .int m, .ref r] ∧ BandAt CB H b es ∧ es.length ≤ 100 ∧ GSq H r ws ∧ Grp H ws gs ∧ gs.length ≤ 1000 ∧ ∀ (l : Addr) (H' : Hp), Dp K H' (.ref l) (bdD m es gs) → Same H H' → Q (.ref l) H'
def spKeptV (CB : Addr) : Sp := fun vs H Q _ => ∃ (b el l : Addr) (m : Int) (es : List Int) (gs : List (Int × Int)), vs = [.ref b, .ref el, .int m, .ref l] ∧ BandAt CB H b es ∧ H el = some (.lst (iV es)) ∧ es.length ≤ 100 ∧ GLs H l gs ∧ gs.length ≤ 1000 ∧ ∀ H', Same H H' → Q (.bl true) H'
end Brk
namespace Brk
open PySem PySem.Spec PyProof.Rows L2
theorem cutToZ {ws : List V} {n : Nat} {z : Int} (h : z = (n : Int)) : cutV ws none (some z) = ws.take n := by rw [h, cutTo]
theorem cutFrZ {ws : List V} {n : Nat} {z : Int} (h : z = (n : Int)) : cutV ws (some z) none = ws.drop n := by rw [h, cutFr]
theorem atG {H : Hp} {vs : List V} {gs : List (Int × Int)} {i : Nat} {z : Int} (h : Grp H vs gs) (hi : i < gs.length) (e : z = (i : Int)) : ∃ a, atI vs z = some (.ref a) ∧ H a = some (.tup [.int (gs.getD i (0, 0)).1, .int (gs.getD i (0, 0)).2]) := by
  obtain ⟨a, e1, e2⟩ := h.at_ hi
  exact ⟨a, by rw [e]; exact atI_nat e1, e2⟩
theorem tame_at {gs : List (Int × Int)} {i : Nat} (h : Tame gs) (hi : i < gs.length) : (gs.getD i (0, 0)).1 ≤ (gs.getD i (0, 0)).2 ∧ (gs.getD i (0, 0)).2 ≤ (gs.getD i (0, 0)).1 + 100 := by
  refine h _ ?_
  rw [List.getD_eq_getElem?_getD, List.getElem?_eq_getElem hi]
  exact List.getElem_mem hi
end Brk

set_option Elab.async false
set_option linter.all false
set_option maxRecDepth 100000
set_option maxHeartbeats 4000000
/-! Own rule: xs[::-1] of a list. -/
namespace Brk
open PySem PySem.Spec PyProof.Rows L2
section
variable {X : Cx} {e st : Expr} {te : TE} {ts : TO} {pos p2 : Pos}
theorem vals_rev {vs : List V} {us : List Value} (h : Vals vs us) : Vals vs.reverse us.reverse := by
  induction h with
  | nil => exact .nil
  | cons r rr ih =>
    rw [List.reverse_cons, List.reverse_cons]
    exact ih.append (.cons r .nil)
theorem pe_rev (he : PE X e te) (hs : PO X (some st) ts) (hops : ∀ (a sl : Addr), ∃ ops, subscripted (.Slice none none (some st) p2) false (.ref a) (.ref sl) = operate ops (getItem (.ref a) (.ref sl)) := by intro _ _; exact ⟨_, rfl⟩) :
    PE X (.Subscript e (.Slice none none (some st) p2) pos) (fun σ H Q => te σ H fun x H1 => ts σ H1 fun c H2 => c = some (-1) ∧ ∃ a xs, x = .ref a ∧ SqL X.K H2 a xs ∧ ∀ p, H2 p = none → Q (.ref p) (L2.upd H2 p (.lst xs.reverse))) := by
  refine ⟨fun pins s σ H Q I h => ?_⟩
  refine Subscript_ (thn (he.run pins s σ H _ I h) fun v s1 ⟨x, H1, I1, r1, q1⟩ => ?_)
  refine wpAny_Slice ?_
  rw [evalPart_none]
  refine wpAny_pure ?_
  refine wpAny_pure ?_
  refine thn (hs.run pins s1 σ H1 _ I1 q1) fun vk s3 ⟨c, H3, I3, pk, q3⟩ => ?_
  obtain ⟨ec, a, xs, ex, hx, q⟩ := q3
  subst ec ex
  obtain rfl : v = Value.ref a := r1
  have I4 : Inv X pins σ H3 { s3 with heap := s3.heap.push { cls := .type "slice", data := .fields #[.none, .none, vk] } } := I3.kept (t' := s3.toks) fun b ob q => Heap.get?_push_of_some _ q
  obtain ⟨its, r, ht, hz⟩ := I4.list hx
  have hlen := r.length
  obtain ⟨ops, hop⟩ := hops a s3.heap.objs.size
  refine tail_any (ops := ops) ht.isList.typeIs slot_list_getitem.lookup ?_ hop
  refine wpAny_getItem_list_slice ht.isList (Heap.IsSliceOf.new ..) .none .none pk (by decide) ?_ (by rw [List.size_toArray] <;> omega)
  rw [PySem.W.krv_pick]
  refine ⟨.ref (s3.heap.push { cls := .type "slice", data := .fields #[.none, .none, vk] }).objs.size, _, I4.laid (t' := s3.toks) (o := .lst xs.reverse) (fun b ob q => Heap.get?_push_of_some _ q) (Nat.le_refl _) ?_, rfl, q _ (I4.hok.fresh (Nat.le_refl _))⟩
  exact ⟨by rw [List.length_reverse]; exact hz, _, 0, vals_rev r, Heap.get?_push_size _ rfl⟩
end
end Brk

set_option Elab.async false
set_option linter.all false
set_option maxRecDepth 100000
set_option maxHeartbeats 4000000
/-! Own words: a value of the program as a tree, in a part M of the heap that stands still. -/
namespace Brk
open PySem L2
inductive Tr where
  | non
  | bl (b : Bool)
  | int (i : Int)
  | str (s : Str)
  | lst (ts : List Tr)
  | tup (ts : List Tr)
  | ins (C : Addr) (fs : List (Str × Tr))
mutual
inductive Rp (K : PySem.W.Frag) (M : Hp) : V → Tr → Prop
  | non : Rp K M .non .non
  | bl (b : Bool) : Rp K M (.bl b) (.bl b)
  | int (i : Int) : Rp K M (.int i) (.int i)
  | str (x : Str) : Rp K M (.str x) (.str x)
  | lst {a : Addr} {xs : List V} {ts : List Tr} : M a = some (.lst xs) → RpAll K M xs ts → Rp K M (.ref a) (.lst ts)
  | tup {a : Addr} {xs : List V} {ts : List Tr} : SqT K M a xs → RpAll K M xs ts → Rp K M (.ref a) (.tup ts)
  | ins {a C dx : Addr} {fs : List (Str × V)} {gs : List (Str × Tr)} : M a = some (.ins C dx fs) → RpFs K M fs gs → Rp K M (.ref a) (.ins C gs)
inductive RpAll (K : PySem.W.Frag) (M : Hp) : List V → List Tr → Prop
  | nil : RpAll K M [] []
  | cons {v : V} {vs : List V} {t : Tr} {ts : List Tr} : Rp K M v t → RpAll K M vs ts → RpAll K M (v :: vs) (t :: ts)
inductive RpFs (K : PySem.W.Frag) (M : Hp) : List (Str × V) → List (Str × Tr) → Prop
  | nil : RpFs K M [] []
  | cons {f : Str} {v : V} {vs : List (Str × V)} {t : Tr} {ts : List (Str × Tr)} : Rp K M v t → RpFs K M vs ts → RpFs K M ((f, v) :: vs) ((f, t) :: ts)
end
mutual
theorem Rp.same {K : PySem.W.Frag} {H H' : Hp} (s : Same H H') : ∀ {v : V} {t : Tr}, Rp K H v t → Rp K H' v t
  | _, _, .non => .non
  | _, _, .bl b => .bl b
  | _, _, .int i => .int i
  | _, _, .str x => .str x
  | _, _, .lst h r => .lst (s _ _ h) (RpAll.same s r)
  | _, _, .tup h r => .tup (sqT_same h s) (RpAll.same s r)
  | _, _, .ins h r => .ins (s _ _ h) (RpFs.same s r)
theorem RpAll.same {K : PySem.W.Frag} {H H' : Hp} (s : Same H H') : ∀ {vs : List V} {ts : List Tr}, RpAll K H vs ts → RpAll K H' vs ts
  | _, _, .nil => .nil
  | _, _, .cons a r => .cons (Rp.same s a) (RpAll.same s r)
theorem RpFs.same {K : PySem.W.Frag} {H H' : Hp} (s : Same H H') : ∀ {vs : List (Str × V)} {ts : List (Str × Tr)}, RpFs K H vs ts → RpFs K H' vs ts
  | _, _, .nil => .nil
  | _, _, .cons a r => .cons (Rp.same s a) (RpFs.same s r)
end
section
variable {K : PySem.W.Frag} {M : Hp}
theorem RpAll.len : ∀ {vs : List V} {ts : List Tr}, RpAll K M vs ts → vs.length = ts.length
  | _, _, .nil => rfl
  | _, _, .cons _ r => congrArg Nat.succ r.len
theorem RpAll.at_ : ∀ {vs : List V} {ts : List Tr} {i : Nat} {t : Tr}, RpAll K M vs ts → ts[i]? = some t → ∃ v, vs[i]? = some v ∧ Rp K M v t
  | _, _, _, _, .nil, h => by simp at h
  | _, _, 0, _, .cons a _, h => by
    simp at h
    subst h
    exact ⟨_, rfl, a⟩
  | _, _, i + 1, _, .cons _ r, h => by
    obtain ⟨v, e, q⟩ := r.at_ (i := i) (by simpa using h)
    exact ⟨v, by simpa using e, q⟩
theorem RpAll.of_at : ∀ {vs : List V} {ts : List Tr} {i : Nat} {v : V}, RpAll K M vs ts → vs[i]? = some v → ∃ t, ts[i]? = some t ∧ Rp K M v t
  | _, _, _, _, .nil, h => by simp at h
  | _, _, 0, _, .cons a _, h => by
    simp at h
    subst h
    exact ⟨_, rfl, a⟩
  | _, _, i + 1, _, .cons _ r, h => by
    obtain ⟨v, e, q⟩ := r.of_at (i := i) (by simpa using h)
    exact ⟨v, by simpa using e, q⟩
theorem RpAll.append : ∀ {vs us : List V} {ts ss : List Tr}, RpAll K M vs ts → RpAll K M us ss → RpAll K M (vs ++ us) (ts ++ ss)
  | _, _, _, _, .nil, r => r
  | _, _, _, _, .cons a q, r => .cons a (q.append r)
theorem RpAll.snoc {vs : List V} {ts : List Tr} {v : V} {t : Tr} (h : RpAll K M vs ts) (r : Rp K M v t) : RpAll K M (vs ++ [v]) (ts ++ [t]) := h.append (.cons r .nil)
theorem RpAll.drop : ∀ {vs : List V} {ts : List Tr} (n : Nat), RpAll K M vs ts → RpAll K M (vs.drop n) (ts.drop n)
  | _, _, 0, r => r
  | _, _, _ + 1, .nil => .nil
  | _, _, n + 1, .cons _ r => r.drop n
theorem RpAll.take : ∀ {vs : List V} {ts : List Tr} (n : Nat), RpAll K M vs ts → RpAll K M (vs.take n) (ts.take n)
  | _, _, 0, r => by simp; exact .nil
  | _, _, _ + 1, .nil => .nil
  | _, _, n + 1, .cons a r => .cons a (r.take n)
theorem RpAll.reverse : ∀ {vs : List V} {ts : List Tr}, RpAll K M vs ts → RpAll K M vs.reverse ts.reverse
  | _, _, .nil => .nil
  | _, _, .cons a r => by
    rw [List.reverse_cons, List.reverse_cons]
    exact r.reverse.snoc a
theorem RpFs.look : ∀ {fs : List (Str × V)} {gs : List (Str × Tr)} {f : Str} {t : Tr}, RpFs K M fs gs → gs.lookup f = some t → ∃ v, fs.lookup f = some v ∧ Rp K M v t
  | _, _, _, _, .nil, h => by simp at h
  | _, _, f, _, .cons (f := g) a r, h => by
    rw [List.lookup_cons] at h ⊢
    cases e : f == g with
    | true =>
      rw [e] at h
      simp at h
      subst h
      exact ⟨_, rfl, a⟩
    | false =>
      rw [e] at h
      exact r.look h
theorem RpFs.none : ∀ {fs : List (Str × V)} {gs : List (Str × Tr)} {f : Str}, RpFs K M fs gs → gs.lookup f = none → fs.lookup f = none
  | _, _, _, .nil, _ => rfl
  | _, _, f, .cons (f := g) a r, h => by
    rw [List.lookup_cons] at h ⊢
    cases e : f == g with
    | true =>
      rw [e] at h
      simp at h
    | false =>
      rw [e] at h
      exact r.none h
theorem RpFs.len : ∀ {fs : List (Str × V)} {gs : List (Str × Tr)}, RpFs K M fs gs → fs.length = gs.length
  | _, _, .nil => rfl
  | _, _, .cons _ r => congrArg Nat.succ r.len
theorem RpAll.atI {vs : List V} {ts : List Tr} {i : Int} {t : Tr} (h : RpAll K M vs ts) (e : L2.atI ts i = some t) : ∃ v, L2.atI vs i = some v ∧ Rp K M v t := by
  unfold L2.atI at e ⊢
  rw [h.len]
  cases c : ixN ts.length i with
  | none => rw [c] at e; simp at e
  | some j =>
    rw [c] at e
    exact h.at_ e
/-! ints, texts as trees -/
abbrev iT (es : List Int) : List Tr := es.map Tr.int
abbrev sT (es : List Str) : List Tr := es.map Tr.str
theorem rpInts : ∀ {es : List Int}, RpAll K M (iV es) (iT es)
  | [] => .nil
  | _ :: _ => .cons (.int _) rpInts
theorem rpStrs : ∀ {es : List Str}, RpAll K M (es.map V.str) (sT es)
  | [] => .nil
  | _ :: _ => .cons (.str _) rpStrs
theorem RpAll.ints : ∀ {vs : List V} {es : List Int}, RpAll K M vs (iT es) → vs = iV es
  | _, [], .nil => rfl
  | _, _ :: _, .cons (.int _) r => by rw [r.ints]; rfl
theorem RpAll.strs : ∀ {vs : List V} {es : List Str}, RpAll K M vs (sT es) → vs = es.map V.str
  | _, [], .nil => rfl
  | _, _ :: _, .cons (.str _) r => by rw [r.strs]; rfl
theorem RpAll.bls : ∀ {vs : List V} {es : List Bool}, RpAll K M vs (es.map Tr.bl) → vs = es.map V.bl
  | _, [], .nil => rfl
  | _, _ :: _, .cons (.bl _) r => by rw [r.bls]; rfl
end
/-! trees without objects: data -/
mutual
def toD : Tr → PyData
  | .non => .none
  | .bl b => .bool b
  | .int i => .int i
  | .str s => .str s
  | .lst ts => .list (toDs ts)
  | .tup ts => .tuple (toDs ts)
  | .ins _ _ => .none
def toDs : List Tr → List PyData
  | [] => []
  | t :: ts => toD t :: toDs ts
end
mutual
def okT : Nat → Tr → Bool
  | _, .non => true
  | _, .bl _ => true
  | _, .int _ => true
  | _, .str _ => true
  | n + 1, .lst ts => decide (ts.length ≤ 1000000) && okTs n ts
  | n + 1, .tup ts => decide (ts.length ≤ 1000000) && okTs n ts
  | 0, .lst _ => false
  | 0, .tup _ => false
  | _, .ins _ _ => false
def okTs : Nat → List Tr → Bool
  | _, [] => true
  | n, t :: ts => okT n t && okTs n ts
end
theorem okTs_all {n : Nat} : ∀ {ts : List Tr}, okTs n ts = true ↔ ∀ t ∈ ts, okT n t = true
  | [] => by simp [okTs]
  | t :: ts => by
    unfold okTs
    rw [Bool.and_eq_true, okTs_all]
    simp
theorem toDs_map : ∀ {ts : List Tr}, toDs ts = ts.map toD
  | [] => rfl
  | t :: ts => by unfold toDs; rw [toDs_map]; rfl
theorem okT_lst {n : Nat} {ts : List Tr} : okT (n + 1) (.lst ts) = true ↔ ts.length ≤ 1000000 ∧ ∀ t ∈ ts, okT n t = true := by
  rw [okT, Bool.and_eq_true, okTs_all, decide_eq_true_eq]
theorem okT_tup {n : Nat} {ts : List Tr} : okT (n + 1) (.tup ts) = true ↔ ts.length ≤ 1000000 ∧ ∀ t ∈ ts, okT n t = true := by
  rw [okT, Bool.and_eq_true, okTs_all, decide_eq_true_eq]
mutual
theorem okT_D : ∀ (n : Nat) (t : Tr), okT n t = true → okD n (toD t) = true
  | n, .non, _ => by cases n <;> rfl
  | n, .bl _, _ => by cases n <;> rfl
  | n, .int _, _ => by cases n <;> rfl
  | n, .str _, _ => by cases n <;> rfl
  | 0, .lst _, h => by simp [okT] at h
  | 0, .tup _, h => by simp [okT] at h
  | 0, .ins _ _, h => by simp [okT] at h
  | _ + 1, .ins _ _, h => by simp [okT] at h
  | n + 1, .lst ts, h => by
    unfold okT at h
    rw [Bool.and_eq_true, decide_eq_true_eq] at h
    have q := okTs_D n ts h.2
    exact okD_mkL (by rw [q.2]; exact h.1) q.1
  | n + 1, .tup ts, h => by
    unfold okT at h
    rw [Bool.and_eq_true, decide_eq_true_eq] at h
    have q := okTs_D n ts h.2
    exact okD_mkT (by rw [q.2]; exact h.1) q.1
theorem okTs_D : ∀ (n : Nat) (ts : List Tr), okTs n ts = true → (∀ d ∈ toDs ts, okD n d = true) ∧ (toDs ts).length = ts.length
  | _, [], _ => ⟨by intro d h; simp [toDs] at h, rfl⟩
  | n, t :: ts, h => by
    unfold okTs at h
    rw [Bool.and_eq_true] at h
    have q := okTs_D n ts h.2
    have q1 := okT_D n t h.1
    refine ⟨fun d hd => ?_, ?_⟩
    · unfold toDs at hd
      rcases List.mem_cons.mp hd with rfl | hd
      · exact q1
      · exact q.1 d hd
    · unfold toDs
      rw [List.length_cons, List.length_cons, q.2]
end
mutual
theorem Rp.dp {K : PySem.W.Frag} {M : Hp} : ∀ {n : Nat} {v : V} {t : Tr}, okT n t = true → Rp K M v t → Dp K M v (toD t)
  | _, _, _, _, .non => .non
  | _, _, _, _, .bl b => .bl b
  | _, _, _, _, .int i => .int i
  | _, _, _, _, .str x => .str x
  | 0, _, _, h, .lst _ _ => by simp [okT] at h
  | 0, _, _, h, .tup _ _ => by simp [okT] at h
  | n + 1, _, _, h, .lst e r => by
    unfold okT at h
    rw [Bool.and_eq_true] at h
    exact .lst (SqL.of e) (RpAll.dp h.2 r)
  | n + 1, _, _, h, .tup e r => by
    unfold okT at h
    rw [Bool.and_eq_true] at h
    exact .tup e (RpAll.dp h.2 r)
  | 0, _, _, h, .ins _ _ => by simp [okT] at h
  | n + 1, _, _, h, .ins _ _ => by simp [okT] at h
theorem RpAll.dp {K : PySem.W.Frag} {M : Hp} : ∀ {n : Nat} {vs : List V} {ts : List Tr}, okTs n ts = true → RpAll K M vs ts → DpAll K M vs (toDs ts)
  | _, _, _, _, .nil => .nil
  | n, _, _, h, .cons a r => by
    unfold okTs at h
    rw [Bool.and_eq_true] at h
    exact .cons (Rp.dp h.1 a) (RpAll.dp h.2 r)
end
theorem okT_mono {n m : Nat} (h : n ≤ m) : ∀ {t : Tr}, okT n t = true → okT m t = true := by
  induction n generalizing m with
  | zero =>
    intro t ht
    cases t <;> first | (cases m <;> rfl) | (simp [okT] at ht)
  | succ n ih =>
    intro t ht
    obtain ⟨m, rfl⟩ : ∃ k, m = k + 1 := ⟨m - 1, by omega⟩
    cases t with
    | lst ts =>
      rw [okT_lst] at ht ⊢
      exact ⟨ht.1, fun t h => ih (by omega) (ht.2 t h)⟩
    | tup ts =>
      rw [okT_tup] at ht ⊢
      exact ⟨ht.1, fun t h => ih (by omega) (ht.2 t h)⟩
    | ins _ _ => simp [okT] at ht
    | non => rfl
    | bl _ => rfl
    | int _ => rfl
    | str _ => rfl
theorem okT_ints {n : Nat} {es : List Int} : ∀ t ∈ iT es, okT n t = true := by
  intro t ht
  obtain ⟨x, _, rfl⟩ := List.mem_map.mp ht
  cases n <;> rfl
theorem okT_tints {n : Nat} {es : List Int} (h : es.length ≤ 1000000) : okT (n + 1) (.tup (iT es)) = true := okT_tup.mpr ⟨by rw [List.length_map]; exact h, okT_ints⟩
theorem okT_lints {n : Nat} {es : List Int} (h : es.length ≤ 1000000) : okT (n + 1) (.lst (iT es)) = true := okT_lst.mpr ⟨by rw [List.length_map]; exact h, okT_ints⟩

/-! ### what a call may do: M, a part of the heap H that stands still, grows by new things alone; all but what ps names stays in H -/
structure Gx (ps : List Addr) (M H M' H' : Hp) : Prop where
  m : Same M M'
  h : Same M' H'
  s : ∀ b o, H b = some o → b ∉ ps → H' b = some o
  f : ∀ b, H b ≠ none → M' b = M b
  l : ∀ b, H b ≠ none → H' b ≠ none
theorem Gx.refl {ps : List Addr} {M H : Hp} (m : Same M H) : Gx ps M H M H := ⟨Same.refl _, m, fun _ _ e _ => e, fun _ _ => rfl, fun _ h => h⟩
theorem Gx.trans {ps : List Addr} {M H M1 H1 M2 H2 : Hp} (a : Gx ps M H M1 H1) (b : Gx ps M1 H1 M2 H2) : Gx ps M H M2 H2 :=
  ⟨a.m.trans b.m, b.h, fun c o e n => b.s c o (a.s c o e n) n, fun c e => (b.f c (a.l c e)).trans (a.f c e), fun c e => b.l c (a.l c e)⟩
theorem Gx.mono {ps qs : List Addr} {M H M' H' : Hp} (a : Gx ps M H M' H') (h : ∀ b ∈ ps, b ∈ qs) : Gx qs M H M' H' := ⟨a.m, a.h, fun b o e n => a.s b o e fun z => n (h b z), a.f, a.l⟩
theorem Gx.nil {qs : List Addr} {M H M' H' : Hp} (a : Gx [] M H M' H') : Gx qs M H M' H' := a.mono fun _ z => nomatch z
/-- what is outside of M stays outside -/
theorem Gx.out {ps : List Addr} {M H M' H' : Hp} {p : Addr} {o : HO} (a : Gx ps M H M' H') (h : H p = some o) (n : M p = none) : M' p = none := (a.f p (by rw [h]; simp)).trans n
theorem Gx.same {M H M' H' : Hp} (a : Gx [] M H M' H') : Same H H' := fun b o e => a.s b o e (by simp)
theorem Gx.but {p : Addr} {M H M' H' : Hp} (a : Gx [p] M H M' H') : But p H H' := fun b o e n => a.s b o e (by simpa using n)
theorem none_of {M H : Hp} (m : Same M H) {p : Addr} (h : H p = none) : M p = none := m.free h
/-- a new thing that M takes in -/
theorem Gx.new {ps : List Addr} {M H : Hp} {p : Addr} {o : HO} (m : Same M H) (n : H p = none) : Gx ps M H (L2.upd M p o) (L2.upd H p o) := by
  refine ⟨Same.new (none_of m n), fun b u e => ?_, fun b u e _ => (upd_ne (ne_of_none e n)).trans e, fun b e => upd_ne fun z : b = p => e (z ▸ n), fun b e => by rw [upd_ne fun z : b = p => e (z ▸ n)]; exact e⟩
  by_cases z : b = p
  · subst z
    rw [upd_same] at e ⊢
    exact e
  · rw [upd_ne z] at e ⊢
    exact m _ _ e
/-- a new thing that stays outside -/
theorem Gx.newO {ps : List Addr} {M H : Hp} {p : Addr} {o : HO} (m : Same M H) (n : H p = none) : Gx ps M H M (L2.upd H p o) :=
  ⟨Same.refl _, fun b u e => (upd_ne (ne_of_none (m _ _ e) n)).trans (m _ _ e), fun b u e _ => (upd_ne (ne_of_none e n)).trans e, fun _ _ => rfl, fun b e => by rw [upd_ne fun z : b = p => e (z ▸ n)]; exact e⟩
/-- a thing outside of M is changed -/
theorem Gx.upd {ps : List Addr} {M H : Hp} {p : Addr} {o : HO} (m : Same M H) (n : M p = none) (i : p ∈ ps) : Gx ps M H M (L2.upd H p o) :=
  ⟨Same.refl _, fun b u e => (upd_ne (ne_of_none e n)).trans (m _ _ e), fun b u e h => (upd_ne fun z : b = p => h (z ▸ i)).trans e, fun _ _ => rfl, fun b e => by
    by_cases z : b = p
    · subst z
      rw [upd_same]
      simp
    · rw [upd_ne z]
      exact e⟩
/-- what stands outside is taken in, and stays from now on -/
theorem Gx.freeze {ps : List Addr} {M H M' H' : Hp} {p : Addr} {o : HO} (a : Gx ps M H M' H') (n : M' p = none) (h : H' p = some o) (new : H p = none) : Gx ps M H (L2.upd M' p o) H' := by
  refine ⟨a.m.trans (Same.new n), fun b u e => ?_, a.s, fun b e => (upd_ne fun z : b = p => e (z ▸ new)).trans (a.f b e), a.l⟩
  by_cases z : b = p
  · subst z
    rw [upd_same] at e
    rw [h]
    exact e
  · rw [upd_ne z] at e
    exact a.h _ _ e
theorem same_freeze {M H : Hp} {p : Addr} {o : HO} (m : Same M H) (h : H p = some o) : Same (L2.upd M p o) H := fun b u e => by
  by_cases z : b = p
  · subst z
    rw [upd_same] at e
    rw [h]
    exact e
  · rw [upd_ne z] at e
    exact m _ _ e
/-- what a list that grows has been through -/
theorem Gx.drop {ps : List Addr} {M H M' H' : Hp} {p : Addr} (a : Gx (p :: ps) M H M' H') (new : H p = none) : Gx ps M H M' H' :=
  ⟨a.m, a.h, fun b o e n => a.s b o e fun z => by
    rcases List.mem_cons.mp z with rfl | z
    · rw [new] at e
      cases e
    · exact n z, a.f, a.l⟩
/-- the same, where M stays as it is -/
structure Gk (ps : List Addr) (M H H' : Hp) : Prop where
  g : Gx ps M H M H'
theorem Gk.h {ps : List Addr} {M H H' : Hp} (a : Gk ps M H H') : Same M H' := a.g.h
theorem Gk.s {ps : List Addr} {M H H' : Hp} (a : Gk ps M H H') : ∀ b o, H b = some o → b ∉ ps → H' b = some o := a.g.s
theorem Gx.sub {ps qs : List Addr} {M H M' H' : Hp} (a : Gx ps M H M' H') (h : ∀ b ∈ ps, b ∈ qs) : Gx qs M H M' H' := a.mono h
theorem Rp.to {K : PySem.W.Frag} {H H' : Hp} {v : V} {t : Tr} (r : Rp K H v t) (s : Same H H') : Rp K H' v t := r.same s
theorem look_hd {α : Type} {f : Str} {t : α} {gs : List (Str × α)} : List.lookup f ((f, t) :: gs) = some t := by simp [List.lookup]
theorem look_tl {α : Type} {f g : Str} {o : Option α} {t : α} {gs : List (Str × α)} (h : (f == g) = false) (e : List.lookup f gs = o) : List.lookup f ((g, t) :: gs) = o := by simp [List.lookup, h, e]
theorem Gx.of_same {ps : List Addr} {M H H' : Hp} (m : Same M H) (s : Same H H') : Gx ps M H M H' := ⟨Same.refl _, m.trans s, fun b o e _ => s b o e, fun _ _ => rfl, fun b e z => by
  cases q : H b with
  | none => exact e q
  | some o => rw [s b o q] at z; cases z⟩
theorem Gx.of_off {p : Addr} {ps : List Addr} {M H H' : Hp} (m : Same M H) (n : M p = none) (i : p ∈ ps) (l : H' p ≠ none) (s : Off p H H') : Gx ps M H M H' :=
  ⟨Same.refl _, fun b o e => by rw [s b (ne_of_none e n)]; exact m _ _ e, fun b o e h => by rw [s b fun z : b = p => h (z ▸ i)]; exact e, fun _ _ => rfl, fun b e => by
    by_cases z : b = p
    · subst z; exact l
    · rw [s b z]; exact e⟩
end Brk

set_option Elab.async false
set_option linter.all false
set_option maxRecDepth 100000
set_option maxHeartbeats 4000000
/-! Own words: what the readings ask, answered by trees. -/
namespace Brk
open PySem L2
section
variable {K : PySem.W.Frag} {M H : Hp} {x : V} {ts : List Tr} {t : Tr}
def cutT {α : Type} (xs : List α) (lo hi : Option Int) : List α := (xs.drop (HT.sIx xs.length 0 lo)).take (HT.sIx xs.length xs.length hi - HT.sIx xs.length 0 lo)
theorem RpAll.cut {vs : List V} (r : RpAll K M vs ts) (lo hi : Option Int) : RpAll K M (cutV vs lo hi) (cutT ts lo hi) := by
  unfold cutV cutT
  rw [r.len]
  exact (r.drop _).take _
theorem cutT_map {α β : Type} (f : α → β) (xs : List α) (lo hi : Option Int) : cutT (xs.map f) lo hi = (cutT xs lo hi).map f := by
  unfold cutT
  rw [List.length_map, ← List.map_drop, ← List.map_take]
/-- xs[a:b] of places within -/
theorem cutT_in {α : Type} (xs : List α) {a b : Int} (h0 : 0 ≤ a) (h1 : a ≤ b) (h2 : b ≤ xs.length) : cutT xs (some a) (some b) = (xs.drop a.toNat).take (b - a).toNat := by
  obtain ⟨a, rfl⟩ := Int.eq_ofNat_of_zero_le h0
  obtain ⟨b, rfl⟩ := Int.eq_ofNat_of_zero_le (Int.le_trans h0 h1)
  unfold cutT
  rw [HT.sIx_nat, HT.sIx_nat, show min a xs.length = a by omega, show min b xs.length = b by omega, Int.toNat_natCast, show ((b : Int) - (a : Int)).toNat = b - a by omega]
theorem cutT_to {α : Type} (xs : List α) {b : Int} (h1 : 0 ≤ b) : cutT xs none (some b) = xs.take b.toNat := by
  obtain ⟨b, rfl⟩ := Int.eq_ofNat_of_zero_le h1
  unfold cutT
  rw [HT.sIx_none, HT.sIx_nat, Int.toNat_natCast]
  by_cases h : b ≤ xs.length
  · rw [show min b xs.length = b by omega]; rfl
  · rw [show min b xs.length = xs.length by omega]
    simp only [List.drop_zero, Nat.sub_zero]
    rw [List.take_of_length_le (by omega), List.take_of_length_le (by omega)]
theorem cutT_from {α : Type} (xs : List α) {a : Int} (h0 : 0 ≤ a) : cutT xs (some a) none = xs.drop a.toNat := by
  obtain ⟨a, rfl⟩ := Int.eq_ofNat_of_zero_le h0
  unfold cutT
  rw [HT.sIx_none, HT.sIx_nat, Int.toNat_natCast]
  by_cases h : a ≤ xs.length
  · rw [show min a xs.length = a by omega, List.take_of_length_le (by rw [List.length_drop]; omega)]
  · rw [show min a xs.length = xs.length by omega, List.take_of_length_le (by rw [List.length_drop]; omega), List.drop_eq_nil_of_le (by omega), List.drop_eq_nil_of_le (by omega)]
/-! reading: R is what is wanted of the answer -/
theorem q_var {σ : St} {i : Nat} {v : V} {R : V → Prop} (e : σ[i]? = some (some v)) (k : R v) : ∃ u, σ[i]? = some (some u) ∧ R u := ⟨v, e, k⟩
theorem q_fld {C : Addr} {f : Str} {gs : List (Str × Tr)} {R : V → Prop} (h : Rp K M x (.ins C gs)) (m : Same M H) (c : Cls K C) (n : NoAttr K C f) (l : gs.lookup f = some t) (k : ∀ v, Rp K M v t → R v) :
    ∃ a C dx fs v, x = .ref a ∧ H a = some (.ins C dx fs) ∧ Cls K C ∧ NoAttr K C f ∧ fs.lookup f = some v ∧ R v := by
  cases h with
  | ins e r =>
    obtain ⟨v, q, hv⟩ := r.look l
    exact ⟨_, C, _, _, v, rfl, m _ _ e, c, n, q, k v hv⟩
theorem q_ixL {i : Int} {R : V → Prop} (h : Rp K M x (.lst ts)) (m : Same M H) (e : atI ts i = some t) (k : ∀ v, Rp K M v t → R v) : ∃ p xs j v, x = .ref p ∧ V.int i = .int j ∧ SqL K H p xs ∧ atI xs j = some v ∧ R v := by
  cases h with
  | lst a r =>
    obtain ⟨v, q, hv⟩ := r.atI e
    exact ⟨_, _, i, v, rfl, rfl, SqL.of (m _ _ a), q, k v hv⟩
theorem q_ixT {i : Int} {R : V → Prop} (h : Rp K M x (.tup ts)) (m : Same M H) (e : atI ts i = some t) (k : ∀ v, Rp K M v t → R v) : ∃ p xs j v, x = .ref p ∧ V.int i = .int j ∧ SqT K H p xs ∧ atI xs j = some v ∧ R v := by
  cases h with
  | tup a r =>
    obtain ⟨v, q, hv⟩ := r.atI e
    exact ⟨_, _, i, v, rfl, rfl, sqT_same a m, q, k v hv⟩
theorem q_ixR {a : Addr} {xs : List V} {v : V} {i : Int} {R : V → Prop} (h : M a = some (.lst xs)) (m : Same M H) (e : L2.atI xs i = some v) (k : R v) : ∃ p ys j u, V.ref a = .ref p ∧ V.int i = .int j ∧ SqL K H p ys ∧ L2.atI ys j = some u ∧ R u := ⟨a, xs, i, v, rfl, rfl, SqL.of (m _ _ h), e, k⟩
theorem q_lenL {R : List V → Prop} (h : Rp K M x (.lst ts)) (m : Same M H) (k : ∀ ys : List V, ys.length = ts.length → R ys) : ∃ p ys, [x] = [V.ref p] ∧ (SqL K H p ys ∨ SqT K H p ys) ∧ R ys := by
  cases h with
  | lst a r => exact ⟨_, _, rfl, .inl (SqL.of (m _ _ a)), k _ r.len⟩
theorem q_lenT {R : List V → Prop} (h : Rp K M x (.tup ts)) (m : Same M H) (k : ∀ ys : List V, ys.length = ts.length → R ys) : ∃ p ys, [x] = [V.ref p] ∧ (SqL K H p ys ∨ SqT K H p ys) ∧ R ys := by
  cases h with
  | tup a r => exact ⟨_, _, rfl, .inr (sqT_same a m), k _ r.len⟩
/-- p is new and holds o: nothing else has changed -/
def New (H : Hp) (o : HO) (p : Addr) (H' : Hp) : Prop := H p = none ∧ H' = L2.upd H p o
section
variable {nm qn : Str} {st : Stmt} {ff : Addr} {fd : FuncData}
theorem q_new {xs : List V} {R : Addr → Hp → Prop} (m : Same M H) (r : RpAll K M xs ts) (k : ∀ (p : Addr) (M' H' : Hp), Gx [] M H M' H' → Rp K M' (.ref p) (.lst ts) → R p H') : ∀ p H', New H (.lst xs) p H' → R p H' := by
  rintro p H' ⟨n, rfl⟩
  exact k p _ _ (Gx.new m n) (.lst upd_same (r.same (Same.new (none_of m n))))
theorem q_newT {xs : List V} {R : Addr → Hp → Prop} (m : Same M H) (r : RpAll K M xs ts) (k : ∀ (p : Addr) (M' H' : Hp), Gx [] M H M' H' → Rp K M' (.ref p) (.tup ts) → R p H') : ∀ p H', New H (.tup xs) p H' → R p H' := by
  rintro p H' ⟨n, rfl⟩
  exact k p _ _ (Gx.new m n) (.tup (SqT.of upd_same) (r.same (Same.new (none_of m n))))
theorem q_lst {xs : List V} {R : Addr → Hp → Prop} (F : Fun K nm qn st ff fd) (m : Same M H) (z : xs.length ≤ sizeLine) (r : RpAll K M xs ts) (k : ∀ (p : Addr) (M' H' : Hp), Gx [] M H M' H' → Rp K M' (.ref p) (.lst ts) → R p H') : xs.length ≤ sizeLine ∧ ∀ p H', New H (.lst xs) p H' → R p H' := ⟨z, q_new m r k⟩
/-- a new list that will grow: it stays outside of M -/
theorem q_lstO {xs : List V} {R : Addr → Hp → Prop} (m : Same M H) (z : xs.length ≤ sizeLine) (k : ∀ (p : Addr) (H' : Hp), Gk [] M H H' → H' p = some (.lst xs) → M p = none → H p = none → R p H') : xs.length ≤ sizeLine ∧ ∀ p H', New H (.lst xs) p H' → R p H' := by
  refine ⟨z, ?_⟩
  rintro p H' ⟨n, rfl⟩
  exact k p _ ⟨Gx.newO m n⟩ upd_same (none_of m n) n
theorem q_tup {xs : List V} {R : Addr → Hp → Prop} (F : Fun K nm qn st ff fd) (m : Same M H) (z : xs.length ≤ sizeLine) (r : RpAll K M xs ts) (k : ∀ (p : Addr) (M' H' : Hp), Gx [] M H M' H' → Rp K M' (.ref p) (.tup ts) → R p H') : xs.length ≤ sizeLine ∧ ∀ p H', New H (.tup xs) p H' → R p H' := ⟨z, q_newT m r k⟩
end
theorem q_slL {lo hi : Option Int} {R : List V → Addr → Hp → Prop} (m : Same M H) (h : Rp K M x (.lst ts)) (k : ∀ (xs : List V) (p : Addr) (M' H' : Hp), Gx [] M H M' H' → Rp K M' (.ref p) (.lst (cutT ts lo hi)) → R xs p H') : ∃ a xs, x = .ref a ∧ SqL K H a xs ∧ ∀ p H', New H (.lst (cutV xs lo hi)) p H' → R xs p H' := by
  cases h with
  | lst a r => exact ⟨_, _, rfl, SqL.of (m _ _ a), q_new m (r.cut lo hi) (k _)⟩
theorem q_rev {R : List V → Addr → Hp → Prop} (m : Same M H) (h : Rp K M x (.lst ts)) (k : ∀ (xs : List V) (p : Addr) (M' H' : Hp), Gx [] M H M' H' → Rp K M' (.ref p) (.lst ts.reverse) → R xs p H') : ∃ a xs, x = .ref a ∧ SqL K H a xs ∧ ∀ p H', New H (.lst xs.reverse) p H' → R xs p H' := by
  cases h with
  | lst a r => exact ⟨_, _, rfl, SqL.of (m _ _ a), q_new m r.reverse (k _)⟩
theorem q_listL {R : List V → Addr → Hp → Prop} (m : Same M H) (h : Rp K M x (.lst ts)) (k : ∀ (xs : List V) (p : Addr) (M' H' : Hp), Gx [] M H M' H' → Rp K M' (.ref p) (.lst ts) → R xs p H') : ∃ p ys, [x] = [V.ref p] ∧ (SqL K H p ys ∨ SqT K H p ys) ∧ ∀ l H', New H (.lst ys) l H' → R ys l H' := by
  cases h with
  | lst a r => exact ⟨_, _, rfl, .inl (SqL.of (m _ _ a)), q_new m r (k _)⟩
theorem q_listT {R : List V → Addr → Hp → Prop} (m : Same M H) (h : Rp K M x (.tup ts)) (k : ∀ (xs : List V) (p : Addr) (M' H' : Hp), Gx [] M H M' H' → Rp K M' (.ref p) (.lst ts) → R xs p H') : ∃ p ys, [x] = [V.ref p] ∧ (SqL K H p ys ∨ SqT K H p ys) ∧ ∀ l H', New H (.lst ys) l H' → R ys l H' := by
  cases h with
  | tup a r => exact ⟨_, _, rfl, .inr (sqT_same a m), q_new m r (k _)⟩
/-- a copy that will change: it stays outside of M -/
theorem q_listO {R : List V → Addr → Hp → Prop} (m : Same M H) (h : Rp K M x (.lst ts)) (k : ∀ (xs : List V) (p : Addr) (H' : Hp), RpAll K M xs ts → Gk [] M H H' → H' p = some (.lst xs) → M p = none → H p = none → R xs p H') : ∃ p ys, [x] = [V.ref p] ∧ (SqL K H p ys ∨ SqT K H p ys) ∧ ∀ l H', New H (.lst ys) l H' → R ys l H' := by
  cases h with
  | lst a r =>
    refine ⟨_, _, rfl, .inl (SqL.of (m _ _ a)), ?_⟩
    rintro p H' ⟨n, rfl⟩
    exact k _ p _ r ⟨Gx.newO m n⟩ upd_same (none_of m n) n
theorem q_tupL {R : List V → Addr → Hp → Prop} {R2 : Addr → Prop} (m : Same M H) (h : Rp K M x (.lst ts)) (k : ∀ (xs : List V) (p : Addr) (M' H' : Hp), Gx [] M H M' H' → Rp K M' (.ref p) (.tup ts) → R xs p H') : ∃ p ys, [x] = [V.ref p] ∧ ((SqL K H p ys ∧ ∀ l H', New H (.tup ys) l H' → R ys l H') ∨ (SqT K H p ys ∧ R2 p)) := by
  cases h with
  | lst a r => exact ⟨_, _, rfl, .inl ⟨SqL.of (m _ _ a), q_newT m r (k _)⟩⟩
/-- a list outside of M -/
theorem q_tupO {a : Addr} {xs : List V} {R : List V → Addr → Hp → Prop} {R2 : Addr → Prop} (h : H a = some (.lst xs)) (m : Same M H) (r : RpAll K M xs ts) (k : ∀ (p : Addr) (M' H' : Hp), Gx [] M H M' H' → Rp K M' (.ref p) (.tup ts) → R xs p H') : ∃ p ys, [V.ref a] = [V.ref p] ∧ ((SqL K H p ys ∧ ∀ l H', New H (.tup ys) l H' → R ys l H') ∨ (SqT K H p ys ∧ R2 p)) :=
  ⟨_, _, rfl, .inl ⟨SqL.of h, q_newT m r k⟩⟩
theorem q_tupT {R : List V → Addr → Hp → Prop} {R2 : Addr → Prop} (h : Rp K M x (.tup ts)) (m : Same M H) (k : ∀ p, x = .ref p → R2 p) : ∃ p ys, [x] = [V.ref p] ∧ ((SqL K H p ys ∧ ∀ l H', New H (.tup ys) l H' → R ys l H') ∨ (SqT K H p ys ∧ R2 p)) := by
  cases h with
  | tup a r => exact ⟨_, _, rfl, .inr ⟨sqT_same a m, k _ rfl⟩⟩
theorem q_cat {y : V} {us : List Tr} {R : List V → List V → Addr → Hp → Prop} (m : Same M H) (h : Rp K M x (.lst ts)) (h' : Rp K M y (.lst us)) (z : ts.length + us.length ≤ sizeLine) (k : ∀ (xs zs : List V) (p : Addr) (M' H' : Hp), Gx [] M H M' H' → Rp K M' (.ref p) (.lst (ts ++ us)) → R xs zs p H') :
    ∃ l b xs zs, x = .ref l ∧ y = .ref b ∧ H l = some (.lst xs) ∧ H b = some (.lst zs) ∧ xs.length + zs.length ≤ sizeLine ∧ ∀ p H', New H (.lst (xs ++ zs)) p H' → R xs zs p H' := by
  cases h with
  | lst a r =>
    cases h' with
    | lst b s => exact ⟨_, _, _, _, rfl, rfl, m _ _ a, m _ _ b, by rw [r.len, s.len]; exact z, q_new m (r.append s) (k _ _)⟩
/-- a list outside of M grows -/
theorem q_app {l : Addr} {xs : List V} {y : V} {R : Addr → List V → V → Prop} (m : Same M H) (h : H l = some (.lst xs)) (n : M l = none) (z : xs.length < sizeLine) (k : Gk [l] M H (L2.upd H l (.lst (xs ++ [y]))) → L2.upd H l (.lst (xs ++ [y])) l = some (.lst (xs ++ [y])) → R l xs y) :
    ∃ l' ys y', V.ref l = .ref l' ∧ [y] = [y'] ∧ H l' = some (.lst ys) ∧ ys.length < sizeLine ∧ R l' ys y' :=
  ⟨l, xs, y, rfl, rfl, h, z, k ⟨Gx.upd m n (by simp)⟩ upd_same⟩
theorem q_sum {es : List Int} {R : List Int → Prop} (h : Rp K M x (.lst (iT es))) (m : Same M H) (k : R es) : ∃ (a : Addr) (ns : List Int), [x] = [V.ref a] ∧ SqL K H a (ns.map V.int) ∧ R ns := by
  cases h with
  | lst a r =>
    have e := r.ints
    subst e
    exact ⟨_, es, rfl, SqL.of (m _ _ a), k⟩
theorem q_minmax {es : List Int} {R : List Int → Prop} (h : Rp K M x (.lst (iT es))) (m : Same M H) (z : 0 < es.length) (k : R es) : ∃ (a : Addr) (ns : List Int), [x] = [V.ref a] ∧ SqL K H a (ns.map V.int) ∧ 0 < ns.length ∧ R ns := by
  cases h with
  | lst a r =>
    have e := r.ints
    subst e
    exact ⟨_, es, rfl, SqL.of (m _ _ a), z, k⟩
theorem q_bools {es : List Bool} {R : List Bool → Prop} (h : Rp K M x (.lst (es.map Tr.bl))) (m : Same M H) (k : R es) : ∃ (a : Addr) (bs : List Bool), [x] = [V.ref a] ∧ SqL K H a (bs.map V.bl) ∧ R bs := by
  cases h with
  | lst a r =>
    have e := r.bls
    subst e
    exact ⟨_, es, rfl, SqL.of (m _ _ a), k⟩
theorem Rp.inv_int {v : V} {i : Int} (h : Rp K M v (.int i)) : v = .int i := by cases h; rfl
theorem Rp.inv_str {v : V} {i : Str} (h : Rp K M v (.str i)) : v = .str i := by cases h; rfl
theorem Rp.inv_bl {v : V} {i : Bool} (h : Rp K M v (.bl i)) : v = .bl i := by cases h; rfl
theorem Rp.inv_non {v : V} (h : Rp K M v .non) : v = .non := by cases h; rfl
theorem tyV_lst (h : Rp K M x (.lst ts)) (m : Same M H) : tyV K "list" x H := by
  cases h with
  | lst a r => exact .inl ⟨rfl, _, SqL.of (m _ _ a)⟩
theorem tyV_own {a : Addr} {xs : List V} (h : H a = some (.lst xs)) : tyV K "list" (.ref a) H := .inl ⟨rfl, _, SqL.of h⟩
/-- two values of one tree -/
theorem q_same {n : Nat} {y : V} {R : Prop} (m : Same M H) (h : Rp K M x t) (h' : Rp K M y t) (o : okT n t = true) (k : R) : ∃ (x' y' : V) (d : PyData), [x, y] = [x', y'] ∧ Dp K H x' d ∧ Dp K H y' d ∧ okD n d = true ∧ R :=
  ⟨x, y, toD t, rfl, (h.same m).dp o, (h'.same m).dp o, okT_D n t o, k⟩
theorem q_eqK {y : V} {u : Tr} {b : Bool} {R : PyData → PyData → Prop} (m : Same M H) (h : Rp K M x t) (h' : Rp K M y u) (o : okT 8 t = true) (o' : okT 8 u = true) (e : PyData.eqv (toD t) (toD u) = b) (k : ∀ d e', PyData.eqv d e' = b → R d e') : ∃ d e', Dp K H x d ∧ Dp K H y e' ∧ okD 8 d = true ∧ okD 8 e' = true ∧ R d e' :=
  ⟨_, _, (h.same m).dp o, (h'.same m).dp o', okT_D 8 t o, okT_D 8 u o', k _ _ e⟩
theorem tyx_lst (h : Rp K M x (.lst ts)) (m : Same M H) : TyX K H x (.type "list") := by
  cases h with
  | lst a r => exact tyx_sqL (SqL.of (m _ _ a))
theorem tyx_tup (h : Rp K M x (.tup ts)) (m : Same M H) : TyX K H x (.type "tuple") := by
  cases h with
  | tup a r => exact tyx_sqT (sqT_same a m)
theorem tyx_ins {C : Addr} {gs : List (Str × Tr)} (h : Rp K M x (.ins C gs)) (m : Same M H) (c : Cls K C) (o : OwnI K C) : TyX K H x (.ref C) := by
  cases h with
  | ins a r => exact tyx_own (m _ _ a) c o
/-- a, b = e -/
theorem q_gtup {n : Nat} {R : List V → Prop} (h : Rp K M x (.tup ts)) (m : Same M H) (l : ts.length = n) (k : ∀ vs, RpAll K M vs ts → R vs) : ∃ a xs, x = .ref a ∧ SqT K H a xs ∧ xs.length = n ∧ R xs := by
  cases h with
  | tup a r => exact ⟨_, _, rfl, sqT_same a m, by rw [r.len]; exact l, k _ r⟩
theorem q_glst {n : Nat} {a : Addr} {vs : List V} {R : List V → Prop} (m : Same M H) (h : M a = some (.lst vs)) (l : vs.length = n) (k : R vs) : ∃ a' xs, V.ref a = .ref a' ∧ SqL K H a' xs ∧ xs.length = n ∧ R xs := ⟨a, vs, rfl, SqL.of (m _ _ h), l, k⟩
theorem q_take {p c : Addr} {ns : List Int} {n : Int} {R : Int → Hp → Prop} (m : Same M H) (hp : Pool ns c H p) (hM : M p = none) (n0 : 0 < n) (n1 : n.natAbs.log2 < 9000) (k : ∀ (r : Int) (H' : Hp), 0 ≤ r → r < n → Pool ns c H' p → Gk [p] M H H' → R r H') :
    ∃ (p' c' : Addr) (ns' : List Int) (n' : Int), [V.ref p, V.int n] = [.ref p', .int n'] ∧ Pool ns' c' H p' ∧ 0 < n' ∧ n'.natAbs.log2 < 9000 ∧ ∀ (r : Int) (H' : Hp), 0 ≤ r → r < n' → Pool ns' c' H' p' → Off p' H H' → R r H' :=
  ⟨p, c, ns, n, rfl, hp, n0, n1, fun r H' r0 r1 hp' o => k r H' r0 r1 hp' ⟨Gx.of_off m hM (by simp) (by obtain ⟨l, e, _⟩ := hp'.at_; rw [e]; simp) o⟩⟩
theorem q_big {p c : Addr} {ns : List Int} {R : Int → Hp → Prop} (m : Same M H) (hp : Pool ns c H p) (hM : M p = none) (k : ∀ (r : Int) (H' : Hp), 0 ≤ r → r < 10 ^ 27 → Pool ns c H' p → Gk [p] M H H' → R r H') :
    ∃ (p' c' : Addr) (ns' : List Int), [V.ref p] = [.ref p'] ∧ Pool ns' c' H p' ∧ ∀ (r : Int) (H' : Hp), 0 ≤ r → r < 10 ^ 27 → Pool ns' c' H' p' → Off p' H H' → R r H' :=
  ⟨p, c, ns, rfl, hp, fun r H' r0 r1 hp' o => k r H' r0 r1 hp' ⟨Gx.of_off m hM (by simp) (by obtain ⟨l, e, _⟩ := hp'.at_; rw [e]; simp) o⟩⟩
theorem Pool.gx {ns : List Int} {c p : Addr} {M H M' H' : Hp} (h : Pool ns c H p) (g : Gx [] M H M' H') : Pool ns c H' p := h.same g.same
theorem Pool.gk {ns : List Int} {c p : Addr} {M H H' : Hp} (h : Pool ns c H p) (g : Gk [] M H H') : Pool ns c H' p := h.same g.g.same
theorem Pool.some {ns : List Int} {c p : Addr} {H : Hp} (h : Pool ns c H p) : H p ≠ none := by
  obtain ⟨l, e, _⟩ := h.at_
  rw [e]
  simp
theorem Pool.out {ns : List Int} {c p : Addr} {ps : List Addr} {M H M' H' : Hp} (h : Pool ns c H p) (g : Gx ps M H M' H') (n : M p = none) : M' p = none := (g.f p h.some).trans n
theorem Pool.ne_list {ns : List Int} {c p l : Addr} {H : Hp} {xs : List V} (h : Pool ns c H p) (e : H l = none) : p ≠ l ∧ c ≠ l := by
  obtain ⟨q, a, _⟩ := h.at_
  exact ⟨ne_of_none a e, ne_of_none h.cells e⟩
end
/-! tests whose answer is known -/
theorem iteD {P A B : Prop} [Decidable P] (h : P) (a : A) : if decide P = true then A else B := by rw [if_pos (decide_eq_true h)]; exact a
theorem iteDn {P A B : Prop} [Decidable P] (h : ¬ P) (b : B) : if decide P = true then A else B := by rw [if_neg (by rw [decide_eq_false h]; exact Bool.false_ne_true)]; exact b
theorem iteN {P A B : Prop} [Decidable P] (h : P) (b : B) : if (!decide P) = true then A else B := by rw [if_neg (by rw [decide_eq_true h]; exact Bool.false_ne_true)]; exact b
theorem iteNn {P A B : Prop} [Decidable P] (h : ¬ P) (a : A) : if (!decide P) = true then A else B := by rw [if_pos (by rw [decide_eq_false h]; rfl)]; exact a
theorem iteI {a b : Int} {A B : Prop} (h : a = b) (q : A) : if decide (V.int a = V.int b) = true then A else B := iteD (congrArg V.int h) q
theorem iteIn {a b : Int} {A B : Prop} (h : ¬ a = b) (q : B) : if decide (V.int a = V.int b) = true then A else B := iteDn (fun z => h (V.int.inj z)) q
theorem iteNI {a b : Int} {A B : Prop} (h : a = b) (q : B) : if (!decide (V.int a = V.int b)) = true then A else B := iteN (congrArg V.int h) q
theorem iteNIn {a b : Int} {A B : Prop} (h : ¬ a = b) (q : A) : if (!decide (V.int a = V.int b)) = true then A else B := iteNn (fun z => h (V.int.inj z)) q
theorem iteRN {a : Addr} {A B : Prop} (b : B) : if decide (V.ref a = V.non) = true then A else B := iteDn (fun z => nomatch z) b
theorem iteRNn {a : Addr} {A B : Prop} (b : A) : if (!decide (V.ref a = V.non)) = true then A else B := iteNn (fun z => nomatch z) b
theorem iteJN {a : Int} {A B : Prop} (b : B) : if decide (V.int a = V.non) = true then A else B := iteDn (fun z => nomatch z) b
theorem iteJNn {a : Int} {A B : Prop} (b : A) : if (!decide (V.int a = V.non)) = true then A else B := iteNn (fun z => nomatch z) b
theorem sizeLine_ge : 1000000 ≤ sizeLine := by decide
theorem Gx.hx {M H M' H' : Hp} {q : Addr} {o : HO} (g : Gx [] M H M' H') (e : H q = some o) : H' q = some o := g.same _ _ e
/-! the exception that a suite holds -/
theorem q_xs {K : PySem.W.Frag} {H : Hp} {a D dd : Addr} {fs : List (Str × V)} {v : V} {n : Str} {R : V → Prop} (c : ExcC K D) (f : PySem.W.findIn K (.ref D) n = some none) (e : H dd = some (.xd fs)) (l : fs.lookup n = some v) (k : R v) :
    ∃ (D' dd' : Addr) (fs' : List (Str × V)) (v' : V), V.ref a = .ref a ∧ Value.ref D = .ref D' ∧ some dd = some dd' ∧ H dd' = some (.xd fs') ∧ ExcC K D' ∧ PySem.W.findIn K (.ref D') n = some none ∧ fs'.lookup n = some v' ∧ R v' := ⟨D, dd, fs, v, rfl, rfl, rfl, e, c, f, l, k⟩
theorem q_isX {K : PySem.W.Frag} {H : Hp} {a D T dd : Addr} {fs : List (Str × V)} {b : Bool} {R : Bool → Prop} (c : ExcC K D) (t : PySem.W.kitOne K (.ref D) (.ref T) = some b) (e : H dd = some (.xd fs)) (k : R b) :
    ∃ (D' : Addr) (c : V) (cv : Value) (b' : Bool), [V.ref a, .ref T] = [V.ref a, c] ∧ Value.ref D = .ref D' ∧ ClsV c cv ∧ (∃ dd' fs', some dd = some dd' ∧ H dd' = some (.xd fs')) ∧ ExcC K D' ∧ PySem.W.kitOne K (.ref D') cv = some b' ∧ R b' := ⟨D, _, _, b, rfl, rfl, .own _, ⟨dd, fs, rfl, e⟩, c, t, k⟩
theorem q_isXt {K : PySem.W.Frag} {H : Hp} {a D dd : Addr} {n : String} {fs : List (Str × V)} {b : Bool} {R : Bool → Prop} (c : ExcC K D) (t : PySem.W.kitOne K (.ref D) (.type n) = some b) (e : H dd = some (.xd fs)) (k : R b) :
    ∃ (D' : Addr) (c : V) (cv : Value) (b' : Bool), [V.ref a, .ty n] = [V.ref a, c] ∧ Value.ref D = .ref D' ∧ ClsV c cv ∧ (∃ dd' fs', some dd = some dd' ∧ H dd' = some (.xd fs')) ∧ ExcC K D' ∧ PySem.W.kitOne K (.ref D') cv = some b' ∧ R b' := ⟨D, _, _, b, rfl, rfl, .ty _, ⟨dd, fs, rfl, e⟩, c, t, k⟩
/-! isinstance, methods -/
theorem q_isiO {K : PySem.W.Frag} {M H : Hp} {x : V} {C D : Addr} {b : Bool} {gs : List (Str × Tr)} {R : Bool → Prop} (h : Rp K M x (.ins C gs)) (m : Same M H) (c : Cls K C) (o : OwnI K C) (e : PySem.W.kitOne K (.ref C) (.ref D) = some b) (k : R b) :
    ∃ (x' c : V) (t u : Value) (b' : Bool), [x, .ref D] = [x', c] ∧ ClsV c u ∧ TyX K H x' t ∧ PySem.W.kitOne K t u = some b' ∧ R b' := ⟨x, _, _, _, b, rfl, .own _, tyx_ins h m c o, e, k⟩
theorem q_isiL {K : PySem.W.Frag} {M H : Hp} {x : V} {ts : List Tr} {n : String} {b : Bool} {R : Bool → Prop} (h : Rp K M x (.lst ts)) (m : Same M H) (e : PySem.W.kitOne K (.type "list") (.type n) = some b) (k : R b) :
    ∃ (x' c : V) (t u : Value) (b' : Bool), [x, .ty n] = [x', c] ∧ ClsV c u ∧ TyX K H x' t ∧ PySem.W.kitOne K t u = some b' ∧ R b' := ⟨x, _, _, _, b, rfl, .ty _, tyx_lst h m, e, k⟩
theorem q_isiT {K : PySem.W.Frag} {M H : Hp} {x : V} {ts : List Tr} {n : String} {b : Bool} {R : Bool → Prop} (h : Rp K M x (.tup ts)) (m : Same M H) (e : PySem.W.kitOne K (.type "tuple") (.type n) = some b) (k : R b) :
    ∃ (x' c : V) (t u : Value) (b' : Bool), [x, .ty n] = [x', c] ∧ ClsV c u ∧ TyX K H x' t ∧ PySem.W.kitOne K t u = some b' ∧ R b' := ⟨x, _, _, _, b, rfl, .ty _, tyx_tup h m, e, k⟩
theorem q_isiS {K : PySem.W.Frag} {H : Hp} {i : Int} {n : String} {b : Bool} {R : Bool → Prop} (e : PySem.W.kitOne K (.type "int") (.type n) = some b) (k : R b) :
    ∃ (x' c : V) (t u : Value) (b' : Bool), [V.int i, .ty n] = [x', c] ∧ ClsV c u ∧ TyX K H x' t ∧ PySem.W.kitOne K t u = some b' ∧ R b' := ⟨_, _, _, _, b, rfl, .ty _, .base (.int i), e, k⟩
theorem q_meth {K : PySem.W.Frag} {M H : Hp} {x : V} {C : Addr} {f : Str} {gs : List (Str × Tr)} {R : Prop} (h : Rp K M x (.ins C gs)) (m : Same M H) (l : gs.lookup f = none) (k : R) : ∃ (a dx : Addr) (fs : List (Str × V)), x = .ref a ∧ H a = some (.ins C dx fs) ∧ fs.lookup f = none ∧ R := by
  cases h with
  | ins e r => exact ⟨_, _, _, rfl, m _ _ e, r.none l, k⟩
theorem q_listRg2 {K : PySem.W.Frag} {nm qn : Str} {st : Stmt} {ff : Addr} {fd : FuncData} {M H : Hp} {a b : Int} {R : Int → Int → Addr → Hp → Prop} (F : Fun K nm qn st ff fd) (m : Same M H) (z : -1000000 ≤ a ∧ a ≤ 1000000 ∧ -1000000 ≤ b ∧ b ≤ 1000000) (k : ∀ (p : Addr) (M' H' : Hp), Gx [] M H M' H' → Rp K M' (.ref p) (.lst (((List.range (b - a).toNat).map fun i => a + ((i : Nat) : Int)).map Tr.int)) → R a b p H') :
    ∃ i j : Int, V.int a = .int i ∧ V.int b = .int j ∧ RgOk i j ∧ ∀ q H', New H (.lst (rgV i j)) q H' → R i j q H' := by
  refine ⟨_, _, rfl, rfl, ⟨by omega, by omega, by omega, by omega, by omega⟩, q_new m ?_ k⟩
  have e : rgV a b = iV ((List.range (b - a).toNat).map fun i => a + ((i : Nat) : Int)) := by
    unfold rgV
    show _ = List.map V.int _
    rw [List.map_map]
    rfl
  rw [e]
  exact rpInts
theorem q_listRg {K : PySem.W.Frag} {nm qn : Str} {st : Stmt} {ff : Addr} {fd : FuncData} {M H : Hp} {n : Nat} {R : Int → Addr → Hp → Prop} (F : Fun K nm qn st ff fd) (m : Same M H) (z : n ≤ 1000000) (k : ∀ (p : Addr) (M' H' : Hp), Gx [] M H M' H' → Rp K M' (.ref p) (.lst (((List.range n).map fun i => ((i : Nat) : Int)).map Tr.int)) → R n p H') : ∃ j : Int, V.int n = .int j ∧ RgOk 0 j ∧ ∀ q H', New H (.lst (rgV 0 j)) q H' → R j q H' := by
  refine ⟨_, rfl, RgOk.of_le (by omega) (by omega) (by omega) (by omega), q_new m ?_ k⟩
  have e : rgV 0 n = iV ((List.range n).map fun i => ((i : Nat) : Int)) := by
    unfold rgV
    show _ = List.map V.int _
    rw [List.map_map, show ((n : Int) - 0).toNat = n by omega]
    refine List.map_congr_left fun i _ => ?_
    simp
  rw [e]
  exact rpInts
/-- t[a:b] of a tuple: the tuple itself or a new one -/
def rSlQ (K : PySem.W.Frag) : V → Option Int → Option Int → Hp → VK → Prop := fun x lo hi H Q => ∃ a xs, x = .ref a ∧ SqT K H a xs ∧ ∀ (p : Addr) (H' : Hp), ((p = a ∧ H' = H ∧ cutV xs lo hi = xs) ∨ (H p = none ∧ H' = L2.upd H p (.tup (cutV xs lo hi)))) → Q (.ref p) H'
theorem cutV_whole {xs : List V} {lo hi : Option Int} (h : HT.sIx xs.length 0 lo = 0 ∧ HT.sIx xs.length xs.length hi = xs.length) : cutV xs lo hi = xs := by
  unfold cutV
  rw [h.1, h.2]
  simp
theorem sl_tupQ {X : Cx} : SlR X (rSlQ X.K) := fun pins s σ H x v vl vu lo hi sl Q I rx hs pl pu h => by
  refine sl_tupA pins s σ H x v vl vu lo hi sl Q I rx hs pl pu ?_
  obtain ⟨a, xs, e, q, k⟩ := h
  exact ⟨a, xs, e, q, fun w => k a H (.inl ⟨rfl, rfl, cutV_whole w⟩), fun _ p n => k p _ (.inr ⟨n, rfl⟩)⟩
theorem q_slT {K : PySem.W.Frag} {M H : Hp} {x : V} {ts : List Tr} {lo hi : Option Int} {R : List V → Addr → Hp → Prop} (m : Same M H) (h : Rp K M x (.tup ts)) (k : ∀ (xs : List V) (p : Addr) (M' H' : Hp), Gx [] M H M' H' → Rp K M' (.ref p) (.tup (cutT ts lo hi)) → R xs p H') :
    ∃ a xs, x = .ref a ∧ SqT K H a xs ∧ ∀ (p : Addr) (H' : Hp), ((p = a ∧ H' = H ∧ cutV xs lo hi = xs) ∨ New H (.tup (cutV xs lo hi)) p H') → R xs p H' := by
  cases h with
  | tup a r =>
    refine ⟨_, _, rfl, sqT_same a m, fun p H' o => ?_⟩
    rcases o with ⟨rfl, rfl, e⟩ | ⟨n, rfl⟩
    · have rc := r.cut lo hi
      rw [e] at rc
      exact k _ _ M _ (Gx.refl m) (.tup a rc)
    · exact k _ p _ _ (Gx.new m n) (.tup (SqT.of upd_same) ((r.cut lo hi).same (Same.new (none_of m n))))
theorem q_slT1 {K : PySem.W.Frag} {M H : Hp} {x : V} {α : Type} {f : α → Tr} {as : List α} {lo hi : Option Int} {R : List V → Addr → Hp → Prop} (m : Same M H) (h : Rp K M x (.tup (as.map f))) (k : ∀ (xs : List V) (p : Addr) (M' H' : Hp), Gx [] M H M' H' → Rp K M' (.ref p) (.tup ((cutT as lo hi).map f)) → R xs p H') :
    ∃ a xs, x = .ref a ∧ SqT K H a xs ∧ ∀ (p : Addr) (H' : Hp), ((p = a ∧ H' = H ∧ cutV xs lo hi = xs) ∨ New H (.tup (cutV xs lo hi)) p H') → R xs p H' :=
  q_slT m h fun xs p M' H' g r => k xs p M' H' g (cutT_map f as lo hi ▸ r)
theorem q_slL1 {K : PySem.W.Frag} {M H : Hp} {x : V} {α : Type} {f : α → Tr} {as : List α} {lo hi : Option Int} {R : List V → Addr → Hp → Prop} (m : Same M H) (h : Rp K M x (.lst (as.map f))) (k : ∀ (xs : List V) (p : Addr) (M' H' : Hp), Gx [] M H M' H' → Rp K M' (.ref p) (.lst ((cutT as lo hi).map f)) → R xs p H') :
    ∃ a xs, x = .ref a ∧ SqL K H a xs ∧ ∀ p H', New H (.lst (cutV xs lo hi)) p H' → R xs p H' :=
  q_slL m h fun xs p M' H' g r => k xs p M' H' g (cutT_map f as lo hi ▸ r)
theorem q_rev1 {K : PySem.W.Frag} {M H : Hp} {x : V} {α : Type} {f : α → Tr} {as : List α} {R : List V → Addr → Hp → Prop} (m : Same M H) (h : Rp K M x (.lst (as.map f))) (k : ∀ (xs : List V) (p : Addr) (M' H' : Hp), Gx [] M H M' H' → Rp K M' (.ref p) (.lst (as.reverse.map f)) → R xs p H') : ∃ a xs, x = .ref a ∧ SqL K H a xs ∧ ∀ p H', New H (.lst xs.reverse) p H' → R xs p H' :=
  q_rev m h fun xs p M' H' g r => k xs p M' H' g (List.map_reverse ▸ r)
/-! ### walks -/
/-- a walk whose i-th thing is of the tree φ i; the heap stays -/
def RW0 (K : PySem.W.Frag) (J : It) (n : Nat) (φ : Nat → Tr) (M : Hp) : Prop :=
  ∃ G Y, Walk J n G Y ∧ (∀ H, Same M H → G H) ∧ ∀ i M' H v H', i < n → Same M M' → Same M' H → Y i H v H' → H' = H ∧ Rp K M' v (φ i)
/-- .. each thing may be new -/
def RW1 (K : PySem.W.Frag) (J : It) (n : Nat) (φ : Nat → Tr) (M : Hp) : Prop :=
  ∃ G Y, Walk J n G Y ∧ (∀ H, Same M H → G H) ∧ ∀ i M' H v H', i < n → Same M M' → Same M' H → Y i H v H' → ∃ M2, Gx [] M' H M2 H' ∧ Rp K M2 v (φ i)
section
variable {K : PySem.W.Frag} {M H : Hp} {x : V} {α β : Type} [Inhabited α] [Inhabited β] {J : It} {n : Nat} {φ : Nat → Tr}
theorem RW0.one (w : RW0 K J n φ M) : RW1 K J n φ M := by
  obtain ⟨G, Y, w, g, y⟩ := w
  refine ⟨G, Y, w, g, fun i M' H v H' hi m m' h => ?_⟩
  obtain ⟨rfl, r⟩ := y i M' H v H' hi m m' h
  exact ⟨M', Gx.refl m', r⟩
theorem RW0.up {M0 : Hp} (w : RW0 K J n φ M0) (s : Same M0 M) : RW0 K J n φ M := by
  obtain ⟨G, Y, w, g, y⟩ := w
  exact ⟨G, Y, w, fun H m => g H (s.trans m), fun i M' H v H' hi m m' h => y i M' H v H' hi (s.trans m) m' h⟩
theorem RW1.up {M0 : Hp} (w : RW1 K J n φ M0) (s : Same M0 M) : RW1 K J n φ M := by
  obtain ⟨G, Y, w, g, y⟩ := w
  exact ⟨G, Y, w, fun H m => g H (s.trans m), fun i M' H v H' hi m m' h => y i M' H v H' hi (s.trans m) m' h⟩
theorem getD_some {as : List α} {i : Nat} (h : i < as.length) : as[i]? = some (as.getD i default) := by
  rw [List.getD_eq_getElem?_getD, List.getElem?_eq_getElem h]
  rfl
theorem getD_lt {ts : List Tr} {i : Nat} (h : i < ts.length) : ts[i]? = some (ts.getD i .non) := by
  rw [List.getD_eq_getElem?_getD, List.getElem?_eq_getElem h]
  rfl
theorem RpAll.get {ts : List Tr} {xs : List V} {i : Nat} {v : V} (r : RpAll K M xs ts) (h : xs[i]? = some v) : Rp K M v (ts.getD i .non) := by
  obtain ⟨t, et, rt⟩ := r.of_at h
  rw [List.getD_eq_getElem?_getD, et]
  exact rt
theorem getD_mapT {f : α → Tr} {as : List α} {i : Nat} (h : i < as.length) : (as.map f).getD i .non = f (as.getD i default) := by
  rw [List.getD_eq_getElem?_getD, List.getElem?_map, getD_some h]
  rfl
theorem RW1.congr {n' : Nat} {φ' : Nat → Tr} (w : RW1 K J n φ M) (e : n = n') (h : ∀ i, i < n → φ i = φ' i) : RW1 K J n' φ' M := by
  subst e
  obtain ⟨G, Y, w, g, y⟩ := w
  refine ⟨G, Y, w, g, fun i M' H v H' hi m m' q => ?_⟩
  rw [← h i hi]
  exact y i M' H v H' hi m m' q
theorem RW0.congr {n' : Nat} {φ' : Nat → Tr} (w : RW0 K J n φ M) (e : n = n') (h : ∀ i, i < n → φ i = φ' i) : RW0 K J n' φ' M := by
  subst e
  obtain ⟨G, Y, w, g, y⟩ := w
  refine ⟨G, Y, w, g, fun i M' H v H' hi m m' q => ?_⟩
  rw [← h i hi]
  exact y i M' H v H' hi m m' q
theorem RW0.ty {f : α → Tr} {as : List α} (w : RW0 K J (as.map f).length (fun i => (as.map f).getD i .non) M) : RW0 K J as.length (fun i => f (as.getD i default)) M := w.congr (List.length_map _) fun i hi => getD_mapT (by rw [List.length_map] at hi; exact hi)
theorem RW1.ty {f : α → Tr} {as : List α} (w : RW1 K J (as.map f).length (fun i => (as.map f).getD i .non) M) : RW1 K J as.length (fun i => f (as.getD i default)) M := w.congr (List.length_map _) fun i hi => getD_mapT (by rw [List.length_map] at hi; exact hi)
theorem RW1.tyE {f : α → Tr} {as : List α} (w : RW1 K J (as.map f).length (fun i => .tup [.int (i : Nat), (as.map f).getD i .non]) M) : RW1 K J as.length (fun i => .tup [.int (i : Nat), f (as.getD i default)]) M := w.congr (List.length_map _) fun i hi => by rw [getD_mapT (by rw [List.length_map] at hi; exact hi)]
section
variable {ts us : List Tr}
theorem rw_list {a : Addr} {xs : List V} (e : M a = some (.lst xs)) (r : RpAll K M xs ts) : RW0 K (Itl K a) ts.length (fun i => ts.getD i .non) M :=
  ⟨_, _, r.len ▸ walk_list (xs := xs), fun H m => SqL.of (m _ _ e), fun i M' H v H' hi m m' y => ⟨y.1, (r.same m).get y.2⟩⟩
theorem rw_tup {a : Addr} {xs : List V} (e : SqT K M a xs) (r : RpAll K M xs ts) : RW0 K (Itt K a) ts.length (fun i => ts.getD i .non) M :=
  ⟨_, _, r.len ▸ walk_tup (xs := xs), fun H m => sqT_same e m, fun i M' H v H' hi m m' y => ⟨y.1, (r.same m).get y.2⟩⟩
theorem rw_range {lo : Int} {n : Nat} : RW0 K (Itr lo n) n (fun i => .int (lo + (i : Nat))) M :=
  ⟨_, _, walk_range, fun _ _ => trivial, fun i M' H v H' hi m m' y => ⟨y.1, by rw [y.2]; exact .int _⟩⟩
theorem rw_pair {f g : Nat → Tr} {xs ys : Nat → Option V} {H H' : Hp} {v : V} {i : Nat} (m : Same M H) (y : YPair xs ys i H v H') (hx : ∀ v, xs i = some v → Rp K M v (f i)) (hy : ∀ v, ys i = some v → Rp K M v (g i)) : ∃ M2, Gx [] M H M2 H' ∧ Rp K M2 v (.tup [f i, g i]) := by
  obtain ⟨T, u, w, rfl, nT, rfl, e1, e2⟩ := y
  have s : Same M (L2.upd M T (.tup [u, w])) := Same.new (none_of m nT)
  exact ⟨_, Gx.new m nT, .tup (SqT.of upd_same) (.cons ((hx u e1).same s) (.cons ((hy w e2).same s) .nil))⟩
theorem rw_enumL {a : Addr} {xs : List V} (e : M a = some (.lst xs)) (r : RpAll K M xs ts) : RW1 K (Ite K a) ts.length (fun i => .tup [.int (i : Nat), ts.getD i .non]) M := by
  refine ⟨_, _, r.len ▸ walk_enum (xs := xs), fun H m => SqL.of (m _ _ e), fun i M' H v H' hi m m' y => rw_pair (f := fun i => .int (i : Nat)) (g := fun i => ts.getD i .non) m' y (fun v e => ?_) fun v e => (r.same m).get e⟩
  cases e
  exact .int _
theorem rw_enumT {a : Addr} {xs : List V} (e : SqT K M a xs) (r : RpAll K M xs ts) : RW1 K (IteT K a) ts.length (fun i => .tup [.int (i : Nat), ts.getD i .non]) M := by
  refine ⟨_, _, r.len ▸ walk_enumT (xs := xs), fun H m => sqT_same e m, fun i M' H v H' hi m m' y => rw_pair (f := fun i => .int (i : Nat)) (g := fun i => ts.getD i .non) m' y (fun v e => ?_) fun v e => (r.same m).get e⟩
  cases e
  exact .int _
theorem rw_zip {a b : Addr} {xs ys : List V} (e : M a = some (.lst xs)) (r : RpAll K M xs ts) (e' : M b = some (.lst ys)) (r' : RpAll K M ys us) :
    RW1 K (Itz K a b) (min ts.length us.length) (fun i => .tup [ts.getD i .non, us.getD i .non]) M :=
  ⟨_, _, walk_zip (xs := xs) (ys := ys) (by rw [r.len, r'.len]), fun H m => ⟨SqL.of (m _ _ e), SqL.of (m _ _ e')⟩, fun i M' H v H' hi m m' y => rw_pair (f := fun i => ts.getD i .non) (g := fun i => us.getD i .non) m' y (fun v e => (r.same m).get e) fun v e => (r'.same m).get e⟩
/-! for x in .. -/
theorem q_iL {R : Addr → Prop} (h : Rp K M x (.lst ts)) (m : Same M H) (k : ∀ a, RW0 K (Itl K a) ts.length (fun i => ts.getD i .non) M → R a) : ∃ a, x = .ref a ∧ (∃ xs, SqL K H a xs) ∧ R a := by
  cases h with
  | lst e r => exact ⟨_, rfl, ⟨_, SqL.of (m _ _ e)⟩, k _ (rw_list e r)⟩
theorem q_iT {R : Addr → Prop} (h : Rp K M x (.tup ts)) (m : Same M H) (k : ∀ a, RW0 K (Itt K a) ts.length (fun i => ts.getD i .non) M → R a) : ∃ a, x = .ref a ∧ (∃ xs, SqT K H a xs) ∧ R a := by
  cases h with
  | tup e r => exact ⟨_, rfl, ⟨_, sqT_same e m⟩, k _ (rw_tup e r)⟩
theorem q_eL {R : Addr → Prop} (h : Rp K M x (.lst ts)) (m : Same M H) (k : ∀ a, RW1 K (Ite K a) ts.length (fun i => .tup [.int (i : Nat), ts.getD i .non]) M → R a) : ∃ a xs, [x] = [V.ref a] ∧ SqL K H a xs ∧ R a := by
  cases h with
  | lst e r => exact ⟨_, _, rfl, SqL.of (m _ _ e), k _ (rw_enumL e r)⟩
theorem q_eT {R : Addr → Prop} (h : Rp K M x (.tup ts)) (m : Same M H) (k : ∀ a, RW1 K (IteT K a) ts.length (fun i => .tup [.int (i : Nat), ts.getD i .non]) M → R a) : ∃ a xs, [x] = [V.ref a] ∧ SqT K H a xs ∧ R a := by
  cases h with
  | tup e r => exact ⟨_, _, rfl, sqT_same e m, k _ (rw_enumT e r)⟩
end
theorem q_r1 {j : Int} (n : Nat) (e : j = n) {R : Int → Prop} (b : n < 2 ^ 62) (k : R (n : Int)) : ∃ j' : Int, [V.int j] = [V.int j'] ∧ -(2 ^ 62) ≤ j' ∧ j' < 2 ^ 62 ∧ R j' := by
  subst e
  exact ⟨_, rfl, by omega, by omega, k⟩
theorem q_r2 {lo hi : Int} {R : Int → Int → Prop} (b : -(2 ^ 62) ≤ lo ∧ lo < 2 ^ 62 ∧ -(2 ^ 62) ≤ hi ∧ hi < 2 ^ 62) (k : R lo hi) : ∃ i' j' : Int, [V.int lo, V.int hi] = [V.int i', V.int j'] ∧ (-(2 ^ 62) ≤ i' ∧ i' < 2 ^ 62 ∧ -(2 ^ 62) ≤ j' ∧ j' < 2 ^ 62) ∧ R i' j' := ⟨_, _, rfl, b, k⟩
theorem q_for {g : TG} {tb : TS} {D : Ends} {σ : St} (m : Same M H) {M0 : Hp} (w0 : RW0 K J n φ M0) (s0 : Same M0 M) (ps : List Addr) (W : Nat → St → Hp → Hp → Prop) (h0 : W 0 σ M H)
    (hs : ∀ (i : Nat) (σ : St) (v : V) (M' H' : Hp) (N : St → Hp → Prop), i < n → Gx ps M H M' H' → Rp K M' v (φ i) → W i σ M' H' → (∀ σ2 M2 H2, Gx ps M H M2 H2 → W (i + 1) σ2 M2 H2 → N σ2 H2) →
      g v σ H' fun σ2 H2 => tb { D with nx := N, ct := N, bk := D.nx } σ2 H2)
    (hd : ∀ σ' M' H', Gx ps M H M' H' → W n σ' M' H' → D.nx σ' H') :
    ∃ W : Nat → Nat → St → Hp → Prop, (∃ m, W 0 m σ H) ∧ ∀ i m σ H, W i m σ H →
      (J.stop i H ∧ D.nx σ H) ∨ (J.go i H ∧ ∃ N : St → Hp → Prop, (∀ σ' H', N σ' H' → ∃ m', m' < m ∧ W (i + 1) m' σ' H') ∧ ∀ x H', J.yld i H x H' → g x σ H' fun σ2 H2 => tb { D with nx := N, ct := N, bk := D.nx } σ2 H2) := by
  obtain ⟨G, Y, wk, hG, hY⟩ := w0.up s0
  refine for_it wk (fun i σ H' => ∃ M', Gx ps M H M' H' ∧ W i σ M' H') ⟨M, Gx.refl m, h0⟩ (fun i σ H' _ ⟨M', g, _⟩ => hG _ (g.m.trans g.h)) ?_ ?_
  · rintro i v σ' H0 H1 hi ⟨M', gx, w⟩ y
    obtain ⟨rfl, r⟩ := hY i M' H0 v H1 hi gx.m gx.h y
    exact hs i σ' v M' _ _ hi gx r w fun σ2 M2 H2 g2 w2 => ⟨M2, g2, w2⟩
  · rintro σ' H' ⟨M', gx, w⟩
    exact hd σ' M' H' gx w
theorem q_forE {g : TG} {tb : TS} {D : Ends} {σ : St} (m : Same M H) {M0 : Hp} (w0 : RW1 K J n φ M0) (s0 : Same M0 M) (ps : List Addr) (W : Nat → St → Hp → Hp → Prop) (h0 : W 0 σ M H)
    (hs : ∀ (i : Nat) (σ : St) (v : V) (M0 H0 M' H' : Hp) (N : St → Hp → Prop), i < n → Gx ps M H M0 H0 → Gx [] M0 H0 M' H' → Rp K M' v (φ i) → W i σ M0 H0 → (∀ σ2 M2 H2, Gx ps M H M2 H2 → W (i + 1) σ2 M2 H2 → N σ2 H2) →
      g v σ H' fun σ2 H2 => tb { D with nx := N, ct := N, bk := D.nx } σ2 H2)
    (hd : ∀ σ' M' H', Gx ps M H M' H' → W n σ' M' H' → D.nx σ' H') :
    ∃ W : Nat → Nat → St → Hp → Prop, (∃ m, W 0 m σ H) ∧ ∀ i m σ H, W i m σ H →
      (J.stop i H ∧ D.nx σ H) ∨ (J.go i H ∧ ∃ N : St → Hp → Prop, (∀ σ' H', N σ' H' → ∃ m', m' < m ∧ W (i + 1) m' σ' H') ∧ ∀ x H', J.yld i H x H' → g x σ H' fun σ2 H2 => tb { D with nx := N, ct := N, bk := D.nx } σ2 H2) := by
  obtain ⟨G, Y, wk, hG, hY⟩ := w0.up s0
  refine for_it wk (fun i σ H' => ∃ M', Gx ps M H M' H' ∧ W i σ M' H') ⟨M, Gx.refl m, h0⟩ (fun i σ H' _ ⟨M', g, _⟩ => hG _ (g.m.trans g.h)) ?_ ?_
  · rintro i v σ' H0 H1 hi ⟨M', gx, w⟩ y
    obtain ⟨M2, g2, r⟩ := hY i M' H0 v H1 hi gx.m gx.h y
    exact hs i σ' v M' H0 M2 H1 _ hi gx g2 r w fun σ2 M3 H3 g3 w3 => ⟨M3, g3, w3⟩
  · rintro σ' H' ⟨M', gx, w⟩
    exact hd σ' M' H' gx w
theorem q_forR {g : TG} {tb : TS} {D : Ends} {σ : St} {lo : Int} (ps : List Addr) (W : Nat → St → Hp → Hp → Prop) (m : Same M H) (h0 : W 0 σ M H)
    (hs : ∀ (i : Nat) (σ : St) (M' H' : Hp) (N : St → Hp → Prop), i < n → Gx ps M H M' H' → W i σ M' H' → (∀ σ2 M2 H2, Gx ps M H M2 H2 → W (i + 1) σ2 M2 H2 → N σ2 H2) →
      g (.int (lo + (i : Nat))) σ H' fun σ2 H2 => tb { D with nx := N, ct := N, bk := D.nx } σ2 H2)
    (hd : ∀ σ' M' H', Gx ps M H M' H' → W n σ' M' H' → D.nx σ' H') :
    ∃ W : Nat → Nat → St → Hp → Prop, (∃ m, W 0 m σ H) ∧ ∀ i m σ H, W i m σ H →
      ((Itr lo n).stop i H ∧ D.nx σ H) ∨ ((Itr lo n).go i H ∧ ∃ N : St → Hp → Prop, (∀ σ' H', N σ' H' → ∃ m', m' < m ∧ W (i + 1) m' σ' H') ∧ ∀ x H', (Itr lo n).yld i H x H' → g x σ H' fun σ2 H2 => tb { D with nx := N, ct := N, bk := D.nx } σ2 H2) :=
  for_range (fun i σ H' => ∃ M', Gx ps M H M' H' ∧ W i σ M' H') ⟨M, Gx.refl m, h0⟩ (fun i σ' H' hi ⟨M', gx, w⟩ => hs i σ' M' H' _ hi gx w fun σ2 M2 H2 g2 w2 => ⟨M2, g2, w2⟩) fun σ' H' ⟨M', gx, w⟩ => hd σ' M' H' gx w
/-- [e for x in .. if t]: the i-th turn makes what f i says, if anything -/
theorem q_lc {g : TG} {tt : TT} {te : TE} {vs : List Nat} {σ : St} {R : Addr → Hp → Prop} (m : Same M H) {M0 : Hp} (w0 : RW1 K J n φ M0) (s0 : Same M0 M) (f : Nat → Option Tr) (z : n < sizeLine)
    (hs : ∀ (i : Nat) (v : V) (M' H' : Hp) (F : VK) (F0 : Hp → Prop), i < n → Rp K M' v (φ i) → Same M M' → Same M' H' → (∀ y u M4 H4, f i = some u → Gx [] M' H' M4 H4 → Rp K M4 y u → F y H4) → (f i = none → ∀ M4 H4, Gx [] M' H' M4 H4 → F0 H4) →
      g v (wipe σ vs) H' fun σ2 H2 => wipe σ2 vs = wipe σ vs ∧ tt σ2 H2 fun b H3 => if b = true then te σ2 H3 F else F0 H3)
    (hd : ∀ (l : Addr) (M' H' : Hp), Gx [] M H M' H' → Rp K M' (.ref l) (.lst ((List.range n).filterMap f)) → R l H') :
    ∀ D, H D = none → ∃ W : Nat → Nat → Hp → Prop, (∃ m, W 0 m (L2.upd H D (.lst []))) ∧ ∀ i m H, W i m H →
      (J.stop i H ∧ R D H) ∨ (J.go i H ∧ ∃ Nx : Hp → Prop, (∀ H', Nx H' → ∃ m', m' < m ∧ W (i + 1) m' H') ∧ ∀ x H', J.yld i H x H' → g x (wipe σ vs) H' fun σ2 H2 => wipe σ2 vs = wipe σ vs ∧ tt σ2 H2 fun b H3 =>
        if b = true then te σ2 H3 fun y H4 => ∃ acc, H4 D = some (.lst acc) ∧ acc.length < sizeLine ∧ Nx (L2.upd H4 D (.lst (acc ++ [y]))) else Nx H3) := by
  obtain ⟨G, Y, wk, hG, hY⟩ := w0.up s0
  intro D nD
  have nM := none_of m nD
  refine lc_it wk (fun i H' => ∃ M' acc, Gx [D] M (L2.upd H D (.lst [])) M' H' ∧ H' D = some (.lst acc) ∧ M' D = none ∧ RpAll K M' acc ((List.range i).filterMap f)) ⟨M, [], Gx.refl (Gx.newO (ps := []) m nD).h, upd_same, nM, by simp; exact .nil⟩ (fun i H' _ ⟨M', _, g, _⟩ => hG _ (g.m.trans g.h)) ?_ ?_
  · rintro i v H0 H1 hi ⟨M0, acc, gx0, hD0, nD0, ra0⟩ y
    obtain ⟨M', g0, r⟩ := hY i M0 H0 v H1 hi gx0.m gx0.h y
    have hD := g0.s _ _ hD0 (by simp)
    have nD' := g0.out hD0 nD0
    have gx := gx0.trans g0.nil
    have ra := ra0.same g0.m
    have tk : (List.range (i + 1)).filterMap f = (List.range i).filterMap f ++ (match f i with | none => [] | some u => [u]) := by
      rw [List.range_succ, List.filterMap_append]
      congr 1
      simp [List.filterMap]
      cases f i <;> rfl
    have al : acc.length ≤ i := by
      rw [ra.len]
      exact Nat.le_trans (List.length_filterMap_le _ _) (by rw [List.length_range]; omega)
    refine hs i v M' H1 _ _ hi r gx.m gx.h ?_ ?_
    · intro y' u M4 H4 eu g4 r4
      have hD4 := g4.s _ _ hD (by simp)
      refine ⟨acc, hD4, by omega, M4, acc ++ [y'], ?_, upd_same, g4.out hD nD', ?_⟩
      · exact (gx.trans g4.nil).trans (Gx.upd g4.h (g4.out hD nD') (by simp))
      · rw [tk, eu]
        exact (ra.same g4.m).snoc r4
    · intro en M4 H4 g4
      refine ⟨M4, acc, gx.trans g4.nil, g4.s _ _ hD (by simp), g4.out hD nD', ?_⟩
      rw [tk, en, List.append_nil]
      exact ra.same g4.m
  · rintro H' ⟨M', acc, gx, hD, nD', ra⟩
    refine hd D (L2.upd M' D (.lst acc)) H' ?_ (.lst upd_same (ra.same (Same.new nD')))
    have g1 : Gx [D] M H M' H' := ((Gx.newO m nD).trans gx)
    exact (g1.freeze nD' hD nD).drop nD
theorem map_range_getD {γ : Type} {as : List α} (h : α → γ) : (List.range as.length).map (fun i => h (as.getD i default)) = as.map h := by
  apply List.ext_getElem?
  intro i
  rw [List.getElem?_map, List.getElem?_map]
  by_cases hi : i < as.length
  · rw [List.getElem?_range hi, getD_some hi]
    rfl
  · rw [List.getElem?_eq_none (by rw [List.length_range]; omega), List.getElem?_eq_none (by omega)]
    rfl
theorem filterMap_some0 {γ δ : Type} {l : List γ} {f : γ → δ} : l.filterMap (fun x => some (f x)) = l.map f := by simp
theorem lcMap {γ : Type} {as : List α} (φ : γ → Tr) (f : α → γ) : (List.range as.length).filterMap (fun i => some (φ (f (as.getD i default)))) = (as.map f).map φ := by
  rw [filterMap_some0, map_range_getD fun a => φ (f a), List.map_map]
  rfl
theorem lcRange {γ : Type} {n : Nat} (φ : γ → Tr) (f : Nat → γ) : (List.range n).filterMap (fun i => some (φ (f i))) = ((List.range n).map f).map φ := by
  rw [filterMap_some0, List.map_map]
  rfl
theorem filterMap_some {γ δ : Type} {l : List γ} {f : γ → δ} : l.filterMap (fun x => some (f x)) = l.map f := by simp
theorem lcFilter {γ : Type} {n : Nat} (p : Nat → Bool) (ψ : γ → Tr) (f : Nat → γ) : (List.range n).filterMap (fun i => if p i = true then some (ψ (f i)) else none) = (((List.range n).filter p).map f).map ψ := by
  induction (List.range n) with
  | nil => rfl
  | cons a l ih =>
    rw [List.filterMap_cons, List.filter_cons]
    by_cases h : p a = true
    · rw [if_pos h, if_pos h, List.map_cons, List.map_cons]
      exact congrArg _ ih
    · rw [if_neg h, if_neg h]
      exact ih
/-- [e for x in ..], by the turn -/
theorem q_lcI {g : TG} {tt : TT} {te : TE} {vs : List Nat} {σ : St} {R : Addr → Hp → Prop} {γ : Type} (m : Same M H) {M0 : Hp} (w0 : RW1 K J n φ M0) (s0 : Same M0 M) (ψ : γ → Tr) (f : Nat → γ) (z : n < sizeLine)
    (hs : ∀ (i : Nat) (v : V) (M' H' : Hp) (F : VK) (F0 : Hp → Prop), i < n → Rp K M' v (φ i) → Same M M' → Same M' H' → (∀ y M4 H4, Gx [] M' H' M4 H4 → Rp K M4 y (ψ (f i)) → F y H4) →
      g v (wipe σ vs) H' fun σ2 H2 => wipe σ2 vs = wipe σ vs ∧ tt σ2 H2 fun b H3 => if b = true then te σ2 H3 F else F0 H3)
    (hd : ∀ (l : Addr) (M' H' : Hp), Gx [] M H M' H' → Rp K M' (.ref l) (.lst (((List.range n).map f).map ψ)) → R l H') :
    ∀ D, H D = none → ∃ W : Nat → Nat → Hp → Prop, (∃ m, W 0 m (L2.upd H D (.lst []))) ∧ ∀ i m H, W i m H →
      (J.stop i H ∧ R D H) ∨ (J.go i H ∧ ∃ Nx : Hp → Prop, (∀ H', Nx H' → ∃ m', m' < m ∧ W (i + 1) m' H') ∧ ∀ x H', J.yld i H x H' → g x (wipe σ vs) H' fun σ2 H2 => wipe σ2 vs = wipe σ vs ∧ tt σ2 H2 fun b H3 =>
        if b = true then te σ2 H3 fun y H4 => ∃ acc, H4 D = some (.lst acc) ∧ acc.length < sizeLine ∧ Nx (L2.upd H4 D (.lst (acc ++ [y]))) else Nx H3) :=
  q_lc m w0 s0 (fun i => some (ψ (f i))) z (fun i v M' H' F F0 hi hv m1 m2 kF _ => hs i v M' H' F F0 hi hv m1 m2 fun y M4 H4 g r => kF y _ M4 H4 rfl g r) fun l M' H' g r => hd l M' H' g (by rw [lcRange] at r; exact r)
/-- [e for x in .. if t], by the turn -/
theorem q_lcIF {g : TG} {tt : TT} {te : TE} {vs : List Nat} {σ : St} {R : Addr → Hp → Prop} {γ : Type} (m : Same M H) {M0 : Hp} (w0 : RW1 K J n φ M0) (s0 : Same M0 M) (p : Nat → Bool) (ψ : γ → Tr) (f : Nat → γ) (z : n < sizeLine)
    (hs : ∀ (i : Nat) (v : V) (M' H' : Hp) (F : VK) (F0 : Hp → Prop), i < n → Rp K M' v (φ i) → Same M M' → Same M' H' → (∀ y M4 H4, p i = true → Gx [] M' H' M4 H4 → Rp K M4 y (ψ (f i)) → F y H4) → (p i = false → ∀ M4 H4, Gx [] M' H' M4 H4 → F0 H4) →
      g v (wipe σ vs) H' fun σ2 H2 => wipe σ2 vs = wipe σ vs ∧ tt σ2 H2 fun b H3 => if b = true then te σ2 H3 F else F0 H3)
    (hd : ∀ (l : Addr) (M' H' : Hp), Gx [] M H M' H' → Rp K M' (.ref l) (.lst ((((List.range n).filter p).map f).map ψ)) → R l H') :
    ∀ D, H D = none → ∃ W : Nat → Nat → Hp → Prop, (∃ m, W 0 m (L2.upd H D (.lst []))) ∧ ∀ i m H, W i m H →
      (J.stop i H ∧ R D H) ∨ (J.go i H ∧ ∃ Nx : Hp → Prop, (∀ H', Nx H' → ∃ m', m' < m ∧ W (i + 1) m' H') ∧ ∀ x H', J.yld i H x H' → g x (wipe σ vs) H' fun σ2 H2 => wipe σ2 vs = wipe σ vs ∧ tt σ2 H2 fun b H3 =>
        if b = true then te σ2 H3 fun y H4 => ∃ acc, H4 D = some (.lst acc) ∧ acc.length < sizeLine ∧ Nx (L2.upd H4 D (.lst (acc ++ [y]))) else Nx H3) :=
  q_lc m w0 s0 (fun i => if p i = true then some (ψ (f i)) else none) z (fun i v M' H' F F0 hi hv m1 m2 kF k0 => hs i v M' H' F F0 hi hv m1 m2 (fun y M4 H4 e g r => kF y _ M4 H4 (if_pos e) g r) (fun e => k0 (if_neg (by rw [e]; exact Bool.false_ne_true)))) fun l M' H' g r => hd l M' H' g (by rw [lcFilter] at r; exact r)
/-- [f(x) for x in as] -/
theorem q_lcM {g : TG} {tt : TT} {te : TE} {vs : List Nat} {σ : St} {R : Addr → Hp → Prop} {γ : Type} {as : List α} {χ : α → Tr} (m : Same M H) {M0 : Hp} (w0 : RW1 K J (as.map χ).length (fun i => (as.map χ).getD i .non) M0) (s0 : Same M0 M) (ψ : γ → Tr) (f : α → γ) (z : as.length < sizeLine)
    (hs : ∀ (i : Nat) (v : V) (M' H' : Hp) (F : VK) (F0 : Hp → Prop), i < as.length → Rp K M' v (χ (as.getD i default)) → Same M M' → Same M' H' → (∀ y M4 H4, Gx [] M' H' M4 H4 → Rp K M4 y (ψ (f (as.getD i default))) → F y H4) →
      g v (wipe σ vs) H' fun σ2 H2 => wipe σ2 vs = wipe σ vs ∧ tt σ2 H2 fun b H3 => if b = true then te σ2 H3 F else F0 H3)
    (hd : ∀ (l : Addr) (M' H' : Hp), Gx [] M H M' H' → Rp K M' (.ref l) (.lst ((as.map f).map ψ)) → R l H') :
    ∀ D, H D = none → ∃ W : Nat → Nat → Hp → Prop, (∃ m, W 0 m (L2.upd H D (.lst []))) ∧ ∀ i m H, W i m H →
      (J.stop i H ∧ R D H) ∨ (J.go i H ∧ ∃ Nx : Hp → Prop, (∀ H', Nx H' → ∃ m', m' < m ∧ W (i + 1) m' H') ∧ ∀ x H', J.yld i H x H' → g x (wipe σ vs) H' fun σ2 H2 => wipe σ2 vs = wipe σ vs ∧ tt σ2 H2 fun b H3 =>
        if b = true then te σ2 H3 fun y H4 => ∃ acc, H4 D = some (.lst acc) ∧ acc.length < sizeLine ∧ Nx (L2.upd H4 D (.lst (acc ++ [y]))) else Nx H3) :=
  q_lcI m w0.ty s0 ψ (fun i => f (as.getD i default)) z hs fun l M' H' g r => hd l M' H' g (by rw [map_range_getD f] at r; exact r)
theorem filter_range_getD {γ : Type} {as : List α} (p : α → Bool) (h : α → γ) : ((List.range as.length).filter fun i => p (as.getD i default)).map (fun i => h (as.getD i default)) = (as.filter p).map h := by
  have e : as = (List.range as.length).map (fun i => as.getD i default) := by
    have := map_range_getD (as := as) id
    rw [List.map_id] at this
    exact this.symm
  conv => rhs; rw [e]
  rw [List.filter_map, List.map_map]
  rfl
/-- [f(x) for x in as if p(x)] -/
theorem q_lcMF {g : TG} {tt : TT} {te : TE} {vs : List Nat} {σ : St} {R : Addr → Hp → Prop} {γ : Type} {as : List α} {χ : α → Tr} (m : Same M H) {M0 : Hp} (w0 : RW1 K J (as.map χ).length (fun i => (as.map χ).getD i .non) M0) (s0 : Same M0 M) (p : α → Bool) (ψ : γ → Tr) (f : α → γ) (z : as.length < sizeLine)
    (hs : ∀ (i : Nat) (v : V) (M' H' : Hp) (F : VK) (F0 : Hp → Prop), i < as.length → Rp K M' v (χ (as.getD i default)) → Same M M' → Same M' H' → (∀ y M4 H4, p (as.getD i default) = true → Gx [] M' H' M4 H4 → Rp K M4 y (ψ (f (as.getD i default))) → F y H4) → (p (as.getD i default) = false → ∀ M4 H4, Gx [] M' H' M4 H4 → F0 H4) →
      g v (wipe σ vs) H' fun σ2 H2 => wipe σ2 vs = wipe σ vs ∧ tt σ2 H2 fun b H3 => if b = true then te σ2 H3 F else F0 H3)
    (hd : ∀ (l : Addr) (M' H' : Hp), Gx [] M H M' H' → Rp K M' (.ref l) (.lst (((as.filter p).map f).map ψ)) → R l H') :
    ∀ D, H D = none → ∃ W : Nat → Nat → Hp → Prop, (∃ m, W 0 m (L2.upd H D (.lst []))) ∧ ∀ i m H, W i m H →
      (J.stop i H ∧ R D H) ∨ (J.go i H ∧ ∃ Nx : Hp → Prop, (∀ H', Nx H' → ∃ m', m' < m ∧ W (i + 1) m' H') ∧ ∀ x H', J.yld i H x H' → g x (wipe σ vs) H' fun σ2 H2 => wipe σ2 vs = wipe σ vs ∧ tt σ2 H2 fun b H3 =>
        if b = true then te σ2 H3 fun y H4 => ∃ acc, H4 D = some (.lst acc) ∧ acc.length < sizeLine ∧ Nx (L2.upd H4 D (.lst (acc ++ [y]))) else Nx H3) :=
  q_lcIF m w0.ty s0 (fun i => p (as.getD i default)) ψ (fun i => f (as.getD i default)) z hs fun l M' H' g r => hd l M' H' g (by rw [filter_range_getD p f] at r; exact r)
theorem q_forM {g : TG} {tb : TS} {D : Ends} {σ : St} {as : List α} {χ : α → Tr} (m : Same M H) {M0 : Hp} (w0 : RW0 K J (as.map χ).length (fun i => (as.map χ).getD i .non) M0) (s0 : Same M0 M) (ps : List Addr) (W : Nat → St → Hp → Hp → Prop) (h0 : W 0 σ M H)
    (hs : ∀ (i : Nat) (σ : St) (v : V) (M' H' : Hp) (N : St → Hp → Prop), i < as.length → Gx ps M H M' H' → Rp K M' v (χ (as.getD i default)) → W i σ M' H' → (∀ σ2 M2 H2, Gx ps M H M2 H2 → W (i + 1) σ2 M2 H2 → N σ2 H2) →
      g v σ H' fun σ2 H2 => tb { D with nx := N, ct := N, bk := D.nx } σ2 H2)
    (hd : ∀ σ' M' H', Gx ps M H M' H' → W as.length σ' M' H' → D.nx σ' H') :
    ∃ W : Nat → Nat → St → Hp → Prop, (∃ m, W 0 m σ H) ∧ ∀ i m σ H, W i m σ H →
      (J.stop i H ∧ D.nx σ H) ∨ (J.go i H ∧ ∃ N : St → Hp → Prop, (∀ σ' H', N σ' H' → ∃ m', m' < m ∧ W (i + 1) m' σ' H') ∧ ∀ x H', J.yld i H x H' → g x σ H' fun σ2 H2 => tb { D with nx := N, ct := N, bk := D.nx } σ2 H2) :=
  q_for m w0.ty s0 ps W h0 hs hd
theorem q_forEM {g : TG} {tb : TS} {D : Ends} {σ : St} {as : List α} {χ : α → Tr} (m : Same M H) {M0 : Hp} (w0 : RW1 K J (as.map χ).length (fun i => .tup [.int (i : Nat), (as.map χ).getD i .non]) M0) (s0 : Same M0 M) (ps : List Addr) (W : Nat → St → Hp → Hp → Prop) (h0 : W 0 σ M H)
    (hs : ∀ (i : Nat) (σ : St) (v : V) (M0 H0 M' H' : Hp) (N : St → Hp → Prop), i < as.length → Gx ps M H M0 H0 → Gx [] M0 H0 M' H' → Rp K M' v (.tup [.int (i : Nat), χ (as.getD i default)]) → W i σ M0 H0 → (∀ σ2 M2 H2, Gx ps M H M2 H2 → W (i + 1) σ2 M2 H2 → N σ2 H2) →
      g v σ H' fun σ2 H2 => tb { D with nx := N, ct := N, bk := D.nx } σ2 H2)
    (hd : ∀ σ' M' H', Gx ps M H M' H' → W as.length σ' M' H' → D.nx σ' H') :
    ∃ W : Nat → Nat → St → Hp → Prop, (∃ m, W 0 m σ H) ∧ ∀ i m σ H, W i m σ H →
      (J.stop i H ∧ D.nx σ H) ∨ (J.go i H ∧ ∃ N : St → Hp → Prop, (∀ σ' H', N σ' H' → ∃ m', m' < m ∧ W (i + 1) m' σ' H') ∧ ∀ x H', J.yld i H x H' → g x σ H' fun σ2 H2 => tb { D with nx := N, ct := N, bk := D.nx } σ2 H2) :=
  q_forE m w0.tyE s0 ps W h0 hs hd
end
end Brk

set_option Elab.async false
set_option linter.all false
set_option maxRecDepth 100000
set_option maxHeartbeats 4000000
/-! Own words: rules that name K, and that tell a new thing as a new thing in a new heap. -/
namespace Brk
open PySem L2
theorem new_of {H : Hp} {o : HO} {Q : Addr → Hp → Prop} (h : ∀ p H', New H o p H' → Q p H') : ∀ p, H p = none → Q p (L2.upd H p o) := fun p n => h p _ ⟨n, rfl⟩
section
variable {X : Cx} {K : PySem.W.Frag}
theorem ix_seqC (hK : X.K = K) : IxR X (rIx K) := by
  subst hK
  exact ix_seq
theorem cr_sumC (hK : X.K = K) (hc : X.calm = true) : CallR X (.builtin "sum") (rSum K) := by
  subst hK
  exact cr_sum hc
theorem cr_minC (hK : X.K = K) (hc : X.calm = true) : CallR X (.builtin "min") (rMin K) := by
  subst hK
  exact cr_min hc
theorem cr_maxC (hK : X.K = K) (hc : X.calm = true) : CallR X (.builtin "max") (rMax K) := by
  subst hK
  exact cr_max hc
theorem cr_allC (hK : X.K = K) (hc : X.calm = true) : CallR X (.builtin "all") (rAll K) := by
  subst hK
  exact cr_all hc
theorem cr_anyC (hK : X.K = K) (hc : X.calm = true) : CallR X (.builtin "any") (rAny K) := by
  subst hK
  exact cr_any hc
theorem op_in_seqC (hK : X.K = K) : OpR X (compareOp .In) (rIn K false) := by
  subst hK
  exact op_in_seq
theorem op_notIn_seqC (hK : X.K = K) : OpR X (compareOp .NotIn) (rIn K true) := by
  subst hK
  exact op_notIn_seq
theorem call_isiC (hK : X.K = K) : CallR X (.builtin "isinstance") (rIsi K) := by
  subst hK
  exact call_isi
theorem pe_fldC {e : Expr} {ta : TE} {f : Str} {pos : Pos} (hK : X.K = K) (he : PE X e ta) (hb : attributeBase e f X.env (eval e X.env) = eval e X.env) : PE X (.Attribute e f pos) (tFld K ta f) := by
  subst hK
  exact pe_fld he hb
theorem pi_enumC {e : Expr} {ta : TA} {p pos tpos : Pos} {elts : List Expr} {kk : Nat} (hK : X.K = K) (hg : Gl X "enumerate") (hm : X.mg "enumerate" = none) (ha : PA X [e] ta) (one : starEach [e] X.env = [(false, eval e X.env)] := by rfl) :
    PI X (.Tuple elts kk tpos) (.Call (.Name "enumerate" p) [e] [] pos) (iEnum K ta) := by
  subst hK
  exact pi_enum hg hm ha one
theorem pi_enumTC {e : Expr} {ta : TA} {p pos tpos : Pos} {elts : List Expr} {kk : Nat} (hK : X.K = K) (hg : Gl X "enumerate") (hm : X.mg "enumerate" = none) (ha : PA X [e] ta) (one : starEach [e] X.env = [(false, eval e X.env)] := by rfl) :
    PI X (.Tuple elts kk tpos) (.Call (.Name "enumerate" p) [e] [] pos) (iEnumT K ta) := by
  subst hK
  exact pi_enumT hg hm ha one
theorem op_eqKC (hK : X.K = K) (hu : X.A.units + 64 < cLine) : OpR X (compareOp .Eq) (rEqK K) := by
  subst hK
  exact op_eqK hu
theorem op_neKC (hK : X.K = K) (hu : X.A.units + 64 < cLine) : OpR X (compareOp .NotEq) (rNeK K) := by
  subst hK
  exact op_neK hu
/-! new things -/
def rSlTQ (K : PySem.W.Frag) : V → Option Int → Option Int → Hp → VK → Prop := fun x lo hi H Q => ∃ a xs, x = .ref a ∧ SqT K H a xs ∧ ∀ (p : Addr) (H' : Hp), ((p = a ∧ H' = H ∧ cutV xs lo hi = xs) ∨ New H (.tup (cutV xs lo hi)) p H') → Q (.ref p) H'
theorem sl_tupQC (hK : X.K = K) : SlR X (rSlTQ K) := by
  subst hK
  intro pins s σ H x v vl vu lo hi sl Q I rx hs pl pu h
  refine sl_tupQ pins s σ H x v vl vu lo hi sl Q I rx hs pl pu ?_
  obtain ⟨a, xs, e, q, k⟩ := h
  exact ⟨a, xs, e, q, k⟩
def rSlLQ (K : PySem.W.Frag) : V → Option Int → Option Int → Hp → VK → Prop := fun x lo hi H Q => ∃ a xs, x = .ref a ∧ SqL K H a xs ∧ ∀ (p : Addr) (H' : Hp), New H (.lst (cutV xs lo hi)) p H' → Q (.ref p) H'
theorem sl_listQC (hK : X.K = K) : SlR X (rSlLQ K) := by
  subst hK
  intro pins s σ H x v vl vu lo hi sl Q I rx hs pl pu h
  refine sl_list pins s σ H x v vl vu lo hi sl Q I rx hs pl pu ?_
  obtain ⟨a, xs, e, q, k⟩ := h
  exact ⟨a, xs, e, q, new_of (Q := fun p => Q (.ref p)) k⟩
def rCatQ : R2 := fun x y H Q => ∃ l b xs zs, x = .ref l ∧ y = .ref b ∧ H l = some (.lst xs) ∧ H b = some (.lst zs) ∧ xs.length + zs.length ≤ sizeLine ∧ ∀ (p : Addr) (H' : Hp), New H (.lst (xs ++ zs)) p H' → Q (.ref p) H'
theorem op_catQ : OpR X (binaryOp .Add) rCatQ := by
  intro pins s σ H x y v u Q I rx ry h
  refine op_cat pins s σ H x y v u Q I rx ry ?_
  obtain ⟨l, b, xs, zs, e1, e2, h1, h2, z, k⟩ := h
  exact ⟨l, b, xs, zs, e1, e2, h1, h2, z, new_of (Q := fun p => Q (.ref p)) k⟩
theorem call_list_ofQ (hK : X.K = K) : CallR X (.type "list") (fun xs H Q => ∃ p ys, xs = [.ref p] ∧ (SqL K H p ys ∨ SqT K H p ys) ∧ ∀ (l : Addr) (H' : Hp), New H (.lst ys) l H' → Q (.ref l) H') := by
  subst hK
  intro pins s σ H xs us Q I r h
  refine call_list_of pins s σ H xs us Q I r ?_
  obtain ⟨p, ys, e, q, k⟩ := h
  exact ⟨p, ys, e, q, new_of (Q := fun p => Q (.ref p)) k⟩
theorem call_tuple_ofQ (hK : X.K = K) : CallR X (.type "tuple") (fun xs H Q => ∃ p ys, xs = [.ref p] ∧ ((SqL K H p ys ∧ ∀ (l : Addr) (H' : Hp), New H (.tup ys) l H' → Q (.ref l) H') ∨ (SqT K H p ys ∧ Q (.ref p) H))) := by
  subst hK
  intro pins s σ H xs us Q I r h
  refine call_tuple_of pins s σ H xs us Q I r ?_
  obtain ⟨p, ys, e, q⟩ := h
  exact ⟨p, ys, e, q.imp (fun w => ⟨w.1, new_of (Q := fun p => Q (.ref p)) w.2⟩) id⟩
theorem cr_sortedQ (hK : X.K = K) : CallR X (.builtin "sorted") (fun vs H Q => ∃ (a : Addr) (ns : List Int), vs = [V.ref a] ∧ SqL K H a (ns.map V.int) ∧ ∀ (ns' : List Int) (p : Addr) (H' : Hp), ns'.Perm ns → ns'.Pairwise (· ≤ ·) → New H (.lst (ns'.map V.int)) p H' → Q (.ref p) H') := by
  subst hK
  intro pins s σ H xs us Q I r h
  refine cr_sortedI pins s σ H xs us Q I r ?_
  obtain ⟨a, ns, e, q, k⟩ := h
  exact ⟨a, ns, e, q, fun ns' p h1 h2 n => k ns' p _ h1 h2 ⟨n, rfl⟩⟩
/-- what is wanted may be weakened -/
def tUp (t : TA) : TA := fun σ H Q => ∃ Q0, t σ H Q0 ∧ ∀ xs H1, Q0 xs H1 → Q xs H1
theorem PA.up {es : List Expr} {t : TA} (h : PA X es t) : PA X es (tUp t) := by
  refine ⟨fun pos pins s σ H Q I q => ?_⟩
  obtain ⟨Q0, q0, m⟩ := q
  refine wpAny_mono (h.run pos pins s σ H Q0 I q0) ?_ fun _ _ z => z
  rintro us s1 ⟨vs, H1, J, r, w⟩
  exact ⟨vs, H1, J, r, m _ _ w⟩
def tLstQ (t : TA) : TE := fun σ H Q => t σ H fun xs H1 => xs.length ≤ sizeLine ∧ ∀ (p : Addr) (H' : Hp), New H1 (.lst xs) p H' → Q (.ref p) H'
def tTupQ (t : TA) : TE := fun σ H Q => t σ H fun xs H1 => xs.length ≤ sizeLine ∧ ∀ (p : Addr) (H' : Hp), New H1 (.tup xs) p H' → Q (.ref p) H'
theorem pe_conv {e : Expr} {t t' : TE} (h : PE X e t) (c : ∀ σ H Q, t' σ H Q → t σ H Q) : PE X e t' := ⟨fun pins s σ H Q I q => h.run pins s σ H Q I (c σ H Q q)⟩
theorem pe_lstQ {es : List Expr} {t : TA} {pos : Pos} (h : PA X es t) : PE X (.List es pos) (tLstQ t) :=
  pe_conv (pe_lst (PA.up h)) fun σ H Q q => ⟨_, q, fun xs H1 w => ⟨w.1, new_of (Q := fun p => Q (.ref p)) w.2⟩⟩
theorem pe_tupQ {es : List Expr} {x1 : Nat} {t : TA} {pos : Pos} (h : PA X es t) : PE X (.Tuple es x1 pos) (tTupQ t) :=
  pe_conv (pe_tup (PA.up h)) fun σ H Q q => ⟨_, q, fun xs H1 w => ⟨w.1, new_of (Q := fun p => Q (.ref p)) w.2⟩⟩
/-! .. expressions whose reading may be weakened -/
def tUpE (t : TE) : TE := fun σ H Q => ∃ Q0 : VK, t σ H Q0 ∧ ∀ x H1, Q0 x H1 → Q x H1
theorem PE.up {e : Expr} {t : TE} (h : PE X e t) : PE X e (tUpE t) := by
  refine ⟨fun pins s σ H Q I q => ?_⟩
  obtain ⟨Q0, q0, m⟩ := q
  refine wpAny_mono (h.run pins s σ H Q0 I q0) ?_ fun _ _ z => z
  rintro u s1 ⟨v, H1, J, r, w⟩
  exact ⟨v, H1, J, r, m _ _ w⟩
def tRevQ (K : PySem.W.Frag) (te : TE) (ts : TO) : TE := fun σ H Q => te σ H fun x H1 => ts σ H1 fun c H2 => c = some (-1) ∧ ∃ a xs, x = .ref a ∧ SqL K H2 a xs ∧ ∀ (p : Addr) (H' : Hp), New H2 (.lst xs.reverse) p H' → Q (.ref p) H'
theorem pe_revQ {e : Expr} {te : TE} {pos p2 p3 : Pos} {u : UnaryOp} {ec : Expr} (hK : X.K = K) (he : PE X e te) (hs : PO X (some (.UnaryOp u ec p3)) (tPart (tUn (rU fun i => .int (-i)) (tC (.int 1))))) (hops : ∀ (a sl : Addr), ∃ ops, subscripted (.Slice none none (some (.UnaryOp u ec p3)) p2) false (.ref a) (.ref sl) = operate ops (getItem (.ref a) (.ref sl)) := by intro _ _; exact ⟨_, rfl⟩) :
    PE X (.Subscript e (.Slice none none (some (.UnaryOp u ec p3)) p2) pos) (fun σ H Q => te σ H fun x H1 => ∃ a xs, x = .ref a ∧ SqL K H1 a xs ∧ ∀ (p : Addr) (H' : Hp), New H1 (.lst xs.reverse) p H' → Q (.ref p) H') := by
  subst hK
  refine pe_conv (pe_rev (PE.up he) hs hops) fun σ H Q q => ⟨_, q, fun x H1 w => ?_⟩
  obtain ⟨a, xs, e, h, k⟩ := w
  exact ⟨1, rfl, -1, rfl, rfl, a, xs, e, h, new_of (Q := fun p => Q (.ref p)) k⟩
/-- list(range(n)) -/
theorem pe_listRgQ {e : Expr} {ta : TE} {p pos lp lpos : Pos} (hc : X.calm = true) (hg : Gl X "list") (hm : X.mg "list" = none) (hg2 : Gl X "range") (hm2 : X.mg "range" = none) (he : PE X e ta) (na : starEach [e] X.env = (false, eval e X.env) :: starEach [] X.env := by rfl)
    (na2 : starEach [.Call (.Name "range" p) [e] [] pos] X.env = (false, eval (.Call (.Name "range" p) [e] [] pos) X.env) :: starEach [] X.env := by rfl) :
    PE X (.Call (.Name "list" lp) [.Call (.Name "range" p) [e] [] pos] [] lpos) (fun σ H Q => ta σ H fun x H1 => ∃ n : Int, x = .int n ∧ RgOk 0 n ∧ ∀ (q : Addr) (H' : Hp), New H1 (.lst (rgV 0 n)) q H' → Q (.ref q) H') := by
  refine pe_conv (pe_listRg hc hg hm (prg_1 hg2 hm2 (PE.up he) na) na2) fun σ H Q q => ⟨_, q, fun x H1 w => ?_⟩
  obtain ⟨n, e, ok, k⟩ := w
  exact ⟨n, e, ok, new_of (Q := fun p => Q (.ref p)) k⟩
/-- o.m() -/
theorem pe_me0 {CX : CXT} {k : Nat} {ps : List Str} {sp : Sp} {E : XK} {m : Str} {C : Addr} {pos apos : Pos} {o : Expr} {ta : TE} {pl : Sem Bool} (M : Me X.prog X.w X.K X.mg X.base CX k C m ps sp) (c : Cls X.K C) (hr : Room k X.A) (hx : Passes CX X E) (he : PE X o ta)
    (ht : eval (.Call (.Attribute o m apos) [] [] pos) X.env = (do
      let ov ← eval o X.env
      standAt apos.atName
      let (f, first) ← holding [ov] (getMethod ov m pl)
      callWith pos f first (backTo pos (starEach [] X.env)) (backToKw pos (keywordEach [] X.env))) := by rfl) : PE X (.Call (.Attribute o m apos) [] [] pos) (tMeth C m sp [] E ta tNil) := by
  obtain ⟨f, fd, hm, hb, F⟩ := M
  exact pe_meth0 (pl := pl) he c hm F hr hb .nil hx ht
/-- list(range(a, b)) -/
theorem pe_listRgQ2 {a b : Expr} {ta tb : TE} {p pos lp lpos : Pos} (hc : X.calm = true) (hg : Gl X "list") (hm : X.mg "list" = none) (hg2 : Gl X "range") (hm2 : X.mg "range" = none) (ha : PE X a ta) (hb : PE X b tb)
    (na : starEach [a, b] X.env = (false, eval a X.env) :: starEach [b] X.env := by rfl) (nb : starEach [b] X.env = (false, eval b X.env) :: starEach [] X.env := by rfl) (hp : (backTo pos (starEach [b] X.env)).any (·.1) = false := by rfl)
    (na2 : starEach [.Call (.Name "range" p) [a, b] [] pos] X.env = (false, eval (.Call (.Name "range" p) [a, b] [] pos) X.env) :: starEach [] X.env := by rfl) :
    PE X (.Call (.Name "list" lp) [.Call (.Name "range" p) [a, b] [] pos] [] lpos) (fun σ H Q => ta σ H fun x H1 => tb σ H1 fun y H2 => ∃ i j : Int, x = .int i ∧ y = .int j ∧ RgOk i j ∧ ∀ (q : Addr) (H' : Hp), New H2 (.lst (rgV i j)) q H' → Q (.ref q) H') := by
  refine pe_conv (pe_listRg hc hg hm (prg_2 hg2 hm2 (PE.up ha) (PE.up hb) na nb hp) na2) fun σ H Q q => ⟨_, q, fun x H1 w => ⟨_, w, fun y H2 v => ?_⟩⟩
  obtain ⟨i, j, e1, e2, ok, k⟩ := v
  exact ⟨i, j, e1, e2, ok, new_of (Q := fun p => Q (.ref p)) k⟩
/-- x + y of an own class, within a try: what the method raises is wished for at the slots -/
theorem pe_addS {CX : CXT} {k : Nat} {sp : Sp} {E : L2.St → XK} {C : Addr} {o2 : Str} {a b : Expr} {ta tb : TE} {pos : Pos} (M : Me X.prog X.w X.K X.mg X.base CX k C "__add__" ["self", o2] sp) (room : Room k X.A) (pass : ∀ σ, PassesAt CX X σ (E σ)) (sf : PySem.W.selfFirst X.K C = true) (ha : PE X a ta) (hb : PE X b tb) :
    PE X (.BinOp a .Add b pos) (fun σ H Q => ta σ H fun x H1 => tb σ H1 fun y H2 => ∃ (a' b' dx dy : Addr) (fs gs : List (Str × V)), x = .ref a' ∧ y = .ref b' ∧ H2 a' = some (.ins C dx fs) ∧ H2 b' = some (.ins C dy gs) ∧ sp [.ref a', .ref b'] H2 (fun v H3 => (∃ p, v = .ref p) ∧ Q v H3) (E σ)) := by
  refine ⟨fun pins s σ H Q I h => wpAny_BinOp (binT ha hb I h ?_)⟩
  intro v u s2 x y H2 I2 rx ry q
  obtain ⟨p1, p2, dx, dy, fs, gs, rfl, rfl, ea, eb, q⟩ := q
  obtain ⟨f, fd, hm, hb, F⟩ := M
  obtain rfl : v = Value.ref p1 := rx
  obtain rfl : u = Value.ref p2 := ry
  obtain ⟨mA, O, _⟩ := ins_get I2.hok ea
  obtain ⟨od, J, _⟩ := O.look
  obtain ⟨mB, O2, _⟩ := ins_get I2.hok eb
  obtain ⟨od2, J2, _⟩ := O2.look
  obtain ⟨m, fr⟩ := I2.fr
  have run := run_fnS (us := [.ref p1, .ref p2]) (vs := [.ref p1, .ref p2]) F room hb (pass σ) I2 (.cons rfl (.cons rfl .nil)) q
  refine PySem.W.binop_K fr I2.ok.mod.kin J J2.type sf hm.at_ hm.fn (wpAny_mono run ?_ fun _ _ z => z)
  rintro w s3 ⟨z, H3, I3, rz, ⟨p, e⟩, q3⟩
  subst e
  obtain rfl : w = Value.ref p := rz
  exact ⟨.ref p, H3, I3, rfl, q3⟩
theorem pg_lstC {pos : Pos} {es : List Expr} {k : Nat} {t : TGs} {n : Nat} (hK : X.K = K) (hc : X.calm = true) (h : PGs X es t) (hn : (assignEach es X.env).length = n := by rfl) (hst : (assignEach es X.env).findIdx? (·.1) = none := by rfl) : PG X (.Tuple es k pos) (gLst K n t) := by
  subst hK
  exact pg_lst hc h hn hst
end
end Brk

set_option Elab.async false
set_option linter.all false
set_option maxRecDepth 100000
set_option maxHeartbeats 4000000
/-! Own words: parts of bands, bands in reverse order, bands joined. -/
namespace Brk
open PySem L2
abbrev pT (p : Int × Int) : Tr := .tup [.int p.1, .int p.2]
abbrev essT (ess : List (List Int)) : Tr := .lst (ess.map fun es => .lst (iT es))
def closeB (ess : List (List Int)) (a b : Int × Int) : Bool := decide (a.1 = b.1) && nearE (ess.getD a.1.toNat []) a.2 b.2
def thOk (ess : List (List Int)) (a : Int × Int) : Prop := 0 ≤ a.1 ∧ a.1 < ess.length ∧ inN (ess.getD a.1.toNat []) a.2
def lastC (ess : List (List Int)) (ths : List (Int × Int)) (i : Nat) : Nat → Int
  | 0 => i
  | k + 1 => if closeB ess (ths.getD i (0, 0)) (ths.getD (i + k) (0, 0)) = true then ((i + k : Nat) : Int) else lastC ess ths i k
def endsOf (ess : List (List Int)) (ths : List (Int × Int)) : List Int := (List.range ths.length).map fun i => lastC ess ths i (ths.length - i)
theorem Rp.ints {K : PySem.W.Frag} {M : Hp} {v : V} {es : List Int} (h : Rp K M v (.lst (iT es))) : ∃ r, v = .ref r ∧ M r = some (.lst (iV es)) := by
  cases h with
  | lst a r => exact ⟨_, rfl, by rw [a, r.ints]⟩
def spClose (K : PySem.W.Frag) : Sp := fun vs H Q _ => ∃ (M : Hp) (x y z : V) (ess : List (List Int)) (a b : Int × Int), vs = [x, y, z] ∧ Same M H ∧ Rp K M x (essT ess) ∧ Rp K M y (pT a) ∧ Rp K M z (pT b) ∧ thOk ess a ∧ thOk ess b ∧ Q (.bl (closeB ess a b)) H
def spEndsOf (K : PySem.W.Frag) : Sp := fun vs H Q _ => ∃ (M : Hp) (x y : V) (ess : List (List Int)) (ths : List (Int × Int)), vs = [x, y] ∧ Same M H ∧ Rp K M x (essT ess) ∧ Rp K M y (.lst (ths.map pT)) ∧ ths.length ≤ 100 ∧ (∀ a ∈ ths, thOk ess a) ∧
  ∀ (r : V) (M' H' : Hp), Gx [] M H M' H' → Rp K M' r (.tup (iT (endsOf ess ths))) → Q r H'
theorem atE {ess : List (List Int)} {i : Int} (h0 : 0 ≤ i) (h1 : i < ess.length) : atI (ess.map fun es => Tr.lst (iT es)) i = some (.lst (iT (ess.getD i.toNat []))) := by
  refine atI_ge h0 ?_
  have e : i.toNat < ess.length := by omega
  rw [List.getElem?_map, List.getD_eq_getElem?_getD, List.getElem?_eq_getElem e]
  rfl
theorem atP {ths : List (Int × Int)} {i : Nat} (h1 : i < ths.length) : atI (ths.map pT) (i : Int) = some (pT (ths.getD i (0, 0))) := by
  refine atI_nat ?_
  rw [List.getElem?_map, List.getD_eq_getElem?_getD, List.getElem?_eq_getElem h1]
  rfl
theorem getD_mem {α : Type} {xs : List α} {i : Nat} {d : α} (h : i < xs.length) : xs.getD i d ∈ xs := by
  rw [List.getD_eq_getElem?_getD, List.getElem?_eq_getElem h]
  exact List.getElem_mem h

/-! ### what a list of near things shows -/
theorem getD_map' {es : List Int} {f : Int → Int} {i : Nat} (h : i < es.length) : (es.map f).getD i 0 = f (es.getD i 0) := by
  rw [List.getD_eq_getElem?_getD, List.getD_eq_getElem?_getD, List.getElem?_map, List.getElem?_eq_getElem h]
  rfl
theorem getD_range {n : Nat} {f : Nat → Int} {i : Nat} (h : i < n) : ((List.range n).map f).getD i 0 = f i := by
  rw [List.getD_eq_getElem?_getD, List.getElem?_map, List.getElem?_range h]
  rfl
def EndsD (es : List Int) : Prop := ∀ i, i < es.length → (i : Int) ≤ es.getD i 0 ∧ es.getD i 0 < es.length ∧ (i + 1 < es.length → es.getD i 0 ≤ es.getD (i + 1) 0)
theorem EndsD.ok {es : List Int} (h : EndsD es) : EndsOk es.length es := by
  refine ⟨rfl, fun i x e => ?_⟩
  have hi := (List.getElem?_eq_some_iff.mp e).1
  obtain ⟨a, b, c⟩ := h i hi
  rw [getD_at e] at a b c
  refine ⟨a, b, fun y ey => ?_⟩
  have hi' := (List.getElem?_eq_some_iff.mp ey).1
  have := c hi'
  rw [getD_at ey] at this
  exact this
theorem EndsOk.d {n : Int} {es : List Int} (h : EndsOk n es) : EndsD es := by
  obtain ⟨hl, h⟩ := h
  intro i hi
  have e : es[i]? = some es[i] := List.getElem?_eq_getElem hi
  obtain ⟨a, b, c⟩ := h i _ e
  rw [getD_at e]
  refine ⟨a, by omega, fun hi' => ?_⟩
  have e' : es[i + 1]? = some es[i + 1] := List.getElem?_eq_getElem hi'
  rw [getD_at e']
  exact c _ e'
theorem EndsD.mono {es : List Int} (h : EndsD es) : ∀ {i k : Nat}, i ≤ k → k < es.length → es.getD i 0 ≤ es.getD k 0 := by
  intro i k
  induction k with
  | zero =>
    intro a _
    rw [show i = 0 by omega]
    exact Int.le_refl _
  | succ k ih =>
    intro a b
    by_cases z : i = k + 1
    · rw [z]
      exact Int.le_refl _
    · exact Int.le_trans (ih (by omega) (by omega)) ((h k (by omega)).2.2 b)
theorem near_le {es : List Int} {i k : Nat} (h : i ≤ k) : nearE es i k = decide ((k : Int) ≤ es.getD i 0) := by
  unfold nearE mxI mnI
  by_cases z : i = k
  · subst z
    rw [if_neg (by omega), Int.toNat_natCast]
  · rw [if_pos (by omega), if_neg (by omega), Int.toNat_natCast]
theorem near_comm {es : List Int} {i k : Int} : nearE es i k = nearE es k i := by
  unfold nearE mxI mnI
  rcases Int.lt_trichotomy i k with z | z | z
  · rw [if_pos (by omega), if_neg (by omega), if_neg (by omega), if_pos (by omega)]
  · subst z; rfl
  · rw [if_neg (by omega), if_pos (by omega), if_pos (by omega), if_neg (by omega)]
theorem close_comm {ess : List (List Int)} {a b : Int × Int} : closeB ess a b = closeB ess b a := by
  unfold closeB
  by_cases z : a.1 = b.1
  · rw [decide_eq_true z, decide_eq_true z.symm, z, near_comm]
  · rw [decide_eq_false z, decide_eq_false (fun w => z w.symm), Bool.false_and, Bool.false_and]
structure Shows (ess : List (List Int)) (ths : List (Int × Int)) (es : List Int) : Prop where
  len : es.length = ths.length
  ok : EndsD es
  th : ∀ a ∈ ths, thOk ess a
  near : ∀ i k : Nat, i ≤ k → k < ths.length → decide ((k : Int) ≤ es.getD i 0) = closeB ess (ths.getD i (0, 0)) (ths.getD k (0, 0))
theorem Shows.nearE {ess : List (List Int)} {ths : List (Int × Int)} {es : List Int} (h : Shows ess ths es) {i k : Nat} (hi : i < ths.length) (hk : k < ths.length) : nearE es i k = closeB ess (ths.getD i (0, 0)) (ths.getD k (0, 0)) := by
  by_cases z : i ≤ k
  · rw [near_le z, h.near i k z hk]
  · rw [near_comm, near_le (by omega), h.near k i (by omega) hi, close_comm]
theorem Shows.last {ess : List (List Int)} {ths : List (Int × Int)} {es : List Int} (h : Shows ess ths es) {i : Nat} (hi : i < ths.length) : ∀ j, i + j ≤ ths.length → lastC ess ths i j = if j = 0 then (i : Int) else min ((i : Int) + j - 1) (es.getD i 0)
  | 0, _ => rfl
  | j + 1, hj => by
    have a := (h.ok i (by rw [h.len]; exact hi)).1
    unfold lastC
    rw [h.last hi j (by omega), ← h.near i (i + j) (by omega) (by omega), if_neg (Nat.succ_ne_zero j)]
    by_cases q : ((i + j : Nat) : Int) ≤ es.getD i 0
    · rw [if_pos (decide_eq_true q)]
      omega
    · rw [if_neg (by rw [decide_eq_false q]; exact Bool.false_ne_true)]
      by_cases z : j = 0
      · subst z
        omega
      · rw [if_neg z]
        omega
theorem Shows.ends {ess : List (List Int)} {ths : List (Int × Int)} {es : List Int} (h : Shows ess ths es) : endsOf ess ths = es := by
  apply List.ext_getElem?
  intro i
  unfold endsOf
  by_cases hi : i < ths.length
  · have hi' : i < es.length := by rw [h.len]; exact hi
    rw [List.getElem?_map, List.getElem?_range hi, List.getElem?_eq_getElem hi', Option.map_some, h.last hi _ (by omega), if_neg (by omega)]
    have q := h.ok i hi'
    have e : es.getD i 0 = es[i] := getD_at (List.getElem?_eq_getElem hi')
    rw [e] at q ⊢
    congr 1
    have := h.len
    omega
  · rw [List.getElem?_eq_none (by rw [List.length_map, List.length_range]; omega), List.getElem?_eq_none (by rw [h.len]; omega)]
/-! parts -/
def partE (es : List Int) (lo hi : Nat) : List Int := ((es.drop lo).take (hi - lo)).map fun e => (if (hi : Int) - 1 < e then (hi : Int) - 1 else e) - lo
theorem getD_cut {α : Type} {xs : List α} {lo hi i : Nat} {d : α} (h : i < hi - lo) : ((xs.drop lo).take (hi - lo)).getD i d = xs.getD (lo + i) d := by
  rw [List.getD_eq_getElem?_getD, List.getD_eq_getElem?_getD, List.getElem?_take_of_lt h, List.getElem?_drop]
theorem cut_len {α : Type} {xs : List α} {lo hi : Nat} (h2 : hi ≤ xs.length) : ((xs.drop lo).take (hi - lo)).length = hi - lo := by
  rw [List.length_take, List.length_drop]
  omega
theorem partE_len {es : List Int} {lo hi : Nat} (h2 : hi ≤ es.length) : (partE es lo hi).length = hi - lo := by
  unfold partE
  rw [List.length_map, cut_len h2]
theorem partE_at {es : List Int} {lo hi i : Nat} (h2 : hi ≤ es.length) (h : i < hi - lo) : (partE es lo hi).getD i 0 = (if (hi : Int) - 1 < es.getD (lo + i) 0 then (hi : Int) - 1 else es.getD (lo + i) 0) - lo := by
  unfold partE
  rw [getD_map' (by rw [cut_len h2]; exact h), getD_cut h]
theorem Shows.part {ess : List (List Int)} {ths : List (Int × Int)} {es : List Int} (h : Shows ess ths es) {lo hi : Nat} (h2 : hi ≤ ths.length) : Shows ess ((ths.drop lo).take (hi - lo)) (partE es lo hi) := by
  have h2' : hi ≤ es.length := by rw [h.len]; exact h2
  refine ⟨by rw [partE_len h2', cut_len h2], fun i hi' => ?_, fun a ha => h.th a (List.mem_of_mem_drop (List.mem_of_mem_take ha)), fun i k hik hk => ?_⟩
  · rw [partE_len h2'] at hi' ⊢
    rw [partE_at h2' hi']
    have q := h.ok (lo + i) (by omega)
    refine ⟨by split <;> omega, by split <;> omega, fun hi2 => ?_⟩
    rw [partE_at h2' hi2]
    have q2 := q.2.2 (by omega)
    rw [show lo + i + 1 = lo + (i + 1) by omega] at q2
    split <;> split <;> omega
  · rw [cut_len h2] at hk
    rw [partE_at h2' (by omega), getD_cut (by omega), getD_cut hk, ← h.near (lo + i) (lo + k) (by omega) (by omega)]
    refine decide_eq_decide.mpr ?_
    split <;> omega
/-! in reverse order -/
def firstOf (es : List Int) (k : Nat) : Int := ((((List.range es.length).find? fun j => decide ((k : Int) ≤ es.getD j 0)).getD 0 : Nat) : Int)
theorem firstOf_is {es : List Int} {k m : Nat} (hm : m < es.length) (h : (k : Int) ≤ es.getD m 0) (hj : ∀ j, j < m → es.getD j 0 < (k : Int)) : firstOf es k = m := by
  unfold firstOf
  rw [find_range (p := fun j => decide ((k : Int) ≤ es.getD j 0)) hm (decide_eq_true h) (fun j z => decide_eq_false (by have := hj j z; omega))]
  rfl
theorem firstOf_spec {es : List Int} (h : EndsD es) {k : Nat} (hk : k < es.length) : ∃ m : Nat, firstOf es k = m ∧ m ≤ k ∧ (k : Int) ≤ es.getD m 0 ∧ ∀ j, j < m → es.getD j 0 < (k : Int) := by
  have hit : ((k : Int) ≤ es.getD k 0) := (h k hk).1
  obtain ⟨m, a, b, c⟩ : ∃ m : Nat, m ≤ k ∧ (k : Int) ≤ es.getD m 0 ∧ ∀ j, j < m → es.getD j 0 < (k : Int) := by
    have key : ∀ n : Nat, (∃ m, m < n ∧ (k : Int) ≤ es.getD m 0 ∧ ∀ j, j < m → es.getD j 0 < (k : Int)) ∨ ∀ j, j < n → es.getD j 0 < (k : Int) := by
      intro n
      induction n with
      | zero => exact .inr fun j z => absurd z (Nat.not_lt_zero _)
      | succ n ih =>
        rcases ih with ⟨m, a, b⟩ | ih
        · exact .inl ⟨m, by omega, b⟩
        · by_cases z : (k : Int) ≤ es.getD n 0
          · exact .inl ⟨n, by omega, z, ih⟩
          · refine .inr fun j hj => ?_
            by_cases w : j = n
            · subst w; omega
            · exact ih j (by omega)
    rcases key (k + 1) with ⟨m, a, b⟩ | ih
    · exact ⟨m, by omega, b⟩
    · have := ih k (by omega)
      omega
  exact ⟨m, firstOf_is (by omega) b c, a, b, c⟩
def mirE (es : List Int) : List Int := (((List.range es.length).map fun k => firstOf es k).reverse).map fun f => (es.length : Int) - 1 - f
theorem mirE_len {es : List Int} : (mirE es).length = es.length := by
  unfold mirE
  rw [List.length_map, List.length_reverse, List.length_map, List.length_range]
theorem getD_rev {α : Type} {xs : List α} {i : Nat} {d : α} (h : i < xs.length) : xs.reverse.getD i d = xs.getD (xs.length - 1 - i) d := by
  rw [List.getD_eq_getElem?_getD, List.getD_eq_getElem?_getD, List.getElem?_reverse h]
theorem mirE_at {es : List Int} {j : Nat} (h : j < es.length) : (mirE es).getD j 0 = (es.length : Int) - 1 - firstOf es (es.length - 1 - j) := by
  unfold mirE
  rw [getD_map' (by rw [List.length_reverse, List.length_map, List.length_range]; exact h), getD_rev (by rw [List.length_map, List.length_range]; exact h), List.length_map, List.length_range, getD_range (by omega)]
theorem Shows.mir {ess : List (List Int)} {ths : List (Int × Int)} {es : List Int} (h : Shows ess ths es) : Shows ess ths.reverse (mirE es) := by
  have hl := h.len
  refine ⟨by rw [mirE_len, List.length_reverse, hl], fun i hi => ?_, fun a ha => h.th a (List.mem_reverse.mp ha), fun i k hik hk => ?_⟩
  · rw [mirE_len] at hi ⊢
    rw [mirE_at hi]
    obtain ⟨m, e, a, b, c⟩ := firstOf_spec h.ok (k := es.length - 1 - i) (by omega)
    rw [e]
    refine ⟨by omega, by omega, fun hi2 => ?_⟩
    rw [mirE_at hi2]
    obtain ⟨m2, e2, a2, b2, c2⟩ := firstOf_spec h.ok (k := es.length - 1 - (i + 1)) (by omega)
    rw [e2]
    by_cases z : m < m2
    · have := c2 m z
      omega
    · omega
  · rw [List.length_reverse] at hk
    rw [mirE_at (by omega), getD_rev (by omega), getD_rev (by omega), close_comm, ← h.near (ths.length - 1 - k) (ths.length - 1 - i) (by omega) (by omega)]
    obtain ⟨m, e, a, b, c⟩ := firstOf_spec h.ok (k := es.length - 1 - i) (by omega)
    rw [e]
    refine decide_eq_decide.mpr ⟨fun z => ?_, fun z => ?_⟩
    · have q := h.ok.mono (i := m) (k := ths.length - 1 - k) (by omega) (by omega)
      omega
    · by_cases w : ths.length - 1 - k < m
      · have := c _ w
        omega
      · omega
/-! joined -/
def addE (es fs : List Int) : List Int := es ++ fs.map fun f => (es.length : Int) + f
theorem addE_len {es fs : List Int} : (addE es fs).length = es.length + fs.length := by
  unfold addE
  rw [List.length_append, List.length_map]
theorem getD_app1 {α : Type} {xs ys : List α} {i : Nat} {d : α} (h : i < xs.length) : (xs ++ ys).getD i d = xs.getD i d := by
  rw [List.getD_eq_getElem?_getD, List.getD_eq_getElem?_getD, List.getElem?_append_left h]
theorem getD_app2 {α : Type} {xs ys : List α} {i : Nat} {d : α} (h : xs.length ≤ i) : (xs ++ ys).getD i d = ys.getD (i - xs.length) d := by
  rw [List.getD_eq_getElem?_getD, List.getD_eq_getElem?_getD, List.getElem?_append_right h]
theorem addE_1 {es fs : List Int} {i : Nat} (h : i < es.length) : (addE es fs).getD i 0 = es.getD i 0 := getD_app1 h
theorem addE_2 {es fs : List Int} {i : Nat} (h : es.length ≤ i) (h2 : i < es.length + fs.length) : (addE es fs).getD i 0 = es.length + fs.getD (i - es.length) 0 := by
  unfold addE
  rw [getD_app2 h, getD_map' (by omega)]
theorem Shows.add {ess : List (List Int)} {t1 t2 : List (Int × Int)} {es fs : List Int} (h : Shows ess t1 es) (g : Shows ess t2 fs) (no : ∀ a ∈ t1, ∀ b ∈ t2, a.1 ≠ b.1) : Shows ess (t1 ++ t2) (addE es fs) := by
  have l1 := h.len
  have l2 := g.len
  refine ⟨by rw [addE_len, List.length_append, l1, l2], fun i hi => ?_, fun a ha => (List.mem_append.mp ha).elim (h.th a) (g.th a), fun i k hik hk => ?_⟩
  · rw [addE_len] at hi ⊢
    by_cases z : i < es.length
    · rw [addE_1 z]
      have q := h.ok i z
      refine ⟨q.1, by omega, fun hi2 => ?_⟩
      by_cases z2 : i + 1 < es.length
      · rw [addE_1 z2]
        exact q.2.2 z2
      · rw [addE_2 (by omega) hi2, show i + 1 - es.length = 0 by omega]
        have := (g.ok 0 (by omega)).1
        omega
    · rw [addE_2 (by omega) hi]
      have q := g.ok (i - es.length) (by omega)
      refine ⟨by omega, by omega, fun hi2 => ?_⟩
      rw [addE_2 (by omega) hi2, show i + 1 - es.length = i - es.length + 1 by omega]
      have := q.2.2 (by omega)
      omega
  · rw [List.length_append] at hk
    by_cases z : i < es.length
    · rw [addE_1 z, getD_app1 (by omega)]
      by_cases z2 : k < es.length
      · rw [getD_app1 (by omega)]
        exact h.near i k hik (by omega)
      · rw [getD_app2 (by omega)]
        have q := h.ok i z
        unfold closeB
        rw [decide_eq_false (by omega), decide_eq_false (no _ (getD_mem (by omega)) _ (getD_mem (by omega))), Bool.false_and]
    · rw [addE_2 (by omega) (by omega), getD_app2 (by omega), getD_app2 (by omega), ← l1, ← g.near (i - es.length) (k - es.length) (by omega) (by omega)]
      refine decide_eq_decide.mpr ?_
      omega
/-! the things of one list -/
def thsOf (j : Int) (n : Nat) : List (Int × Int) := (List.range n).map fun k => (j, ((k : Nat) : Int))
theorem thsOf_len {j : Int} {n : Nat} : (thsOf j n).length = n := by unfold thsOf; rw [List.length_map, List.length_range]
theorem thsOf_at {j : Int} {n i : Nat} {d : Int × Int} (h : i < n) : (thsOf j n).getD i d = (j, (i : Int)) := by
  unfold thsOf
  rw [List.getD_eq_getElem?_getD, List.getElem?_map, List.getElem?_range h]
  rfl
theorem Shows.base {ess : List (List Int)} {j : Nat} (hj : j < ess.length) (h : EndsD (ess.getD j [])) : Shows ess (thsOf j (ess.getD j []).length) (ess.getD j []) := by
  refine ⟨thsOf_len.symm, h, fun a ha => ?_, fun i k hik hk => ?_⟩
  · obtain ⟨k, hk, rfl⟩ := List.mem_map.mp ha
    have := List.mem_range.mp hk
    exact ⟨by simp only; omega, by simp only; omega, by simp only [Int.toNat_natCast]; exact ⟨by omega, by omega⟩⟩
  · rw [thsOf_len] at hk
    rw [thsOf_at (by omega), thsOf_at hk]
    unfold closeB
    simp only [Int.toNat_natCast, decide_true, Bool.true_and]
    exact (near_le hik).symm
theorem thOk.of {ess : List (List Int)} {a : Int × Int} (h : thOk ess a) : 0 ≤ a.1 ∧ a.1 < ess.length ∧ 0 ≤ a.2 ∧ a.2 < ((ess.getD a.1.toNat []).length : Int) := ⟨h.1, h.2.1, h.2.2.1, h.2.2.2⟩
theorem BandAt.rp {K : PySem.W.Frag} {C b : Addr} {M : Hp} {es : List Int} (h : BandAt C M b es) : Rp K M (.ref b) (.ins C [("ends", .tup (iT es))]) := by
  obtain ⟨dx, t, e1, e2⟩ := h
  exact .ins e1 (.cons (.tup (SqT.of e2) rpInts) .nil)
theorem EndsD.fine {es : List Int} (h : EndsD es) (l : es.length ≤ 60) : bandDue es = .fine := h.ok.fine (by omega)
/-- a Band is made, or refused; M told -/
def spBandM (CB CT CE : Addr) : Sp := fun vs H Q E => ∃ (M : Hp) (p dx r : Addr) (es : List Int), vs = [.ref p, .ref r] ∧ Same M H ∧ M p = none ∧ H p = some (.ins CB dx []) ∧ SqIn M r es ∧ es.length ≤ 1000 ∧
  (bandDue es = .fine → ∀ t M' H', Gx [p] M H M' H' → M' t = some (.tup (iV es)) → H' p = some (.ins CB dx [("ends", .ref t)]) → Q .non H') ∧ (bandDue es = .many → xMany CT H E) ∧ (∀ i, bandDue es = .at_ i → xEnd CE i H E)
/-- a new instance, once it is filled -/
theorem made {M H M' H' : Hp} {x dx C : Addr} {fs : List (Str × V)} (m : Same M H) (nx : H x = none) (nd : H dx = none) (ne : dx ≠ x) (g : Gx [x] M (L2.upd (L2.upd H dx (.own x)) x (.ins C dx [])) M' H') (e : H' x = some (.ins C dx fs)) :
    Gx [] M H (L2.upd M' x (.ins C dx fs)) H' ∧ Same M' (L2.upd M' x (.ins C dx fs)) ∧ (L2.upd M' x (.ins C dx fs)) x = some (.ins C dx fs) := by
  have m1 : Same M (L2.upd H dx (.own x)) := fun b o h => (upd_ne (ne_of_none (m _ _ h) nd)).trans (m _ _ h)
  have nx1 : (L2.upd H dx (.own x)) x = none := (upd_ne ne.symm).trans nx
  have g0 : Gx [] M H M (L2.upd (L2.upd H dx (.own x)) x (.ins C dx [])) := (Gx.newO m nd).trans (Gx.newO m1 nx1)
  have out := g.out upd_same (none_of m nx)
  exact ⟨((g0.nil.trans g).drop nx).freeze out e nx, Same.new out, upd_same⟩
theorem q_mkBand {K : PySem.W.Frag} {CB l : Addr} {M H : Hp} {es : List Int} {R : Addr → Hp → Prop} {X1 : Addr → Addr → Hp → Addr → Addr → Addr → List Int → Prop} {X2 : Addr → Addr → Hp → Addr → Addr → Addr → List Int → Nat → Prop} (h : Rp K M (.ref l) (.lst (iT es))) (m : Same M H) (ok : EndsD es) (l60 : es.length ≤ 60)
    (k : ∀ x M' H', BandAt CB M' x es → Gx [] M H M' H' → R x H') : ∀ x dx, H x = none → H dx = none → dx ≠ x → ∃ (M0 : Hp) (p dx' r : Addr) (es' : List Int), ([V.ref x, V.ref l] : List V) = [.ref p, .ref r] ∧ Same M0 (L2.upd (L2.upd H dx (.own x)) x (.ins CB dx [])) ∧ M0 p = none ∧ (L2.upd (L2.upd H dx (.own x)) x (.ins CB dx [])) p = some (.ins CB dx' []) ∧ SqIn M0 r es' ∧ es'.length ≤ 1000 ∧
      (bandDue es' = .fine → ∀ t M' H', Gx [p] M0 (L2.upd (L2.upd H dx (.own x)) x (.ins CB dx [])) M' H' → M' t = some (.tup (iV es')) → H' p = some (.ins CB dx' [("ends", .ref t)]) → R x H') ∧ (bandDue es' = .many → X1 x dx M0 p dx' r es') ∧ (∀ i, bandDue es' = .at_ i → X2 x dx M0 p dx' r es' i) := by
  intro x dx nx nd ne
  obtain ⟨r, e, hr⟩ := h.ints
  cases e
  have fine := ok.fine l60
  have m1 : Same M (L2.upd H dx (.own x)) := fun b o h => (upd_ne (ne_of_none (m _ _ h) nd)).trans (m _ _ h)
  have nx1 : (L2.upd H dx (.own x)) x = none := (upd_ne ne.symm).trans nx
  have m2 : Same M (L2.upd (L2.upd H dx (.own x)) x (.ins CB dx [])) := fun b o h => (upd_ne (ne_of_none (m1 _ _ h) nx1)).trans (m1 _ _ h)
  refine ⟨M, x, dx, l, es, rfl, m2, none_of m nx, upd_same, .inl hr, by omega, fun _ t M' H' g ht hx => ?_, (fun z => by rw [fine] at z; cases z), (fun i z => by rw [fine] at z; cases z)⟩
  obtain ⟨g2, s2, e2⟩ := made m nx nd ne g hx
  exact k x _ H' ⟨dx, t, e2, s2 _ _ ht⟩ g2
theorem q_mkBandX {K : PySem.W.Frag} {CB CT l : Addr} {M H : Hp} {es : List Int} {E : XK} {R : Addr → Addr → Hp → Addr → Addr → Addr → List Int → Addr → Hp → Hp → Prop} {X2 : Addr → Addr → Hp → Addr → Addr → Addr → List Int → Nat → Prop} (h : Rp K M (.ref l) (.lst (iT es))) (m : Same M H) (l60 : 60 < es.length) (l2 : es.length ≤ 1000)
    (k : ∀ H', Same H H' → xMany CT H' E) : ∀ x dx, H x = none → H dx = none → dx ≠ x → ∃ (M0 : Hp) (p dx' r : Addr) (es' : List Int), ([V.ref x, V.ref l] : List V) = [.ref p, .ref r] ∧ Same M0 (L2.upd (L2.upd H dx (.own x)) x (.ins CB dx [])) ∧ M0 p = none ∧ (L2.upd (L2.upd H dx (.own x)) x (.ins CB dx [])) p = some (.ins CB dx' []) ∧ SqIn M0 r es' ∧ es'.length ≤ 1000 ∧
      (bandDue es' = .fine → ∀ t M' H', Gx [p] M0 (L2.upd (L2.upd H dx (.own x)) x (.ins CB dx [])) M' H' → M' t = some (.tup (iV es')) → H' p = some (.ins CB dx' [("ends", .ref t)]) → R x dx M0 p dx' r es' t M' H') ∧ (bandDue es' = .many → xMany CT (L2.upd (L2.upd H dx (.own x)) x (.ins CB dx [])) E) ∧ (∀ i, bandDue es' = .at_ i → X2 x dx M0 p dx' r es' i) := by
  intro x dx nx nd ne
  obtain ⟨r, e, hr⟩ := h.ints
  cases e
  have many := due_many l60
  have m1 : Same M (L2.upd H dx (.own x)) := fun b o h => (upd_ne (ne_of_none (m _ _ h) nd)).trans (m _ _ h)
  have nx1 : (L2.upd H dx (.own x)) x = none := (upd_ne ne.symm).trans nx
  have m2 : Same M (L2.upd (L2.upd H dx (.own x)) x (.ins CB dx [])) := fun b o h => (upd_ne (ne_of_none (m1 _ _ h) nx1)).trans (m1 _ _ h)
  exact ⟨M, x, dx, l, es, rfl, m2, none_of m nx, upd_same, .inl hr, l2, (fun z => by rw [many] at z; cases z), (fun _ => k _ ((Same.new nd).trans (Same.new nx1))), (fun i z => by rw [many] at z; cases z)⟩
theorem partE_eq {es : List Int} {l h : Nat} (h1 : l ≤ h) (h2 : h ≤ es.length) : (cutT es (some (l : Int)) (some (h : Int))).map (fun e => (if (h : Int) - 1 < e then (h : Int) - 1 else e) - l) = partE es l h := by
  rw [cutT_in es (by omega) (by omega) (by omega), Int.toNat_natCast, show ((h : Int) - (l : Int)).toNat = h - l by omega]
  rfl
theorem EndsD.part {es : List Int} (h : EndsD es) {lo hi : Nat} (h2' : hi ≤ es.length) : EndsD (partE es lo hi) := by
  intro i hi'
  rw [partE_len h2'] at hi' ⊢
  rw [partE_at h2' hi']
  have q := h (lo + i) (by omega)
  refine ⟨by split <;> omega, by split <;> omega, fun hi2 => ?_⟩
  rw [partE_at h2' hi2]
  have q2 := q.2.2 (by omega)
  rw [show lo + i + 1 = lo + (i + 1) by omega] at q2
  split <;> split <;> omega
theorem EndsD.mir {es : List Int} (h : EndsD es) : EndsD (mirE es) := by
  intro i hi
  rw [mirE_len] at hi ⊢
  rw [mirE_at hi]
  obtain ⟨m, e, a, b, c⟩ := firstOf_spec h (k := es.length - 1 - i) (by omega)
  rw [e]
  refine ⟨by omega, by omega, fun hi2 => ?_⟩
  rw [mirE_at hi2]
  obtain ⟨m2, e2, a2, b2, c2⟩ := firstOf_spec h (k := es.length - 1 - (i + 1)) (by omega)
  rw [e2]
  by_cases z : m < m2
  · have := c2 m z
    omega
  · omega
theorem EndsD.add {es fs : List Int} (h : EndsD es) (g : EndsD fs) : EndsD (addE es fs) := by
  intro i hi
  rw [addE_len] at hi ⊢
  by_cases z : i < es.length
  · rw [addE_1 z]
    have q := h i z
    refine ⟨q.1, by omega, fun hi2 => ?_⟩
    by_cases z2 : i + 1 < es.length
    · rw [addE_1 z2]
      exact q.2.2 z2
    · rw [addE_2 (by omega) hi2, show i + 1 - es.length = 0 by omega]
      have := (g 0 (by omega)).1
      omega
  · rw [addE_2 (by omega) hi]
    have q := g (i - es.length) (by omega)
    refine ⟨by omega, by omega, fun hi2 => ?_⟩
    rw [addE_2 (by omega) hi2, show i + 1 - es.length = i - es.length + 1 by omega]
    have := q.2.2 (by omega)
    omega
/-- the least place whose end is k or more, out of all of them -/
theorem firstOf_min {es : List Int} {k : Nat} {m : Int} (hm : m ∈ ((List.range es.length).filter fun i => decide ((k : Int) ≤ es.getD i 0)).map fun i => ((i : Nat) : Int)) (hl : ∀ y, y ∈ (((List.range es.length).filter fun i => decide ((k : Int) ≤ es.getD i 0)).map fun i => ((i : Nat) : Int)) → m ≤ y) : m = firstOf es k := by
  obtain ⟨i, hi, rfl⟩ := List.mem_map.mp hm
  obtain ⟨h1, h2⟩ := List.mem_filter.mp hi
  refine (firstOf_is (List.mem_range.mp h1) (of_decide_eq_true h2) fun j hj => ?_).symm
  by_cases z : (k : Int) ≤ es.getD j 0
  · have := hl (j : Int) (List.mem_map.mpr ⟨j, List.mem_filter.mpr ⟨List.mem_range.mpr (Nat.lt_trans hj (List.mem_range.mp h1)), decide_eq_true z⟩, rfl⟩)
    omega
  · omega
theorem mirE_eq {es : List Int} : ((((List.range es.length).map fun k => firstOf es k).reverse).map fun f => (es.length : Int) - 1 - f) = mirE es := rfl
theorem q_lenB {CB b : Addr} {M H : Hp} {es : List Int} {R : Addr → Addr → List (Str × V) → Addr → List Int → Prop} (h : BandAt CB M b es) (m : Same M H) (k : ∀ dx fs, R b dx fs b es) :
    ∃ (a dx : Addr) (fs : List (Str × V)), [V.ref b] = [V.ref a] ∧ H a = some (.ins CB dx fs) ∧ ∃ (b' : Addr) (es' : List Int), [V.ref a] = [.ref b'] ∧ BandAt CB H b' es' ∧ R a dx fs b' es' := by
  obtain ⟨dx, t, e1, e2⟩ := h
  exact ⟨b, dx, _, rfl, m _ _ e1, b, es, rfl, ⟨dx, t, m _ _ e1, m _ _ e2⟩, k _ _⟩
theorem q_near {CB b : Addr} {M H : Hp} {es : List Int} {i k : Int} {R : Addr → List Int → Int → Int → Prop} {X1 X2 : Addr → List Int → Int → Int → Prop} (h : BandAt CB M b es) (m : Same M H) (hi : inN es i) (hk : inN es k) (q : R b es i k) :
    ∃ (b' : Addr) (es' : List Int) (i' k' : Int), [V.ref b, .int i, .int k] = [.ref b', .int i', .int k'] ∧ BandAt CB H b' es' ∧ (inN es' i' → inN es' k' → R b' es' i' k') ∧ (¬ inN es' i' → X1 b' es' i' k') ∧ (inN es' i' → ¬ inN es' k' → X2 b' es' i' k') :=
  ⟨b, es, i, k, rfl, h.same m, fun _ _ => q, fun z => absurd hi z, fun _ z => absurd hk z⟩
/-! promises -/
def spPart (CB CN : Addr) : Sp := fun vs H Q E => ∃ (M : Hp) (b : Addr) (es : List Int) (lo hi : Int), vs = [.ref b, .int lo, .int hi] ∧ Same M H ∧ BandAt CB M b es ∧ EndsD es ∧ es.length ≤ 60 ∧
  (∀ l h : Nat, lo = l → hi = h → l ≤ h → h ≤ es.length → ∀ (x : Addr) (M' H' : Hp), BandAt CB M' x (partE es l h) → Gx [] M H M' H' → Q (.ref x) H') ∧ (¬ (0 ≤ lo ∧ lo ≤ es.length) → xNum CN lo H E) ∧ (0 ≤ lo → lo ≤ es.length → ¬ (lo ≤ hi ∧ hi ≤ es.length) → xNum CN hi H E)
def spMir (CB : Addr) : Sp := fun vs H Q _ => ∃ (M : Hp) (b : Addr) (es : List Int), vs = [.ref b] ∧ Same M H ∧ BandAt CB M b es ∧ EndsD es ∧ es.length ≤ 60 ∧ ∀ (x : Addr) (M' H' : Hp), BandAt CB M' x (mirE es) → Gx [] M H M' H' → Q (.ref x) H'
def spAddB (CB CT : Addr) : Sp := fun vs H Q E => ∃ (M : Hp) (b c : Addr) (es fs : List Int), vs = [.ref b, .ref c] ∧ Same M H ∧ BandAt CB M b es ∧ BandAt CB M c fs ∧ EndsD es ∧ EndsD fs ∧ es.length ≤ 60 ∧ fs.length ≤ 60 ∧
  (es.length + fs.length ≤ 60 → ∀ (x : Addr) (M' H' : Hp), BandAt CB M' x (addE es fs) → Gx [] M H M' H' → Q (.ref x) H') ∧ (60 < es.length + fs.length → xMany CT H E)
/-- True, whatever M and H have grown to -/
def TrueIn (ps : List Addr) (M H : Hp) (Q : VK) : Prop := ∀ M' H', Gx ps M H M' H' → Q (.bl true) H'
def spShownP (K : PySem.W.Frag) (CB : Addr) : Sp := fun vs H Q _ => ∃ (M : Hp) (b : Addr) (x y : V) (ess : List (List Int)) (ths : List (Int × Int)) (es : List Int), vs = [.ref b, x, y] ∧ Same M H ∧ BandAt CB M b es ∧ Rp K M x (essT ess) ∧ Rp K M y (.lst (ths.map pT)) ∧ Shows ess ths es ∧ ths.length ≤ 100 ∧ TrueIn [] M H Q
def numT (n : Int) : Tr := .lst [.int n, .bl true, .bl true, .bl false, .bl false, .bl false]
def spTurnK (K : PySem.W.Frag) (CB : Addr) : Sp := fun vs H Q _ => ∃ (M : Hp) (b : Addr) (x y : V) (ess : List (List Int)) (ths : List (Int × Int)) (es : List Int), vs = [.ref b, x, y] ∧ Same M H ∧ BandAt CB M b es ∧ Rp K M x (essT ess) ∧ Rp K M y (.lst (ths.map pT)) ∧ Shows ess ths es ∧ ths.length ≤ 60 ∧ TrueIn [] M H Q
theorem iT_two {bs : List Int} {a b : Int} : iT bs ++ [Tr.int a, Tr.int b] = (bs ++ [a, b]).map Tr.int := by simp
/-- True, and the pool stands -/
def TrueP (p c : Addr) (ns : List Int) (M H : Hp) (Q : VK) : Prop := ∀ M' H', Gx [p] M H M' H' → Pool ns c H' p → Q (.bl true) H'
def spPartsK (K : PySem.W.Frag) (CB : Addr) : Sp := fun vs H Q _ => ∃ (M : Hp) (p c b : Addr) (x y : V) (ns : List Int) (ess : List (List Int)) (ths : List (Int × Int)) (es : List Int), vs = [.ref p, .ref b, x, y] ∧ Same M H ∧ Pool ns c H p ∧ M p = none ∧ BandAt CB M b es ∧ Rp K M x (essT ess) ∧ Rp K M y (.lst (ths.map pT)) ∧ Shows ess ths es ∧ ths.length ≤ 60 ∧ TrueP p c ns M H Q
def tooT : Tr := .lst [.str "things", .int 60, .bl true, .bl true, .bl false, .bl false, .bl false]
def spJoined (K : PySem.W.Frag) (CB : Addr) : Sp := fun vs H Q _ => ∃ (M : Hp) (b c : Addr) (es fs : List Int), vs = [.ref b, .ref c] ∧ Same M H ∧ BandAt CB M b es ∧ BandAt CB M c fs ∧ EndsD es ∧ EndsD fs ∧ es.length ≤ 60 ∧ fs.length ≤ 60 ∧
  ∀ (l : Addr) (t v : V) (M' H' : Hp), Gx [] M H M' H' → M' l = some (.lst [t, v]) → ((es.length + fs.length ≤ 60 ∧ Rp K M' t (.lst []) ∧ ∃ q, v = .ref q ∧ BandAt CB M' q (addE es fs)) ∨ (60 < es.length + fs.length ∧ Rp K M' t tooT ∧ v = .non)) → Q (.ref l) H'
theorem thsOf_take {j : Int} {n m : Nat} (h : m ≤ n) : (thsOf j n).take m = thsOf j m := by
  unfold thsOf
  rw [← List.map_take, List.take_range, Nat.min_eq_left h]
def spJoinsK (K : PySem.W.Frag) (CB : Addr) : Sp := fun vs H Q _ => ∃ (M : Hp) (p c bl b1 b2 : Addr) (x : V) (ns e1 e2 : List Int), vs = [.ref p, .ref bl, x] ∧ Same M H ∧ Pool ns c H p ∧ M p = none ∧ M bl = some (.lst [.ref b1, .ref b2]) ∧ BandAt CB M b1 e1 ∧ BandAt CB M b2 e2 ∧ Rp K M x (essT [e1, e2, e1]) ∧ EndsD e1 ∧ EndsD e2 ∧ e1.length ≤ 60 ∧ e2.length ≤ 60 ∧ TrueP p c ns M H Q
def spPartK (K : PySem.W.Frag) (CB : Addr) : Sp := fun vs H Q _ => ∃ (M : Hp) (b : Addr) (x y : V) (lo hi : Int) (ess : List (List Int)) (ths : List (Int × Int)) (es : List Int), vs = [.ref b, x, y, .int lo, .int hi] ∧ Same M H ∧ BandAt CB M b es ∧ Rp K M x (essT ess) ∧ Rp K M y (.lst (ths.map pT)) ∧ Shows ess ths es ∧ ths.length ≤ 60 ∧ TrueIn [] M H Q
end Brk

set_option Elab.async false
set_option linter.all false
set_option maxRecDepth 100000
set_option maxHeartbeats 4000000
namespace Brk.K41
open PySem L2 Brk

local macro_rules | `(tactic| kspl_open sm) => `(tactic| first
  | assumption
  | exact Same.refl _
  | exact Gx.m (by assumption)
  | exact Gx.h (by assumption)
  | exact Gk.h (by assumption)
  | (refine Same.trans ?_ (Gx.m (by assumption)); kspl_open sm7)
  | (refine Same.trans ?_ (Gx.h (by assumption)); kspl_open sm7)
  | (refine Same.trans ?_ (Gk.h (by assumption)); kspl_open sm7)
  | (refine Same.trans ?_ (by assumption); kspl_open sm7))
local macro_rules | `(tactic| kspl_open sm7) => `(tactic| first
  | assumption
  | exact Same.refl _
  | exact Gx.m (by assumption)
  | exact Gx.h (by assumption)
  | exact Gk.h (by assumption)
  | (refine Same.trans ?_ (Gx.m (by assumption)); kspl_open sm6)
  | (refine Same.trans ?_ (Gx.h (by assumption)); kspl_open sm6)
  | (refine Same.trans ?_ (Gk.h (by assumption)); kspl_open sm6)
  | (refine Same.trans ?_ (by assumption); kspl_open sm6))
local macro_rules | `(tactic| kspl_open sm6) => `(tactic| first
  | assumption
  | exact Same.refl _
  | exact Gx.m (by assumption)
  | exact Gx.h (by assumption)
  | exact Gk.h (by assumption)
  | (refine Same.trans ?_ (Gx.m (by assumption)); kspl_open sm5)
  | (refine Same.trans ?_ (Gx.h (by assumption)); kspl_open sm5)
  | (refine Same.trans ?_ (Gk.h (by assumption)); kspl_open sm5)
  | (refine Same.trans ?_ (by assumption); kspl_open sm5))
local macro_rules | `(tactic| kspl_open sm5) => `(tactic| first
  | assumption
  | exact Same.refl _
  | exact Gx.m (by assumption)
  | exact Gx.h (by assumption)
  | exact Gk.h (by assumption)
  | (refine Same.trans ?_ (Gx.m (by assumption)); kspl_open sm4)
  | (refine Same.trans ?_ (Gx.h (by assumption)); kspl_open sm4)
  | (refine Same.trans ?_ (Gk.h (by assumption)); kspl_open sm4)
  | (refine Same.trans ?_ (by assumption); kspl_open sm4))
local macro_rules | `(tactic| kspl_open sm4) => `(tactic| first
  | assumption
  | exact Same.refl _
  | exact Gx.m (by assumption)
  | exact Gx.h (by assumption)
  | exact Gk.h (by assumption)
  | (refine Same.trans ?_ (Gx.m (by assumption)); kspl_open sm3)
  | (refine Same.trans ?_ (Gx.h (by assumption)); kspl_open sm3)
  | (refine Same.trans ?_ (Gk.h (by assumption)); kspl_open sm3)
  | (refine Same.trans ?_ (by assumption); kspl_open sm3))
local macro_rules | `(tactic| kspl_open sm3) => `(tactic| first
  | assumption
  | exact Same.refl _
  | exact Gx.m (by assumption)
  | exact Gx.h (by assumption)
  | exact Gk.h (by assumption)
  | (refine Same.trans ?_ (Gx.m (by assumption)); kspl_open sm2)
  | (refine Same.trans ?_ (Gx.h (by assumption)); kspl_open sm2)
  | (refine Same.trans ?_ (Gk.h (by assumption)); kspl_open sm2)
  | (refine Same.trans ?_ (by assumption); kspl_open sm2))
local macro_rules | `(tactic| kspl_open sm2) => `(tactic| first
  | assumption
  | exact Same.refl _
  | exact Gx.m (by assumption)
  | exact Gx.h (by assumption)
  | exact Gk.h (by assumption)
  | (refine Same.trans ?_ (Gx.m (by assumption)); kspl_open sm1)
  | (refine Same.trans ?_ (Gx.h (by assumption)); kspl_open sm1)
  | (refine Same.trans ?_ (Gk.h (by assumption)); kspl_open sm1)
  | (refine Same.trans ?_ (by assumption); kspl_open sm1))
local macro_rules | `(tactic| kspl_open sm1) => `(tactic| first
  | assumption
  | exact Same.refl _
  | exact Gx.m (by assumption)
  | exact Gx.h (by assumption)
  | exact Gk.h (by assumption)
  | (refine Same.trans ?_ (Gx.m (by assumption)); kspl_open sm0)
  | (refine Same.trans ?_ (Gx.h (by assumption)); kspl_open sm0)
  | (refine Same.trans ?_ (Gk.h (by assumption)); kspl_open sm0)
  | (refine Same.trans ?_ (by assumption); kspl_open sm0))
local macro_rules | `(tactic| kspl_open sm0) => `(tactic| first
  | assumption
  | exact Same.refl _
  | exact Gx.m (by assumption)
  | exact Gx.h (by assumption)
  | exact Gk.h (by assumption))
local macro_rules | `(tactic| kspl_open cur) => `(tactic| first
  | exact Gx.h (by assumption)
  | exact Gk.h (by assumption)
  | assumption
  | kspl_open sm)
local macro_rules | `(tactic| kspl_open rpa) => `(tactic| first
  | assumption
  | exact .int _ | exact .str _ | exact .bl _ | exact .non
  | exact Rp.to (by assumption) (by kspl_open sm))
local macro_rules | `(tactic| kspl_open rpl) => `(tactic| first
  | exact .nil
  | assumption
  | exact rpInts
  | (apply RpAll.cons; kspl_open rpa; kspl_open rpl))
local macro_rules | `(tactic| kspl_open as) => `(tactic| assumption)
local macro_rules | `(tactic| kspl_open rp1) => `(tactic| (apply RpAll.cons; kspl_open rpa; kspl_open rpl))
local macro_rules | `(tactic| kspl_open lk) => `(tactic| first
  | exact look_hd
  | (refine look_tl (by decide +kernel) ?_; kspl_open lk))
local macro_rules | `(tactic| kspl_open lkn) => `(tactic| first
  | rfl
  | (refine look_tl (by decide +kernel) ?_; kspl_open lkn))
local macro_rules | `(tactic| kspl_open hx) => `(tactic| first
  | assumption
  | exact Gx.hx (by assumption) (by assumption)
  | (refine Gx.hx (by assumption) ?_; kspl_open hx5))
local macro_rules | `(tactic| kspl_open hx5) => `(tactic| first
  | assumption
  | exact Gx.hx (by assumption) (by assumption)
  | (refine Gx.hx (by assumption) ?_; kspl_open hx4))
local macro_rules | `(tactic| kspl_open hx4) => `(tactic| first
  | assumption
  | exact Gx.hx (by assumption) (by assumption)
  | (refine Gx.hx (by assumption) ?_; kspl_open hx3))
local macro_rules | `(tactic| kspl_open hx3) => `(tactic| first
  | assumption
  | exact Gx.hx (by assumption) (by assumption)
  | (refine Gx.hx (by assumption) ?_; kspl_open hx2))
local macro_rules | `(tactic| kspl_open hx2) => `(tactic| first
  | assumption
  | exact Gx.hx (by assumption) (by assumption)
  | (refine Gx.hx (by assumption) ?_; kspl_open hx1))
local macro_rules | `(tactic| kspl_open hx1) => `(tactic| first
  | assumption
  | exact Gx.hx (by assumption) (by assumption)
  | (refine Gx.hx (by assumption) ?_; kspl_open hx0))
local macro_rules | `(tactic| kspl_open hx0) => `(tactic| first
  | assumption
  | exact Gx.hx (by assumption) (by assumption))
local macro_rules | `(tactic| kspl_open szn) => `(tactic| first
  | (show _ ≤ sizeLine; simp only [List.length_cons, List.length_nil]; decide)
  | exact Nat.le_trans (by simp only [List.length_append, List.length_map, List.length_cons, List.length_nil, List.length_range, List.length_reverse]; omega) sizeLine_ge)
local macro_rules | `(tactic| kspl_open okt) => `(tactic| first
  | rfl
  | decide
  | exact okT_tints (by first | omega | (simp only [List.length_map]; omega))
  | exact okT_lints (by first | omega | (simp only [List.length_map]; omega)))
local macro_rules | `(tactic| kspl_open kit) => `(tactic| first
  | assumption
  | exact kit_ty (by decide +kernel))
local macro_rules | `(tactic| kspl_open sub) => `(tactic| first
  | exact fun _ z => z
  | exact fun _ z => (List.not_mem_nil z).elim
  | (intro b hb; simp only [List.mem_cons, List.not_mem_nil, or_false, false_or] at hb ⊢; first | exact hb | exact Or.inl hb | exact Or.inr hb | (rcases hb with hb | hb <;> simp [hb])))
local macro_rules | `(tactic| kspl_open gx) => `(tactic| first
  | exact Gx.sub (by assumption) (by kspl_open sub)
  | exact Gx.refl (by kspl_open sm)
  | exact Gx.sub (Gk.g (by assumption)) (by kspl_open sub)
  | (refine Gx.trans ?_ (Gx.sub (by assumption) (by kspl_open sub)); kspl_open gx7)
  | (refine Gx.trans ?_ (Gx.sub (Gk.g (by assumption)) (by kspl_open sub)); kspl_open gx7))
local macro_rules | `(tactic| kspl_open gx7) => `(tactic| first
  | exact Gx.sub (by assumption) (by kspl_open sub)
  | exact Gx.refl (by kspl_open sm)
  | exact Gx.sub (Gk.g (by assumption)) (by kspl_open sub)
  | (refine Gx.trans ?_ (Gx.sub (by assumption) (by kspl_open sub)); kspl_open gx6)
  | (refine Gx.trans ?_ (Gx.sub (Gk.g (by assumption)) (by kspl_open sub)); kspl_open gx6))
local macro_rules | `(tactic| kspl_open gx6) => `(tactic| first
  | exact Gx.sub (by assumption) (by kspl_open sub)
  | exact Gx.refl (by kspl_open sm)
  | exact Gx.sub (Gk.g (by assumption)) (by kspl_open sub)
  | (refine Gx.trans ?_ (Gx.sub (by assumption) (by kspl_open sub)); kspl_open gx5)
  | (refine Gx.trans ?_ (Gx.sub (Gk.g (by assumption)) (by kspl_open sub)); kspl_open gx5))
local macro_rules | `(tactic| kspl_open gx5) => `(tactic| first
  | exact Gx.sub (by assumption) (by kspl_open sub)
  | exact Gx.refl (by kspl_open sm)
  | exact Gx.sub (Gk.g (by assumption)) (by kspl_open sub)
  | (refine Gx.trans ?_ (Gx.sub (by assumption) (by kspl_open sub)); kspl_open gx4)
  | (refine Gx.trans ?_ (Gx.sub (Gk.g (by assumption)) (by kspl_open sub)); kspl_open gx4))
local macro_rules | `(tactic| kspl_open gx4) => `(tactic| first
  | exact Gx.sub (by assumption) (by kspl_open sub)
  | exact Gx.refl (by kspl_open sm)
  | exact Gx.sub (Gk.g (by assumption)) (by kspl_open sub)
  | (refine Gx.trans ?_ (Gx.sub (by assumption) (by kspl_open sub)); kspl_open gx3)
  | (refine Gx.trans ?_ (Gx.sub (Gk.g (by assumption)) (by kspl_open sub)); kspl_open gx3))
local macro_rules | `(tactic| kspl_open gx3) => `(tactic| first
  | exact Gx.sub (by assumption) (by kspl_open sub)
  | exact Gx.refl (by kspl_open sm)
  | exact Gx.sub (Gk.g (by assumption)) (by kspl_open sub)
  | (refine Gx.trans ?_ (Gx.sub (by assumption) (by kspl_open sub)); kspl_open gx2)
  | (refine Gx.trans ?_ (Gx.sub (Gk.g (by assumption)) (by kspl_open sub)); kspl_open gx2))
local macro_rules | `(tactic| kspl_open gx2) => `(tactic| first
  | exact Gx.sub (by assumption) (by kspl_open sub)
  | exact Gx.refl (by kspl_open sm)
  | exact Gx.sub (Gk.g (by assumption)) (by kspl_open sub)
  | (refine Gx.trans ?_ (Gx.sub (by assumption) (by kspl_open sub)); kspl_open gx1)
  | (refine Gx.trans ?_ (Gx.sub (Gk.g (by assumption)) (by kspl_open sub)); kspl_open gx1))
local macro_rules | `(tactic| kspl_open gx1) => `(tactic| first
  | exact Gx.sub (by assumption) (by kspl_open sub)
  | exact Gx.refl (by kspl_open sm)
  | exact Gx.sub (Gk.g (by assumption)) (by kspl_open sub)
  | (refine Gx.trans ?_ (Gx.sub (by assumption) (by kspl_open sub)); kspl_open gx0)
  | (refine Gx.trans ?_ (Gx.sub (Gk.g (by assumption)) (by kspl_open sub)); kspl_open gx0))
local macro_rules | `(tactic| kspl_open gx0) => `(tactic| first
  | exact Gx.sub (by assumption) (by kspl_open sub)
  | exact Gx.refl (by kspl_open sm)
  | exact Gx.sub (Gk.g (by assumption)) (by kspl_open sub))
local macro_rules | `(tactic| kspl_open ix) => `(tactic| first | assumption | rfl)
local macro_rules | `(tactic| kspl_open sz) => `(tactic| first | (show _ ≤ sizeLine; decide) | decide | (simp only [List.length_cons, List.length_nil]; decide))
local macro_rules | `(tactic| kspl_open ba) => `(tactic| first | assumption | exact BandAt.same (by assumption) (by kspl_open sm))
local macro_rules | `(tactic| kspl_open pl) => `(tactic| first
  | assumption
  | (refine Pool.gx ?_ (by assumption); kspl_open pl5)
  | (refine Pool.gk ?_ (by assumption); kspl_open pl5))
local macro_rules | `(tactic| kspl_open pl5) => `(tactic| first
  | assumption
  | (refine Pool.gx ?_ (by assumption); kspl_open pl4)
  | (refine Pool.gk ?_ (by assumption); kspl_open pl4))
local macro_rules | `(tactic| kspl_open pl4) => `(tactic| first
  | assumption
  | (refine Pool.gx ?_ (by assumption); kspl_open pl3)
  | (refine Pool.gk ?_ (by assumption); kspl_open pl3))
local macro_rules | `(tactic| kspl_open pl3) => `(tactic| first
  | assumption
  | (refine Pool.gx ?_ (by assumption); kspl_open pl2)
  | (refine Pool.gk ?_ (by assumption); kspl_open pl2))
local macro_rules | `(tactic| kspl_open pl2) => `(tactic| first
  | assumption
  | (refine Pool.gx ?_ (by assumption); kspl_open pl1)
  | (refine Pool.gk ?_ (by assumption); kspl_open pl1))
local macro_rules | `(tactic| kspl_open pl1) => `(tactic| first
  | assumption
  | (refine Pool.gx ?_ (by assumption); kspl_open pl0)
  | (refine Pool.gk ?_ (by assumption); kspl_open pl0))
local macro_rules | `(tactic| kspl_open pl0) => `(tactic| first
  | assumption)
local macro_rules | `(tactic| kspl_open mp) => `(tactic| first
  | assumption
  | (refine Pool.out (by kspl_open pl) (by assumption) ?_; kspl_open mp5))
local macro_rules | `(tactic| kspl_open mp5) => `(tactic| first
  | assumption
  | (refine Pool.out (by kspl_open pl) (by assumption) ?_; kspl_open mp4))
local macro_rules | `(tactic| kspl_open mp4) => `(tactic| first
  | assumption
  | (refine Pool.out (by kspl_open pl) (by assumption) ?_; kspl_open mp3))
local macro_rules | `(tactic| kspl_open mp3) => `(tactic| first
  | assumption
  | (refine Pool.out (by kspl_open pl) (by assumption) ?_; kspl_open mp2))
local macro_rules | `(tactic| kspl_open mp2) => `(tactic| first
  | assumption
  | (refine Pool.out (by kspl_open pl) (by assumption) ?_; kspl_open mp1))
local macro_rules | `(tactic| kspl_open mp1) => `(tactic| first
  | assumption
  | (refine Pool.out (by kspl_open pl) (by assumption) ?_; kspl_open mp0))
local macro_rules | `(tactic| kspl_open mp0) => `(tactic| first
  | assumption)
local macro_rules | `(tactic| kspl_open lg) => `(tactic| first | decide +kernel | exact log2_27 (by omega) (by omega))
local macro_rules | `(tactic| kspl_open own) => `(tactic| fail)
local macro_rules | `(tactic| kspl_open stB) => `(tactic| refine ⟨_, rfl, ?_⟩)
local macro_rules | `(tactic| kspl_open stI) => `(tactic| first
  | (apply q_listRg2; assumption; kspl_open cur; omega; intro _ _ _ _ _)
  | refine ⟨_, _, rfl, rfl, ?_⟩
  | (apply q_listRg; assumption; kspl_open cur; omega; intro _ _ _ _ _)
  | refine ⟨_, rfl, ?_⟩
  | refine ⟨_, _, rfl, ?_⟩
  | kspl_open own)
local macro_rules | `(tactic| kspl_open stV) => `(tactic| first
  | (apply q_var; exact rfl)
  | (apply q_same; kspl_open cur; kspl_open rpa; kspl_open rpa; kspl_open okt)
  | (apply q_isiO; kspl_open rpa; kspl_open sm; assumption; assumption; assumption)
  | (apply q_isiL; kspl_open rpa; kspl_open sm; kspl_open kit)
  | (apply q_isiT; kspl_open rpa; kspl_open sm; kspl_open kit)
  | (apply q_isiS; kspl_open kit)
  | kspl_open own
  | refine ⟨_, _, rfl, ?_⟩)
local macro_rules | `(tactic| kspl_open stD) => `(tactic| first
  | (apply q_eqK; kspl_open cur; kspl_open rpa; kspl_open rpa; kspl_open okt; kspl_open okt; (first | rfl | decide); intro _ _ e; rw [e]; clear e)
  | kspl_open own)
local macro_rules | `(tactic| kspl_open stA) => `(tactic| first
  | (apply q_fld; kspl_open rpa; kspl_open sm; assumption; assumption; kspl_open lk; intro _ hv; (first | (have e := Rp.inv_int hv; clear hv; subst e) | (have e := Rp.inv_str hv; clear hv; subst e) | (have e := Rp.inv_bl hv; clear hv; subst e) | (have e := Rp.inv_non hv; clear hv; subst e) | skip))
  | (apply q_ixL; kspl_open rpa; kspl_open sm; kspl_open ix; intro _ hv; (first | (have e := Rp.inv_int hv; clear hv; subst e) | (have e := Rp.inv_str hv; clear hv; subst e) | (have e := Rp.inv_bl hv; clear hv; subst e) | (have e := Rp.inv_non hv; clear hv; subst e) | skip))
  | (apply q_ixT; kspl_open rpa; kspl_open sm; kspl_open ix; intro _ hv; (first | (have e := Rp.inv_int hv; clear hv; subst e) | (have e := Rp.inv_str hv; clear hv; subst e) | (have e := Rp.inv_bl hv; clear hv; subst e) | (have e := Rp.inv_non hv; clear hv; subst e) | skip))
  | (apply q_lenL; kspl_open rpa; kspl_open sm; intro _ e; rw [e]; clear e; first | rw [List.length_map] | skip)
  | (apply q_lenT; kspl_open rpa; kspl_open sm; intro _ e; rw [e]; clear e; first | rw [List.length_map] | skip)
  | (apply q_iL; kspl_open rpa; kspl_open sm; intro _ _)
  | (apply q_iT; kspl_open rpa; kspl_open sm; intro _ _)
  | (apply q_eL; kspl_open rpa; kspl_open sm; intro _ _)
  | (apply q_eT; kspl_open rpa; kspl_open sm; intro _ _)
  | (apply q_listT; kspl_open cur; kspl_open rpa; intro _ _ _ _ _ _)
  | (apply q_listL; kspl_open cur; kspl_open rpa; intro _ _ _ _ _ _)
  | (apply q_tupL; kspl_open cur; kspl_open rpa; intro _ _ _ _ _ _)
  | (apply q_rev1; kspl_open cur; kspl_open rpa; intro _ _ _ _ _ _)
  | (apply q_rev; kspl_open cur; kspl_open rpa; intro _ _ _ _ _ _)
  | (apply q_slT1; kspl_open cur; kspl_open rpa; intro _ _ _ _ _ _)
  | (apply q_slL1; kspl_open cur; kspl_open rpa; intro _ _ _ _ _ _)
  | (apply q_slT; kspl_open cur; kspl_open rpa; intro _ _ _ _ _ _)
  | (apply q_slL; kspl_open cur; kspl_open rpa; intro _ _ _ _ _ _)
  | (apply q_cat; kspl_open cur; kspl_open rpa; kspl_open rpa; kspl_open szn; intro _ _ _ _ _ _ _)
  | (apply q_meth; kspl_open rpa; kspl_open sm; kspl_open lkn)
  | (apply q_xs; assumption; assumption; kspl_open hx; kspl_open lk)
  | (apply q_isX; assumption; assumption; kspl_open hx)
  | (apply q_isXt; assumption; assumption; kspl_open hx)
  | (apply q_ixR; assumption; kspl_open sm; kspl_open ix)
  | (apply q_glst; kspl_open cur; assumption; rfl)
  | (apply q_take; kspl_open cur; kspl_open pl; kspl_open mp; omega; kspl_open lg; intro _ _ _ _ _ _)
  | (apply q_big; kspl_open cur; kspl_open pl; kspl_open mp; intro _ _ _ _ _ _)
  | kspl_open own
  | refine ⟨_, rfl, ?_⟩
  | refine ⟨_, _, rfl, rfl, ?_⟩)
local macro_rules | `(tactic| kspl_open stN) => `(tactic| first
  | (apply q_tup; kspl_open as; kspl_open cur; kspl_open sz; kspl_open rpl; intro _ _ _ _ _)
  | (apply q_lst; kspl_open as; kspl_open cur; kspl_open sz; kspl_open rp1; intro _ _ _ _ _)
  | (apply And.intro; exact rfl)
  | (apply And.intro; exact Or.inr ⟨by decide, by decide⟩)
  | (apply And.intro; exact ⟨by decide, by decide +kernel⟩)
  | kspl_open own
  | (apply And.intro; omega))
local macro_rules | `(tactic| kspl_open stT) => `(tactic| first
  | refine iteT ?_
  | refine iteF ?_
  | (apply iteD; exact rfl)
  | (apply iteN; exact rfl)
  | refine iteRN ?_
  | refine iteRNn ?_
  | refine iteJN ?_
  | refine iteJNn ?_
  | (apply iteD; omega)
  | (apply iteDn; omega)
  | (apply iteN; omega)
  | (apply iteNn; omega)
  | (apply iteI; omega)
  | (apply iteIn; omega)
  | (apply iteNI; omega)
  | (apply iteNIn; omega))
local macro_rules | `(tactic| kspl_open st) => `(tactic| first
  | ((with_reducible show ite _ _ _); kspl_open stT)
  | ((try (conv => whnf)); kspl_open stW))
local macro_rules | `(tactic| kspl_open stW) => `(tactic| (first
  | ((with_reducible show @Exists V _); kspl_open stV)
  | ((with_reducible show @Exists Bool _); kspl_open stB)
  | ((with_reducible show @Exists Int _); kspl_open stI)
  | ((with_reducible show @Exists Addr _); kspl_open stA)
  | ((with_reducible show _ ∧ _); kspl_open stN)
  | ((with_reducible show @Exists PyData _); kspl_open stD)
  | ((with_reducible show @Exists Str _); refine ⟨_, rfl, ?_⟩)
  | kspl_open own))
local macro_rules | `(tactic| kspl_open rg) => `(tactic| (first | rw [Int.toNat_natCast] | skip; first | rw [List.length_map] | skip))
local macro_rules | `(tactic| kspl_open lf) => `(tactic| (apply q_lst; assumption; kspl_open cur; kspl_open sz; exact .nil; intro _ _ _ _ _))
local macro_rules | `(tactic| kspl_open go) => `(tactic| repeat kspl_open st)
local macro_rules | `(tactic| kspl_open sp) => `(tactic| (refine ite2 (fun q => ?_) (fun q => ?_) <;> simp only [decide_eq_true_eq, V.int.injEq, Bool.not_eq_true', decide_eq_false_iff_not, Bool.not_eq_true, Bool.not_not, Bool.not_eq_eq_eq_not, Bool.not_true, Bool.not_false] at q))

local macro_rules | `(tactic| kspl_open own) => `(tactic| first
  | (apply q_lenB; kspl_open ba; kspl_open sm; intro _ _)
  | (apply q_near; kspl_open ba; kspl_open sm; assumption; assumption))

def top (i : Nat) : Stmt := PySem.Challenge.pw_barbreaks_k41_band_parts.main.body.getD i (.Pass ⟨0, 0, 0, 0⟩)
abbrev s_l_take : Stmt := top 16
theorem sc_l_take : FnScope ["_law_pool_here", "_law_size", "_law_cells", "_law_mixed", "_law_cell", "_law_digit"] ["_law_pool_here", "_law_size"] (defScope s_l_take) := ⟨rfl, rfl, rfl, by decide +kernel, rfl, by decide +kernel, by decide +kernel⟩
abbrev s_l_big : Stmt := top 17
theorem sc_l_big : FnScope ["_law_pool_here", "_law_value", "_law_k"] ["_law_pool_here"] (defScope s_l_big) := ⟨rfl, rfl, rfl, by decide +kernel, rfl, by decide +kernel, by decide +kernel⟩
abbrev s_BadEnd_init : Stmt := inClass (top 5) 0
theorem sc_BadEnd_init : FnScope ["self", "index"] ["self", "index"] (defScope s_BadEnd_init) := ⟨rfl, rfl, rfl, by decide +kernel, rfl, by decide +kernel, by decide +kernel⟩
abbrev s_TooMany_init : Stmt := inClass (top 4) 0
theorem sc_TooMany_init : FnScope ["self", "what", "most"] ["self", "what", "most"] (defScope s_TooMany_init) := ⟨rfl, rfl, rfl, by decide +kernel, rfl, by decide +kernel, by decide +kernel⟩
abbrev s_BadNumber_init : Stmt := inClass (top 3) 0
theorem sc_BadNumber_init : FnScope ["self", "number"] ["self", "number"] (defScope s_BadNumber_init) := ⟨rfl, rfl, rfl, by decide +kernel, rfl, by decide +kernel, by decide +kernel⟩
abbrev s_check_things : Stmt := top 9
theorem sc_check_things : FnScope ["count"] ["count"] (defScope s_check_things) := ⟨rfl, rfl, rfl, by decide +kernel, rfl, by decide +kernel, by decide +kernel⟩
abbrev s_check_from_zero : Stmt := top 11
theorem sc_check_from_zero : FnScope ["number", "most"] ["number", "most"] (defScope s_check_from_zero) := ⟨rfl, rfl, rfl, by decide +kernel, rfl, by decide +kernel, by decide +kernel⟩
abbrev s_check_ends : Stmt := top 10
theorem sc_check_ends : FnScope ["ends", "before", "at", "end"] ["ends"] (defScope s_check_ends) := ⟨rfl, rfl, rfl, by decide +kernel, rfl, by decide +kernel, by decide +kernel⟩
abbrev s_Band_init : Stmt := inClass (top 12) 0
theorem sc_Band_init : FnScope ["self", "ends"] ["self", "ends"] (defScope s_Band_init) := ⟨rfl, rfl, rfl, by decide +kernel, rfl, by decide +kernel, by decide +kernel⟩
abbrev s_Band_len : Stmt := inClass (top 12) 2
theorem sc_Band_len : FnScope ["self"] ["self"] (defScope s_Band_len) := ⟨rfl, rfl, rfl, by decide +kernel, rfl, by decide +kernel, by decide +kernel⟩
abbrev s_Band_near : Stmt := inClass (top 12) 3
theorem sc_Band_near : FnScope ["self", "i", "k"] ["self", "i", "k"] (defScope s_Band_near) := ⟨rfl, rfl, rfl, by decide +kernel, rfl, by decide +kernel, by decide +kernel⟩
abbrev s_Band_part : Stmt := inClass (top 12) 4
theorem sc_Band_part : FnScope ["self", "low", "high", "end"] ["self", "low", "high"] (defScope s_Band_part) := ⟨rfl, rfl, rfl, by decide +kernel, rfl, by decide +kernel, by decide +kernel⟩
abbrev s_Band_mirrored : Stmt := inClass (top 12) 5
theorem sc_Band_mirrored : FnScope ["self", "last", "firsts", "k", "first", "i", "end"] ["self"] (defScope s_Band_mirrored) := ⟨rfl, rfl, rfl, by decide +kernel, rfl, by decide +kernel, by decide +kernel⟩
abbrev s_Band_add : Stmt := inClass (top 12) 6
theorem sc_Band_add : FnScope ["self", "other", "count", "end"] ["self", "other"] (defScope s_Band_add) := ⟨rfl, rfl, rfl, by decide +kernel, rfl, by decide +kernel, by decide +kernel⟩
abbrev s_l_is_int : Stmt := top 14
theorem sc_l_is_int : FnScope ["_law_x"] ["_law_x"] (defScope s_l_is_int) := ⟨rfl, rfl, rfl, by decide +kernel, rfl, by decide +kernel, by decide +kernel⟩
abbrev s_l_near : Stmt := top 19
theorem sc_l_near : FnScope ["_law_ends_here", "_law_i", "_law_k"] ["_law_ends_here", "_law_i", "_law_k"] (defScope s_l_near) := ⟨rfl, rfl, rfl, by decide +kernel, rfl, by decide +kernel, by decide +kernel⟩
abbrev s_l_same : Stmt := top 20
theorem sc_l_same : FnScope ["_law_got", "_law_due", "_law_k", "_law_key"] ["_law_got", "_law_due"] (defScope s_l_same) := ⟨rfl, rfl, rfl, by decide +kernel, rfl, by decide +kernel, by decide +kernel⟩
abbrev s_l_close : Stmt := top 21
theorem sc_l_close : FnScope ["_law_lists", "_law_one", "_law_two"] ["_law_lists", "_law_one", "_law_two"] (defScope s_l_close) := ⟨rfl, rfl, rfl, by decide +kernel, rfl, by decide +kernel, by decide +kernel⟩
abbrev s_l_ends_of : Stmt := top 22
theorem sc_l_ends_of : FnScope ["_law_lists", "_law_things", "_law_ends_here", "_law_i", "_law_last", "_law_k"] ["_law_lists", "_law_things"] (defScope s_l_ends_of) := ⟨rfl, rfl, rfl, by decide +kernel, rfl, by decide +kernel, by decide +kernel⟩
abbrev s_l_shown : Stmt := top 23
theorem sc_l_shown : FnScope ["_law_band", "_law_lists", "_law_things", "_law_chosen", "_law_i", "_law_k", "_law_due"] ["_law_band", "_law_lists", "_law_things"] (defScope s_l_shown) := ⟨rfl, rfl, rfl, by decide +kernel, rfl, by decide +kernel, by decide +kernel⟩
abbrev s_l_part_kept : Stmt := top 24
theorem sc_l_part_kept : FnScope ["_law_band", "_law_lists", "_law_things", "_law_low", "_law_high", "_law_told", "_law_part", "e"] ["_law_band", "_law_lists", "_law_things", "_law_low", "_law_high"] (defScope s_l_part_kept) := ⟨rfl, rfl, rfl, by decide +kernel, rfl, by decide +kernel, by decide +kernel⟩
abbrev s_l_turned_kept : Stmt := top 26
theorem sc_l_turned_kept : FnScope ["_law_band", "_law_lists", "_law_things", "_law_turned"] ["_law_band", "_law_lists", "_law_things"] (defScope s_l_turned_kept) := ⟨rfl, rfl, rfl, by decide +kernel, rfl, by decide +kernel, by decide +kernel⟩
abbrev s_l_parts_kept : Stmt := top 25
theorem sc_l_parts_kept : FnScope ["_law_pool_here", "_law_band", "_law_lists", "_law_things", "_law_count", "_law_bounds", "_law_far", "_law_low", "_law_high"] ["_law_pool_here", "_law_band", "_law_lists", "_law_things"] (defScope s_l_parts_kept) := ⟨rfl, rfl, rfl, by decide +kernel, rfl, by decide +kernel, by decide +kernel⟩
abbrev s_l_joined : Stmt := top 27
theorem sc_l_joined : FnScope ["_law_first", "_law_second", "_law_told", "_law_band", "e"] ["_law_first", "_law_second"] (defScope s_l_joined) := ⟨rfl, rfl, rfl, by decide +kernel, rfl, by decide +kernel, by decide +kernel⟩
abbrev s_l_joins_kept : Stmt := top 28
theorem sc_l_joins_kept : FnScope ["_law_pool_here", "_law_bands", "_law_lists", "_law_first", "_law_second", "_law_told", "_law_joined_here", "_law_room", "_law_things", "_law_twice", "_law_k"] ["_law_pool_here", "_law_bands", "_law_lists"] (defScope s_l_joins_kept) := ⟨rfl, rfl, rfl, by decide +kernel, rfl, by decide +kernel, by decide +kernel⟩
abbrev s_l_pool : Stmt := top 15
theorem sc_l_pool : FnScope ["_law_script", "_law_seed", "_law_cell"] ["_law_script"] (defScope s_l_pool) := ⟨rfl, rfl, rfl, by decide +kernel, rfl, by decide +kernel, by decide +kernel⟩
abbrev s_l_ends : Stmt := top 18
theorem sc_l_ends : FnScope ["_law_pool_here", "_law_count", "_law_wide", "_law_ends_here", "_law_i", "_law_low"] ["_law_pool_here", "_law_count"] (defScope s_l_ends) := ⟨rfl, rfl, rfl, by decide +kernel, rfl, by decide +kernel, by decide +kernel⟩
abbrev s_law : Stmt := top 29
theorem sc_law : FnScope ["_law_script", "_law_pool_here", "_law_counts", "_law_way", "_law_lists", "_law_bands", "_law_at", "_law_things", "_law_k"] ["_law_script"] (defScope s_law) := ⟨rfl, rfl, rfl, by decide +kernel, rfl, by decide +kernel, by decide +kernel⟩
structure Txt (K : PySem.W.Frag) (mg : Str → Option Value) (C_BadEnd : Addr) (C_BarbreaksError : Addr) (C_TooMany : Addr) (C_BadNumber : Addr) (C_Band : Addr) (C_Refused : Addr) : Prop where
  l_take : Df K mg "_law_take" s_l_take ["_law_pool_here", "_law_size"]
  b_int : mg "int" = none
  b_len : mg "len" = none
  l_big : Df K mg "_law_big" s_l_big ["_law_pool_here"]
  b_range : mg "range" = none
  er_BadEnd : ErF K mg "BadEnd" C_BadEnd "BadEnd.__init__" s_BadEnd_init ["self", "index"]
  g_BadEnd : mg "BadEnd" = some (.ref C_BadEnd)
  xn_BadEnd_index : PySem.W.findIn K (.ref C_BadEnd) "index" = some none
  er_TooMany : ErF K mg "TooMany" C_TooMany "TooMany.__init__" s_TooMany_init ["self", "what", "most"]
  g_TooMany : mg "TooMany" = some (.ref C_TooMany)
  xn_TooMany_what : PySem.W.findIn K (.ref C_TooMany) "what" = some none
  xn_TooMany_most : PySem.W.findIn K (.ref C_TooMany) "most" = some none
  er_BadNumber : ErF K mg "BadNumber" C_BadNumber "BadNumber.__init__" s_BadNumber_init ["self", "number"]
  g_BadNumber : mg "BadNumber" = some (.ref C_BadNumber)
  xn_BadNumber_number : PySem.W.findIn K (.ref C_BadNumber) "number" = some none
  check_things : Df K mg "check_things" s_check_things ["count"]
  v_MOST_THINGS : ∃ u, mg "MOST_THINGS" = some u ∧ RelV (.int 60) u
  check_from_zero : Df K mg "check_from_zero" s_check_from_zero ["number", "most"]
  check_ends : Df K mg "check_ends" s_check_ends ["ends"]
  b_enumerate : mg "enumerate" = none
  g_Band : mg "Band" = some (.ref C_Band)
  c_Band : Cls K C_Band
  n_Band_ends : NoAttr K C_Band "ends"
  i_Band : If0 K C_Band "Band.__init__" s_Band_init ["self", "ends"]
  b_tuple : mg "tuple" = none
  m_Band_len : Mf K C_Band "__len__" "Band.__len__" s_Band_len ["self"]
  m_Band_near : Mf K C_Band "near" "Band.near" s_Band_near ["self", "i", "k"]
  b_max : mg "max" = none
  b_min : mg "min" = none
  m_Band_part : Mf K C_Band "part" "Band.part" s_Band_part ["self", "low", "high"]
  m_Band_mirrored : Mf K C_Band "mirrored" "Band.mirrored" s_Band_mirrored ["self"]
  m_Band_add : Mf K C_Band "__add__" "Band.__add__" s_Band_add ["self", "other"]
  b_list : mg "list" = none
  l_is_int : Df K mg "_law_is_int" s_l_is_int ["_law_x"]
  b_isinstance : mg "isinstance" = none
  b_bool : mg "bool" = none
  l_near : Df K mg "_law_near" s_l_near ["_law_ends_here", "_law_i", "_law_k"]
  l_same : Df K mg "_law_same" s_l_same ["_law_got", "_law_due"]
  b_str : mg "str" = none
  b_dict : mg "dict" = none
  l_close : Df K mg "_law_close" s_l_close ["_law_lists", "_law_one", "_law_two"]
  l_ends_of : Df K mg "_law_ends_of" s_l_ends_of ["_law_lists", "_law_things"]
  l_shown : Df K mg "_law_shown" s_l_shown ["_law_band", "_law_lists", "_law_things"]
  o_Band : OwnI K C_Band
  ko_Band_Band : PySem.W.kitOne K (.ref C_Band) (.ref C_Band) = some true
  l_part_kept : Df K mg "_law_part_kept" s_l_part_kept ["_law_band", "_law_lists", "_law_things", "_law_low", "_law_high"]
  ec_BadNumber : ExcC K C_BadNumber
  xm_BadNumber_BadNumber : PySem.W.exmOne K (.ref C_BadNumber) (.ref C_BadNumber) = some true
  g_BarbreaksError : mg "BarbreaksError" = some (.ref C_BarbreaksError)
  g_Refused : mg "Refused" = some (.ref C_Refused)
  ko_BadNumber_BarbreaksError : PySem.W.kitOne K (.ref C_BadNumber) (.ref C_BarbreaksError) = some true
  ko_BadNumber_ValueError : PySem.W.kitOne K (.ref C_BadNumber) (.type "ValueError") = some true
  ko_BadNumber_Refused : PySem.W.kitOne K (.ref C_BadNumber) (.ref C_Refused) = some false
  ko_BadNumber_TooMany : PySem.W.kitOne K (.ref C_BadNumber) (.ref C_TooMany) = some false
  ko_BadNumber_BadEnd : PySem.W.kitOne K (.ref C_BadNumber) (.ref C_BadEnd) = some false
  b_ValueError : mg "ValueError" = none
  l_turned_kept : Df K mg "_law_turned_kept" s_l_turned_kept ["_law_band", "_law_lists", "_law_things"]
  l_parts_kept : Df K mg "_law_parts_kept" s_l_parts_kept ["_law_pool_here", "_law_band", "_law_lists", "_law_things"]
  l_joined : Df K mg "_law_joined" s_l_joined ["_law_first", "_law_second"]
  ec_TooMany : ExcC K C_TooMany
  xm_TooMany_TooMany : PySem.W.exmOne K (.ref C_TooMany) (.ref C_TooMany) = some true
  ko_TooMany_BarbreaksError : PySem.W.kitOne K (.ref C_TooMany) (.ref C_BarbreaksError) = some true
  ko_TooMany_ValueError : PySem.W.kitOne K (.ref C_TooMany) (.type "ValueError") = some true
  ko_TooMany_Refused : PySem.W.kitOne K (.ref C_TooMany) (.ref C_Refused) = some false
  ko_TooMany_BadNumber : PySem.W.kitOne K (.ref C_TooMany) (.ref C_BadNumber) = some false
  ko_TooMany_BadEnd : PySem.W.kitOne K (.ref C_TooMany) (.ref C_BadEnd) = some false
  sf_Band : PySem.W.selfFirst K C_Band = true
  l_joins_kept : Df K mg "_law_joins_kept" s_l_joins_kept ["_law_pool_here", "_law_bands", "_law_lists"]
  l_pool : Df K mg "_law_pool" s_l_pool ["_law_script"]
  l_ends : Df K mg "_law_ends" s_l_ends ["_law_pool_here", "_law_count"]
  law : Df K mg "law" s_law ["_law_script"]
section
variable {P : Program} {w : World} {K : PySem.W.Frag} {mg : Str → Option Value} {base : Heap} {C_BadEnd : Addr} {C_BarbreaksError : Addr} {C_TooMany : Addr} {C_BadNumber : Addr} {C_Band : Addr} {C_Refused : Addr}
theorem ok_l_take (T : Txt K mg C_BadEnd C_BarbreaksError C_TooMany C_BadNumber C_Band C_Refused) : Dk P w K mg base CX0 1 "_law_take" ["_law_pool_here", "_law_size"] spTake := by
  obtain ⟨f, fd, g, F, b⟩ := T.l_take
  refine ⟨f, fd, g, F.kp, b, F.ok sc_l_take (fun vs H Q E h => ?_) (fun cdv A outer s H vs Q E hr h => ?_)⟩
  · obtain ⟨p, c, ns, n, rfl, _⟩ := h
    rfl
  · obtain ⟨p, c, ns, n, rfl, hp, hn, hn9, k⟩ := h
    obtain ⟨⟨l, hl, z, i, t, d, hi, rfl⟩, hc⟩ := id hp
    refine ⟨_, (pss_cons (ps_set (i := 2) sc_l_take.nd rfl (Or.inl rfl) (pe_ix ix_list (pv 0) pe_int (fun _ _ => rfl)))
  (pss_cons (ps_asg (pe_op op_add (pe_ix ix_list (pv 0) pe_int (fun _ _ => rfl)) pe_int) (pg_sub (pv 0) pe_int set_list))
  (pss_cons (ps_set (i := 3) sc_l_take.nd rfl (Or.inl rfl) (pe_op op_mod (pe_callTy call_int1 (by rfl) T.b_int (by decide +kernel) (pa_cons (pe_op op_add (pe_op op_add (pe_op op_mul (pe_ix ix_list (pv 0) pe_int (fun _ _ => rfl)) pe_int) (pe_op op_mul (pe_ix ix_list (pv 0) pe_int (fun _ _ => rfl)) pe_int)) pe_int) pa_nil)) pe_int))
  (C8.pss_cut (ps_if (PW.pt (pw_and (pt_cmpR op_eq (pe_ix ix_list (pv 0) pe_int (fun _ _ => rfl)) pe_int (nomark _)) (pw_and1 (pt_cmpR op_lt (pe_ix ix_list (pv 0) pe_int (fun _ _ => rfl)) (pe_callB call_len_seq (by rfl) T.b_len (by decide +kernel) (pa_cons (pv 2) pa_nil)) (nomark _)))))
  (pss_cons (ps_set (i := 4) sc_l_take.nd rfl (Or.inl rfl) (pe_callTy call_int1 (by rfl) T.b_int (by decide +kernel) (pa_cons (pe_ix ix_list (pv 2) (pe_ix ix_list (pv 0) pe_int (fun _ _ => rfl)) (fun _ _ => rfl)) pa_nil)))
  (pss_cons (ps_asg (pe_op op_add (pe_ix ix_list (pv 0) pe_int (fun _ _ => rfl)) pe_int) (pg_sub (pv 0) pe_int set_list))
  (pss_cons (ps_set (i := 3) sc_l_take.nd rfl (Or.inl rfl) (pe_op op_mod (pe_callTy call_int1 (by rfl) T.b_int (by decide +kernel) (pa_cons (pe_op op_add (pe_op op_add (pe_op op_mul (pv 4) pe_int) (pe_ix ix_list (pv 0) pe_int (fun _ _ => rfl))) (pe_op op_mul (pe_ix ix_list (pv 0) pe_int (fun _ _ => rfl)) pe_int)) pa_nil)) pe_int))
  (pss_one (ps_if (pt_cmpR op_ge (pv 4) (pe_op op_pow pe_int pe_int) (nomark _))
  (pss_one (ps_asg (pv 4) (pg_sub (pv 0) pe_int set_list)))
  pss_nil)))))
  pss_nil)
  (pss_cons (ps_if (pt_cmpR op_gt (pe_ix ix_list (pv 0) pe_int (fun _ _ => rfl)) pe_int (nomark _))
  (pss_cons (ps_set (i := 5) sc_l_take.nd rfl (Or.inl rfl) (pe_op op_mod (pe_callTy call_int1 (by rfl) T.b_int (by decide +kernel) (pa_cons (pe_ix ix_list (pv 0) pe_int (fun _ _ => rfl)) pa_nil)) (pv 1)))
  (pss_cons (ps_asg (pe_op op_fdivW (pe_ix ix_list (pv 0) pe_int (fun _ _ => rfl)) (pv 1)) (pg_sub (pv 0) pe_int set_list))
  (pss_one (ps_ret (pv 5)))))
  pss_nil)
  (pss_cons (ps_set (i := 3) sc_l_take.nd rfl (Or.inl rfl) (pe_op op_mod (pe_callTy call_int1 (by rfl) T.b_int (by decide +kernel) (pa_cons (pe_op op_add (pe_op op_mul (pv 3) pe_int) (pe_op op_fdivW (pv 3) pe_int)) pa_nil)) pe_int))
  (pss_one (ps_ret (pe_op op_mod (pe_callTy call_int1 (by rfl) T.b_int (by decide +kernel) (pa_cons (pv 3) pa_nil)) (pv 1)))))))))), ?_⟩
    -- cells = pool[4]; pool[2] = pool[2] + 1
    refine ⟨_, rfl, _, _, _, _, rfl, rfl, SqL.of hl, rfl, ?_⟩
    refine ⟨_, rfl, _, _, _, _, rfl, rfl, SqL.of hl, rfl, _, _, rfl, rfl, _, rfl, _, _, _, _, rfl, rfl, hl, rfl, ?_⟩
    have hp1 : Pool ns c (upd H p (.lst [.int z, .int i, .int (t + 1), .int d, .ref c])) p := hp.upd ⟨_, _, _, _, hi, rfl⟩
    have o1 : Off p H (upd H p (.lst [.int z, .int i, .int (t + 1), .int d, .ref c])) := Off.upd
    have hl1 : upd H p (.lst [.int z, .int i, .int (t + 1), .int d, .ref c]) p = some (.lst [.int z, .int i, .int (t + 1), .int d, .ref c]) := upd_same
    -- mixed = int(pool[3] * 48271 + pool[2] * 69621 + 19) % 2147483647
    refine ⟨_, rfl, _, _, _, _, rfl, rfl, SqL.of hl1, rfl, _, _, rfl, rfl, (.inr ⟨by decide, by decide⟩), _, rfl, _, _, _, _, rfl, rfl, SqL.of hl1, rfl, _, _, rfl, rfl, (.inr ⟨by decide, by decide⟩), _, _, rfl, rfl, _, _, rfl, rfl, .inl ⟨_, rfl, _, _, rfl, rfl, pos_m7, ?_⟩⟩
    generalize (d * 48271 + (t + 1) * 69621 + 19) % 2147483647 = mx
    -- the first if, joined
    refine ⟨fun σ H' => ∃ (m1 : Int) (c1 : Option V) (z1 i1 t1 d1 : Int), σ = [some (.ref p), some (.int n), some (.ref c), some (.int m1), c1, none] ∧ 0 ≤ i1 ∧ H' p = some (.lst [.int z1, .int i1, .int t1, .int d1, .ref c]) ∧ Off p H H', ?_, ?_⟩
    · refine ⟨_, rfl, _, _, _, _, rfl, rfl, SqL.of hl1, rfl, rfl, _, rfl, ?_⟩
      refine ite2 (fun hz => ?_) (fun _ => iteF ⟨_, _, _, _, _, _, rfl, hi, hl1, o1⟩)
      have hc1 : upd H p (.lst [.int z, .int i, .int (t + 1), .int d, .ref c]) c = some (.lst (ns.map V.int)) := hp1.cells
      refine ⟨_, rfl, _, _, _, _, rfl, rfl, SqL.of hl1, rfl, _, rfl, c, _, rfl, .inl (SqL.of hc1), _, _, rfl, rfl, _, rfl, ?_⟩
      refine ite2 (fun hlt => ?_) (fun _ => ⟨_, _, _, _, _, _, rfl, hi, hl1, o1⟩)
      have hlt' : i < ((ns.map V.int).length : Int) := of_decide_eq_true hlt
      rw [List.length_map] at hlt'
      obtain ⟨v, hv⟩ : ∃ v, ns[i.toNat]? = some v := ⟨_, List.getElem?_eq_getElem (by omega)⟩
      -- cell = int(cells[pool[1]])
      refine ⟨_, rfl, _, rfl, _, _, _, _, rfl, rfl, SqL.of hl1, rfl, c, _, i, V.int v, rfl, rfl, SqL.of hc1, atI_ge hi (by rw [List.getElem?_map, hv]; rfl), .inl ⟨_, rfl, ?_⟩⟩
      -- pool[1] = pool[1] + 1
      refine ⟨_, rfl, _, _, _, _, rfl, rfl, SqL.of hl1, rfl, _, _, rfl, rfl, _, rfl, _, _, _, _, rfl, rfl, hl1, rfl, ?_⟩
      have hl2 : upd (upd H p (.lst [.int z, .int i, .int (t + 1), .int d, .ref c])) p (.lst [.int z, .int (i + 1), .int (t + 1), .int d, .ref c]) p = some (.lst [.int z, .int (i + 1), .int (t + 1), .int d, .ref c]) := upd_same
      have o2 : Off p H (upd (upd H p (.lst [.int z, .int i, .int (t + 1), .int d, .ref c])) p (.lst [.int z, .int (i + 1), .int (t + 1), .int d, .ref c])) := o1.trans Off.upd
      refine ⟨_, rfl, _, _, rfl, rfl, (.inr ⟨by decide, by decide⟩), _, rfl, _, _, _, _, rfl, rfl, SqL.of hl2, rfl, _, _, rfl, rfl, _, rfl, _, _, _, _, rfl, rfl, SqL.of hl2, rfl, _, _, rfl, rfl, (.inr ⟨by decide, by decide⟩), _, _, rfl, rfl, .inl ⟨_, rfl, _, _, rfl, rfl, pos_m7, ?_⟩⟩
      refine ⟨_, rfl, _, _, rfl, rfl, ⟨by decide, by decide, by decide⟩, _, _, rfl, rfl, _, rfl, ?_⟩
      refine ite2 (fun _ => ?_) (fun _ => ⟨_, _, _, _, _, _, rfl, by omega, hl2, o2⟩)
      refine ⟨_, rfl, _, rfl, _, _, _, _, rfl, rfl, hl2, rfl, ?_⟩
      exact ⟨_, _, v, i + 1, t + 1, d, rfl, by omega, upd_same, o2.trans Off.upd⟩
    · rintro σ H2 ⟨m1, c1, z1, i1, t1, d1, rfl, hi1, hl2, o2⟩
      have hp2 : Pool ns c H2 p := ⟨⟨_, hl2, _, _, _, _, hi1, rfl⟩, (o2 c hp.ne).trans hc⟩
      -- if pool[0] > 0: digit = int(pool[0]) % size; pool[0] = pool[0] // size; return digit
      refine ⟨_, rfl, _, _, _, _, rfl, rfl, SqL.of hl2, rfl, _, _, rfl, rfl, _, rfl, ?_⟩
      refine ite2 (fun _ => ?_) (fun _ => ?_)
      · refine ⟨_, rfl, _, _, _, _, rfl, rfl, SqL.of hl2, rfl, .inl ⟨_, rfl, _, rfl, _, _, rfl, rfl, hn, ?_⟩⟩
        refine ⟨_, rfl, _, _, _, _, rfl, rfl, SqL.of hl2, rfl, _, rfl, _, _, rfl, rfl, ⟨hn, hn9⟩, _, rfl, _, _, _, _, rfl, rfl, hl2, rfl, ?_⟩
        refine ⟨_, rfl, ?_⟩
        exact k _ _ (Int.emod_nonneg _ (by omega)) (Int.emod_lt_of_pos _ hn) (hp2.upd ⟨_, _, _, _, hi1, rfl⟩) (o2.trans Off.upd)
      · refine ⟨_, rfl, _, _, rfl, rfl, (.inr ⟨by decide, by decide⟩), _, rfl, _, _, rfl, rfl, ⟨by decide, by decide +kernel⟩, _, _, rfl, rfl, .inl ⟨_, rfl, _, _, rfl, rfl, pos_m9, ?_⟩⟩
        refine ⟨_, rfl, .inl ⟨_, rfl, _, rfl, _, _, rfl, rfl, hn, ?_⟩⟩
        exact k _ _ (Int.emod_nonneg _ (by omega)) (Int.emod_lt_of_pos _ hn) hp2 o2

theorem ok_l_big (T : Txt K mg C_BadEnd C_BarbreaksError C_TooMany C_BadNumber C_Band C_Refused) : Dk P w K mg base CX0 2 "_law_big" ["_law_pool_here"] spBig := by
  have D_l_take := ok_l_take (P := P) (w := w) (base := base) T
  obtain ⟨f, fd, g, F, b⟩ := T.l_big
  refine ⟨f, fd, g, F.kp, b, F.ok sc_l_big (fun vs H Q E h => ?_) (fun cdv A outer s H vs Q E hr h => ?_)⟩
  · obtain ⟨p, c, ns, rfl, _⟩ := h
    rfl
  · obtain ⟨p, c, ns, rfl, hp, k⟩ := h
    refine ⟨_, (pss_cons (ps_set (i := 1) sc_l_big.nd rfl (Or.inl rfl) pe_int)
  (pss_cons (ps_for PassesOwn.never rfl (pi_range1 rfl T.b_range (pa_cons pe_int pa_nil)) (pg_name (i := 2) sc_l_big.nd rfl (Or.inl rfl))
  (pss_one (ps_set (i := 1) sc_l_big.nd rfl (Or.inl rfl) (pe_op op_add (pe_op op_mul (pv 1) (pe_op op_pow pe_int pe_int)) (pe_d D_l_take (hr.mono (by decide)) pass0 (by rfl) (pa_cons (pv 0) (pa_cons (pe_op op_pow pe_int pe_int) pa_nil)))))))
  (pss_one (ps_ret (pv 1))))), ?_⟩
    refine ⟨3, rfl, by decide, by decide, for_range (n := 3) (fun i σ H' => ∃ (v : Int) (kv : Option V), σ = [some (.ref p), some (.int v), kv] ∧ 0 ≤ v ∧ v < 10 ^ (9 * i) ∧ Pool ns c H' p ∧ Off p H H') ⟨0, none, rfl, by decide, by decide, hp, Off.refl⟩ ?_ ?_⟩
    · rintro i σ H1 hi ⟨v, kv, rfl, h0, h1, hp1, o1⟩
      refine ⟨_, rfl, _, _, rfl, rfl, ⟨by decide, by decide, by decide⟩, _, _, rfl, rfl, (.inr ⟨by decide, by decide⟩), _, rfl, _, _, rfl, rfl, ⟨by decide, by decide, by decide⟩, p, c, ns, _, rfl, hp1, by decide, by decide +kernel, fun r H2 r0 r1 hp2 o2 => ?_⟩
      refine ⟨_, _, rfl, rfl, _, _, rfl, ?_, ?_, hp2, o1.trans o2⟩
      · have e : (10 : Int) ^ (9 : Int).toNat = 1000000000 := by decide
        show 0 ≤ v * (10 : Int) ^ (9 : Int).toNat + r
        rw [e]
        omega
      · have e : (10 : Int) ^ (9 : Int).toNat = 1000000000 := by decide
        have r1' : r < (10 : Int) ^ (9 : Int).toNat := r1
        show v * (10 : Int) ^ (9 : Int).toNat + r < 10 ^ (9 * (i + 1))
        rw [Nat.mul_add, Int.pow_add, e]
        rw [e] at r1'
        have e2 : (10 : Int) ^ (9 * 1) = 1000000000 := by decide
        rw [e2]
        omega
    · rintro σ H1 ⟨v, kv, rfl, h0, h1, hp1, o1⟩
      exact ⟨_, rfl, k _ _ h0 h1 hp1 o1⟩

theorem er_BadEnd (T : Txt K mg C_BadEnd C_BarbreaksError C_TooMany C_BadNumber C_Band C_Refused) : ErC P w K mg base "BadEnd" C_BadEnd ["self", "index"] (spEr1 C_BadEnd "index") := by
  obtain ⟨R, m, fI, fd, a, t, b, F⟩ := T.er_BadEnd
  refine ⟨R, m, fI, fd, a, t, b, F.ok sc_BadEnd_init (fun vs H Q E h => ?_) (fun cdv A outer s H vs Q E hr h => ?_)⟩
  · obtain ⟨a, v, rfl, _⟩ := h
    rfl
  · obtain ⟨a, v, rfl, ha, k⟩ := h
    refine ⟨_, (pss_one (ps_ost (pv 0) (pv 1))), ?_⟩
    exact ⟨_, rfl, _, rfl, a, C_BadEnd, rfl, R, T.xn_BadEnd_index, .inl ⟨ha, fun dx n ne => k dx n ne⟩⟩

theorem er_TooMany (T : Txt K mg C_BadEnd C_BarbreaksError C_TooMany C_BadNumber C_Band C_Refused) : ErC P w K mg base "TooMany" C_TooMany ["self", "what", "most"] (spEr2 C_TooMany "what" "most") := by
  obtain ⟨R, m, fI, fd, a, t, b, F⟩ := T.er_TooMany
  refine ⟨R, m, fI, fd, a, t, b, F.ok sc_TooMany_init (fun vs H Q E h => ?_) (fun cdv A outer s H vs Q E hr h => ?_)⟩
  · obtain ⟨a, v, u, rfl, _⟩ := h
    rfl
  · obtain ⟨a, v, u, rfl, ha, k⟩ := h
    refine ⟨_, (pss_cons (ps_ost (pv 0) (pv 1)) (pss_one (ps_ost (pv 0) (pv 2)))), ?_⟩
    refine ⟨_, rfl, _, rfl, a, C_TooMany, rfl, R, T.xn_TooMany_what, .inl ⟨ha, fun dx n ne => ?_⟩⟩
    exact ⟨_, rfl, _, rfl, a, C_TooMany, rfl, R, T.xn_TooMany_most, .inr ⟨dx, _, upd_same, (upd_ne ne).trans upd_same, (by show 1 ≤ 900; decide), k dx n ne⟩⟩

theorem er_BadNumber (T : Txt K mg C_BadEnd C_BarbreaksError C_TooMany C_BadNumber C_Band C_Refused) : ErC P w K mg base "BadNumber" C_BadNumber ["self", "number"] (spEr1 C_BadNumber "number") := by
  obtain ⟨R, m, fI, fd, a, t, b, F⟩ := T.er_BadNumber
  refine ⟨R, m, fI, fd, a, t, b, F.ok sc_BadNumber_init (fun vs H Q E h => ?_) (fun cdv A outer s H vs Q E hr h => ?_)⟩
  · obtain ⟨a, v, rfl, _⟩ := h
    rfl
  · obtain ⟨a, v, rfl, ha, k⟩ := h
    refine ⟨_, (pss_one (ps_ost (pv 0) (pv 1))), ?_⟩
    exact ⟨_, rfl, _, rfl, a, C_BadNumber, rfl, R, T.xn_BadNumber_number, .inl ⟨ha, fun dx n ne => k dx n ne⟩⟩

theorem ok_check_things (T : Txt K mg C_BadEnd C_BarbreaksError C_TooMany C_BadNumber C_Band C_Refused) : Dk P w K mg base (L2.CX P w) 3 "check_things" ["count"] (spThings C_TooMany) := by
  have ER_TooMany := er_TooMany (P := P) (w := w) (base := base) T
  obtain ⟨f, fd, g, F, b⟩ := T.check_things
  refine ⟨f, fd, g, F.kp, b, F.okX sc_check_things (fun vs H Q E h => ?_) (fun cdv A outer s H vs Q E hr h => ?_)⟩
  · obtain ⟨n, rfl, _⟩ := h
    rfl
  · obtain ⟨n, rfl, k1, k2⟩ := h
    refine ⟨_, (pss_one (ps_if (pt_cmpR op_gt (pv 0) (C8.pe_gc (by rfl) T.v_MOST_THINGS) (nomark _))
  (pss_one (ps_raise rfl (takes_of rfl rfl rfl rfl) (pmk_er ER_TooMany (hr.mono (by decide)) (by rfl) (pa_cons pe_str (pa_cons (C8.pe_gc (by rfl) T.v_MOST_THINGS) pa_nil)))))
  pss_nil)), ?_⟩
    refine ⟨_, rfl, _, _, rfl, rfl, _, rfl, ite2 (fun q => ?_) (fun q => ?_)⟩
    · refine ⟨(by show 2 ≤ 1000; decide), fun a ha => ⟨a, _, _, rfl, upd_same, fun d hd hda => ⟨rfl, d, _, (upd_ne (Ne.symm hda)).trans upd_same, upd_same, (upd_ne hda).symm.trans hd, ?_⟩⟩⟩
      rw [del_made2 ha ((upd_ne hda).symm.trans hd) hda]
      exact k2 (of_decide_eq_true q) _ _ (Same.new ((upd_ne hda).symm.trans hd)) upd_same
    · exact k1 (by have := of_decide_eq_false (Bool.eq_false_iff.mpr q); omega)

theorem ok_check_from_zero (T : Txt K mg C_BadEnd C_BarbreaksError C_TooMany C_BadNumber C_Band C_Refused) : Dk P w K mg base (L2.CX P w) 3 "check_from_zero" ["number", "most"] (spFromZ C_BadNumber) := by
  have ER_BadNumber := er_BadNumber (P := P) (w := w) (base := base) T
  obtain ⟨f, fd, g, F, b⟩ := T.check_from_zero
  refine ⟨f, fd, g, F.kp, b, F.okX sc_check_from_zero (fun vs H Q E h => ?_) (fun cdv A outer s H vs Q E hr h => ?_)⟩
  · obtain ⟨n, m, rfl, _⟩ := h
    rfl
  · obtain ⟨n, m, rfl, k1, k2⟩ := h
    refine ⟨_, (pss_one (ps_if (pt_not (pt_chain op_le op_le pe_int (pv 0) (pv 1)))
  (pss_one (ps_raise rfl (takes_of rfl rfl rfl rfl) (pmk_er ER_BadNumber (hr.mono (by decide)) (by rfl) (pa_cons (pv 0) pa_nil))))
  pss_nil)), ?_⟩
    have bad : ¬ (0 ≤ n ∧ n ≤ m) → ∀ a, H a = none → ∀ d, L2.upd H a (exo a C_BadNumber none) d = none → d ≠ a → E (.ref C_BadNumber) (some d) (L2.upd H d (.xd [("number", .int n)])) := fun q a ha d hd hda => k2 q _ _ (Same.new ((upd_ne hda).symm.trans hd)) upd_same
    refine ⟨_, rfl, _, _, rfl, rfl, _, rfl, ite2 (fun q => ?_) (fun q => ?_)⟩
    · have q0 := of_decide_eq_true q
      refine ⟨_, rfl, _, _, rfl, rfl, _, rfl, ?_⟩
      by_cases q1 : n ≤ m
      · rw [decide_eq_true q1]
        exact iteF (k1 ⟨q0, q1⟩)
      · rw [decide_eq_false q1]
        refine iteT ⟨_, rfl, (by show 1 ≤ 1000; decide), fun a ha => ⟨a, _, rfl, upd_same, fun d hd hda => ⟨rfl, d, _, upd_same, (upd_ne hda).trans upd_same, (upd_ne hda).symm.trans hd, ?_⟩⟩⟩
        rw [del_made ha ((upd_ne hda).symm.trans hd) hda]
        exact bad (fun z => q1 z.2) a ha d hd hda
    · refine ⟨false, rfl, iteT ⟨_, rfl, (by show 1 ≤ 1000; decide), fun a ha => ⟨a, _, rfl, upd_same, fun d hd hda => ⟨rfl, d, _, upd_same, (upd_ne hda).trans upd_same, (upd_ne hda).symm.trans hd, ?_⟩⟩⟩⟩
      rw [del_made ha ((upd_ne hda).symm.trans hd) hda]
      exact bad (fun z => q (decide_eq_true z.1)) a ha d hd hda

theorem ok_check_ends (T : Txt K mg C_BadEnd C_BarbreaksError C_TooMany C_BadNumber C_Band C_Refused) : Dk P w K mg base (L2.CX P w) 3 "check_ends" ["ends"] (spCkEnds C_BadEnd) := by
  have ER_BadEnd := er_BadEnd (P := P) (w := w) (base := base) T
  obtain ⟨f, fd, g, F, b⟩ := T.check_ends
  refine ⟨f, fd, g, F.kp, b, F.okX sc_check_ends (fun vs H Q E h => ?_) (fun cdv A outer s H vs Q E hr h => ?_)⟩
  · obtain ⟨r, es, rfl, _⟩ := h
    rfl
  · obtain ⟨r, es, rfl, hs, h60, k1, k2⟩ := h
    have out : ∀ (i : Nat) (H2 : Hp), Same H H2 → bandDue es = .at_ i → ∀ a, H2 a = none → ∀ d, L2.upd H2 a (exo a C_BadEnd none) d = none → d ≠ a → E (.ref C_BadEnd) (some d) (L2.upd (del (L2.upd (L2.upd (L2.upd H2 a (exo a C_BadEnd none)) d (exd d [("index", .int (i : Nat))])) a (exo a C_BadEnd (some d))) a) d (.xd [("index", .int (i : Nat))])) := by
      intro i H2 s2 hd2 a ha d hd hda
      rw [del_made ha ((upd_ne hda).symm.trans hd) hda]
      exact k2 i hd2 _ _ (s2.trans (Same.new ((upd_ne hda).symm.trans hd))) upd_same
    rcases hs with hs | hs
    · skip
      refine ⟨_, (pss_cons (ps_set (i := 1) sc_check_ends.nd rfl (Or.inl rfl) pe_int)
  (pss_one (ps_for (passes_of rfl) rfl (pi_enum (by rfl) T.b_enumerate (pa_cons (pv 0) pa_nil)) (pg_tup (by rfl) (pgs_cons (pg_name (i := 2) sc_check_ends.nd rfl (Or.inl rfl)) (pgs_cons (pg_name (i := 3) sc_check_ends.nd rfl (Or.inl rfl)) pgs_nil)))
  (pss_cons (ps_if (PW.pt (pw_or (pt_cmpR op_lt (pv 3) (pv 2) (nomark _)) (pw_or (pt_cmpR op_ge (pv 3) (pe_callB call_len_seq (by rfl) T.b_len (by decide +kernel) (pa_cons (pv 0) pa_nil)) (nomark _)) (pw_or1 (pt_cmpR op_lt (pv 3) (pv 1) (nomark _))))))
  (pss_one (ps_raise rfl (takes_of rfl rfl rfl rfl) (pmk_er ER_BadEnd (hr.mono (by decide)) (by rfl) (pa_cons (pv 2) pa_nil))))
  pss_nil)
  (pss_one (ps_set (i := 1) sc_check_ends.nd rfl (Or.inl rfl) (pv 3))))))), ?_⟩
      refine ⟨_, rfl, r, _, rfl, SqL.of hs, for_it (walk_enum (xs := iV es)) (fun i σ H' => ∃ (x2 x3 : Option V), σ = [some (.ref r), some (.int (ahead es i)), x2, x3] ∧ Same H H' ∧ ∀ j, j < i → badE es j = false) ⟨_, _, rfl, Same.refl _, fun j hj => absurd hj (Nat.not_lt_zero _)⟩ (fun i σ H' _ ⟨_, _, _, s1, _⟩ => SqL.of (s1 _ _ hs)) ?_ ?_⟩
      · rintro i x σ H1 H2 hi ⟨x2, x3, rfl, s1, hb⟩ ⟨t, a, b, rfl, nt, rfl, ea, eb⟩
        cases ea
        obtain ⟨e, he, rfl⟩ := ints_at eb
        have hi' : i < es.length := (List.getElem?_eq_some_iff.mp he).1
        have s2 := s1.trans (Same.new (o := .tup [.int (i : Nat), .int e]) nt)
        have hs2 := s2 _ _ hs
        have ge := getD_at he
        refine ⟨t, _, rfl, SqT.of upd_same, rfl, _, _, rfl, _, _, rfl, rfl, ?_⟩
        refine ⟨_, rfl, _, rfl, _, _, rfl, rfl, _, rfl, ite2 (fun q => ?_) (fun q1 => ?_)⟩
        · have hbad : badE es i = true := by
            unfold badE
            rw [ge, q]
            rfl
          refine ⟨_, rfl, (by show 1 ≤ 1000; decide), fun a ha => ⟨a, _, rfl, upd_same, fun d hd hda => ⟨rfl, d, _, upd_same, (upd_ne hda).trans upd_same, (upd_ne hda).symm.trans hd, ?_⟩⟩⟩
          exact out i _ s2 (due_at h60 hi' hbad hb) a ha d hd hda
        refine ⟨_, rfl, _, rfl, r, _, rfl, .inl (SqL.of hs2), _, _, rfl, rfl, _, rfl, ite2 (fun q => ?_) (fun q2 => ?_)⟩
        · have hbad : badE es i = true := by
            unfold badE
            rw [ge, decide_eq_true (by have := of_decide_eq_true q; rw [List.length_map] at this; omega : (es.length : Int) ≤ e)]
            simp
          refine ⟨_, rfl, (by show 1 ≤ 1000; decide), fun a ha => ⟨a, _, rfl, upd_same, fun d hd hda => ⟨rfl, d, _, upd_same, (upd_ne hda).trans upd_same, (upd_ne hda).symm.trans hd, ?_⟩⟩⟩
          exact out i _ s2 (due_at h60 hi' hbad hb) a ha d hd hda
        refine ⟨_, rfl, _, rfl, _, _, rfl, rfl, _, rfl, ite2 (fun q => ?_) (fun q3 => ?_)⟩
        · have hbad : badE es i = true := by
            unfold badE
            rw [ge, q]
            simp
          refine ⟨_, rfl, (by show 1 ≤ 1000; decide), fun a ha => ⟨a, _, rfl, upd_same, fun d hd hda => ⟨rfl, d, _, upd_same, (upd_ne hda).trans upd_same, (upd_ne hda).symm.trans hd, ?_⟩⟩⟩
          exact out i _ s2 (due_at h60 hi' hbad hb) a ha d hd hda
        refine ⟨_, rfl, some (.int (i : Nat)), some (.int e), ?_, s2, ?_⟩
        · have e1 : ahead es (i + 1) = e := by
            unfold ahead
            rw [if_neg (Nat.succ_ne_zero i), Nat.add_sub_cancel, ge]
          rw [e1]
          rfl
        · intro j hj
          by_cases z : j = i
          · subst z
            unfold badE
            have n1 : ¬ e < (j : Int) := fun z => q1 (decide_eq_true z)
            have n2 : ¬ (es.length : Int) ≤ e := fun z => q2 (decide_eq_true (by rw [List.length_map]; omega))
            have n3 : ¬ e < ahead es j := fun z => q3 (decide_eq_true z)
            rw [ge, decide_eq_false n1, decide_eq_false n2, decide_eq_false n3]
            rfl
          · exact hb j (by omega)
      · rintro σ H1 ⟨x2, x3, rfl, s1, hb⟩
        rw [List.length_map] at hb
        exact k1 (due_fine h60 hb) _ s1
    · skip
      refine ⟨_, (pss_cons (ps_set (i := 1) sc_check_ends.nd rfl (Or.inl rfl) pe_int)
  (pss_one (ps_for (passes_of rfl) rfl (pi_enumT (by rfl) T.b_enumerate (pa_cons (pv 0) pa_nil)) (pg_tup (by rfl) (pgs_cons (pg_name (i := 2) sc_check_ends.nd rfl (Or.inl rfl)) (pgs_cons (pg_name (i := 3) sc_check_ends.nd rfl (Or.inl rfl)) pgs_nil)))
  (pss_cons (ps_if (PW.pt (pw_or (pt_cmpR op_lt (pv 3) (pv 2) (nomark _)) (pw_or (pt_cmpR op_ge (pv 3) (pe_callB call_len_seq (by rfl) T.b_len (by decide +kernel) (pa_cons (pv 0) pa_nil)) (nomark _)) (pw_or1 (pt_cmpR op_lt (pv 3) (pv 1) (nomark _))))))
  (pss_one (ps_raise rfl (takes_of rfl rfl rfl rfl) (pmk_er ER_BadEnd (hr.mono (by decide)) (by rfl) (pa_cons (pv 2) pa_nil))))
  pss_nil)
  (pss_one (ps_set (i := 1) sc_check_ends.nd rfl (Or.inl rfl) (pv 3))))))), ?_⟩
      refine ⟨_, rfl, r, _, rfl, SqT.of hs, for_it (walk_enumT (xs := iV es)) (fun i σ H' => ∃ (x2 x3 : Option V), σ = [some (.ref r), some (.int (ahead es i)), x2, x3] ∧ Same H H' ∧ ∀ j, j < i → badE es j = false) ⟨_, _, rfl, Same.refl _, fun j hj => absurd hj (Nat.not_lt_zero _)⟩ (fun i σ H' _ ⟨_, _, _, s1, _⟩ => SqT.of (s1 _ _ hs)) ?_ ?_⟩
      · rintro i x σ H1 H2 hi ⟨x2, x3, rfl, s1, hb⟩ ⟨t, a, b, rfl, nt, rfl, ea, eb⟩
        cases ea
        obtain ⟨e, he, rfl⟩ := ints_at eb
        have hi' : i < es.length := (List.getElem?_eq_some_iff.mp he).1
        have s2 := s1.trans (Same.new (o := .tup [.int (i : Nat), .int e]) nt)
        have hs2 := s2 _ _ hs
        have ge := getD_at he
        refine ⟨t, _, rfl, SqT.of upd_same, rfl, _, _, rfl, _, _, rfl, rfl, ?_⟩
        refine ⟨_, rfl, _, rfl, _, _, rfl, rfl, _, rfl, ite2 (fun q => ?_) (fun q1 => ?_)⟩
        · have hbad : badE es i = true := by
            unfold badE
            rw [ge, q]
            rfl
          refine ⟨_, rfl, (by show 1 ≤ 1000; decide), fun a ha => ⟨a, _, rfl, upd_same, fun d hd hda => ⟨rfl, d, _, upd_same, (upd_ne hda).trans upd_same, (upd_ne hda).symm.trans hd, ?_⟩⟩⟩
          exact out i _ s2 (due_at h60 hi' hbad hb) a ha d hd hda
        refine ⟨_, rfl, _, rfl, r, _, rfl, .inr (SqT.of hs2), _, _, rfl, rfl, _, rfl, ite2 (fun q => ?_) (fun q2 => ?_)⟩
        · have hbad : badE es i = true := by
            unfold badE
            rw [ge, decide_eq_true (by have := of_decide_eq_true q; rw [List.length_map] at this; omega : (es.length : Int) ≤ e)]
            simp
          refine ⟨_, rfl, (by show 1 ≤ 1000; decide), fun a ha => ⟨a, _, rfl, upd_same, fun d hd hda => ⟨rfl, d, _, upd_same, (upd_ne hda).trans upd_same, (upd_ne hda).symm.trans hd, ?_⟩⟩⟩
          exact out i _ s2 (due_at h60 hi' hbad hb) a ha d hd hda
        refine ⟨_, rfl, _, rfl, _, _, rfl, rfl, _, rfl, ite2 (fun q => ?_) (fun q3 => ?_)⟩
        · have hbad : badE es i = true := by
            unfold badE
            rw [ge, q]
            simp
          refine ⟨_, rfl, (by show 1 ≤ 1000; decide), fun a ha => ⟨a, _, rfl, upd_same, fun d hd hda => ⟨rfl, d, _, upd_same, (upd_ne hda).trans upd_same, (upd_ne hda).symm.trans hd, ?_⟩⟩⟩
          exact out i _ s2 (due_at h60 hi' hbad hb) a ha d hd hda
        refine ⟨_, rfl, some (.int (i : Nat)), some (.int e), ?_, s2, ?_⟩
        · have e1 : ahead es (i + 1) = e := by
            unfold ahead
            rw [if_neg (Nat.succ_ne_zero i), Nat.add_sub_cancel, ge]
          rw [e1]
          rfl
        · intro j hj
          by_cases z : j = i
          · subst z
            unfold badE
            have n1 : ¬ e < (j : Int) := fun z => q1 (decide_eq_true z)
            have n2 : ¬ (es.length : Int) ≤ e := fun z => q2 (decide_eq_true (by rw [List.length_map]; omega))
            have n3 : ¬ e < ahead es j := fun z => q3 (decide_eq_true z)
            rw [ge, decide_eq_false n1, decide_eq_false n2, decide_eq_false n3]
            rfl
          · exact hb j (by omega)
      · rintro σ H1 ⟨x2, x3, rfl, s1, hb⟩
        rw [List.length_map] at hb
        exact k1 (due_fine h60 hb) _ s1

theorem ok_Band_initX (T : Txt K mg C_BadEnd C_BarbreaksError C_TooMany C_BadNumber C_Band C_Refused) : MkD P w K mg base (L2.CX P w) 4 "Band" C_Band ["self", "ends"] [] (spBandM C_Band C_TooMany C_BadEnd) := by
  have D_check_things := ok_check_things (P := P) (w := w) (base := base) T
  have D_check_ends := ok_check_ends (P := P) (w := w) (base := base) T
  obtain ⟨f, fd, M0, F, b⟩ := T.i_Band
  refine ⟨f, fd, [], T.g_Band, M0, b, .nil, F.okX sc_Band_init (fun vs H Q E h => ?_) (fun cdv A outer s H vs Q E hr h => ?_)⟩
  · obtain ⟨M, p, dx, r, es, rfl, _⟩ := h
    rfl
  · obtain ⟨M, p, dx, r, es, rfl, m, nM, hp, hsM, hl, k1, k2, k3⟩ := h
    have hs : SqIn H r es := hsM.imp (m _ _) (m _ _)
    refine ⟨_, (pss_cons (ps_expr (pe_d D_check_things (hr.mono (by decide)) (passes_call (takes_of rfl rfl rfl rfl) (fun _ _ _ _ z => z)) (by rfl) (pa_cons (pe_callB call_len_seq (by rfl) T.b_len (by decide +kernel) (pa_cons (pv 1) pa_nil)) pa_nil)))
  (pss_cons (ps_expr (pe_d D_check_ends (hr.mono (by decide)) (passes_call (takes_of rfl rfl rfl rfl) (fun _ _ _ _ z => z)) (by rfl) (pa_cons (pv 1) pa_nil)))
  (pss_one (ps_fld (pv 0) (pe_callTy call_tuple_of (by rfl) T.b_tuple (by decide +kernel) (pa_cons (pv 1) pa_nil)) rfl)))), ?_⟩
    refine ⟨_, rfl, r, _, rfl, hs.sq, _, rfl, fun h60 => ?_, fun h61 => k2 (due_many (by rw [List.length_map] at h61; omega))⟩
    have h60' : es.length ≤ 60 := by rw [List.length_map] at h60; omega
    refine ⟨_, rfl, r, es, rfl, hs, h60', fun fine H1 s1 => ?_, fun i e => k3 i e⟩
    have g1 : Gx [p] M H M H1 := Gx.of_same m s1
    have hp1 := s1 _ _ hp
    rcases hsM with hs | hs
    · refine ⟨_, rfl, r, _, rfl, .inl ⟨SqL.of (s1 _ _ (m _ _ hs)), fun t nt => ?_⟩⟩
      have npt : p ≠ t := ne_of_none hp1 nt
      have g2 : Gx [p] M H1 (L2.upd M t (.tup (iV es))) (L2.upd H1 t (.tup (iV es))) := Gx.new g1.h nt
      have out := g2.out hp1 nM
      refine ⟨_, rfl, p, C_Band, dx, _, rfl, (upd_ne npt).trans hp1, T.c_Band, T.n_Band_ends, (by show 0 < 1000; decide), ?_⟩
      exact k1 fine t _ _ ((g1.trans g2).trans (Gx.upd g2.h out (by simp))) upd_same upd_same
    · refine ⟨_, rfl, r, _, rfl, .inr ⟨SqT.of (s1 _ _ (m _ _ hs)), ⟨_, rfl, p, C_Band, dx, _, rfl, hp1, T.c_Band, T.n_Band_ends, (by show 0 < 1000; decide), ?_⟩⟩⟩
      exact k1 fine r _ _ (g1.trans (Gx.upd g1.h nM (by simp))) hs upd_same

theorem ok_Band_len (T : Txt K mg C_BadEnd C_BarbreaksError C_TooMany C_BadNumber C_Band C_Refused) : Me P w K mg base CX0 1 C_Band "__len__" ["self"] (spLenB C_Band) := by
  obtain ⟨f, fd, M, F, b⟩ := T.m_Band_len
  refine ⟨f, fd, M, b, F.ok sc_Band_len (fun vs H Q E h => ?_) (fun cdv A outer s H vs Q E hr h => ?_)⟩
  · obtain ⟨b, es, rfl, _⟩ := h
    rfl
  · obtain ⟨b, es, rfl, ⟨dx, t, hb, ht⟩, k⟩ := h
    refine ⟨_, (pss_one (ps_ret (pe_callB call_len_seq (by rfl) T.b_len (by decide +kernel) (pa_cons (pe_fld (pv 0) rfl) pa_nil)))), ?_⟩
    refine ⟨_, rfl, b, C_Band, dx, _, _, rfl, hb, T.c_Band, T.n_Band_ends, look1, t, _, rfl, .inr (SqT.of ht), ?_⟩
    rw [List.length_map]
    exact k

theorem ok_Band_near (T : Txt K mg C_BadEnd C_BarbreaksError C_TooMany C_BadNumber C_Band C_Refused) : Me P w K mg base (L2.CX P w) 4 C_Band "near" ["self", "i", "k"] (spNearB C_Band C_BadNumber) := by
  have D_check_from_zero := ok_check_from_zero (P := P) (w := w) (base := base) T
  obtain ⟨f, fd, M, F, b⟩ := T.m_Band_near
  refine ⟨f, fd, M, b, F.okX sc_Band_near (fun vs H Q E h => ?_) (fun cdv A outer s H vs Q E hr h => ?_)⟩
  · obtain ⟨b, es, i, k, rfl, _⟩ := h
    rfl
  · obtain ⟨b, es, i, k, rfl, ⟨dx, t, hb, ht⟩, k1, k2, k3⟩ := h
    refine ⟨_, (pss_cons (ps_expr (pe_d D_check_from_zero (hr.mono (by decide)) (passes_call (takes_of rfl rfl rfl rfl) (fun _ _ _ _ z => z)) (by rfl) (pa_cons (pv 1) (pa_cons (pe_op op_sub (pe_callB call_len_seq (by rfl) T.b_len (by decide +kernel) (pa_cons (pe_fld (pv 0) rfl) pa_nil)) pe_int) pa_nil))))
  (pss_cons (ps_expr (pe_d D_check_from_zero (hr.mono (by decide)) (passes_call (takes_of rfl rfl rfl rfl) (fun _ _ _ _ z => z)) (by rfl) (pa_cons (pv 2) (pa_cons (pe_op op_sub (pe_callB call_len_seq (by rfl) T.b_len (by decide +kernel) (pa_cons (pe_fld (pv 0) rfl) pa_nil)) pe_int) pa_nil))))
  (pss_one (ps_ret (pe_cmpR op_le (pe_callB (call_max2 rfl) (by rfl) T.b_max (by decide +kernel) (pa_cons (pv 1) (pa_cons (pv 2) pa_nil))) (pe_ix ix_tup (pe_fld (pv 0) rfl) (pe_callB (call_min2 rfl) (by rfl) T.b_min (by decide +kernel) (pa_cons (pv 1) (pa_cons (pv 2) pa_nil))) (fun _ _ => rfl)) (nomark _)))))), ?_⟩
    have to : ∀ j : Int, (0 ≤ j ∧ j ≤ ((iV es).length : Int) - 1) ↔ inN es j := fun j => by
      rw [List.length_map]
      unfold inN
      omega
    refine ⟨_, rfl, _, rfl, b, C_Band, dx, _, _, rfl, hb, T.c_Band, T.n_Band_ends, look1, t, _, rfl, .inr (SqT.of ht), _, _, rfl, rfl, _, _, rfl, fun q => ?_, fun q => k2 (fun z => q ((to i).mpr z))⟩
    have hi := (to i).mp q
    refine ⟨_, rfl, _, rfl, b, C_Band, dx, _, _, rfl, hb, T.c_Band, T.n_Band_ends, look1, t, _, rfl, .inr (SqT.of ht), _, _, rfl, rfl, _, _, rfl, fun q => ?_, fun q => k3 hi (fun z => q ((to k).mpr z))⟩
    have hk := (to k).mp q
    refine ⟨_, rfl, _, rfl, _, _, rfl, _, rfl, b, C_Band, dx, _, _, rfl, hb, T.c_Band, T.n_Band_ends, look1, _, rfl, _, rfl, _, _, rfl, t, _, _, _, rfl, rfl, SqT.of ht, near_atV hi hk, _, _, rfl, rfl, ?_⟩
    exact k1 hi hk

theorem ok_Band_part (T : Txt K mg C_BadEnd C_BarbreaksError C_TooMany C_BadNumber C_Band C_Refused) : Me P w K mg base (L2.CX P w) 6 C_Band "part" ["self", "low", "high"] (spPart C_Band C_BadNumber) := by
  have D_check_from_zero := ok_check_from_zero (P := P) (w := w) (base := base) T
  have D_Band := ok_Band_initX (P := P) (w := w) (base := base) T
  have ER_BadNumber := er_BadNumber (P := P) (w := w) (base := base) T
  have cB := T.c_Band
  have nB := T.n_Band_ends
  obtain ⟨f, fd, M0, F, b0⟩ := T.m_Band_part
  refine ⟨f, fd, M0, b0, F.okX sc_Band_part (fun vs H Q E h => ?_) (fun cdv A outer s H vs Q E hr h => ?_)⟩
  · obtain ⟨M, b, es, lo, hi, rfl, _⟩ := h
    rfl
  · obtain ⟨M, b, es, lo, hi, rfl, m, hb, ok, l60, k1, k2, k3⟩ := h
    have rb := BandAt.rp (K := K) hb
    refine ⟨_, (pss_cons (ps_expr (pe_d D_check_from_zero (hr.mono (by decide)) (passes_call (takes_of rfl rfl rfl rfl) (fun _ _ _ _ z => z)) (by rfl) (pa_cons (pv 1) (pa_cons (pe_callB (call_lenC (K := K) rfl) (by rfl) T.b_len (by decide +kernel) (pa_cons (pe_fldC (K := K) rfl (pv 0) rfl) pa_nil)) pa_nil))))
  (pss_cons (ps_if (pt_not (pt_chain op_le op_le (pv 1) (pv 2) (pe_callB (call_lenC (K := K) rfl) (by rfl) T.b_len (by decide +kernel) (pa_cons (pe_fldC (K := K) rfl (pv 0) rfl) pa_nil))))
  (pss_one (ps_raise rfl (takes_of rfl rfl rfl rfl) (pmk_er ER_BadNumber (hr.mono (by decide)) (by rfl) (pa_cons (pv 2) pa_nil))))
  pss_nil)
  (pss_one (ps_ret (pe_mkd D_Band (hr.mono (by decide)) (passes_call (takes_of rfl rfl rfl rfl) (fun _ _ _ _ z => z)) (by rfl) (pa_cons (pe_lc (own := [("end", 3)]) (g := gName 3) (tt := tYes) (by rfl) sc_Band_part.nd (pi_tupC (K := K) rfl (pe_slice (sl_tupQC (K := K) rfl) (pe_fldC (K := K) rfl (pv 0) rfl) (po_some (pv 1)) (po_some (pv 2)))) (blkOk_by (own := [("end", 3)]) (N := ["self", "low", "high", "end"]) (sc := defScope s_Band_part) (by decide +kernel)) (fun _ _ _ _ _ => pg_name (i := 3) sc_Band_part.nd rfl (Or.inl rfl)) (fun _ _ _ _ _ => pts_nil) (fun _ _ _ _ _ => (pe_op op_sub (pe_callB (id := "min") (call_min2 rfl) (by rfl) T.b_min (by decide +kernel) (pa_cons (pv 3) (pa_cons (pe_op op_sub (pv 2) pe_int) pa_nil))) (pv 1)))) pa_nil)))))), ?_⟩
    kspl_open go
    refine ⟨fun q => ?_, fun q => ?_⟩
    · kspl_open go
      by_cases z1 : lo ≤ hi
      · by_cases z2 : hi ≤ (es.length : Int)
        · obtain ⟨l, rfl⟩ := Int.eq_ofNat_of_zero_le q.1
          obtain ⟨h, rfl⟩ := Int.eq_ofNat_of_zero_le (by omega : 0 ≤ hi)
          kspl_open go
          refine q_lcM (by kspl_open cur) (RW0.one (by assumption)) (by kspl_open sm) Tr.int (fun e => (if (h : Int) - 1 < e then (h : Int) - 1 else e) - (l : Int)) (Nat.lt_of_le_of_lt (m := 60) ?_ (by decide)) (fun i v M' H' F F0 hi hv m1 m2 kF => ?_) (fun lr M' H' g hl => ?_)
          · rw [cutT_in es (by omega) (by omega) (by omega), List.length_take, List.length_drop]
            omega
          · obtain rfl := Rp.inv_int hv
            kspl_open go
            exact kF _ _ _ (Gx.refl m2) (.int _)
          · rw [partE_eq (by omega) (by omega)] at hl
            refine q_mkBand hl g.h (ok.part (by omega)) (by rw [partE_len (by omega)]; omega) (fun x M2 H2 hx g2 => ?_)
            exact ⟨rfl, k1 l h rfl rfl (by omega) (by omega) x M2 H2 hx (by kspl_open gx)⟩
        · kspl_open go
          refine ⟨(by show 1 ≤ 1000; decide), fun a ha => ⟨a, _, rfl, upd_same, fun d hd hda => ⟨rfl, d, _, upd_same, (upd_ne hda).trans upd_same, (upd_ne hda).symm.trans hd, ?_⟩⟩⟩
          rw [del_made ha ((upd_ne hda).symm.trans hd) hda]
          exact (k3 q.1 q.2 (fun z => z2 z.2)) _ _ (Same.new ((upd_ne hda).symm.trans hd)) upd_same
      · kspl_open go
        refine ⟨(by show 1 ≤ 1000; decide), fun a ha => ⟨a, _, rfl, upd_same, fun d hd hda => ⟨rfl, d, _, upd_same, (upd_ne hda).trans upd_same, (upd_ne hda).symm.trans hd, ?_⟩⟩⟩
        rw [del_made ha ((upd_ne hda).symm.trans hd) hda]
        exact (k3 q.1 q.2 (fun z => z1 z.1)) _ _ (Same.new ((upd_ne hda).symm.trans hd)) upd_same
    · exact k2 (fun z => q z)

theorem ok_Band_mirrored (T : Txt K mg C_BadEnd C_BarbreaksError C_TooMany C_BadNumber C_Band C_Refused) : Me P w K mg base CX0 6 C_Band "mirrored" ["self"] (spMir C_Band) := by
  have D_Band := ok_Band_initX (P := P) (w := w) (base := base) T
  have cB := T.c_Band
  have nB := T.n_Band_ends
  obtain ⟨f, fd, M0, F, b0⟩ := T.m_Band_mirrored
  refine ⟨f, fd, M0, b0, F.ok sc_Band_mirrored (fun vs H Q E h => ?_) (fun cdv A outer s H vs Q E hr h => ?_)⟩
  · obtain ⟨M, b, es, rfl, _⟩ := h
    rfl
  · obtain ⟨M, b, es, rfl, m, hb, ok, l60, k⟩ := h
    have rb := BandAt.rp (K := K) hb
    refine ⟨_, (pss_cons (ps_set (i := 1) sc_Band_mirrored.nd rfl (Or.inr rfl) (pe_op op_sub (pe_callB (call_lenC (K := K) rfl) (by rfl) T.b_len (by decide +kernel) (pa_cons (pe_fldC (K := K) rfl (pv 0) rfl) pa_nil)) pe_int))
  (pss_cons (ps_setLc (i := 2) (own := [("k", 3)]) (g := gName 3) (tt := tYes) (by rfl) sc_Band_mirrored.nd rfl rfl (sw_true rfl rfl rfl (by decide +kernel)) (pi_range1 rfl T.b_range (pa_cons (pe_op op_add (pv 1) pe_int) pa_nil)) (blkOk_by (own := [("k", 3)]) (N := ["self", "last", "firsts", "k", "first", "i", "end"]) (sc := defScope s_Band_mirrored) (by decide +kernel)) (fun _ _ _ _ _ => pg_name (i := 3) sc_Band_mirrored.nd rfl (by first | exact Or.inl rfl | exact Or.inr rfl)) (fun _ _ _ _ _ => pts_nil) (fun _ _ _ _ _ => (pe_callB (id := "min") (cr_minC (K := K) rfl rfl) (by rfl) T.b_min (by decide +kernel) (pa_cons (pe_lc (own := [("i", 5), ("end", 6)]) (g := gTup K 2 (gCons (gName 5) (gCons (gName 6) gNil))) (tt := _) (by rfl) sc_Band_mirrored.nd (pi_enumTC (K := K) rfl (by rfl) T.b_enumerate (pa_cons (pe_fldC (K := K) rfl (pv 0) rfl) pa_nil)) (blkOk_by (own := [("i", 5), ("end", 6)]) (N := ["self", "last", "firsts", "k", "first", "i", "end"]) (by kernel_rfl)) (fun _ _ _ _ _ => (pg_tupC (K := K) rfl (by rfl) (pgs_cons (pg_name (i := 5) sc_Band_mirrored.nd rfl (by first | exact Or.inl rfl | exact Or.inr rfl)) (pgs_cons (pg_name (i := 6) sc_Band_mirrored.nd rfl (by first | exact Or.inl rfl | exact Or.inr rfl)) pgs_nil)))) (fun _ _ _ _ _ => (pts_one (pt_cmpR op_ge (pv 6) (pv 3) (nomark _)))) (fun _ _ _ _ _ => (pv 5))) pa_nil))))
  (pss_one (ps_ret (pe_mkd D_Band (hr.mono (by decide)) passE (by rfl) (pa_cons (pe_lc (own := [("first", 4)]) (g := gName 4) (tt := tYes) (by rfl) sc_Band_mirrored.nd (pi_listC (K := K) rfl (pe_revQ (K := K) rfl (pv 2) (po_some (pe_un un_neg pe_int)))) (blkOk_by (own := [("first", 4)]) (N := ["self", "last", "firsts", "k", "first", "i", "end"]) (sc := defScope s_Band_mirrored) (by decide +kernel)) (fun _ _ _ _ _ => pg_name (i := 4) sc_Band_mirrored.nd rfl (by first | exact Or.inl rfl | exact Or.inr rfl)) (fun _ _ _ _ _ => pts_nil) (fun _ _ _ _ _ => (pe_op op_sub (pv 1) (pv 4)))) pa_nil)))))), ?_⟩
    kspl_open go
    rw [show ((es.length : Int) - 1 + 1).toNat = es.length by omega]
    refine q_lcI m (rw_range (K := K) (M := M)).one (Same.refl M) Tr.int (fun k => firstOf es k) (Nat.lt_of_le_of_lt (m := 60) (by omega) (by decide)) (fun j v M1 H1 F F0 hj hv m1 m2 kF => ?_) (fun l M1 H1 g hl => ?_)
    · obtain rfl := Rp.inv_int hv
      rw [Int.zero_add]
      kspl_open go
      refine q_lcIF (by kspl_open cur) (RW1.tyE (by assumption)) (by kspl_open sm) (fun i => decide ((j : Int) ≤ es.getD i 0)) Tr.int (fun i => ((i : Nat) : Int)) (Nat.lt_of_le_of_lt (m := 60) (by omega) (by decide)) (fun i v M2 H2 F1 F2 hi hv m3 m4 kF1 kF2 => ?_) (fun l M2 H2 g2 hl => ?_)
      · kspl_open go
        refine q_gtup hv m4 rfl (fun vs hvs => ?_)
        cases hvs with
        | cons a r =>
          cases r with
          | cons b r =>
            cases r
            obtain rfl := Rp.inv_int a
            obtain rfl := Rp.inv_int b
            kspl_open go
            show ite _ _ _
            refine ite2 (fun q => ?_) (fun q => ?_)
            · kspl_open go
              exact kF1 _ _ _ q (Gx.refl m4) (.int _)
            · exact kF2 (Bool.eq_false_iff.mpr q) _ _ (Gx.refl m4)
      · kspl_open go
        refine q_minmax hl g2.h ?_ (fun n hn hle => ?_)
        · rw [List.length_map]
          exact List.length_pos_of_mem (a := j) (List.mem_filter.mpr ⟨List.mem_range.mpr hj, decide_eq_true (ok j hj).1⟩)
        · rw [firstOf_min hn hle]
          exact kF _ _ _ (by kspl_open gx) (.int _)
    · kspl_open go
      refine q_lcM (by kspl_open cur) (RW0.one (by assumption)) (by kspl_open sm) Tr.int (fun f => (es.length : Int) - 1 - f) (Nat.lt_of_le_of_lt (m := 60) (by rw [List.length_reverse, List.length_map, List.length_range]; omega) (by decide)) (fun i v M' H' F F0 hi hv m1 m2 kF => ?_) (fun lr M2 H2 g2 hr2 => ?_)
      · obtain rfl := Rp.inv_int hv
        kspl_open go
        exact kF _ _ _ (Gx.refl m2) (.int _)
      · rw [mirE_eq] at hr2
        kspl_open go
        refine q_mkBand hr2 g2.h ok.mir (by rw [mirE_len]; exact l60) (fun x M3 H3 hx g3 => ?_)
        exact ⟨rfl, k x M3 H3 hx (by kspl_open gx)⟩

theorem ok_Band_add (T : Txt K mg C_BadEnd C_BarbreaksError C_TooMany C_BadNumber C_Band C_Refused) : Me P w K mg base (L2.CX P w) 6 C_Band "__add__" ["self", "other"] (spAddB C_Band C_TooMany) := by
  have D_Band := ok_Band_initX (P := P) (w := w) (base := base) T
  have cB := T.c_Band
  have nB := T.n_Band_ends
  obtain ⟨f, fd, M0, F, b0⟩ := T.m_Band_add
  refine ⟨f, fd, M0, b0, F.okX sc_Band_add (fun vs H Q E h => ?_) (fun cdv A outer s H vs Q E hr h => ?_)⟩
  · obtain ⟨M, b, c, es, fs, rfl, _⟩ := h
    rfl
  · obtain ⟨M, b, c, es, fs, rfl, m, hb, hc, ok, ok2, l1, l2, k1, k2⟩ := h
    have rb := BandAt.rp (K := K) hb
    have rc := BandAt.rp (K := K) hc
    refine ⟨_, (pss_cons (ps_set (i := 2) sc_Band_add.nd rfl (Or.inr rfl) (pe_callB (call_lenC (K := K) rfl) (by rfl) T.b_len (by decide +kernel) (pa_cons (pe_fldC (K := K) rfl (pv 0) rfl) pa_nil)))
  (pss_one (ps_ret (pe_mkd D_Band (hr.mono (by decide)) (passes_call (takes_of rfl rfl rfl rfl) (fun _ _ _ _ z => z)) (by rfl) (pa_cons (pe_op op_catQ (pe_callTy (call_list_ofQ (K := K) rfl) (by rfl) T.b_list (by decide +kernel) (pa_cons (pe_fldC (K := K) rfl (pv 0) rfl) pa_nil)) (pe_lc (own := [("end", 3)]) (g := gName 3) (tt := tYes) (by rfl) sc_Band_add.nd (pi_tupC (K := K) rfl (pe_fldC (K := K) rfl (pv 1) rfl)) (blkOk_by (own := [("end", 3)]) (N := ["self", "other", "count", "end"]) (sc := defScope s_Band_add) (by decide +kernel)) (fun _ _ _ _ _ => pg_name (i := 3) sc_Band_add.nd rfl (Or.inl rfl)) (fun _ _ _ _ _ => pts_nil) (fun _ _ _ _ _ => (pe_op op_add (pv 2) (pv 3))))) pa_nil))))), ?_⟩
    kspl_open go
    refine q_lcM (by kspl_open cur) (RW0.one (by assumption)) (by kspl_open sm) Tr.int (fun e => (es.length : Int) + e) (Nat.lt_of_le_of_lt (m := 60) (by omega) (by decide)) (fun i v M' H' F F0 hi hv m1 m2 kF => ?_) (fun lr M' H' g hl => ?_)
    · obtain rfl := Rp.inv_int hv
      kspl_open go
      exact kF _ _ _ (Gx.refl m2) (.int _)
    · kspl_open go
      rename_i xs zs p M2 H2 g2 hr2
      rw [← List.map_append] at hr2
      have g3 : Gx [] M H M2 H2 := (by kspl_open gx)
      kspl_open go
      by_cases z : es.length + fs.length ≤ 60
      · refine q_mkBand (es := addE es fs) hr2 g2.h (ok.add ok2) (by rw [addE_len]; exact z) (fun x M3 H3 hx g4 => ?_)
        exact ⟨rfl, k1 z x M3 H3 hx (g3.trans g4)⟩
      · refine q_mkBandX (es := addE es fs) hr2 g2.h (by rw [addE_len]; omega) (by rw [addE_len]; omega) (fun H3 s3 => ?_)
        exact (k2 (by omega)).from (g3.same.trans s3)

theorem ok_l_is_int (T : Txt K mg C_BadEnd C_BarbreaksError C_TooMany C_BadNumber C_Band C_Refused) : Dk P w K mg base CX0 1 "_law_is_int" ["_law_x"] (spIsInt K) := by
  obtain ⟨f, fd, g, F, b⟩ := T.l_is_int
  refine ⟨f, fd, g, F.kp, b, F.ok sc_l_is_int (fun vs H Q E h => ?_) (fun cdv A outer s H vs Q E hr h => ?_)⟩
  · obtain ⟨x, t, b1, b2, rfl, _⟩ := h
    rfl
  · obtain ⟨x, t, b1, b2, rfl, ty, k1, k2, k⟩ := h
    refine ⟨_, (pss_one (ps_ret (pe_and (pe_callB call_isi (by rfl) T.b_isinstance (by decide +kernel) (pa_cons (pv 0) (pa_cons (pe_bltn (v := .ty "int") (by rfl) T.b_int (by decide +kernel) rfl) pa_nil))) (pe_one (pe_not (pe_callB call_isi (by rfl) T.b_isinstance (by decide +kernel) (pa_cons (pv 0) (pa_cons (pe_bltn (v := .ty "bool") (by rfl) T.b_bool (by decide +kernel) rfl) pa_nil)))))))), ?_⟩
    refine ⟨_, rfl, x, _, t, _, b1, rfl, .ty _, ty, k1, b1, rfl, ?_⟩
    cases b1 with
    | false => exact iteF k
    | true => exact iteT ⟨_, rfl, x, _, t, _, b2, rfl, .ty _, ty, k2, b2, rfl, k⟩

theorem ok_l_near (T : Txt K mg C_BadEnd C_BarbreaksError C_TooMany C_BadNumber C_Band C_Refused) : Dk P w K mg base CX0 1 "_law_near" ["_law_ends_here", "_law_i", "_law_k"] spNearL := by
  obtain ⟨f, fd, g, F, b⟩ := T.l_near
  refine ⟨f, fd, g, F.kp, b, F.ok sc_l_near (fun vs H Q E h => ?_) (fun cdv A outer s H vs Q E hr h => ?_)⟩
  · obtain ⟨r, es, i, k, rfl, _⟩ := h
    rfl
  · obtain ⟨r, es, i, k, rfl, hr0, hi, hk, q⟩ := h
    refine ⟨_, (pss_one (ps_ret (pe_cmpR op_le (pe_callB (call_max2 rfl) (by rfl) T.b_max (by decide +kernel) (pa_cons (pv 1) (pa_cons (pv 2) pa_nil))) (pe_ix ix_list (pv 0) (pe_callB (call_min2 rfl) (by rfl) T.b_min (by decide +kernel) (pa_cons (pv 1) (pa_cons (pv 2) pa_nil))) (fun _ _ => rfl)) (nomark _)))), ?_⟩
    exact ⟨_, rfl, _, rfl, _, _, rfl, _, rfl, _, rfl, _, rfl, _, _, rfl, r, _, _, _, rfl, rfl, SqL.of hr0, near_atV hi hk, _, _, rfl, rfl, q⟩

theorem ok_l_same (T : Txt K mg C_BadEnd C_BarbreaksError C_TooMany C_BadNumber C_Band C_Refused) : ∀ n : Nat, Dk P w K mg base CX0 (n + 2) "_law_same" ["_law_got", "_law_due"] (spSame K n) := by
  have D_l_is_int := ok_l_is_int (P := P) (w := w) (base := base) T
  intro n
  induction n with
  | zero =>
    obtain ⟨f, fd, g, F, b⟩ := T.l_same
    refine ⟨f, fd, g, F.kp, b, F.ok sc_l_same (fun vs H Q E h => ?_) (fun cdv A outer s H vs Q E hr h => ?_)⟩
    · obtain ⟨x, y, d, rfl, _⟩ := h
      rfl
    obtain ⟨x, y, d, rfl, hx, hy, hok, k⟩ := h
    refine ⟨_, (pss_cons (ps_if (pt_cmpR op_isN (pv 1) pe_non (nomark _))
  (pss_one (ps_ret (pe_cmpR op_isN (pv 0) pe_non (nomark _))))
  pss_nil)
  (pss_cons (ps_if (pt_val (pe_callB call_isi (by rfl) T.b_isinstance (by decide +kernel) (pa_cons (pv 1) (pa_cons (pe_bltn (v := .ty "bool") (by rfl) T.b_bool (by decide +kernel) rfl) pa_nil))))
  (pss_one (ps_ret (pe_and (pe_callB call_isi (by rfl) T.b_isinstance (by decide +kernel) (pa_cons (pv 0) (pa_cons (pe_bltn (v := .ty "bool") (by rfl) T.b_bool (by decide +kernel) rfl) pa_nil))) (pe_one (pe_cmpR op_eq (pv 0) (pv 1) (nomark _))))))
  pss_nil)
  (pss_cons (ps_if (pt_val (pe_callB call_isi (by rfl) T.b_isinstance (by decide +kernel) (pa_cons (pv 1) (pa_cons (pe_bltn (v := .ty "int") (by rfl) T.b_int (by decide +kernel) rfl) pa_nil))))
  (pss_one (ps_ret (pe_and (pe_d D_l_is_int (hr.mono (by omega)) pass0 (by rfl) (pa_cons (pv 0) pa_nil)) (pe_one (pe_cmpR op_eq (pv 0) (pv 1) (nomark _))))))
  pss_nil)
  (pss_cons (ps_if (pt_val (pe_callB call_isi (by rfl) T.b_isinstance (by decide +kernel) (pa_cons (pv 1) (pa_cons (pe_bltn (v := .ty "str") (by rfl) T.b_str (by decide +kernel) rfl) pa_nil))))
  (pss_one (ps_ret (pe_and (pe_callB call_isi (by rfl) T.b_isinstance (by decide +kernel) (pa_cons (pv 0) (pa_cons (pe_bltn (v := .ty "str") (by rfl) T.b_str (by decide +kernel) rfl) pa_nil))) (pe_one (pe_cmpR op_eq (pv 0) (pv 1) (nomark _))))))
  pss_nil)
  (pss_cons (ps_if (pt_val (pe_callB call_isi (by rfl) T.b_isinstance (by decide +kernel) (pa_cons (pv 1) (pa_cons (pe_bltn (v := .ty "dict") (by rfl) T.b_dict (by decide +kernel) rfl) pa_nil))))
  (pss_cons ps_never
  (pss_one ps_never))
  pss_nil)
  (pss_cons ps_never
  (pss_cons ps_never
  (pss_cons ps_never
  (pss_one (ps_ret pe_bl)))))))))), ?_⟩
    have kk : ∀ (p : Prop) [Decidable p], p → Q (.bl (decide p)) H := fun p _ h => by rw [decide_eq_true h]; exact k
    cases hx with
    | non =>
      cases hy
      exact ⟨_, rfl, rfl, true, bl_t rfl, iteT ⟨_, rfl, rfl, kk _ rfl⟩⟩
    | bl b =>
      cases hy
      refine ⟨_, rfl, rfl, false, bl_f (fun z => nomatch z), iteF ?_⟩
      exact ⟨_, rfl, _, _, _, _, true, rfl, .ty _, .base (.bl b), kit_ty (by decide +kernel), true, rfl, iteT ⟨_, rfl, _, _, _, _, true, rfl, .ty _, .base (.bl b), kit_ty (by decide +kernel), true, rfl, iteT ⟨_, rfl, _, rfl, rfl, kk _ rfl⟩⟩⟩
    | int i =>
      cases hy
      refine ⟨_, rfl, rfl, false, bl_f (fun z => nomatch z), iteF ?_⟩
      refine ⟨_, rfl, _, _, _, _, false, rfl, .ty _, .base (.int i), kit_ty (by decide +kernel), false, rfl, iteF ?_⟩
      refine ⟨_, rfl, _, _, _, _, true, rfl, .ty _, .base (.int i), kit_ty (by decide +kernel), true, rfl, iteT ?_⟩
      exact ⟨_, rfl, .int i, _, true, false, rfl, .base (.int i), kInt, kIntB, true, rfl, iteT ⟨_, rfl, _, rfl, rfl, kk _ rfl⟩⟩
    | str z =>
      cases hy
      refine ⟨_, rfl, rfl, false, bl_f (fun z => nomatch z), iteF ?_⟩
      refine ⟨_, rfl, _, _, _, _, false, rfl, .ty _, .base (.str z), kit_ty (by decide +kernel), false, rfl, iteF ?_⟩
      refine ⟨_, rfl, _, _, _, _, false, rfl, .ty _, .base (.str z), kit_ty (by decide +kernel), false, rfl, iteF ?_⟩
      exact ⟨_, rfl, _, _, _, _, true, rfl, .ty _, .base (.str z), kit_ty (by decide +kernel), true, rfl, iteT ⟨_, rfl, _, _, _, _, true, rfl, .ty _, .base (.str z), kit_ty (by decide +kernel), true, rfl, iteT ⟨_, rfl, _, rfl, rfl, kk _ rfl⟩⟩⟩
    | lst _ _ => simp [okD] at hok
    | tup _ _ => simp [okD] at hok
  | succ n ih =>
    have D_l_same := ih
    obtain ⟨f, fd, g, F, b⟩ := T.l_same
    refine ⟨f, fd, g, F.kp, b, F.ok sc_l_same (fun vs H Q E h => ?_) (fun cdv A outer s H vs Q E hr h => ?_)⟩
    · obtain ⟨x, y, d, rfl, _⟩ := h
      rfl
    obtain ⟨x, y, d, rfl, hx, hy, hok, k⟩ := h
    refine ⟨_, (pss_cons (ps_if (pt_cmpR op_isN (pv 1) pe_non (nomark _))
  (pss_one (ps_ret (pe_cmpR op_isN (pv 0) pe_non (nomark _))))
  pss_nil)
  (pss_cons (ps_if (pt_val (pe_callB call_isi (by rfl) T.b_isinstance (by decide +kernel) (pa_cons (pv 1) (pa_cons (pe_bltn (v := .ty "bool") (by rfl) T.b_bool (by decide +kernel) rfl) pa_nil))))
  (pss_one (ps_ret (pe_and (pe_callB call_isi (by rfl) T.b_isinstance (by decide +kernel) (pa_cons (pv 0) (pa_cons (pe_bltn (v := .ty "bool") (by rfl) T.b_bool (by decide +kernel) rfl) pa_nil))) (pe_one (pe_cmpR op_eq (pv 0) (pv 1) (nomark _))))))
  pss_nil)
  (pss_cons (ps_if (pt_val (pe_callB call_isi (by rfl) T.b_isinstance (by decide +kernel) (pa_cons (pv 1) (pa_cons (pe_bltn (v := .ty "int") (by rfl) T.b_int (by decide +kernel) rfl) pa_nil))))
  (pss_one (ps_ret (pe_and (pe_d D_l_is_int (hr.mono (by omega)) pass0 (by rfl) (pa_cons (pv 0) pa_nil)) (pe_one (pe_cmpR op_eq (pv 0) (pv 1) (nomark _))))))
  pss_nil)
  (pss_cons (ps_if (pt_val (pe_callB call_isi (by rfl) T.b_isinstance (by decide +kernel) (pa_cons (pv 1) (pa_cons (pe_bltn (v := .ty "str") (by rfl) T.b_str (by decide +kernel) rfl) pa_nil))))
  (pss_one (ps_ret (pe_and (pe_callB call_isi (by rfl) T.b_isinstance (by decide +kernel) (pa_cons (pv 0) (pa_cons (pe_bltn (v := .ty "str") (by rfl) T.b_str (by decide +kernel) rfl) pa_nil))) (pe_one (pe_cmpR op_eq (pv 0) (pv 1) (nomark _))))))
  pss_nil)
  (pss_cons (ps_if (pt_val (pe_callB call_isi (by rfl) T.b_isinstance (by decide +kernel) (pa_cons (pv 1) (pa_cons (pe_bltn (v := .ty "dict") (by rfl) T.b_dict (by decide +kernel) rfl) pa_nil))))
  (pss_cons ps_never
  (pss_one ps_never))
  pss_nil)
  (pss_cons (ps_if (PW.pt (pw_or (pt_cmpR op_ne (pe_callB call_isi (by rfl) T.b_isinstance (by decide +kernel) (pa_cons (pv 1) (pa_cons (pe_bltn (v := .ty "list") (by rfl) T.b_list (by decide +kernel) rfl) pa_nil))) (pe_callB call_isi (by rfl) T.b_isinstance (by decide +kernel) (pa_cons (pv 0) (pa_cons (pe_bltn (v := .ty "list") (by rfl) T.b_list (by decide +kernel) rfl) pa_nil))) (nomark _)) (pw_or1 (pt_cmpR op_ne (pe_callB call_isi (by rfl) T.b_isinstance (by decide +kernel) (pa_cons (pv 1) (pa_cons (pe_bltn (v := .ty "tuple") (by rfl) T.b_tuple (by decide +kernel) rfl) pa_nil))) (pe_callB call_isi (by rfl) T.b_isinstance (by decide +kernel) (pa_cons (pv 0) (pa_cons (pe_bltn (v := .ty "tuple") (by rfl) T.b_tuple (by decide +kernel) rfl) pa_nil))) (nomark _)))))
  (pss_one (ps_ret pe_bl))
  pss_nil)
  (pss_cons (ps_if (pt_cmpR op_ne (pe_callB call_len_seq (by rfl) T.b_len (by decide +kernel) (pa_cons (pv 0) pa_nil)) (pe_callB call_len_seq (by rfl) T.b_len (by decide +kernel) (pa_cons (pv 1) pa_nil)) (nomark _))
  (pss_one (ps_ret pe_bl))
  pss_nil)
  (pss_cons (ps_for PassesOwn.never rfl (pi_range1 rfl T.b_range (pa_cons (pe_callB call_len_seq (by rfl) T.b_len (by decide +kernel) (pa_cons (pv 1) pa_nil)) pa_nil)) (pg_name (i := 2) sc_l_same.nd rfl (Or.inl rfl))
  (pss_one (ps_if (pt_not (pt_val (pe_d D_l_same (hr.mono (by omega)) pass0 (by rfl) (pa_cons (pe_ix ix_seq (pv 0) (pv 2) (fun _ _ => rfl)) (pa_cons (pe_ix ix_seq (pv 1) (pv 2) (fun _ _ => rfl)) pa_nil)))))
  (pss_one (ps_ret pe_bl))
  pss_nil)))
  (pss_one (ps_ret pe_bl)))))))))), ?_⟩
    have kk : ∀ (p : Prop) [Decidable p], p → Q (.bl (decide p)) H := fun p _ h => by rw [decide_eq_true h]; exact k
    cases hx with
    | non =>
      cases hy
      exact ⟨_, rfl, rfl, true, bl_t rfl, iteT ⟨_, rfl, rfl, kk _ rfl⟩⟩
    | bl b =>
      cases hy
      refine ⟨_, rfl, rfl, false, bl_f (fun z => nomatch z), iteF ?_⟩
      exact ⟨_, rfl, _, _, _, _, true, rfl, .ty _, .base (.bl b), kit_ty (by decide +kernel), true, rfl, iteT ⟨_, rfl, _, _, _, _, true, rfl, .ty _, .base (.bl b), kit_ty (by decide +kernel), true, rfl, iteT ⟨_, rfl, _, rfl, rfl, kk _ rfl⟩⟩⟩
    | int i =>
      cases hy
      refine ⟨_, rfl, rfl, false, bl_f (fun z => nomatch z), iteF ?_⟩
      refine ⟨_, rfl, _, _, _, _, false, rfl, .ty _, .base (.int i), kit_ty (by decide +kernel), false, rfl, iteF ?_⟩
      refine ⟨_, rfl, _, _, _, _, true, rfl, .ty _, .base (.int i), kit_ty (by decide +kernel), true, rfl, iteT ?_⟩
      exact ⟨_, rfl, .int i, _, true, false, rfl, .base (.int i), kInt, kIntB, true, rfl, iteT ⟨_, rfl, _, rfl, rfl, kk _ rfl⟩⟩
    | str z =>
      cases hy
      refine ⟨_, rfl, rfl, false, bl_f (fun z => nomatch z), iteF ?_⟩
      refine ⟨_, rfl, _, _, _, _, false, rfl, .ty _, .base (.str z), kit_ty (by decide +kernel), false, rfl, iteF ?_⟩
      refine ⟨_, rfl, _, _, _, _, false, rfl, .ty _, .base (.str z), kit_ty (by decide +kernel), false, rfl, iteF ?_⟩
      exact ⟨_, rfl, _, _, _, _, true, rfl, .ty _, .base (.str z), kit_ty (by decide +kernel), true, rfl, iteT ⟨_, rfl, _, _, _, _, true, rfl, .ty _, .base (.str z), kit_ty (by decide +kernel), true, rfl, iteT ⟨_, rfl, _, rfl, rfl, kk _ rfl⟩⟩⟩
    | lst hsx hax =>
      rename_i a xs ds
      cases hy with
      | lst hsy hay =>
      rename_i b ys
      obtain ⟨m, em, hlen, hds⟩ := okD_list hok
      cases em
      have lx := DpAll.len hax
      have ly := DpAll.len hay
      refine ⟨_, rfl, rfl, false, bl_f (fun z => nomatch z), iteF ?_⟩
      refine ⟨_, rfl, _, _, _, _, false, rfl, .ty _, (tyx_sqL hsy), kit_ty (by decide +kernel), false, rfl, iteF ?_⟩
      refine ⟨_, rfl, _, _, _, _, false, rfl, .ty _, (tyx_sqL hsy), kit_ty (by decide +kernel), false, rfl, iteF ?_⟩
      refine ⟨_, rfl, _, _, _, _, false, rfl, .ty _, (tyx_sqL hsy), kit_ty (by decide +kernel), false, rfl, iteF ?_⟩
      refine ⟨_, rfl, _, _, _, _, false, rfl, .ty _, (tyx_sqL hsy), kit_ty (by decide +kernel), false, rfl, iteF ?_⟩
      refine ⟨_, rfl, _, _, _, _, true, rfl, .ty _, (tyx_sqL hsy), kit_ty (by decide +kernel), _, rfl, _, _, _, _, true, rfl, .ty _, (tyx_sqL hsx), kit_ty (by decide +kernel), rfl, false, ble_f rfl, iteF ?_⟩
      refine ⟨_, rfl, _, _, _, _, false, rfl, .ty _, (tyx_sqL hsy), kit_ty (by decide +kernel), _, rfl, _, _, _, _, false, rfl, .ty _, (tyx_sqL hsx), kit_ty (by decide +kernel), rfl, false, ble_f rfl, iteF ?_⟩
      refine ⟨_, rfl, a, _, rfl, .inl hsx, _, rfl, b, _, rfl, .inl hsy, rfl, false, ble_f (by rw [lx, ly]), iteF ?_⟩
      refine ⟨_, rfl, b, _, rfl, .inl hsy, _, rfl, by omega, by rw [ly]; omega, for_range (n := ((ys.length : Nat) : Int).toNat) (fun i σ H' => ∃ (x2 : Option V), σ = [some (.ref a), some (.ref b), x2, none] ∧ H' = H) ⟨_, rfl, rfl⟩ ?_ ?_⟩
      · rintro i σ H1 hi ⟨x2, rfl, rfl⟩
        rw [Int.zero_add]
        rw [Int.toNat_natCast, ly] at hi
        obtain ⟨v, d1, e1, e2, dv⟩ := DpAll.at_ hax hi
        obtain ⟨u, d2, e3, e4, du⟩ := DpAll.at_ hay hi
        have ed : d1 = d2 := by rw [e2] at e4; exact Option.some.inj e4
        subst ed
        refine ⟨_, rfl, _, rfl, .inl ⟨a, _, _, v, rfl, rfl, hsx, atI_nat e1, _, rfl, _, rfl, .inl ⟨b, _, _, u, rfl, rfl, hsy, atI_nat e3, _, _, d1, rfl, dv, du, hds d1 (List.mem_of_getElem? e2), true, rfl, iteF ⟨_, rfl, rfl⟩⟩⟩⟩
      · rintro σ H1 ⟨x2, rfl, rfl⟩
        exact k
    | tup hsx hax =>
      rename_i a xs ds
      cases hy with
      | tup hsy hay =>
      rename_i b ys
      obtain ⟨m, em, hlen, hds⟩ := okD_tuple hok
      cases em
      have lx := DpAll.len hax
      have ly := DpAll.len hay
      refine ⟨_, rfl, rfl, false, bl_f (fun z => nomatch z), iteF ?_⟩
      refine ⟨_, rfl, _, _, _, _, false, rfl, .ty _, (tyx_sqT hsy), kit_ty (by decide +kernel), false, rfl, iteF ?_⟩
      refine ⟨_, rfl, _, _, _, _, false, rfl, .ty _, (tyx_sqT hsy), kit_ty (by decide +kernel), false, rfl, iteF ?_⟩
      refine ⟨_, rfl, _, _, _, _, false, rfl, .ty _, (tyx_sqT hsy), kit_ty (by decide +kernel), false, rfl, iteF ?_⟩
      refine ⟨_, rfl, _, _, _, _, false, rfl, .ty _, (tyx_sqT hsy), kit_ty (by decide +kernel), false, rfl, iteF ?_⟩
      refine ⟨_, rfl, _, _, _, _, false, rfl, .ty _, (tyx_sqT hsy), kit_ty (by decide +kernel), _, rfl, _, _, _, _, false, rfl, .ty _, (tyx_sqT hsx), kit_ty (by decide +kernel), rfl, false, ble_f rfl, iteF ?_⟩
      refine ⟨_, rfl, _, _, _, _, true, rfl, .ty _, (tyx_sqT hsy), kit_ty (by decide +kernel), _, rfl, _, _, _, _, true, rfl, .ty _, (tyx_sqT hsx), kit_ty (by decide +kernel), rfl, false, ble_f rfl, iteF ?_⟩
      refine ⟨_, rfl, a, _, rfl, .inr hsx, _, rfl, b, _, rfl, .inr hsy, rfl, false, ble_f (by rw [lx, ly]), iteF ?_⟩
      refine ⟨_, rfl, b, _, rfl, .inr hsy, _, rfl, by omega, by rw [ly]; omega, for_range (n := ((ys.length : Nat) : Int).toNat) (fun i σ H' => ∃ (x2 : Option V), σ = [some (.ref a), some (.ref b), x2, none] ∧ H' = H) ⟨_, rfl, rfl⟩ ?_ ?_⟩
      · rintro i σ H1 hi ⟨x2, rfl, rfl⟩
        rw [Int.zero_add]
        rw [Int.toNat_natCast, ly] at hi
        obtain ⟨v, d1, e1, e2, dv⟩ := DpAll.at_ hax hi
        obtain ⟨u, d2, e3, e4, du⟩ := DpAll.at_ hay hi
        have ed : d1 = d2 := by rw [e2] at e4; exact Option.some.inj e4
        subst ed
        refine ⟨_, rfl, _, rfl, .inr (.inl ⟨a, _, _, v, rfl, rfl, hsx, atI_nat e1, _, rfl, _, rfl, .inr (.inl ⟨b, _, _, u, rfl, rfl, hsy, atI_nat e3, _, _, d1, rfl, dv, du, hds d1 (List.mem_of_getElem? e2), true, rfl, iteF ⟨_, rfl, rfl⟩⟩)⟩)⟩
      · rintro σ H1 ⟨x2, rfl, rfl⟩
        exact k

theorem ok_l_close (T : Txt K mg C_BadEnd C_BarbreaksError C_TooMany C_BadNumber C_Band C_Refused) : Dk P w K mg base CX0 2 "_law_close" ["_law_lists", "_law_one", "_law_two"] (spClose K) := by
  have D_l_near := ok_l_near (P := P) (w := w) (base := base) T
  obtain ⟨f, fd, g, F, b⟩ := T.l_close
  refine ⟨f, fd, g, F.kp, b, F.ok sc_l_close (fun vs H Q E h => ?_) (fun cdv A outer s H vs Q E hr h => ?_)⟩
  · obtain ⟨M, x, y, z, ess, a, b, rfl, _⟩ := h
    rfl
  · obtain ⟨M, x, y, z, ess, a, b, rfl, m, hx, hy, hz, ha, hb, k⟩ := h
    refine ⟨_, (pss_one (ps_ret (pe_and (pe_cmpR op_eq (pe_ix (ix_tupC (K := K) rfl) (pv 1) pe_int (fun _ _ => rfl)) (pe_ix (ix_tupC (K := K) rfl) (pv 2) pe_int (fun _ _ => rfl)) (nomark _)) (pe_one (pe_d D_l_near (hr.mono (by decide)) pass0 (by rfl) (pa_cons (pe_ix (ix_listC (K := K) rfl) (pv 0) (pe_ix (ix_tupC (K := K) rfl) (pv 1) pe_int (fun _ _ => rfl)) (fun _ _ => rfl)) (pa_cons (pe_ix (ix_tupC (K := K) rfl) (pv 1) pe_int (fun _ _ => rfl)) (pa_cons (pe_ix (ix_tupC (K := K) rfl) (pv 2) pe_int (fun _ _ => rfl)) pa_nil)))))))), ?_⟩
    have e1 := atE ha.1 ha.2.1
    kspl_open go
    refine ite2 (fun q => ?_) (fun q => ?_)
    · have q' : a.1 = b.1 := V.int.inj (of_decide_eq_true q)
      kspl_open go
      rename_i v hv
      obtain ⟨r, rfl, hr⟩ := Rp.ints hv
      refine ⟨r, ess.getD a.1.toNat [], a.2, b.2, rfl, m _ _ hr, ha.2.2, ?_, ?_⟩
      · rw [q']
        exact hb.2.2
      · unfold closeB at k
        rw [decide_eq_true q'] at k
        exact k
    · have q' : ¬ a.1 = b.1 := fun z => q (decide_eq_true (congrArg V.int z))
      unfold closeB at k
      rw [decide_eq_false q'] at k
      exact k

theorem ok_l_ends_of (T : Txt K mg C_BadEnd C_BarbreaksError C_TooMany C_BadNumber C_Band C_Refused) : Dk P w K mg base CX0 3 "_law_ends_of" ["_law_lists", "_law_things"] (spEndsOf K) := by
  have D_l_close := ok_l_close (P := P) (w := w) (base := base) T
  obtain ⟨f, fd, g, F, b⟩ := T.l_ends_of
  refine ⟨f, fd, g, F.kp, b, F.ok sc_l_ends_of (fun vs H Q E h => ?_) (fun cdv A outer s H vs Q E hr h => ?_)⟩
  · obtain ⟨M, x, y, ess, ths, rfl, _⟩ := h
    rfl
  · obtain ⟨M, x, y, ess, ths, rfl, m, hx, hy, h100, ht, k⟩ := h
    refine ⟨_, (pss_cons (ps_set (i := 2) sc_l_ends_of.nd rfl (Or.inl rfl) (pe_lstQ pa_nil))
  (pss_cons (ps_for PassesOwn.never rfl (pi_range1 rfl T.b_range (pa_cons (pe_callB (call_lenC (K := K) rfl) (by rfl) T.b_len (by decide +kernel) (pa_cons (pv 1) pa_nil)) pa_nil)) (pg_name (i := 3) sc_l_ends_of.nd rfl (Or.inl rfl))
  (pss_cons (ps_set (i := 4) sc_l_ends_of.nd rfl (Or.inl rfl) (pv 3))
  (pss_cons (ps_for PassesOwn.never rfl (pi_range2 rfl T.b_range (pa_cons (pv 3) (pa_cons (pe_callB (call_lenC (K := K) rfl) (by rfl) T.b_len (by decide +kernel) (pa_cons (pv 1) pa_nil)) pa_nil))) (pg_name (i := 5) sc_l_ends_of.nd rfl (Or.inl rfl))
  (pss_one (ps_if (pt_val (pe_d D_l_close (hr.mono (by decide)) pass0 (by rfl) (pa_cons (pv 0) (pa_cons (pe_ix (ix_listC (K := K) rfl) (pv 1) (pv 3) (fun _ _ => rfl)) (pa_cons (pe_ix (ix_listC (K := K) rfl) (pv 1) (pv 5) (fun _ _ => rfl)) pa_nil)))))
  (pss_one (ps_set (i := 4) sc_l_ends_of.nd rfl (Or.inl rfl) (pv 5)))
  pss_nil)))
  (pss_one (ps_expr (pe_bm PySem.F.plainAttrs_list PySem.F.slot_list_append PySem.F.type_list_append mt_append (pv 2) (pa_cons (pv 4) pa_nil)))))))
  (pss_one (ps_ret (pe_callTy (call_tuple_ofQ (K := K) rfl) (by rfl) T.b_tuple (by decide +kernel) (pa_cons (pv 2) pa_nil)))))), ?_⟩
    kspl_open go
    refine q_lstO m (by kspl_open sz) (fun l H1 g1 hl nM nH => ?_)
    kspl_open go
    kspl_open rg
    refine q_forR [l] (fun i σ M' H' => ∃ x3 x4 x5, σ = [some x, some y, some (.ref l), x3, x4, x5] ∧ M' l = none ∧ H' l = some (.lst (iV ((List.range i).map fun i => lastC ess ths i (ths.length - i))))) g1.h ⟨_, _, _, rfl, nM, hl⟩ ?_ ?_
    · rintro i σ M2 H2 N hi g2 ⟨x3, x4, x5, rfl, nM2, hl2⟩ kN
      rw [Int.zero_add]
      have e1 := atP hi
      kspl_open go
      rw [show ((ths.length : Int) - i).toNat = ths.length - i by omega]
      refine q_forR [] (fun k σ M' H' => ∃ x5, σ = [some x, some y, some (.ref l), some (.int i), some (.int (lastC ess ths i k)), x5] ∧ M' = M2 ∧ H' = H2) g2.h ⟨_, rfl, rfl, rfl⟩ ?_ ?_
      · rintro j σ M3 H3 N2 hj g3 ⟨x5, rfl, rfl, rfl⟩ kN2
        have e2 := atP (ths := ths) (i := i + j) (by omega)
        rw [show ((i + j : Nat) : Int) = (i : Int) + (j : Int) by omega] at e2
        kspl_open go
        refine ⟨M3, _, _, _, ess, _, _, rfl, (by kspl_open sm), (by kspl_open rpa), (by kspl_open rpa), (by kspl_open rpa), ht _ (getD_mem hi), ht _ (getD_mem (by omega)), ?_⟩
        kspl_open go
        refine ite2 (fun q => ?_) (fun q => ?_)
        · kspl_open go
          exact kN2 _ _ _ g3 ⟨_, by rw [lastC, if_pos q]; rfl, rfl, rfl⟩
        · exact kN2 _ _ _ g3 ⟨_, by rw [lastC, if_neg q]; rfl, rfl, rfl⟩
      · rintro σ M3 H3 g3 ⟨x5, rfl, rfl, rfl⟩
        kspl_open go
        refine ⟨tyV_own hl2, ?_⟩
        kspl_open go
        refine q_app (by kspl_open sm) hl2 nM2 (by rw [List.length_map, List.length_map, List.length_range]; exact Nat.lt_of_lt_of_le (by omega : i < 2000) (by decide)) (fun g4 hl4 => ?_)
        refine kN _ _ _ (g2.trans g4.g) ⟨_, _, _, rfl, nM2, ?_⟩
        rw [hl4, List.range_succ, List.map_append, ← iV_app]
        rfl
    · rintro σ M2 H2 g2 ⟨x3, x4, x5, rfl, nM2, hl2⟩
      kspl_open go
      refine q_tupO hl2 (by kspl_open cur) rpInts (fun p M3 H3 g3 hr => ?_)
      exact k _ _ _ (((g1.g.nil.trans g2).drop nH).trans g3) hr

theorem ok_l_shown (T : Txt K mg C_BadEnd C_BarbreaksError C_TooMany C_BadNumber C_Band C_Refused) : Dk P w K mg base CX0 5 "_law_shown" ["_law_band", "_law_lists", "_law_things"] (spShownP K C_Band) := by
  have D_l_close := ok_l_close (P := P) (w := w) (base := base) T
  have D_l_ends_of := ok_l_ends_of (P := P) (w := w) (base := base) T
  have D_l_same := ok_l_same (P := P) (w := w) (base := base) T 1
  have M_Band_near := ok_Band_near (P := P) (w := w) (base := base) T
  have M_Band_len := ok_Band_len (P := P) (w := w) (base := base) T
  have h_o_Band := T.o_Band
  have h_c_Band := T.c_Band
  have h_n_Band_ends := T.n_Band_ends
  have h_ko_Band_Band := T.ko_Band_Band
  obtain ⟨f, fd, g0, F, b0⟩ := T.l_shown
  refine ⟨f, fd, g0, F.kp, b0, F.ok sc_l_shown (fun vs H Q E h => ?_) (fun cdv A outer s H vs Q E hr h => ?_)⟩
  · obtain ⟨M, b, x, y, ess, ths, es, rfl, _⟩ := h
    rfl
  · obtain ⟨M, b, x, y, ess, ths, es, rfl, m, hb, hx, hy, sh, l100, k⟩ := h
    refine ⟨_, (pss_cons (ps_if (PW.pt (pw_or (pt_not (pt_val (pe_callB (call_isiC (K := K) rfl) (by rfl) T.b_isinstance (by decide +kernel) (pa_cons (pv 0) (pa_cons (C8.pe_gc (v := .ref C_Band) (by rfl) ⟨_, T.g_Band, rfl⟩) pa_nil))))) (pw_or1 (pt_cmpR op_ne (pe_callB (call_lenM M_Band_len (hr.mono (by decide)) pass0) (by rfl) T.b_len (by decide +kernel) (pa_cons (pv 0) pa_nil)) (pe_callB (call_lenC (K := K) rfl) (by rfl) T.b_len (by decide +kernel) (pa_cons (pv 2) pa_nil)) (nomark _)))))
  (pss_one (ps_ret pe_bl))
  pss_nil)
  (pss_cons (ps_if (pt_not (pt_val (pe_d D_l_same (hr.mono (by decide)) pass0 (by rfl) (pa_cons (pe_fldC (K := K) rfl (pv 0) rfl) (pa_cons (pe_d D_l_ends_of (hr.mono (by decide)) pass0 (by rfl) (pa_cons (pv 1) (pa_cons (pv 2) pa_nil))) pa_nil)))))
  (pss_one (ps_ret pe_bl))
  pss_nil)
  (pss_cons (ps_set (i := 3) sc_l_shown.nd rfl (Or.inl rfl) (pe_listRgQ rfl (by rfl) T.b_list (by rfl) T.b_range (pe_callB (call_lenC (K := K) rfl) (by rfl) T.b_len (by decide +kernel) (pa_cons (pv 2) pa_nil))))
  (C8.pss_cut (ps_if (pt_cmpR op_gt (pe_callB (call_lenC (K := K) rfl) (by rfl) T.b_len (by decide +kernel) (pa_cons (pv 2) pa_nil)) pe_int (nomark _))
  (pss_one (ps_set (i := 3) sc_l_shown.nd rfl (Or.inl rfl) (pe_lstQ (pa_cons pe_int (pa_cons (pe_op op_fdivW (pe_callB (call_lenC (K := K) rfl) (by rfl) T.b_len (by decide +kernel) (pa_cons (pv 2) pa_nil)) pe_int) (pa_cons (pe_op op_sub (pe_callB (call_lenC (K := K) rfl) (by rfl) T.b_len (by decide +kernel) (pa_cons (pv 2) pa_nil)) pe_int) pa_nil))))))
  pss_nil)
  (pss_cons (ps_for PassesOwn.never rfl (pi_listC (K := K) rfl (pv 3)) (pg_name (i := 4) sc_l_shown.nd rfl (Or.inl rfl))
  (pss_one (ps_for PassesOwn.never rfl (pi_range1 rfl T.b_range (pa_cons (pe_callB (call_lenC (K := K) rfl) (by rfl) T.b_len (by decide +kernel) (pa_cons (pv 2) pa_nil)) pa_nil)) (pg_name (i := 5) sc_l_shown.nd rfl (Or.inl rfl))
  (pss_cons (ps_set (i := 6) sc_l_shown.nd rfl (Or.inl rfl) (pe_d D_l_close (hr.mono (by decide)) pass0 (by rfl) (pa_cons (pv 1) (pa_cons (pe_ix (ix_listC (K := K) rfl) (pv 2) (pv 4) (fun _ _ => rfl)) (pa_cons (pe_ix (ix_listC (K := K) rfl) (pv 2) (pv 5) (fun _ _ => rfl)) pa_nil)))))
  (pss_one (ps_if (PW.pt (pw_or (pt_not (pt_val (pe_d D_l_same (hr.mono (by decide)) pass0 (by rfl) (pa_cons (pe_me M_Band_near T.c_Band (hr.mono (by decide)) passE (pv 0) (pa_cons (pv 4) (pa_cons (pv 5) pa_nil))) (pa_cons (pv 6) pa_nil))))) (pw_or1 (pt_not (pt_val (pe_d D_l_same (hr.mono (by decide)) pass0 (by rfl) (pa_cons (pe_me M_Band_near T.c_Band (hr.mono (by decide)) passE (pv 0) (pa_cons (pv 5) (pa_cons (pv 4) pa_nil))) (pa_cons (pv 6) pa_nil))))))))
  (pss_one (ps_ret pe_bl))
  pss_nil))))))
  (pss_one (ps_ret pe_bl))))))), ?_⟩
    have rb := BandAt.rp (K := K) hb
    have hes := sh.ends
    have len := sh.len
    kspl_open go
    simp only [len, decide_true, Bool.not_true]
    kspl_open go
    refine ⟨M, _, _, ess, ths, rfl, (by kspl_open sm), (by kspl_open rpa), (by kspl_open rpa), l100, sh.th, fun r M1 H1 g1 hr => ?_⟩
    rw [hes] at hr
    have olen := len
    kspl_open go
    refine ⟨fun σ H' => ∃ (l : V) (cs : List Int) (M' : Hp), σ = [some (.ref b), some x, some y, some l, none, none, none] ∧ Gx [] M1 H1 M' H' ∧ Rp K M' l (.lst (iT cs)) ∧ ∀ c ∈ cs, 0 ≤ c ∧ c < (ths.length : Int), ?_, ?_⟩
    · kspl_open go
      refine ite2 (fun q => ?_) (fun q => ?_)
      · have q' : (5 : Int) < ths.length := of_decide_eq_true q
        kspl_open go
        refine ⟨_, [0, (ths.length : Int) / 2, (ths.length : Int) - 1], _, rfl, (by kspl_open gx), (by kspl_open rpa), fun c hc => ?_⟩
        simp only [List.mem_cons, List.not_mem_nil, or_false] at hc
        rcases hc with rfl | rfl | rfl <;> omega
      · refine ⟨_, _, _, rfl, (by kspl_open gx), (by kspl_open rpa), fun c hc => ?_⟩
        obtain ⟨i, hi, rfl⟩ := List.mem_map.mp hc
        have := List.mem_range.mp hi
        omega
    · rintro σ H2 ⟨l, cs, M2, rfl, g2, hl, hcs⟩
      kspl_open go
      refine q_forM (by kspl_open cur) (by assumption) (by kspl_open sm) [] (fun i σ M' H' => ∃ x4 x5 x6, σ = [some (.ref b), some x, some y, some l, x4, x5, x6]) ⟨_, _, _, rfl⟩ ?_ ?_
      · rintro i σ v M3 H3 N hi g3 hv ⟨x4, x5, x6, rfl⟩ kN
        obtain rfl := Rp.inv_int hv
        obtain ⟨c0, c1⟩ := hcs _ (getD_mem (d := default) hi)
        generalize cs.getD i default = c at c0 c1 hv
        obtain ⟨ci, rfl⟩ := Int.eq_ofNat_of_zero_le c0
        have hci : ci < ths.length := by omega
        kspl_open go
        kspl_open rg
        refine q_forR [] (fun k σ M' H' => ∃ x5 x6, σ = [some (.ref b), some x, some y, some l, some (.int ci), x5, x6]) g3.h ⟨_, _, rfl⟩ ?_ ?_
        · rintro k σ M4 H4 N2 hk g4 ⟨x5, x6, rfl⟩ kN2
          rw [Int.zero_add]
          have e1 := atP hci
          have e2 := atP hk
          kspl_open go
          refine ⟨M4, _, _, _, ess, _, _, rfl, (by kspl_open sm), (by kspl_open rpa), (by kspl_open rpa), (by kspl_open rpa), sh.th _ (getD_mem hci), sh.th _ (getD_mem hk), ?_⟩
          have n1 := sh.nearE hci hk
          have n2 := sh.nearE hk hci
          have i1 : inN es (ci : Int) := ⟨by omega, by omega⟩
          have i2 : inN es (k : Int) := ⟨by omega, by omega⟩
          rw [close_comm] at n2
          rw [← n1] at n2 ⊢
          kspl_open go
          rw [n2]
          kspl_open go
          exact kN2 _ _ _ g4 ⟨_, _, rfl⟩
        · rintro σ M4 H4 g4 ⟨x5, x6, rfl⟩
          exact kN _ _ _ (g3.trans g4) ⟨_, _, _, rfl⟩
      · rintro σ M3 H3 g3 ⟨x4, x5, x6, rfl⟩
        kspl_open go
        exact k _ _ ((g1.trans g2).trans g3)

theorem ok_l_part_kept (T : Txt K mg C_BadEnd C_BarbreaksError C_TooMany C_BadNumber C_Band C_Refused) : Dk P w K mg base CX0 7 "_law_part_kept" ["_law_band", "_law_lists", "_law_things", "_law_low", "_law_high"] (spPartK K C_Band) := by
  have D_l_shown := ok_l_shown (P := P) (w := w) (base := base) T
  have D_l_same := ok_l_same (P := P) (w := w) (base := base) T 1
  have M_Band_part := ok_Band_part (P := P) (w := w) (base := base) T
  have h_ec_BadNumber := T.ec_BadNumber
  have h_xm_BadNumber_BadNumber := T.xm_BadNumber_BadNumber
  have h_xn_BadNumber_number := T.xn_BadNumber_number
  have h_ko_BadNumber_BarbreaksError := T.ko_BadNumber_BarbreaksError
  have h_ko_BadNumber_ValueError := T.ko_BadNumber_ValueError
  have h_ko_BadNumber_Refused := T.ko_BadNumber_Refused
  have h_ko_BadNumber_TooMany := T.ko_BadNumber_TooMany
  have h_ko_BadNumber_BadEnd := T.ko_BadNumber_BadEnd
  have h_c_Band := T.c_Band
  have h_n_Band_ends := T.n_Band_ends
  obtain ⟨f, fd, g0, F, b0⟩ := T.l_part_kept
  refine ⟨f, fd, g0, F.kp, b0, F.ok sc_l_part_kept (fun vs H Q E h => ?_) (fun cdv A outer s H vs Q E hr h => ?_)⟩
  · obtain ⟨M, b, x, y, lo, hi, ess, ths, es, rfl, _⟩ := h
    rfl
  · obtain ⟨M, b, x, y, lo, hi, ess, ths, es, rfl, m, hb, hx, hy, sh, l60, k⟩ := h
    refine ⟨_, (pss_cons (ps_set (i := 5) sc_l_part_kept.nd rfl (Or.inl rfl) (pe_lstQ pa_nil))
  (pss_cons (ps_set (i := 6) sc_l_part_kept.nd rfl (Or.inl rfl) pe_non)
  (C8.pss_cut (ps_try_holds rfl rfl sc_l_part_kept.nd rfl (fun W pn xe tk _ => (pss_one (ps_set (i := 6) sc_l_part_kept.nd rfl (Or.inl rfl) (pe_meS M_Band_part T.c_Band (hr.mono (by decide)) (fun σ => passAt tk σ) (pv 0) (pa_cons (pv 3) (pa_cons (pv 4) pa_nil))))))
  (HdsH.cons (i := 7) rfl rfl ⟨rfl, by decide, Or.inl T.g_BadNumber⟩ (fun a ob cls d pn hz hf => (pss_cons (ps_set (i := 5) sc_l_part_kept.nd rfl (Or.inl rfl) (pe_lstQ (pa_cons (pe_xs hz hf (pv 7)) (pa_cons (pe_callB (call_isS hz hf) (by rfl) T.b_isinstance (by decide +kernel) (pa_cons (pv 7) (pa_cons (C8.pe_gc (v := .ref C_BarbreaksError) (by rfl) ⟨_, T.g_BarbreaksError, rfl⟩) pa_nil))) (pa_cons (pe_callB (call_isS hz hf) (by rfl) T.b_isinstance (by decide +kernel) (pa_cons (pv 7) (pa_cons (pe_bltn (v := .ty "ValueError") (by rfl) T.b_ValueError (by decide +kernel) rfl) pa_nil))) (pa_cons (pe_callB (call_isS hz hf) (by rfl) T.b_isinstance (by decide +kernel) (pa_cons (pv 7) (pa_cons (C8.pe_gc (v := .ref C_Refused) (by rfl) ⟨_, T.g_Refused, rfl⟩) pa_nil))) pa_nil))))))
  (pss_one (ps_set (i := 5) sc_l_part_kept.nd rfl (Or.inl rfl) (pe_op op_catQ (pv 5) (pe_lstQ (pa_cons (pe_callB (call_isS hz hf) (by rfl) T.b_isinstance (by decide +kernel) (pa_cons (pv 7) (pa_cons (C8.pe_gc (v := .ref C_TooMany) (by rfl) ⟨_, T.g_TooMany, rfl⟩) pa_nil))) (pa_cons (pe_callB (call_isS hz hf) (by rfl) T.b_isinstance (by decide +kernel) (pa_cons (pv 7) (pa_cons (C8.pe_gc (v := .ref C_BadEnd) (by rfl) ⟨_, T.g_BadEnd, rfl⟩) pa_nil))) pa_nil))))))))
  HdsH.nil))
  (pss_cons (ps_if (pt_not (pt_chain op_le op_le pe_int (pv 3) (pe_callB (call_lenC (K := K) rfl) (by rfl) T.b_len (by decide +kernel) (pa_cons (pv 2) pa_nil))))
  (pss_one (ps_ret (pe_and (pe_cmpR op_isN (pv 6) pe_non (nomark _)) (pe_one (pe_d D_l_same (hr.mono (by decide)) pass0 (by rfl) (pa_cons (pv 5) (pa_cons (pe_lstQ (pa_cons (pv 3) (pa_cons pe_bl (pa_cons pe_bl (pa_cons pe_bl (pa_cons pe_bl (pa_cons pe_bl pa_nil))))))) pa_nil)))))))
  pss_nil)
  (pss_cons (ps_if (pt_not (pt_chain op_le op_le (pv 3) (pv 4) (pe_callB (call_lenC (K := K) rfl) (by rfl) T.b_len (by decide +kernel) (pa_cons (pv 2) pa_nil))))
  (pss_one (ps_ret (pe_and (pe_cmpR op_isN (pv 6) pe_non (nomark _)) (pe_one (pe_d D_l_same (hr.mono (by decide)) pass0 (by rfl) (pa_cons (pv 5) (pa_cons (pe_lstQ (pa_cons (pv 4) (pa_cons pe_bl (pa_cons pe_bl (pa_cons pe_bl (pa_cons pe_bl (pa_cons pe_bl pa_nil))))))) pa_nil)))))))
  pss_nil)
  (pss_one (ps_ret (pe_and (pe_cmpR (op_eqKC (K := K) rfl (un_of hr)) (pv 5) (pe_lstQ pa_nil) (nomark _)) (pe_one (pe_d D_l_shown (hr.mono (by decide)) pass0 (by rfl) (pa_cons (pv 6) (pa_cons (pv 1) (pa_cons (pe_slice (sl_listQC (K := K) rfl) (pv 2) (po_some (pv 3)) (po_some (pv 4))) pa_nil))))))))))))), ?_⟩
    have rb := BandAt.rp (K := K) hb
    have len := sh.len
    refine q_lst F m (by kspl_open sz) .nil (fun t0 M1 H1 g1 ht => ?_)
    kspl_open go
    refine ⟨fun σ H' => ∃ (t p : V) (M' : Hp), σ = [some (.ref b), some x, some y, some (.int lo), some (.int hi), some t, some p, none] ∧ Gx [] M H M' H' ∧
      ((¬ (0 ≤ lo ∧ lo ≤ (ths.length : Int)) ∧ p = .non ∧ Rp K M' t (numT lo)) ∨ ((0 ≤ lo ∧ lo ≤ (ths.length : Int)) ∧ ¬ (lo ≤ hi ∧ hi ≤ (ths.length : Int)) ∧ p = .non ∧ Rp K M' t (numT hi)) ∨
       (∃ (l h : Nat) (q : Addr), lo = l ∧ hi = h ∧ l ≤ h ∧ h ≤ ths.length ∧ p = .ref q ∧ Rp K M' t (.lst []) ∧ BandAt C_Band M' q (partE es l h))), ?_, ?_⟩
    · kspl_open go
      refine ⟨M1, b, es, lo, hi, rfl, (by kspl_open sm), (by kspl_open ba), sh.ok, by omega, fun l h e1 e2 h1 h2 q M2 H2 hq g2 => ?_, fun bad H2 d s hd => ?_, fun z1 z2 bad H2 d s hd => ?_⟩
      · exact ⟨_, _, M2, rfl, (by kspl_open gx), .inr (.inr ⟨l, h, q, e1, e2, h1, by omega, rfl, (by kspl_open rpa), hq⟩)⟩
      · have gk : Gk [] M1 H1 H2 := ⟨Gx.of_same (by kspl_open sm) s⟩
        refine ⟨true, h_xm_BadNumber_BadNumber, fun _ a na => ?_, fun z => nomatch z⟩
        kspl_open go
        exact ⟨_, _, _, rfl, (by kspl_open gx), .inl ⟨by omega, rfl, (by kspl_open rpa)⟩⟩
      · have gk : Gk [] M1 H1 H2 := ⟨Gx.of_same (by kspl_open sm) s⟩
        refine ⟨true, h_xm_BadNumber_BadNumber, fun _ a na => ?_, fun z => nomatch z⟩
        kspl_open go
        exact ⟨_, _, _, rfl, (by kspl_open gx), .inr (.inl ⟨by omega, by omega, rfl, (by kspl_open rpa)⟩)⟩
    · rintro σ H2 ⟨t, p, M2, rfl, g2, w⟩
      rcases w with ⟨bad, rfl, hn⟩ | ⟨z1, bad, rfl, hn⟩ | ⟨l, h, q, rfl, rfl, h1, h2, rfl, hn, hq⟩
      · by_cases z : 0 ≤ lo <;> kspl_open go <;> exact k _ _ (by kspl_open gx)
      · kspl_open go
        by_cases z : lo ≤ hi <;> kspl_open go <;> exact k _ _ (by kspl_open gx)
      · have sh2 := sh.part (lo := l) (hi := h) h2
        kspl_open go
        kspl_open lf
        kspl_open go
        rename_i g3 hs
        rw [cutT_in ths (by omega) (by omega) (by omega), Int.toNat_natCast, show ((h : Int) - (l : Int)).toNat = h - l by omega] at hs
        refine ⟨_, q, _, _, ess, _, _, rfl, g3.h, (by kspl_open ba), (by kspl_open rpa), hs, sh2, by rw [cut_len h2]; omega, fun M4 H4 g4 => k _ _ (by kspl_open gx)⟩

theorem ok_l_turned_kept (T : Txt K mg C_BadEnd C_BarbreaksError C_TooMany C_BadNumber C_Band C_Refused) : Dk P w K mg base CX0 7 "_law_turned_kept" ["_law_band", "_law_lists", "_law_things"] (spTurnK K C_Band) := by
  have D_l_shown := ok_l_shown (P := P) (w := w) (base := base) T
  have M_Band_mirrored := ok_Band_mirrored (P := P) (w := w) (base := base) T
  have h_c_Band := T.c_Band
  have h_n_Band_ends := T.n_Band_ends
  obtain ⟨f, fd, g0, F, b0⟩ := T.l_turned_kept
  refine ⟨f, fd, g0, F.kp, b0, F.ok sc_l_turned_kept (fun vs H Q E h => ?_) (fun cdv A outer s H vs Q E hr h => ?_)⟩
  · obtain ⟨M, b, x, y, ess, ths, es, rfl, _⟩ := h
    rfl
  · obtain ⟨M, b, x, y, ess, ths, es, rfl, m, hb, hx, hy, sh, l60, k⟩ := h
    refine ⟨_, (pss_cons (ps_set (i := 3) sc_l_turned_kept.nd rfl (Or.inl rfl) (pe_me0 M_Band_mirrored T.c_Band (hr.mono (by decide)) pass0 (pv 0)))
  (pss_one (ps_ret (pe_and (pe_d D_l_shown (hr.mono (by decide)) pass0 (by rfl) (pa_cons (pv 3) (pa_cons (pv 1) (pa_cons (pe_revQ (K := K) rfl (pv 2) (po_some (pe_un un_neg pe_int))) pa_nil)))) (pe_one (pe_d D_l_shown (hr.mono (by decide)) pass0 (by rfl) (pa_cons (pe_me0 M_Band_mirrored T.c_Band (hr.mono (by decide)) pass0 (pv 3)) (pa_cons (pv 1) (pa_cons (pv 2) pa_nil))))))))), ?_⟩
    have rb := BandAt.rp (K := K) hb
    have len := sh.len
    have sh1 := sh.mir
    have sh2 := sh1.mir
    rw [List.reverse_reverse] at sh2
    kspl_open go
    refine ⟨M, b, es, rfl, m, hb, sh.ok, by omega, fun b1 M1 H1 hb1 g1 => ?_⟩
    have rb1 := BandAt.rp (K := K) hb1
    kspl_open go
    rename_i M2 H2 g2 hr2
    refine ⟨M2, b1, _, _, ess, _, _, rfl, (by kspl_open sm), (by kspl_open ba), (by kspl_open rpa), hr2, sh1, by rw [List.length_reverse]; omega, fun M3 H3 g3 => ?_⟩
    kspl_open go
    refine ⟨M3, b1, mirE es, rfl, (by kspl_open sm), (by kspl_open ba), sh1.ok, by rw [mirE_len]; omega, fun b2 M4 H4 hb2 g4 => ?_⟩
    kspl_open go
    exact ⟨M4, b2, _, _, ess, _, _, rfl, (by kspl_open sm), hb2, (by kspl_open rpa), (by kspl_open rpa), sh2, by omega, fun M5 H5 g5 => k _ _ (by kspl_open gx)⟩

theorem ok_l_parts_kept (T : Txt K mg C_BadEnd C_BarbreaksError C_TooMany C_BadNumber C_Band C_Refused) : Dk P w K mg base CX0 8 "_law_parts_kept" ["_law_pool_here", "_law_band", "_law_lists", "_law_things"] (spPartsK K C_Band) := by
  have D_l_part_kept := ok_l_part_kept (P := P) (w := w) (base := base) T
  have D_l_take := ok_l_take (P := P) (w := w) (base := base) T
  have D_l_big := ok_l_big (P := P) (w := w) (base := base) T
  have h_c_Band := T.c_Band
  have h_n_Band_ends := T.n_Band_ends
  obtain ⟨f, fd, g0, F, b0⟩ := T.l_parts_kept
  refine ⟨f, fd, g0, F.kp, b0, F.ok sc_l_parts_kept (fun vs H Q E h => ?_) (fun cdv A outer s H vs Q E hr h => ?_)⟩
  · obtain ⟨M, p, c, b, x, y, ns, ess, ths, es, rfl, _⟩ := h
    rfl
  · obtain ⟨M, p, c, b, x, y, ns, ess, ths, es, rfl, m, hp, nMp, hb, hx, hy, sh, l60, k⟩ := h
    refine ⟨_, (pss_cons (ps_set (i := 4) sc_l_parts_kept.nd rfl (Or.inl rfl) (pe_callB (call_lenC (K := K) rfl) (by rfl) T.b_len (by decide +kernel) (pa_cons (pv 3) pa_nil)))
  (pss_cons (ps_set (i := 5) sc_l_parts_kept.nd rfl (Or.inl rfl) (pe_lstQ (pa_cons pe_int (pa_cons (pe_op op_sub (pe_d D_l_take (hr.mono (by decide)) pass0 (by rfl) (pa_cons (pv 0) (pa_cons (pe_op op_add (pv 4) pe_int) pa_nil))) pe_int) (pa_cons (pe_op op_sub (pe_d D_l_take (hr.mono (by decide)) pass0 (by rfl) (pa_cons (pv 0) (pa_cons (pe_op op_add (pv 4) pe_int) pa_nil))) pe_int) (pa_cons (pv 4) pa_nil))))))
  (C8.pss_cut (ps_if (pt_cmpR op_le (pv 4) pe_int (nomark _))
  (pss_one (ps_set (i := 5) sc_l_parts_kept.nd rfl (Or.inl rfl) (pe_listRgQ2 rfl (by rfl) T.b_list (by rfl) T.b_range (pe_op op_sub pe_int pe_int) (pe_op op_add (pv 4) pe_int))))
  pss_nil)
  (pss_cons (ps_set (i := 6) sc_l_parts_kept.nd rfl (Or.inl rfl) (pe_op op_add (pe_op op_add (pv 4) pe_int) (pe_d D_l_big (hr.mono (by decide)) pass0 (by rfl) (pa_cons (pv 0) pa_nil))))
  (pss_cons (ps_for PassesOwn.never rfl (pi_listC (K := K) rfl (pe_op op_catQ (pv 5) (pe_lstQ (pa_cons (pe_op op_sub pe_int (pv 6)) (pa_cons (pv 6) pa_nil))))) (pg_name (i := 7) sc_l_parts_kept.nd rfl (Or.inl rfl))
  (pss_one (ps_for PassesOwn.never rfl (pi_listC (K := K) rfl (pe_op op_catQ (pv 5) (pe_lstQ (pa_cons (pv 6) (pa_cons (pe_op op_sub pe_int (pv 6)) pa_nil))))) (pg_name (i := 8) sc_l_parts_kept.nd rfl (Or.inl rfl))
  (pss_one (ps_if (pt_not (pt_val (pe_d D_l_part_kept (hr.mono (by decide)) pass0 (by rfl) (pa_cons (pv 1) (pa_cons (pv 2) (pa_cons (pv 3) (pa_cons (pv 7) (pa_cons (pv 8) pa_nil))))))))
  (pss_one (ps_ret pe_bl))
  pss_nil)))))
  (pss_one (ps_ret pe_bl))))))), ?_⟩
    have rb := BandAt.rp (K := K) hb
    kspl_open go
    refine ⟨fun σ H' => ∃ (l : V) (bs : List Int) (M' : Hp), σ = [some (.ref p), some (.ref b), some x, some y, some (.int ths.length), some l, none, none, none] ∧ Gx [p] M H M' H' ∧ Pool ns c H' p ∧ Rp K M' l (.lst (iT bs)) ∧ bs.length ≤ 100, ?_, ?_⟩
    · kspl_open go
      rename_i r1 H3 _ _ _ _ r2 H4 _ _ _ _ t M5 H5 g5 hr5
      show ite _ _ _
      refine ite2 (fun q => ?_) (fun q => ?_)
      · have q' : (ths.length : Int) ≤ 5 := of_decide_eq_true q
        kspl_open go
        exact ⟨_, _, _, rfl, (by kspl_open gx), (by kspl_open pl), (by kspl_open rpa), by rw [List.length_map, List.length_range]; omega⟩
      · exact ⟨_, [0, r1 - 1, r2 - 1, (ths.length : Int)], _, rfl, (by kspl_open gx), (by kspl_open pl), hr5, by simp⟩
    · rintro σ H2 ⟨l, bs, M2, rfl, g2, hp2, hl, hbs⟩
      have nMp2 := g2.f p hp.some
      rw [nMp] at nMp2
      clear hp nMp
      kspl_open go
      rename_i w
      rw [iT_two] at w
      refine q_forM (by kspl_open cur) w (by kspl_open sm) [p] (fun i σ M' H' => ∃ x6 x7 x8, σ = [some (.ref p), some (.ref b), some x, some y, some (.int ths.length), some l, x6, x7, x8] ∧ Pool ns c H' p ∧ ∃ f : Int, x6 = some (.int f)) ⟨_, _, _, rfl, (by kspl_open pl), _, rfl⟩ ?_ ?_
      · rintro i σ v M3 H3 N hi g3 hv ⟨x6, x7, x8, rfl, hp3, f, rfl⟩ kN
        obtain rfl := Rp.inv_int hv
        generalize (bs ++ _).getD i default = lo
        kspl_open go
        rename_i w
        rw [iT_two] at w
        refine q_forM (by kspl_open cur) w (by kspl_open sm) [p] (fun i σ M' H' => ∃ x8, σ = [some (.ref p), some (.ref b), some x, some y, some (.int ths.length), some l, some (.int f), some (.int lo), x8] ∧ Pool ns c H' p) ⟨_, rfl, (by kspl_open pl)⟩ ?_ ?_
        · rintro j σ v M4 H4 N2 hj g4 hv ⟨x8, rfl, hp4⟩ kN2
          obtain rfl := Rp.inv_int hv
          generalize (bs ++ _).getD j default = hi'
          kspl_open go
          refine ⟨M4, b, x, y, lo, hi', ess, ths, es, rfl, (by kspl_open sm), (by kspl_open ba), (by kspl_open rpa), (by kspl_open rpa), sh, l60, fun M5 H5 g5 => ?_⟩
          kspl_open go
          exact kN2 _ _ _ (by kspl_open gx) ⟨_, rfl, (by kspl_open pl)⟩
        · rintro σ M4 H4 g4 ⟨x8, rfl, hp4⟩
          exact kN _ _ _ (by kspl_open gx) ⟨_, _, _, rfl, hp4, _, rfl⟩
      · rintro σ M3 H3 g3 ⟨x6, x7, x8, rfl, hp3, f, rfl⟩
        kspl_open go
        exact k _ _ (by kspl_open gx) hp3

theorem ok_l_joined (T : Txt K mg C_BadEnd C_BarbreaksError C_TooMany C_BadNumber C_Band C_Refused) : Dk P w K mg base CX0 7 "_law_joined" ["_law_first", "_law_second"] (spJoined K C_Band) := by
  have M_Band_add := ok_Band_add (P := P) (w := w) (base := base) T
  have h_ec_TooMany := T.ec_TooMany
  have h_xm_TooMany_TooMany := T.xm_TooMany_TooMany
  have h_xn_TooMany_what := T.xn_TooMany_what
  have h_xn_TooMany_most := T.xn_TooMany_most
  have h_ko_TooMany_BarbreaksError := T.ko_TooMany_BarbreaksError
  have h_ko_TooMany_ValueError := T.ko_TooMany_ValueError
  have h_ko_TooMany_Refused := T.ko_TooMany_Refused
  have h_ko_TooMany_BadNumber := T.ko_TooMany_BadNumber
  have h_ko_TooMany_BadEnd := T.ko_TooMany_BadEnd
  have h_c_Band := T.c_Band
  have h_n_Band_ends := T.n_Band_ends
  obtain ⟨f, fd, g0, F, b0⟩ := T.l_joined
  refine ⟨f, fd, g0, F.kp, b0, F.ok sc_l_joined (fun vs H Q E h => ?_) (fun cdv A outer s H vs Q E hr h => ?_)⟩
  · obtain ⟨M, b, c, es, fs, rfl, _⟩ := h
    rfl
  · obtain ⟨M, b, c, es, fs, rfl, m, hb, hc, ok, ok2, l1, l2, k⟩ := h
    refine ⟨_, (pss_cons (ps_set (i := 2) sc_l_joined.nd rfl (Or.inl rfl) (pe_lstQ pa_nil))
  (pss_cons (ps_set (i := 3) sc_l_joined.nd rfl (Or.inl rfl) pe_non)
  (C8.pss_cut (ps_try_holds rfl rfl sc_l_joined.nd rfl (fun W pn xe tk _ => (pss_one (ps_set (i := 3) sc_l_joined.nd rfl (Or.inl rfl) (pe_addS M_Band_add (hr.mono (by decide)) (fun σ => passAt tk σ) T.sf_Band (pv 0) (pv 1)))))
  (HdsH.cons (i := 4) rfl rfl ⟨rfl, by decide, Or.inl T.g_TooMany⟩ (fun a ob cls d pn hz hf => (pss_cons (ps_set (i := 2) sc_l_joined.nd rfl (Or.inl rfl) (pe_lstQ (pa_cons (pe_xs hz hf (pv 4)) (pa_cons (pe_xs hz hf (pv 4)) (pa_cons (pe_callB (call_isS hz hf) (by rfl) T.b_isinstance (by decide +kernel) (pa_cons (pv 4) (pa_cons (C8.pe_gc (v := .ref C_BarbreaksError) (by rfl) ⟨_, T.g_BarbreaksError, rfl⟩) pa_nil))) (pa_cons (pe_callB (call_isS hz hf) (by rfl) T.b_isinstance (by decide +kernel) (pa_cons (pv 4) (pa_cons (pe_bltn (v := .ty "ValueError") (by rfl) T.b_ValueError (by decide +kernel) rfl) pa_nil))) (pa_cons (pe_callB (call_isS hz hf) (by rfl) T.b_isinstance (by decide +kernel) (pa_cons (pv 4) (pa_cons (C8.pe_gc (v := .ref C_Refused) (by rfl) ⟨_, T.g_Refused, rfl⟩) pa_nil))) pa_nil)))))))
  (pss_one (ps_set (i := 2) sc_l_joined.nd rfl (Or.inl rfl) (pe_op op_catQ (pv 2) (pe_lstQ (pa_cons (pe_callB (call_isS hz hf) (by rfl) T.b_isinstance (by decide +kernel) (pa_cons (pv 4) (pa_cons (C8.pe_gc (v := .ref C_BadNumber) (by rfl) ⟨_, T.g_BadNumber, rfl⟩) pa_nil))) (pa_cons (pe_callB (call_isS hz hf) (by rfl) T.b_isinstance (by decide +kernel) (pa_cons (pv 4) (pa_cons (C8.pe_gc (v := .ref C_BadEnd) (by rfl) ⟨_, T.g_BadEnd, rfl⟩) pa_nil))) pa_nil))))))))
  HdsH.nil))
  (pss_one (ps_ret (pe_lstQ (pa_cons (pv 2) (pa_cons (pv 3) pa_nil)))))))), ?_⟩
    refine q_lst F m (by kspl_open sz) .nil (fun t0 M1 H1 g1 ht => ?_)
    kspl_open go
    refine ⟨fun σ H' => ∃ (t v : V) (M' : Hp), σ = [some (.ref b), some (.ref c), some t, some v, none] ∧ Gx [] M H M' H' ∧ ((es.length + fs.length ≤ 60 ∧ Rp K M' t (.lst []) ∧ ∃ q, v = .ref q ∧ BandAt C_Band M' q (addE es fs)) ∨ (60 < es.length + fs.length ∧ Rp K M' t tooT ∧ v = .non)), ?_, ?_⟩
    · kspl_open go
      obtain ⟨dx, tx, e1, e2⟩ := hb
      obtain ⟨dy, ty, e3, e4⟩ := hc
      refine ⟨b, c, dx, dy, _, _, rfl, rfl, (g1.m.trans g1.h) _ _ e1, (g1.m.trans g1.h) _ _ e3, M1, b, c, es, fs, rfl, g1.h, ⟨dx, tx, g1.m _ _ e1, g1.m _ _ e2⟩, ⟨dy, ty, g1.m _ _ e3, g1.m _ _ e4⟩, ok, ok2, l1, l2, fun z q M2 H2 hq g2 => ?_, fun z H2 d s hd => ?_⟩
      · exact ⟨⟨q, rfl⟩, _, _, M2, rfl, (by kspl_open gx), .inl ⟨z, (by kspl_open rpa), q, rfl, hq⟩⟩
      · have gk : Gk [] M1 H1 H2 := ⟨Gx.of_same g1.h s⟩
        refine ⟨true, h_xm_TooMany_TooMany, fun _ a na => ?_, fun z => nomatch z⟩
        kspl_open go
        exact ⟨_, _, _, rfl, (by kspl_open gx), .inr ⟨z, (by kspl_open rpa), rfl⟩⟩
    · rintro σ H2 ⟨t, v, M2, rfl, g2, w⟩
      kspl_open go
      refine ⟨(by kspl_open sz), fun l H3 hn => ?_⟩
      obtain ⟨n, rfl⟩ := hn
      have s := Same.new (o := .lst [t, v]) (none_of g2.h n)
      refine k l t v _ _ (g2.trans (Gx.new g2.h n)) upd_same ?_
      rcases w with ⟨z, ht, q, rfl, hq⟩ | ⟨z, ht, rfl⟩
      · exact .inl ⟨z, ht.same s, q, rfl, hq.same s⟩
      · exact .inr ⟨z, ht.same s, rfl⟩

theorem ok_l_joins_kept (T : Txt K mg C_BadEnd C_BarbreaksError C_TooMany C_BadNumber C_Band C_Refused) : Dk P w K mg base CX0 9 "_law_joins_kept" ["_law_pool_here", "_law_bands", "_law_lists"] (spJoinsK K C_Band) := by
  have D_l_joined := ok_l_joined (P := P) (w := w) (base := base) T
  have D_l_shown := ok_l_shown (P := P) (w := w) (base := base) T
  have D_l_same := ok_l_same (P := P) (w := w) (base := base) T 1
  have D_l_turned_kept := ok_l_turned_kept (P := P) (w := w) (base := base) T
  have D_l_parts_kept := ok_l_parts_kept (P := P) (w := w) (base := base) T
  have M_Band_part := ok_Band_part (P := P) (w := w) (base := base) T
  have h_c_Band := T.c_Band
  have h_n_Band_ends := T.n_Band_ends
  obtain ⟨f, fd, g0, F, b0⟩ := T.l_joins_kept
  refine ⟨f, fd, g0, F.kp, b0, F.ok sc_l_joins_kept (fun vs H Q E h => ?_) (fun cdv A outer s H vs Q E hr h => ?_)⟩
  · obtain ⟨M, p, c, bl, b1, b2, x, ns, e1, e2, rfl, _⟩ := h
    rfl
  · obtain ⟨M, p, c, bl, b1, b2, x, ns, e1, e2, rfl, m, hp, nMp, hbl, hb1, hb2, hx, ok1, ok2, l1, l2, k⟩ := h
    refine ⟨_, (pss_cons (ps_setLc (i := 3) (own := [("_law_k", 10)]) (g := gName 10) (tt := tYes) (by rfl) sc_l_joins_kept.nd rfl rfl (sw_true rfl rfl rfl (by decide +kernel)) (pi_range1 rfl T.b_range (pa_cons (pe_callB (call_lenC (K := K) rfl) (by rfl) T.b_len (by decide +kernel) (pa_cons (pe_ix (ix_listC (K := K) rfl) (pv 2) pe_int (fun _ _ => rfl)) pa_nil)) pa_nil)) (blkOk_by (own := [("_law_k", 10)]) (N := ["_law_pool_here", "_law_bands", "_law_lists", "_law_first", "_law_second", "_law_told", "_law_joined_here", "_law_room", "_law_things", "_law_twice", "_law_k"]) (sc := defScope s_l_joins_kept) (by decide +kernel)) (fun _ _ _ _ _ => pg_name (i := 10) sc_l_joins_kept.nd rfl (Or.inl rfl)) (fun _ _ _ _ _ => pts_nil) (fun _ _ _ _ _ => (pe_tupQ (pa_cons pe_int (pa_cons (pv 10) pa_nil)))))
  (pss_cons (ps_setLc (i := 4) (own := [("_law_k", 10)]) (g := gName 10) (tt := tYes) (by rfl) sc_l_joins_kept.nd rfl rfl (sw_true rfl rfl rfl (by decide +kernel)) (pi_range1 rfl T.b_range (pa_cons (pe_callB (call_lenC (K := K) rfl) (by rfl) T.b_len (by decide +kernel) (pa_cons (pe_ix (ix_listC (K := K) rfl) (pv 2) pe_int (fun _ _ => rfl)) pa_nil)) pa_nil)) (blkOk_by (own := [("_law_k", 10)]) (N := ["_law_pool_here", "_law_bands", "_law_lists", "_law_first", "_law_second", "_law_told", "_law_joined_here", "_law_room", "_law_things", "_law_twice", "_law_k"]) (sc := defScope s_l_joins_kept) (by decide +kernel)) (fun _ _ _ _ _ => pg_name (i := 10) sc_l_joins_kept.nd rfl (Or.inl rfl)) (fun _ _ _ _ _ => pts_nil) (fun _ _ _ _ _ => (pe_tupQ (pa_cons pe_int (pa_cons (pv 10) pa_nil)))))
  (pss_cons (ps_asg (pe_d D_l_joined (hr.mono (by decide)) pass0 (by rfl) (pa_cons (pe_ix (ix_listC (K := K) rfl) (pv 1) pe_int (fun _ _ => rfl)) (pa_cons (pe_ix (ix_listC (K := K) rfl) (pv 1) pe_int (fun _ _ => rfl)) pa_nil))) (pg_lstC (K := K) rfl (by rfl) (pgs_cons (pg_name (i := 5) sc_l_joins_kept.nd rfl (Or.inl rfl)) (pgs_cons (pg_name (i := 6) sc_l_joins_kept.nd rfl (Or.inl rfl)) pgs_nil))))
  (C8.pss_cut (ps_if (pt_cmpR op_gt (pe_op op_add (pe_callB (call_lenC (K := K) rfl) (by rfl) T.b_len (by decide +kernel) (pa_cons (pv 3) pa_nil)) (pe_callB (call_lenC (K := K) rfl) (by rfl) T.b_len (by decide +kernel) (pa_cons (pv 4) pa_nil))) pe_int (nomark _))
  (pss_cons (ps_if (PW.pt (pw_or (pt_cmpR op_notN (pv 6) pe_non (nomark _)) (pw_or1 (pt_not (pt_val (pe_d D_l_same (hr.mono (by decide)) pass0 (by rfl) (pa_cons (pv 5) (pa_cons (pe_lstQ (pa_cons pe_str (pa_cons pe_int (pa_cons pe_bl (pa_cons pe_bl (pa_cons pe_bl (pa_cons pe_bl (pa_cons pe_bl pa_nil)))))))) pa_nil))))))))
  (pss_one (ps_ret pe_bl))
  pss_nil)
  (pss_cons (ps_set (i := 7) sc_l_joins_kept.nd rfl (Or.inl rfl) (pe_op op_sub pe_int (pe_callB (call_lenC (K := K) rfl) (by rfl) T.b_len (by decide +kernel) (pa_cons (pv 3) pa_nil))))
  (pss_cons (ps_set (i := 4) sc_l_joins_kept.nd rfl (Or.inl rfl) (pe_slice (sl_listQC (K := K) rfl) (pv 4) po_none (po_some (pv 7))))
  (pss_one (ps_asg (pe_d D_l_joined (hr.mono (by decide)) pass0 (by rfl) (pa_cons (pe_ix (ix_listC (K := K) rfl) (pv 1) pe_int (fun _ _ => rfl)) (pa_cons (pe_me M_Band_part T.c_Band (hr.mono (by decide)) passE (pe_ix (ix_listC (K := K) rfl) (pv 1) pe_int (fun _ _ => rfl)) (pa_cons pe_int (pa_cons (pv 7) pa_nil))) pa_nil))) (pg_lstC (K := K) rfl (by rfl) (pgs_cons (pg_name (i := 5) sc_l_joins_kept.nd rfl (Or.inl rfl)) (pgs_cons (pg_name (i := 6) sc_l_joins_kept.nd rfl (Or.inl rfl)) pgs_nil))))))))
  pss_nil)
  (pss_cons (ps_set (i := 8) sc_l_joins_kept.nd rfl (Or.inl rfl) (pe_op op_catQ (pv 3) (pv 4)))
  (pss_cons (ps_if (PW.pt (pw_or (pt_cmpR (op_neKC (K := K) rfl (un_of hr)) (pv 5) (pe_lstQ pa_nil) (nomark _)) (pw_or1 (pt_not (pt_val (pe_d D_l_shown (hr.mono (by decide)) pass0 (by rfl) (pa_cons (pv 6) (pa_cons (pv 2) (pa_cons (pv 8) pa_nil)))))))))
  (pss_one (ps_ret pe_bl))
  pss_nil)
  (pss_cons (ps_if (PW.pt (pw_or (pt_not (pt_val (pe_d D_l_turned_kept (hr.mono (by decide)) pass0 (by rfl) (pa_cons (pv 6) (pa_cons (pv 2) (pa_cons (pv 8) pa_nil)))))) (pw_or1 (pt_not (pt_val (pe_d D_l_parts_kept (hr.mono (by decide)) pass0 (by rfl) (pa_cons (pv 0) (pa_cons (pv 6) (pa_cons (pv 2) (pa_cons (pv 8) pa_nil))))))))))
  (pss_one (ps_ret pe_bl))
  pss_nil)
  (pss_cons (ps_if (pt_cmpR op_gt (pe_op op_mul pe_int (pe_callB (call_lenC (K := K) rfl) (by rfl) T.b_len (by decide +kernel) (pa_cons (pv 3) pa_nil))) pe_int (nomark _))
  (pss_one (ps_ret pe_bl))
  pss_nil)
  (pss_cons (ps_asg (pe_d D_l_joined (hr.mono (by decide)) pass0 (by rfl) (pa_cons (pe_ix (ix_listC (K := K) rfl) (pv 1) pe_int (fun _ _ => rfl)) (pa_cons (pe_ix (ix_listC (K := K) rfl) (pv 1) pe_int (fun _ _ => rfl)) pa_nil))) (pg_lstC (K := K) rfl (by rfl) (pgs_cons (pg_name (i := 5) sc_l_joins_kept.nd rfl (Or.inl rfl)) (pgs_cons (pg_name (i := 9) sc_l_joins_kept.nd rfl (Or.inl rfl)) pgs_nil))))
  (pss_one (ps_ret (pe_and (pe_cmpR (op_eqKC (K := K) rfl (un_of hr)) (pv 5) (pe_lstQ pa_nil) (nomark _)) (pe_one (pe_d D_l_shown (hr.mono (by decide)) pass0 (by rfl) (pa_cons (pv 9) (pa_cons (pv 2) (pa_cons (pe_op op_catQ (pv 3) (pe_lc (own := [("_law_k", 10)]) (g := gName 10) (tt := tYes) (by rfl) sc_l_joins_kept.nd (pi_range1 rfl T.b_range (pa_cons (pe_callB (call_lenC (K := K) rfl) (by rfl) T.b_len (by decide +kernel) (pa_cons (pe_ix (ix_listC (K := K) rfl) (pv 2) pe_int (fun _ _ => rfl)) pa_nil)) pa_nil)) (blkOk_by (own := [("_law_k", 10)]) (N := ["_law_pool_here", "_law_bands", "_law_lists", "_law_first", "_law_second", "_law_told", "_law_joined_here", "_law_room", "_law_things", "_law_twice", "_law_k"]) (sc := defScope s_l_joins_kept) (by decide +kernel)) (fun _ _ _ _ _ => pg_name (i := 10) sc_l_joins_kept.nd rfl (Or.inl rfl)) (fun _ _ _ _ _ => pts_nil) (fun _ _ _ _ _ => (pe_tupQ (pa_cons pe_int (pa_cons (pv 10) pa_nil)))))) pa_nil))))))))))))))))), ?_⟩
    have rb1 := BandAt.rp (K := K) hb1
    have rb2 := BandAt.rp (K := K) hb2
    have sh1 : Shows [e1, e2, e1] (thsOf 0 e1.length) e1 := Shows.base (j := 0) (by simp) ok1
    have sh2 : Shows [e1, e2, e1] (thsOf 1 e2.length) e2 := Shows.base (j := 1) (by simp) ok2
    have sh3 : Shows [e1, e2, e1] (thsOf 2 e1.length) e1 := Shows.base (j := 2) (by simp) ok1
    kspl_open go
    kspl_open rg
    refine q_lcI (by kspl_open cur) (rw_range (K := K) (M := M)).one (by kspl_open sm) pT (fun k => ((0 : Int), ((k : Nat) : Int))) (Nat.lt_of_le_of_lt (m := 60) (by omega) (by decide)) (fun j v M1 H1 F1 F0 hj hv m1 m2 kF => ?_) (fun l M1 H1 g1 hl => ?_)
    · obtain rfl := Rp.inv_int hv
      rw [Int.zero_add]
      kspl_open go
      exact kF _ _ _ (by kspl_open gx) (by kspl_open rpa)
    change Rp K M1 (V.ref l) (.lst ((thsOf 0 e1.length).map pT)) at hl
    kspl_open go
    kspl_open rg
    refine q_lcI (by kspl_open cur) (rw_range (K := K) (M := M1)).one (by kspl_open sm) pT (fun k => ((1 : Int), ((k : Nat) : Int))) (Nat.lt_of_le_of_lt (m := 60) (by omega) (by decide)) (fun j v M1 H1 F1 F0 hj hv m1 m2 kF => ?_) (fun l2 M2 H2 g2 hl2 => ?_)
    · obtain rfl := Rp.inv_int hv
      rw [Int.zero_add]
      kspl_open go
      exact kF _ _ _ (by kspl_open gx) (by kspl_open rpa)
    change Rp K M2 (V.ref l2) (.lst ((thsOf 1 e2.length).map pT)) at hl2
    kspl_open go
    refine ⟨M2, b1, b2, e1, e2, rfl, (by kspl_open sm), (by kspl_open ba), (by kspl_open ba), ok1, ok2, by omega, by omega, fun lj t v M3 H3 g3 hlj w => ?_⟩
    kspl_open go
    refine ⟨fun σ H' => ∃ (s2 : Addr) (t : V) (q : Addr) (x7 : Option V) (m : Nat) (fs : List Int) (M' : Hp), σ = [some (.ref p), some (.ref bl), some x, some (.ref l), some (.ref s2), some t, some (.ref q), x7, none, none, none] ∧ Gx [] M2 H2 M' H' ∧
      Rp K M' (.ref s2) (.lst ((thsOf 1 m).map pT)) ∧ Rp K M' t (.lst []) ∧ BandAt C_Band M' q (addE e1 fs) ∧ Shows [e1, e2, e1] (thsOf 1 m) fs ∧ e1.length + m ≤ 60, ?_, ?_⟩
    · rcases w with ⟨z, ht, q, rfl, hq⟩ | ⟨z, ht, rfl⟩
      · kspl_open go
        show ite _ _ _
        refine ite2 (fun z1 => ?_) (fun z1 => ?_)
        · exfalso
          have z2 := of_decide_eq_true z1
          simp only [thsOf_len] at z2
          omega
        · exact ⟨l2, t, q, none, e2.length, e2, M3, rfl, (by kspl_open gx), (by kspl_open rpa), ht, hq, sh2, by omega⟩
      · unfold tooT at ht
        kspl_open go
        show ite _ _ _
        refine ite2 (fun z1 => ?_) (fun z1 => ?_)
        · kspl_open go
          rename_i ls2 M4 H4 g4 hs2
          have e7 : (60 : Int) - ((thsOf 0 e1.length).length : Int) = ((60 - e1.length : Nat) : Int) := by
            rw [thsOf_len]; omega
          rw [cutT_to _ (by rw [thsOf_len]; omega), e7, Int.toNat_natCast, thsOf_take (by omega)] at hs2
          have n0 : (thsOf 0 e1.length).length = e1.length := thsOf_len
          refine ⟨M4, b2, e2, _, _, rfl, (by kspl_open sm), (by kspl_open ba), ok2, by omega, fun lo hi q1 q2 _ h2 q M5 H5 hq g5 => ?_, fun bad => (bad ⟨by omega, by omega⟩).elim, fun _ _ bad => (bad ⟨by omega, by omega⟩).elim⟩
          obtain rfl : lo = 0 := by omega
          obtain rfl : hi = 60 - e1.length := by omega
          have ln : (partE e2 0 (60 - e1.length)).length = 60 - e1.length := by rw [partE_len h2]; omega
          have sh4 := sh2.part (lo := 0) (hi := 60 - e1.length) (by rw [thsOf_len]; exact h2)
          rw [List.drop_zero, Nat.sub_zero, thsOf_take h2] at sh4
          kspl_open go
          refine ⟨M5, b1, q, e1, _, rfl, (by kspl_open sm), (by kspl_open ba), (by kspl_open ba), ok1, sh4.ok, by omega, by omega, fun lj2 t2 v2 M6 H6 g6 hlj2 w2 => ?_⟩
          rcases w2 with ⟨z5, ht2, q2, rfl, hq2⟩ | ⟨z5, _⟩
          · kspl_open go
            exact ⟨_, t2, q2, _, 60 - e1.length, _, M6, rfl, (by kspl_open gx), (by kspl_open rpa), ht2, hq2, sh4, by omega⟩
          · exfalso
            omega
        · exfalso
          simp only [decide_eq_true_eq, thsOf_len] at z1
          omega
    · rintro σ H4 ⟨s2, t, q, x7, m, fs, M4, rfl, g4, hs2, ht, hq, sh4, l4⟩
      have n0 : (thsOf 0 e1.length).length = e1.length := thsOf_len
      have n1 : (thsOf 1 m).length = m := thsOf_len
      kspl_open go
      rename_i lt M5 H5 g5 hlt
      rw [← List.map_append] at hlt
      have sh5 : Shows [e1, e2, e1] (thsOf 0 e1.length ++ thsOf 1 m) (addE e1 fs) := sh1.add sh4 (fun a ha b hb => by
        obtain ⟨_, _, rfl⟩ := List.mem_map.1 ha
        obtain ⟨_, _, rfl⟩ := List.mem_map.1 hb
        show (0 : Int) ≠ 1
        decide)
      have l5 : (thsOf 0 e1.length ++ thsOf 1 m).length ≤ 60 := by rw [List.length_append]; omega
      kspl_open go
      kspl_open lf
      kspl_open go
      rename_i _ M6 H6 g6 _ _ _
      refine ⟨M6, q, _, _, _, _, _, rfl, (by kspl_open sm), (by kspl_open ba), (by kspl_open rpa), (by kspl_open rpa), sh5, by omega, fun M7 H7 g7 => ?_⟩
      kspl_open go
      refine ⟨M7, q, _, _, _, _, _, rfl, (by kspl_open sm), (by kspl_open ba), (by kspl_open rpa), (by kspl_open rpa), sh5, by omega, fun M8 H8 g8 => ?_⟩
      kspl_open go
      have g := g1.trans (g2.trans (g4.trans (g5.trans (g6.trans (g7.trans g8)))))
      have np8 := g.f p hp.some
      rw [nMp] at np8
      have hp8 : Pool ns c H8 p := (by kspl_open pl)
      have hx8 := hx.same g.m
      have hb8 := hb1.same g.m
      have hl8 := hl.same (g2.trans (g4.trans (g5.trans (g6.trans (g7.trans g8))))).m
      have kk : TrueP p c ns M8 H8 Q := fun M' H' a b => k M' H' (g.nil.trans a) b
      clear g hp nMp
      refine ⟨M8, p, c, q, _, _, ns, _, _, _, rfl, (by kspl_open sm), (by kspl_open pl), np8, (by kspl_open ba), (by kspl_open rpa), (by kspl_open rpa), sh5, by omega, fun M9 H9 g9 hp9 => ?_⟩
      kspl_open go
      refine ⟨.inl ⟨by decide, by decide⟩, ?_⟩
      kspl_open go
      show ite _ _ _
      refine ite2 (fun z => ?_) (fun z => ?_)
      · kspl_open go
        exact kk _ _ g9 hp9
      · have z2 : ¬ (60 : Int) < 2 * ((thsOf 0 e1.length).length : Int) := fun y => z (decide_eq_true y)
        rw [n0] at z2
        kspl_open go
        refine ⟨M9, b1, b1, e1, e1, rfl, (by kspl_open sm), (by kspl_open ba), (by kspl_open ba), ok1, ok1, by omega, by omega, fun lj3 t3 v3 M10 H10 g10 hlj3 w3 => ?_⟩
        rcases w3 with ⟨_, ht3, q3, rfl, hq3⟩ | ⟨bad, _⟩
        · kspl_open go
          kspl_open lf
          kspl_open go
          rename_i _ M11 H11 g11 _ _ _ _ _ _
          kspl_open rg
          refine q_lcI (by kspl_open cur) (rw_range (K := K) (M := M11)).one (by kspl_open sm) pT (fun k => ((2 : Int), ((k : Nat) : Int))) (Nat.lt_of_le_of_lt (m := 60) (by omega) (by decide)) (fun j v M1 H1 F1 F0 hj hv m1 m2 kF => ?_) (fun l6 M12 H12 g12 hl6 => ?_)
          · obtain rfl := Rp.inv_int hv
            rw [Int.zero_add]
            kspl_open go
            exact kF _ _ _ (by kspl_open gx) (by kspl_open rpa)
          change Rp K M12 (V.ref l6) (.lst ((thsOf 2 e1.length).map pT)) at hl6
          have n2 : (thsOf 2 e1.length).length = e1.length := thsOf_len
          kspl_open go
          rename_i lu M13 H13 g13 hlu
          rw [← List.map_append] at hlu
          have sh6 : Shows [e1, e2, e1] (thsOf 0 e1.length ++ thsOf 2 e1.length) (addE e1 e1) := sh1.add sh3 (fun a ha b hb => by
            obtain ⟨_, _, rfl⟩ := List.mem_map.1 ha
            obtain ⟨_, _, rfl⟩ := List.mem_map.1 hb
            show (0 : Int) ≠ 2
            decide)
          have l6 : (thsOf 0 e1.length ++ thsOf 2 e1.length).length ≤ 60 := by rw [List.length_append]; omega
          kspl_open go
          refine ⟨M13, q3, _, _, _, _, _, rfl, (by kspl_open sm), (by kspl_open ba), (by kspl_open rpa), (by kspl_open rpa), sh6, by omega, fun M14 H14 g14 => ?_⟩
          kspl_open go
          exact kk _ _ (g9.trans (g10.trans (g11.trans (g12.trans (g13.trans g14)))).nil) (by kspl_open pl)
        · exfalso
          omega

theorem ok_l_pool (T : Txt K mg C_BadEnd C_BarbreaksError C_TooMany C_BadNumber C_Band C_Refused) : Dk P w K mg base CX0 1 "_law_pool" ["_law_script"] (spPool K) := by
  obtain ⟨f, fd, g, F, b⟩ := T.l_pool
  refine ⟨f, fd, g, F.kp, b, F.ok sc_l_pool (fun vs H Q E h => ?_) (fun cdv A outer s H vs Q E hr h => ?_)⟩
  · obtain ⟨a, ns, rfl, _⟩ := h
    rfl
  · obtain ⟨a, ns, rfl, hS, hlen, k⟩ := h
    refine ⟨_, (pss_cons (ps_set (i := 1) sc_l_pool.nd rfl (Or.inl rfl) pe_int)
  (pss_cons (ps_for PassesOwn.never rfl (pi_list (pv 0)) (pg_name (i := 2) sc_l_pool.nd rfl (Or.inl rfl))
  (pss_one (ps_set (i := 1) sc_l_pool.nd rfl (Or.inl rfl) (pe_op op_mod (pe_callTy call_int1 (by rfl) T.b_int (by decide +kernel) (pa_cons (pe_op op_add (pe_op op_add (pe_op op_mul (pv 1) pe_int) (pe_op op_mul (pe_callTy call_int1 (by rfl) T.b_int (by decide +kernel) (pa_cons (pv 2) pa_nil)) pe_int)) pe_int) pa_nil)) pe_int))))
  (pss_one (ps_ret (pe_lst (pa_cons pe_int (pa_cons pe_int (pa_cons pe_int (pa_cons (pv 1) (pa_cons (pe_callTy call_list_of (by rfl) T.b_list (by decide +kernel) (pa_cons (pv 0) pa_nil)) pa_nil)))))))))), ?_⟩
    refine ⟨_, rfl, a, rfl, ⟨_, hS⟩, for_list (K := K) (a := a) (xs := ns.map V.int) (fun i σ H' => ∃ (d : Int) (v : Option V), σ = [some (.ref a), some (.int d), v] ∧ H' = H) ⟨7, none, rfl, rfl⟩ (fun i σ H' _ ⟨_, _, _, e⟩ => by rw [e]; exact hS) ?_ ?_⟩
    · rintro i y σ H' hi ⟨d, v, rfl, rfl⟩
      obtain ⟨z, _, rfl⟩ := ints_at hi
      refine ⟨_, rfl, _, _, rfl, rfl, (.inr ⟨by decide, by decide⟩), _, rfl, .inl ⟨_, rfl, _, _, rfl, rfl, (.inr ⟨by decide, by decide⟩), _, _, rfl, rfl, _, _, rfl, rfl, .inl ⟨_, rfl, _, _, rfl, rfl, pos_m7, ?_⟩⟩⟩
      exact ⟨_, _, rfl, rfl⟩
    · rintro σ H' ⟨d, v, rfl, rfl⟩
      refine ⟨_, rfl, _, rfl, a, _, rfl, .inl hS, fun c hc => ⟨(by show 5 ≤ sizeLine; decide), fun p hp => ?_⟩⟩
      have npc : c ≠ p := fun e => by
        rw [← e, upd_same] at hp
        cases hp
      have hp0 : H' p = none := by
        rw [upd_ne npc.symm] at hp
        exact hp
      refine k p c _ ⟨⟨_, upd_same, 0, 0, 0, d, by decide, rfl⟩, (upd_ne npc).trans upd_same⟩ hp0 hc fun b o e => ?_
      rw [upd_ne (ne_of_none e hp0), upd_ne (ne_of_none e hc)]
      exact e

theorem ok_l_ends (T : Txt K mg C_BadEnd C_BarbreaksError C_TooMany C_BadNumber C_Band C_Refused) : Dk P w K mg base CX0 2 "_law_ends" ["_law_pool_here", "_law_count"] spEndsL := by
  have D_l_take := ok_l_take (P := P) (w := w) (base := base) T
  obtain ⟨f, fd, g, F, b⟩ := T.l_ends
  refine ⟨f, fd, g, F.kp, b, F.ok sc_l_ends (fun vs H Q E h => ?_) (fun cdv A outer s H vs Q E hr h => ?_)⟩
  · obtain ⟨p, c, ns, n, rfl, _⟩ := h
    rfl
  · obtain ⟨p, c, ns, n, rfl, hp, n0, n1, k⟩ := h
    refine ⟨_, (pss_cons (ps_set (i := 2) sc_l_ends.nd rfl (Or.inl rfl) (pe_ix ix_list (pe_lst (pa_cons (pv 1) (pa_cons pe_int (pa_cons pe_int (pa_cons pe_int pa_nil))))) (pe_d D_l_take (hr.mono (by decide)) pass0 (by rfl) (pa_cons (pv 0) (pa_cons pe_int pa_nil))) (fun _ _ => rfl)))
  (pss_cons (ps_set (i := 3) sc_l_ends.nd rfl (Or.inl rfl) (pe_lst pa_nil))
  (pss_cons (ps_for PassesOwn.never rfl (pi_range1 rfl T.b_range (pa_cons (pv 1) pa_nil)) (pg_name (i := 4) sc_l_ends.nd rfl (Or.inl rfl))
  (pss_cons (ps_set (i := 5) sc_l_ends.nd rfl (Or.inl rfl) (pv 4))
  (C8.pss_cut (ps_if (pt_cmpR op_gt (pv 4) pe_int (nomark _))
  (pss_one (ps_set (i := 5) sc_l_ends.nd rfl (Or.inl rfl) (pe_callB (call_max2 rfl) (by rfl) T.b_max (by decide +kernel) (pa_cons (pv 4) (pa_cons (pe_ix ix_list (pv 3) (pe_op op_sub (pv 4) pe_int) (fun _ _ => rfl)) pa_nil)))))
  pss_nil)
  (pss_one (ps_expr (pe_bm PySem.F.plainAttrs_list PySem.F.slot_list_append PySem.F.type_list_append mt_append (pv 3) (pa_cons (pe_op op_add (pv 5) (pe_d D_l_take (hr.mono (by decide)) pass0 (by rfl) (pa_cons (pv 0) (pa_cons (pe_callB (call_max2 rfl) (by rfl) T.b_max (by decide +kernel) (pa_cons pe_int (pa_cons (pe_callB (call_min2 rfl) (by rfl) T.b_min (by decide +kernel) (pa_cons (pv 2) (pa_cons (pe_op op_sub (pv 1) (pv 5)) pa_nil))) pa_nil))) pa_nil)))) pa_nil)))))))
  (pss_one (ps_ret (pv 3)))))), ?_⟩
    refine ⟨_, rfl, (by show 4 ≤ sizeLine; decide), fun l nl => ?_⟩
    have s0 := Same.new (o := .lst [.int n, .int 2, .int 3, .int 6]) nl
    have hpl : p ≠ l := by
      obtain ⟨q, e, _⟩ := hp.at_
      exact ne_of_none e nl
    refine ⟨_, rfl, p, c, ns, _, rfl, hp.same s0, by decide, by decide +kernel, fun r H1 r0 r1 hp1 o1 => ?_⟩
    have hl1 : H1 l = some (.lst [.int n, .int 2, .int 3, .int 6]) := (o1 l hpl.symm).trans upd_same
    have b1 : But p H H1 := (But.of_same s0).trans (But.of_off o1)
    obtain ⟨wd, hwd⟩ : ∃ wd : Int, atI [V.int n, V.int 2, V.int 3, V.int 6] r = some (V.int wd) := by
      have : r = 0 ∨ r = 1 ∨ r = 2 ∨ r = 3 := by omega
      rcases this with rfl | rfl | rfl | rfl
      · exact ⟨_, rfl⟩
      · exact ⟨_, rfl⟩
      · exact ⟨_, rfl⟩
      · exact ⟨_, rfl⟩
    refine ⟨l, _, _, _, rfl, rfl, SqL.of hl1, hwd, (by show 0 ≤ sizeLine; decide), fun e ne => ?_⟩
    have hpe : p ≠ e := by
      obtain ⟨q, e1, _⟩ := hp1.at_
      exact ne_of_none e1 ne
    have hce : c ≠ e := ne_of_none hp1.cells ne
    have neH : H e = none := b1.free ne hpe.symm
    refine ⟨_, rfl, n, rfl, by omega, by omega, for_range (n := n.toNat) (fun i σ H' => ∃ (es : List Int) (x4 x5 : Option V), σ = [some (.ref p), some (.int n), some (.int wd), some (.ref e), x4, x5] ∧ es.length = i ∧ EndsPre n es ∧ H' e = some (.lst (iV es)) ∧ Pool ns c H' p ∧ But p H H')
      ⟨[], _, _, rfl, rfl, (fun j x hx => by simp at hx), upd_same, hp1.same (Same.new ne), b1.updN neH⟩ ?_ ?_⟩
    · rintro i σ H2 hi ⟨es, x4, x5, rfl, hlen, hpre, he2, hp2, b2⟩
      rw [Int.zero_add]
      refine ⟨_, rfl, fun σ H' => ∃ low : Int, σ = [some (.ref p), some (.int n), some (.int wd), some (.ref e), some (.int (i : Nat)), some (.int low)] ∧ H' = H2 ∧ (i : Int) ≤ low ∧ low < n ∧ ∀ x, 0 < i → es[i - 1]? = some x → x ≤ low, ?_, ?_⟩
      · refine ⟨_, rfl, _, _, rfl, rfl, _, rfl, ite2 (fun q => ?_) (fun q => ?_)⟩
        · have i0 : 0 < i := by have := of_decide_eq_true q; omega
          have hx : es[i - 1]? = some (es[i - 1]'(by omega)) := List.getElem?_eq_getElem (by omega)
          have hlt := (hpre (i - 1) _ hx).2.1
          refine ⟨_, rfl, _, rfl, _, rfl, _, _, rfl, rfl, e, _, _, .int (es[i - 1]'(by omega)), rfl, rfl, SqL.of he2, atI_ge (by omega) (by rw [List.getElem?_map, show ((i : Nat) : Int) - 1 = ((i - 1 : Nat) : Int) by omega, Int.toNat_natCast, hx]; rfl), _, _, rfl, ?_⟩
          refine ⟨_, rfl, rfl, ?_, ?_, ?_⟩
          · split <;> omega
          · split <;> omega
          · intro x _ hx2
            rw [hx] at hx2
            cases hx2
            split <;> omega
        · have i0 : i = 0 := by have := of_decide_eq_false (Bool.eq_false_iff.mpr q); omega
          exact ⟨_, rfl, rfl, Int.le_refl _, by omega, fun x z _ => by omega⟩
      rintro σ H3 ⟨low, rfl, rfl, l1, l2, l3⟩
      refine ⟨_, rfl, .inl ⟨rfl, _, SqL.of he2⟩, _, rfl, _, rfl, _, rfl, _, rfl, _, rfl, _, _, rfl, rfl, _, _, rfl, _, _, rfl, ?_⟩
      generalize hsz : (if (if n - low < wd then n - low else wd) > (1 : Int) then (if n - low < wd then n - low else wd) else (1 : Int)) = sz
      have z1 : 1 ≤ sz := by rw [← hsz]; split <;> omega
      have z2 : sz ≤ n - low := by rw [← hsz]; split <;> (try split) <;> omega
      refine ⟨p, c, ns, sz, rfl, hp2, by omega, log2_27 z1 (by omega), fun r2 H4 q0 q1 hp4 o4 => ⟨_, _, rfl, rfl, ?_⟩⟩
      have he4 : H4 e = some (.lst (iV es)) := (o4 e hpe.symm).trans he2
      refine ⟨e, _, _, rfl, rfl, he4, (by rw [List.length_map, hlen]; exact Nat.lt_of_lt_of_le (by omega : i < 1000) (by decide)), ?_⟩
      refine ⟨es ++ [low + r2], _, _, rfl, by rw [List.length_append, hlen]; rfl, ?_, ?_, hp4.off Off.upd hpe hce, (b2.trans (But.of_off o4)).updN neH⟩
      · exact hpre.snoc hlen (by omega) (by omega) (fun x i0 hx => by have := l3 x i0 hx; omega)
      · rw [upd_same, iV_snoc] <;> rfl
    · rintro σ H2 ⟨es, x4, x5, rfl, hlen, hpre, he2, hp2, b2⟩
      exact ⟨_, rfl, k e es _ ⟨by omega, hpre⟩ he2 neH hp2 b2⟩

theorem gx_ends {ns : List Int} {c p l : Addr} {M H H' : Hp} {o : HO} (m : Same M H) (n : M p = none) (h : Pool ns c H p) (h' : Pool ns c H' p) (b : But p H H') (e : H' l = some o) (new : H l = none) : Gx [p] M H (L2.upd M l o) H' := by
  refine ⟨Same.new (none_of m new), fun a u z => ?_, fun a u z y => b a u z (by simpa using y), fun a z => upd_ne fun y : a = l => z (y ▸ new), fun a z => ?_⟩
  · by_cases y : a = l
    · subst y
      rw [upd_same] at z
      rw [e, z]
    · rw [upd_ne y] at z
      exact b a u (m a u z) (fun x => by rw [x, n] at z; cases z)
  · by_cases y : a = p
    · rw [y]
      exact h'.some
    · cases x : H a with
      | none => exact absurd x z
      | some u => rw [b a u x y]; simp
theorem ok_law (T : Txt K mg C_BadEnd C_BarbreaksError C_TooMany C_BadNumber C_Band C_Refused) : ∀ (f : Addr) (fd : FuncData), Fun K "law" "law" s_law f fd → FnOk P w K mg base CX0 10 f fd ["_law_script"] (spLaw K) := by
  intro f fd F
  have D_l_pool := ok_l_pool (P := P) (w := w) (base := base) T
  have D_l_take := ok_l_take (P := P) (w := w) (base := base) T
  have D_l_ends := ok_l_ends (P := P) (w := w) (base := base) T
  have D_l_shown := ok_l_shown (P := P) (w := w) (base := base) T
  have D_l_turned_kept := ok_l_turned_kept (P := P) (w := w) (base := base) T
  have D_l_parts_kept := ok_l_parts_kept (P := P) (w := w) (base := base) T
  have D_l_joins_kept := ok_l_joins_kept (P := P) (w := w) (base := base) T
  have h_c_Band := T.c_Band
  have h_n_Band_ends := T.n_Band_ends
  have D_Band := ok_Band_initX (P := P) (w := w) (base := base) T
  refine F.ok sc_law (fun vs H Q E h => ?_) (fun cdv A outer s H vs Q E hr h => ?_)
  · obtain ⟨a, ns, rfl, _⟩ := h
    rfl
  · obtain ⟨a, ns, rfl, hS, hlen, k⟩ := h
    refine ⟨_, (pss_cons (ps_set (i := 1) sc_law.nd rfl (Or.inl rfl) (pe_d D_l_pool (hr.mono (by decide)) pass0 (by rfl) (pa_cons (pv 0) pa_nil)))
  (pss_cons (ps_set (i := 2) sc_law.nd rfl (Or.inl rfl) (pe_lstQ (pa_cons (pe_d D_l_take (hr.mono (by decide)) pass0 (by rfl) (pa_cons (pv 1) (pa_cons pe_int pa_nil))) (pa_cons (pe_d D_l_take (hr.mono (by decide)) pass0 (by rfl) (pa_cons (pv 1) (pa_cons pe_int pa_nil))) pa_nil))))
  (pss_cons (ps_set (i := 3) sc_law.nd rfl (Or.inl rfl) (pe_d D_l_take (hr.mono (by decide)) pass0 (by rfl) (pa_cons (pv 1) (pa_cons pe_int pa_nil))))
  (C8.pss_cut (ps_if (pt_cmpR op_eq (pv 3) pe_int (nomark _))
  (pss_one (ps_set (i := 2) sc_law.nd rfl (Or.inl rfl) (pe_lstQ (pa_cons (pe_op op_add pe_int (pe_d D_l_take (hr.mono (by decide)) pass0 (by rfl) (pa_cons (pv 1) (pa_cons pe_int pa_nil)))) (pa_cons (pe_op op_add pe_int (pe_d D_l_take (hr.mono (by decide)) pass0 (by rfl) (pa_cons (pv 1) (pa_cons pe_int pa_nil)))) pa_nil)))))
  pss_nil)
  (C8.pss_cut (ps_if (pt_cmpR op_eq (pv 3) pe_int (nomark _))
  (pss_one (ps_set (i := 2) sc_law.nd rfl (Or.inl rfl) (pe_lstQ (pa_cons (pe_d D_l_take (hr.mono (by decide)) pass0 (by rfl) (pa_cons (pv 1) (pa_cons pe_int pa_nil))) (pa_cons (pe_d D_l_take (hr.mono (by decide)) pass0 (by rfl) (pa_cons (pv 1) (pa_cons pe_int pa_nil))) pa_nil)))))
  pss_nil)
  (pss_cons (ps_set (i := 4) sc_law.nd rfl (Or.inl rfl) (pe_lstQ (pa_cons (pe_d D_l_ends (hr.mono (by decide)) pass0 (by rfl) (pa_cons (pv 1) (pa_cons (pe_ix (ix_listC (K := K) rfl) (pv 2) pe_int (fun _ _ => rfl)) pa_nil))) (pa_cons (pe_d D_l_ends (hr.mono (by decide)) pass0 (by rfl) (pa_cons (pv 1) (pa_cons (pe_ix (ix_listC (K := K) rfl) (pv 2) pe_int (fun _ _ => rfl)) pa_nil))) pa_nil))))
  (pss_cons (ps_expr (pe_bm PySem.F.plainAttrs_list PySem.F.slot_list_append PySem.F.type_list_append mt_append (pv 4) (pa_cons (pe_callTy (call_list_ofQ (K := K) rfl) (by rfl) T.b_list (by decide +kernel) (pa_cons (pe_ix (ix_listC (K := K) rfl) (pv 4) pe_int (fun _ _ => rfl)) pa_nil)) pa_nil)))
  (pss_cons (ps_set (i := 5) sc_law.nd rfl (Or.inl rfl) (pe_lstQ (pa_cons (pe_mkd D_Band (hr.mono (by decide)) passE (by rfl) (pa_cons (pe_callTy (call_list_ofQ (K := K) rfl) (by rfl) T.b_list (by decide +kernel) (pa_cons (pe_ix (ix_listC (K := K) rfl) (pv 4) pe_int (fun _ _ => rfl)) pa_nil)) pa_nil)) (pa_cons (pe_mkd D_Band (hr.mono (by decide)) passE (by rfl) (pa_cons (pe_callTy (call_list_ofQ (K := K) rfl) (by rfl) T.b_list (by decide +kernel) (pa_cons (pe_ix (ix_listC (K := K) rfl) (pv 4) pe_int (fun _ _ => rfl)) pa_nil)) pa_nil)) pa_nil))))
  (pss_cons (ps_for PassesOwn.never rfl (pi_listC (K := K) rfl (pe_lstQ (pa_cons pe_int (pa_cons pe_int pa_nil)))) (pg_name (i := 6) sc_law.nd rfl (Or.inr rfl))
  (pss_cons (ps_setLc (i := 7) (own := [("_law_k", 8)]) (g := gName 8) (tt := tYes) (by rfl) sc_law.nd rfl rfl (sw_true rfl rfl rfl (by decide +kernel)) (pi_range1 rfl T.b_range (pa_cons (pe_ix (ix_listC (K := K) rfl) (pv 2) (pv 6) (fun _ _ => rfl)) pa_nil)) (blkOk_by (own := [("_law_k", 8)]) (N := ["_law_script", "_law_pool_here", "_law_counts", "_law_way", "_law_lists", "_law_bands", "_law_at", "_law_things", "_law_k"]) (sc := defScope s_law) (by decide +kernel)) (fun _ _ _ _ _ => pg_name (i := 8) sc_law.nd rfl (Or.inl rfl)) (fun _ _ _ _ _ => pts_nil) (fun _ _ _ _ _ => (pe_tupQ (pa_cons (pv 6) (pa_cons (pv 8) pa_nil)))))
  (pss_cons (ps_if (PW.pt (pw_or (pt_not (pt_val (pe_d D_l_shown (hr.mono (by decide)) pass0 (by rfl) (pa_cons (pe_ix (ix_listC (K := K) rfl) (pv 5) (pv 6) (fun _ _ => rfl)) (pa_cons (pv 4) (pa_cons (pv 7) pa_nil)))))) (pw_or1 (pt_not (pt_val (pe_d D_l_turned_kept (hr.mono (by decide)) pass0 (by rfl) (pa_cons (pe_ix (ix_listC (K := K) rfl) (pv 5) (pv 6) (fun _ _ => rfl)) (pa_cons (pv 4) (pa_cons (pv 7) pa_nil)))))))))
  (pss_one (ps_ret pe_bl))
  pss_nil)
  (pss_one (ps_if (pt_not (pt_val (pe_d D_l_parts_kept (hr.mono (by decide)) pass0 (by rfl) (pa_cons (pv 1) (pa_cons (pe_ix (ix_listC (K := K) rfl) (pv 5) (pv 6) (fun _ _ => rfl)) (pa_cons (pv 4) (pa_cons (pv 7) pa_nil)))))))
  (pss_one (ps_ret pe_bl))
  pss_nil)))))
  (pss_cons (ps_if (pt_not (pt_val (pe_d D_l_joins_kept (hr.mono (by decide)) pass0 (by rfl) (pa_cons (pv 1) (pa_cons (pv 5) (pa_cons (pv 4) pa_nil))))))
  (pss_one (ps_ret pe_bl))
  pss_nil)
  (pss_cons (ps_for PassesOwn.never rfl (pi_listC (K := K) rfl (pe_lstQ (pa_cons pe_int (pa_cons pe_int pa_nil)))) (pg_name (i := 6) sc_law.nd rfl (Or.inr rfl))
  (pss_one (ps_if (pt_not (pt_val (pe_d D_l_shown (hr.mono (by decide)) pass0 (by rfl) (pa_cons (pe_ix (ix_listC (K := K) rfl) (pv 5) (pv 6) (fun _ _ => rfl)) (pa_cons (pv 4) (pa_cons (pe_lc (own := [("_law_k", 8)]) (g := gName 8) (tt := tYes) (by rfl) sc_law.nd (pi_range1 rfl T.b_range (pa_cons (pe_ix (ix_listC (K := K) rfl) (pv 2) (pv 6) (fun _ _ => rfl)) pa_nil)) (blkOk_by (own := [("_law_k", 8)]) (N := ["_law_script", "_law_pool_here", "_law_counts", "_law_way", "_law_lists", "_law_bands", "_law_at", "_law_things", "_law_k"]) (sc := defScope s_law) (by decide +kernel)) (fun _ _ _ _ _ => pg_name (i := 8) sc_law.nd rfl (Or.inl rfl)) (fun _ _ _ _ _ => pts_nil) (fun _ _ _ _ _ => (pe_tupQ (pa_cons (pv 6) (pa_cons (pv 8) pa_nil))))) pa_nil))))))
  (pss_one (ps_ret pe_bl))
  pss_nil)))
  (pss_one (ps_ret pe_bl))))))))))))), ?_⟩
    kspl_open go
    refine ⟨a, ns, rfl, hS, hlen, fun p c H0 hp0 _ _ s0 => ?_⟩
    clear s0
    obtain ⟨M, nMp, m0⟩ : ∃ M : Hp, M p = none ∧ Same M H0 := ⟨fun _ => none, rfl, fun _ _ e => nomatch e⟩
    kspl_open go
    rename_i r1 _ _ _ _ _ r2 _ _ _ hpB _ q M1 H1 g1 hq1
    have hp1 : Pool ns c H1 p := (by kspl_open pl)
    have nM1 : M1 p = none := (g1.f p hpB.some).trans nMp
    clear hpB
    kspl_open go
    rename_i wy H2 w0 w1 hp2 g2
    refine ⟨fun σ H' => ∃ (q : Addr) (n1 n2 wy : Int) (M' : Hp), σ = [some (V.ref a), some (V.ref p), some (V.ref q), some (V.int wy), none, none, none, none, none] ∧ M' p = none ∧ Same M' H' ∧ Pool ns c H' p ∧ Rp K M' (V.ref q) (Tr.lst [Tr.int n1, Tr.int n2]) ∧ 0 ≤ n1 ∧ n1 ≤ 60 ∧ 0 ≤ n2 ∧ n2 ≤ 60, ?_, ?_⟩
    · kspl_open go
      show ite _ _ _
      refine ite2 (fun z => ?_) (fun z => ⟨q, r1, r2, wy, M1, rfl, nM1, (by kspl_open sm), hp2, hq1, by omega, by omega, by omega, by omega⟩)
      kspl_open go
      rename_i s1 _ _ _ _ _ s2 _ _ _ hpS _ q2 M5 H5 g5 hq5
      exact ⟨q2, _, _, wy, M5, rfl, (g5.f p hpS.some).trans nM1, g5.h, (by kspl_open pl), hq5, by first | omega | (dsimp only; omega), by first | omega | (dsimp only; omega), by first | omega | (dsimp only; omega), by first | omega | (dsimp only; omega)⟩
    clear hp1 hq1 nM1 hp2 g1 g2
    rintro σ H1 ⟨q, n1, n2, wy, M1, rfl, nM1, m1, hp1, hq1, a1, b1, a2, b2⟩
    refine ⟨fun σ H' => ∃ (q : Addr) (n1 n2 wy : Int) (M' : Hp), σ = [some (V.ref a), some (V.ref p), some (V.ref q), some (V.int wy), none, none, none, none, none] ∧ M' p = none ∧ Same M' H' ∧ Pool ns c H' p ∧ Rp K M' (V.ref q) (Tr.lst [Tr.int n1, Tr.int n2]) ∧ 0 ≤ n1 ∧ n1 ≤ 60 ∧ 0 ≤ n2 ∧ n2 ≤ 60, ?_, ?_⟩
    · kspl_open go
      show ite _ _ _
      refine ite2 (fun z => ?_) (fun z => ⟨q, n1, n2, wy, M1, rfl, nM1, m1, hp1, hq1, a1, b1, a2, b2⟩)
      kspl_open go
      rename_i s1 _ _ _ _ _ s2 _ _ _ hpS _ q2 M5 H5 g5 hq5
      exact ⟨q2, _, _, wy, M5, rfl, (g5.f p hpS.some).trans nM1, g5.h, (by kspl_open pl), hq5, by omega, by omega, by omega, by omega⟩
    clear hp1 hq1 m1 nM1 a1 b1 a2 b2
    rintro σ H2 ⟨q, n1, n2, wy, M2, rfl, nM2, m2, hp2, hq2, a1, b1, a2, b2⟩
    kspl_open go
    refine ⟨p, c, ns, n1, rfl, (by kspl_open pl), a1, by omega, fun l1 e1 H3 ok1 hl1 new1 hp3 bt3 => ?_⟩
    have g3 := gx_ends m2 nM2 hp2 hp3 bt3 hl1 new1
    have hr1 : Rp K (L2.upd M2 l1 (.lst (iV e1))) (V.ref l1) (.lst (iT e1)) := .lst upd_same rpInts
    have nM3 : (L2.upd M2 l1 (.lst (iV e1))) p = none := (g3.f p hp2.some).trans nM2
    have ln1 := ok1.len
    have okd1 := ok1.d
    generalize L2.upd M2 l1 (.lst (iV e1)) = M3 at g3 hr1 nM3
    clear hl1 new1 bt3
    kspl_open go
    refine ⟨p, c, ns, n2, rfl, (by kspl_open pl), a2, by omega, fun l2 e2 H4 ok2 hl2 new2 hp4 bt4 => ?_⟩
    have g4 := gx_ends g3.h nM3 hp3 hp4 bt4 hl2 new2
    have hr2 : Rp K (L2.upd M3 l2 (.lst (iV e2))) (V.ref l2) (.lst (iT e2)) := .lst upd_same rpInts
    have nM4 : (L2.upd M3 l2 (.lst (iV e2))) p = none := (g4.f p hp3.some).trans nM3
    have ln2 := ok2.len
    have okd2 := ok2.d
    generalize L2.upd M3 l2 (.lst (iV e2)) = M4 at g4 hr2 nM4
    clear hl2 new2 bt4
    conv => whnf
    refine q_lstO g4.h (by kspl_open sz) (fun L H5 k5 hL nL newL => ?_)
    have g5 : Gx [L] M4 H4 M4 H5 := k5.g.nil
    kspl_open go
    refine ⟨tyV_own hL, ?_⟩
    refine ⟨_, rfl, ?_⟩
    refine ⟨L, _, 0, _, rfl, rfl, SqL.of hL, rfl, ?_⟩
    conv => whnf
    refine q_listL k5.g.h (by kspl_open rpa) (fun _ l3 M6 H6 g6 hr3 => ?_)
    have hL6 := g6.s _ _ hL (by simp)
    kspl_open go
    refine q_app g6.h hL6 ((g6.f L (by rw [hL]; simp)).trans nL) (by show 2 < sizeLine; decide) (fun k7 hL7 => ?_)
    have g7 := (((Gx.trans g5 g6.nil).trans k7.g).drop newL).freeze ((g6.f L (by rw [hL]; simp)).trans nL) hL7 newL
    have s67 : Same M6 (L2.upd M6 L (.lst ([V.ref l1, V.ref l2] ++ [V.ref l3]))) := Same.new ((g6.f L (by rw [hL]; simp)).trans nL)
    have hx : Rp K (L2.upd M6 L (.lst ([V.ref l1, V.ref l2] ++ [V.ref l3]))) (.ref L) (essT [e1, e2, e1]) := .lst upd_same (.cons (((hr1.same g4.m).same g6.m).same s67) (.cons ((hr2.same g6.m).same s67) (.cons (hr3.same s67) .nil)))
    conv => whnf
    generalize L2.upd M6 L (.lst ([V.ref l1, V.ref l2] ++ [V.ref l3])) = M7 at g7 hx
    generalize L2.upd H6 L (.lst ([V.ref l1, V.ref l2] ++ [V.ref l3])) = H7 at g7 ⊢
    clear k7 hL7 s67 hL6 hr3 g6 g5 k5 hL nL newL
    have hp7 : Pool ns c H7 p := (by kspl_open pl)
    have nM7 : M7 p = none := (g7.f p hp4.some).trans nM4
    have hr1' := (hr1.same g4.m).same g7.m
    have hr2' := hr2.same g7.m
    have hq7 := ((hq2.same g3.m).same g4.m).same g7.m
    clear hr1 hr2 hq2 hp4 nM4 hp3 nM3 hp2 nM2 m2
    have m7 := g7.h
    clear g7 g3 g4
    kspl_open go
    refine q_mkBand (by kspl_open rpa) (by kspl_open sm) okd1 (by omega) (fun B1 M8 H8 hb1 g8 => ?_)
    kspl_open go
    refine q_mkBand (by kspl_open rpa) (by kspl_open sm) okd2 (by omega) (fun B2 M9 H9 hb2 g9 => ?_)
    refine ⟨rfl, ?_⟩
    conv => whnf
    refine ⟨(by kspl_open sz), fun bl H10 hn => ?_⟩
    obtain ⟨nb, rfl⟩ := hn
    have hp9 : Pool ns c H9 p := (by kspl_open pl)
    have nM9 : M9 p = none := Pool.out hp7 (show Gx [] M7 H7 M9 H9 from (by kspl_open gx)) nM7
    have g10 := Gx.new (ps := []) (o := .lst [V.ref B1, V.ref B2]) g9.h nb
    have hbl : (L2.upd M9 bl (.lst [V.ref B1, V.ref B2])) bl = some (.lst [V.ref B1, V.ref B2]) := upd_same
    have hp10 := hp9.gx g10
    have nM10 := (g10.f p hp9.some).trans nM9
    generalize L2.upd M9 bl (.lst [V.ref B1, V.ref B2]) = M10 at g10 hbl nM10
    generalize L2.upd H9 bl (.lst [V.ref B1, V.ref B2]) = H10 at g10 hp10 ⊢
    have hb1' : BandAt C_Band M10 B1 e1 := (by kspl_open ba)
    have hb2' : BandAt C_Band M10 B2 e2 := (by kspl_open ba)
    have hx10 : Rp K M10 (.ref L) (essT [e1, e2, e1]) := (by kspl_open rpa)
    have hq10 : Rp K M10 (.ref q) (.lst [.int n1, .int n2]) := (by kspl_open rpa)
    have m10 := g10.h
    clear g10 g9 g8 hb1 hb2 hx hq7 hp9 nM9 hp7 nM7 m7 hr1' hr2' nb
    obtain rfl : n1 = (e1.length : Int) := by omega
    obtain rfl : n2 = (e2.length : Int) := by omega
    have sh1 : Shows [e1, e2, e1] (thsOf 0 e1.length) e1 := Shows.base (j := 0) (by simp) okd1
    have sh2 : Shows [e1, e2, e1] (thsOf 1 e2.length) e2 := Shows.base (j := 1) (by simp) okd2
    kspl_open go
    rename_i gw _ _ w
    have nMw := Pool.out hp10 gw nM10
    refine q_forM (as := [0, 1]) (χ := Tr.int) (by kspl_open cur) w (by kspl_open sm) [p] (fun i σ M' H' => ∃ x6 x7 x8, σ = [some (.ref a), some (.ref p), some (.ref q), some (.int wy), some (.ref L), some (.ref bl), x6, x7, x8] ∧ Pool ns c H' p) ⟨_, _, _, rfl, (by kspl_open pl)⟩ ?_ ?_
    · rintro i σ v M11 H11 N hi g11 hv ⟨x6, x7, x8, rfl, hp11⟩ kN
      have nM11 := (g11.f p (Pool.some (show Pool ns c _ p from hp10.gx gw))).trans nMw
      have hb11 : BandAt C_Band M11 B1 e1 := (hb1'.same gw.m).same g11.m
      have hb12 : BandAt C_Band M11 B2 e2 := (hb2'.same gw.m).same g11.m
      have hx11 := (hx10.same gw.m).same g11.m
      have hq11 := (hq10.same gw.m).same g11.m
      have hbl11 := g11.m _ _ (gw.m _ _ hbl)
      have hi3 : i = 0 ∨ i = 1 := by
        have hi2 : i < 2 := hi
        omega
      have m11 := g11.h
      rcases hi3 with rfl | rfl
      · obtain rfl : v = .int 0 := Rp.inv_int hv
        kspl_open go
        kspl_open rg
        refine q_lcI (by kspl_open cur) (rw_range (K := K) (M := M11)).one (by kspl_open sm) pT (fun k => ((0 : Int), ((k : Nat) : Int))) (Nat.lt_of_le_of_lt (m := 60) (by omega) (by decide)) (fun j v M1 H1 F1 F0 hj hv m1 m2 kF => ?_) (fun l M12 H12 g12 hl => ?_)
        · obtain rfl := Rp.inv_int hv
          rw [Int.zero_add]
          kspl_open go
          exact kF _ _ _ (by kspl_open gx) (by kspl_open rpa)
        change Rp K M12 (V.ref l) (.lst ((thsOf 0 e1.length).map pT)) at hl
        kspl_open go
        refine ⟨M12, B1, _, _, [e1, e2, e1], thsOf 0 e1.length, e1, rfl, (by kspl_open sm), (by kspl_open ba), (by kspl_open rpa), (by kspl_open rpa), sh1, by rw [thsOf_len]; omega, fun M13 H13 g13 => ?_⟩
        kspl_open go
        refine ⟨M13, B1, _, _, [e1, e2, e1], thsOf 0 e1.length, e1, rfl, (by kspl_open sm), (by kspl_open ba), (by kspl_open rpa), (by kspl_open rpa), sh1, by rw [thsOf_len]; omega, fun M14 H14 g14 => ?_⟩
        kspl_open go
        have g14' := g12.trans (g13.trans g14)
        have nM14 := (g14'.f p hp11.some).trans nM11
        have hp14 : Pool ns c H14 p := hp11.gx g14'
        clear g14'
        refine ⟨M14, p, c, B1, _, _, ns, [e1, e2, e1], thsOf 0 e1.length, e1, rfl, (by kspl_open sm), hp14, nM14, (by kspl_open ba), (by kspl_open rpa), (by kspl_open rpa), sh1, by rw [thsOf_len]; omega, fun M15 H15 g15 hp15 => ?_⟩
        kspl_open go
        exact kN _ _ _ (g11.trans ((g12.trans (g13.trans g14)).nil.trans g15)) ⟨_, _, _, rfl, hp15⟩
      · obtain rfl : v = .int 1 := Rp.inv_int hv
        kspl_open go
        kspl_open rg
        refine q_lcI (by kspl_open cur) (rw_range (K := K) (M := M11)).one (by kspl_open sm) pT (fun k => ((1 : Int), ((k : Nat) : Int))) (Nat.lt_of_le_of_lt (m := 60) (by omega) (by decide)) (fun j v M1 H1 F1 F0 hj hv m1 m2 kF => ?_) (fun l M12 H12 g12 hl => ?_)
        · obtain rfl := Rp.inv_int hv
          rw [Int.zero_add]
          kspl_open go
          exact kF _ _ _ (by kspl_open gx) (by kspl_open rpa)
        change Rp K M12 (V.ref l) (.lst ((thsOf 1 e2.length).map pT)) at hl
        kspl_open go
        refine ⟨M12, B2, _, _, [e1, e2, e1], thsOf 1 e2.length, e2, rfl, (by kspl_open sm), (by kspl_open ba), (by kspl_open rpa), (by kspl_open rpa), sh2, by rw [thsOf_len]; omega, fun M13 H13 g13 => ?_⟩
        kspl_open go
        refine ⟨M13, B2, _, _, [e1, e2, e1], thsOf 1 e2.length, e2, rfl, (by kspl_open sm), (by kspl_open ba), (by kspl_open rpa), (by kspl_open rpa), sh2, by rw [thsOf_len]; omega, fun M14 H14 g14 => ?_⟩
        kspl_open go
        have g14' := g12.trans (g13.trans g14)
        have nM14 := (g14'.f p hp11.some).trans nM11
        have hp14 : Pool ns c H14 p := hp11.gx g14'
        clear g14'
        refine ⟨M14, p, c, B2, _, _, ns, [e1, e2, e1], thsOf 1 e2.length, e2, rfl, (by kspl_open sm), hp14, nM14, (by kspl_open ba), (by kspl_open rpa), (by kspl_open rpa), sh2, by rw [thsOf_len]; omega, fun M15 H15 g15 hp15 => ?_⟩
        kspl_open go
        exact kN _ _ _ (g11.trans ((g12.trans (g13.trans g14)).nil.trans g15)) ⟨_, _, _, rfl, hp15⟩
    · rintro σ M11 H11 g11 ⟨x6, x7, x8, rfl, hp11⟩
      have nM11 := (g11.f p (Pool.some (show Pool ns c _ p from hp10.gx gw))).trans nMw
      have hb11 : BandAt C_Band M11 B1 e1 := (hb1'.same gw.m).same g11.m
      have hb12 : BandAt C_Band M11 B2 e2 := (hb2'.same gw.m).same g11.m
      have hx11 := (hx10.same gw.m).same g11.m
      have hq11 := (hq10.same gw.m).same g11.m
      have hbl11 := g11.m _ _ (gw.m _ _ hbl)
      have m11 := g11.h
      clear w g11 gw hb1' hb2' hx10 hq10 hbl hp10 nM10 m10 nMw
      kspl_open go
      refine ⟨M11, p, c, bl, B1, B2, _, ns, e1, e2, rfl, (by kspl_open sm), (by kspl_open pl), nM11, hbl11, hb11, hb12, hx11, okd1, okd2, by omega, by omega, fun M12 H12 g12 hp12 => ?_⟩
      have hb21 := hb11.same g12.m
      have hb22 := hb12.same g12.m
      have hx12 := hx11.same g12.m
      have hq12 := hq11.same g12.m
      have hbl12 := g12.m _ _ hbl11
      have m12 := g12.h
      clear g12 hb11 hb12 hx11 hq11 hbl11 m11
      kspl_open go
      rename_i gv _ _ w
      refine q_forM (as := [0, 1]) (χ := Tr.int) (by kspl_open cur) w (by kspl_open sm) [p] (fun i σ M' H' => ∃ x6 x7 x8, σ = [some (.ref a), some (.ref p), some (.ref q), some (.int wy), some (.ref L), some (.ref bl), x6, x7, x8]) ⟨_, _, _, rfl⟩ ?_ ?_
      · rintro i σ v M13 H13 N hi g13 hv ⟨x6, x7, x8, rfl⟩ kN
        have hb31 : BandAt C_Band M13 B1 e1 := (hb21.same gv.m).same g13.m
        have hb32 : BandAt C_Band M13 B2 e2 := (hb22.same gv.m).same g13.m
        have hx13 := (hx12.same gv.m).same g13.m
        have hq13 := (hq12.same gv.m).same g13.m
        have hbl13 := g13.m _ _ (gv.m _ _ hbl12)
        have hi3 : i = 0 ∨ i = 1 := by
          have hi2 : i < 2 := hi
          omega
        have m13 := g13.h
        rcases hi3 with rfl | rfl
        · obtain rfl : v = .int 0 := Rp.inv_int hv
          kspl_open go
          kspl_open rg
          refine q_lcI (by kspl_open cur) (rw_range (K := K) (M := M13)).one (by kspl_open sm) pT (fun k => ((0 : Int), ((k : Nat) : Int))) (Nat.lt_of_le_of_lt (m := 60) (by omega) (by decide)) (fun j v M1 H1 F1 F0 hj hv m1 m2 kF => ?_) (fun l M14 H14 g14 hl => ?_)
          · obtain rfl := Rp.inv_int hv
            rw [Int.zero_add]
            kspl_open go
            exact kF _ _ _ (by kspl_open gx) (by kspl_open rpa)
          change Rp K M14 (V.ref l) (.lst ((thsOf 0 e1.length).map pT)) at hl
          kspl_open go
          refine ⟨M14, B1, _, _, [e1, e2, e1], thsOf 0 e1.length, e1, rfl, (by kspl_open sm), (by kspl_open ba), (by kspl_open rpa), (by kspl_open rpa), sh1, by rw [thsOf_len]; omega, fun M15 H15 g15 => ?_⟩
          kspl_open go
          exact kN _ _ _ (g13.trans (g14.trans g15).nil) ⟨_, _, _, rfl⟩
        · obtain rfl : v = .int 1 := Rp.inv_int hv
          kspl_open go
          kspl_open rg
          refine q_lcI (by kspl_open cur) (rw_range (K := K) (M := M13)).one (by kspl_open sm) pT (fun k => ((1 : Int), ((k : Nat) : Int))) (Nat.lt_of_le_of_lt (m := 60) (by omega) (by decide)) (fun j v M1 H1 F1 F0 hj hv m1 m2 kF => ?_) (fun l M14 H14 g14 hl => ?_)
          · obtain rfl := Rp.inv_int hv
            rw [Int.zero_add]
            kspl_open go
            exact kF _ _ _ (by kspl_open gx) (by kspl_open rpa)
          change Rp K M14 (V.ref l) (.lst ((thsOf 1 e2.length).map pT)) at hl
          kspl_open go
          refine ⟨M14, B2, _, _, [e1, e2, e1], thsOf 1 e2.length, e2, rfl, (by kspl_open sm), (by kspl_open ba), (by kspl_open rpa), (by kspl_open rpa), sh2, by rw [thsOf_len]; omega, fun M15 H15 g15 => ?_⟩
          kspl_open go
          exact kN _ _ _ (g13.trans (g14.trans g15).nil) ⟨_, _, _, rfl⟩
      · rintro σ M13 H13 g13 ⟨x6, x7, x8, rfl⟩
        kspl_open go
        exact k _


end
theorem all_mk {l : PySem.W.OpenLaw} {w : World} {K : PySem.W.Frag} {h : Heap} {mg : Str → Option Value} {fa : Addr} (X : K.In h) (G : h.Ns mainGlobals mg) (hfa : mg "law" = some (.ref fa))
    {C_BadEnd : Addr} {C_BarbreaksError : Addr} {C_TooMany : Addr} {C_BadNumber : Addr} {C_Band : Addr} {C_Refused : Addr} {f1 : Addr} {od1 an1 : Option Addr} {sl1 : Array (Option Value)} {oc1 kV1 dc1 pm1 cd1 ct1 : Value} {f4 : Addr} {od4 an4 : Option Addr} {sl4 : Array (Option Value)} {oc4 kV4 dc4 pm4 cd4 ct4 : Value} {f6 : Addr} {od6 an6 : Option Addr} {sl6 : Array (Option Value)} {oc6 kV6 dc6 pm6 cd6 ct6 : Value} {nm6 qn6 : Str} {N6 : Addr} {bs6 sub6 : List Value} {sn6 : List Str} {ab6 : Bool} {col6 : Option Bool} {dd6 : Option Addr} {m06 m16 m26 m36 m56 : Option Value} {f9 : Addr} {od9 an9 : Option Addr} {sl9 : Array (Option Value)} {oc9 kV9 dc9 pm9 cd9 ct9 : Value} {nm9 qn9 : Str} {N9 : Addr} {bs9 sub9 : List Value} {sn9 : List Str} {ab9 : Bool} {col9 : Option Bool} {dd9 : Option Addr} {m09 m19 m29 m39 m59 : Option Value} {f13 : Addr} {od13 an13 : Option Addr} {sl13 : Array (Option Value)} {oc13 kV13 dc13 pm13 cd13 ct13 : Value} {nm13 qn13 : Str} {N13 : Addr} {bs13 sub13 : List Value} {sn13 : List Str} {ab13 : Bool} {col13 : Option Bool} {dd13 : Option Addr} {m013 m113 m213 m313 m513 : Option Value} {f16 : Addr} {od16 an16 : Option Addr} {sl16 : Array (Option Value)} {oc16 kV16 dc16 pm16 cd16 ct16 : Value} {u17 : Value} {f18 : Addr} {od18 an18 : Option Addr} {sl18 : Array (Option Value)} {oc18 kV18 dc18 pm18 cd18 ct18 : Value} {f19 : Addr} {od19 an19 : Option Addr} {sl19 : Array (Option Value)} {oc19 kV19 dc19 pm19 cd19 ct19 : Value} {f23 : Addr} {od23 an23 : Option Addr} {sl23 : Array (Option Value)} {oc23 kV23 dc23 pm23 cd23 ct23 : Value} {f25 : Addr} {od25 an25 : Option Addr} {sl25 : Array (Option Value)} {oc25 kV25 dc25 pm25 cd25 ct25 : Value} {f26 : Addr} {od26 an26 : Option Addr} {sl26 : Array (Option Value)} {oc26 kV26 dc26 pm26 cd26 ct26 : Value} {f29 : Addr} {od29 an29 : Option Addr} {sl29 : Array (Option Value)} {oc29 kV29 dc29 pm29 cd29 ct29 : Value} {f30 : Addr} {od30 an30 : Option Addr} {sl30 : Array (Option Value)} {oc30 kV30 dc30 pm30 cd30 ct30 : Value} {f31 : Addr} {od31 an31 : Option Addr} {sl31 : Array (Option Value)} {oc31 kV31 dc31 pm31 cd31 ct31 : Value} {f33 : Addr} {od33 an33 : Option Addr} {sl33 : Array (Option Value)} {oc33 kV33 dc33 pm33 cd33 ct33 : Value} {f36 : Addr} {od36 an36 : Option Addr} {sl36 : Array (Option Value)} {oc36 kV36 dc36 pm36 cd36 ct36 : Value} {f37 : Addr} {od37 an37 : Option Addr} {sl37 : Array (Option Value)} {oc37 kV37 dc37 pm37 cd37 ct37 : Value} {f40 : Addr} {od40 an40 : Option Addr} {sl40 : Array (Option Value)} {oc40 kV40 dc40 pm40 cd40 ct40 : Value} {f41 : Addr} {od41 an41 : Option Addr} {sl41 : Array (Option Value)} {oc41 kV41 dc41 pm41 cd41 ct41 : Value} {f42 : Addr} {od42 an42 : Option Addr} {sl42 : Array (Option Value)} {oc42 kV42 dc42 pm42 cd42 ct42 : Value} {f45 : Addr} {od45 an45 : Option Addr} {sl45 : Array (Option Value)} {oc45 kV45 dc45 pm45 cd45 ct45 : Value} {f56 : Addr} {od56 an56 : Option Addr} {sl56 : Array (Option Value)} {oc56 kV56 dc56 pm56 cd56 ct56 : Value} {f57 : Addr} {od57 an57 : Option Addr} {sl57 : Array (Option Value)} {oc57 kV57 dc57 pm57 cd57 ct57 : Value} {f58 : Addr} {od58 an58 : Option Addr} {sl58 : Array (Option Value)} {oc58 kV58 dc58 pm58 cd58 ct58 : Value} {f67 : Addr} {od67 an67 : Option Addr} {sl67 : Array (Option Value)} {oc67 kV67 dc67 pm67 cd67 ct67 : Value} {f68 : Addr} {od68 an68 : Option Addr} {sl68 : Array (Option Value)} {oc68 kV68 dc68 pm68 cd68 ct68 : Value} {f69 : Addr} {od69 an69 : Option Addr} {sl69 : Array (Option Value)} {oc69 kV69 dc69 pm69 cd69 ct69 : Value} {f70 : Addr} {od70 an70 : Option Addr} {sl70 : Array (Option Value)} {oc70 kV70 dc70 pm70 cd70 ct70 : Value}
    (a1 : PySem.W.nsIn K mainGlobals "_law_take" = some (some (.ref f1)))
    (l1 : K.lookup f1 = some ⟨oc1, od1, .func (PySem.W.fnOf "_law_take" "_law_take" (defArgs s_l_take) (defBody s_l_take) (defScope s_l_take) .none kV1 dc1 pm1 an1 cd1 ct1), sl1⟩)
    (c1 : PySem.W.codeIn K cd1 "_law_take" = true)
    (k1 : PySem.W.keepIn K (.ref f1) = true)
    (z2 : PySem.W.nsIn K mainGlobals "int" = some none)
    (z3 : PySem.W.nsIn K mainGlobals "len" = some none)
    (a4 : PySem.W.nsIn K mainGlobals "_law_big" = some (some (.ref f4)))
    (l4 : K.lookup f4 = some ⟨oc4, od4, .func (PySem.W.fnOf "_law_big" "_law_big" (defArgs s_l_big) (defBody s_l_big) (defScope s_l_big) .none kV4 dc4 pm4 an4 cd4 ct4), sl4⟩)
    (c4 : PySem.W.codeIn K cd4 "_law_big" = true)
    (k4 : PySem.W.keepIn K (.ref f4) = true)
    (z5 : PySem.W.nsIn K mainGlobals "range" = some none)
    (g6 : PySem.W.nsIn K mainGlobals "BadEnd" = some (some (.ref C_BadEnd)))
    (x6 : K.lookup C_BadEnd = some (excClassObj nm6 qn6 C_BadEnd N6 bs6 [.ref C_BarbreaksError, .type "ValueError", .type "Exception", .type "BaseException", .type "object"] true sn6 sub6 ab6 col6 dd6 m06 m16 m26 m36 m56 "ValueError.__new__"))
    (sa6 : PySem.W.findIn K (.ref C_BadEnd) "__setattr__" = some (some (.builtin "object.__setattr__")))
    (eC6 : PySem.W.subIn K (.ref C_BadEnd) (.type "BaseException") = some true)
    (tC6 : PySem.W.typeIn K (.ref C_BadEnd) = some (.type "type"))
    (kC6 : PySem.W.keepIn K (.ref C_BadEnd) = true)
    (a6 : PySem.W.findIn K (.ref C_BadEnd) "__init__" = some (some (.ref f6)))
    (t6 : PySem.W.typeIn K (.ref f6) = some (.type "function"))
    (l6 : K.lookup f6 = some ⟨oc6, od6, .func (PySem.W.fnOf "__init__" "BadEnd.__init__" (defArgs s_BadEnd_init) (defBody s_BadEnd_init) (defScope s_BadEnd_init) .none kV6 dc6 pm6 an6 cd6 ct6), sl6⟩)
    (c6 : PySem.W.codeIn K cd6 "BadEnd.__init__" = true)
    (k6 : PySem.W.keepIn K (.ref f6) = true)
    (g7 : PySem.W.nsIn K mainGlobals "BadEnd" = some (some (.ref C_BadEnd)))
    (xn8 : PySem.W.findIn K (.ref C_BadEnd) "index" = some none)
    (g9 : PySem.W.nsIn K mainGlobals "TooMany" = some (some (.ref C_TooMany)))
    (x9 : K.lookup C_TooMany = some (excClassObj nm9 qn9 C_TooMany N9 bs9 [.ref C_BarbreaksError, .type "ValueError", .type "Exception", .type "BaseException", .type "object"] true sn9 sub9 ab9 col9 dd9 m09 m19 m29 m39 m59 "ValueError.__new__"))
    (sa9 : PySem.W.findIn K (.ref C_TooMany) "__setattr__" = some (some (.builtin "object.__setattr__")))
    (eC9 : PySem.W.subIn K (.ref C_TooMany) (.type "BaseException") = some true)
    (tC9 : PySem.W.typeIn K (.ref C_TooMany) = some (.type "type"))
    (kC9 : PySem.W.keepIn K (.ref C_TooMany) = true)
    (a9 : PySem.W.findIn K (.ref C_TooMany) "__init__" = some (some (.ref f9)))
    (t9 : PySem.W.typeIn K (.ref f9) = some (.type "function"))
    (l9 : K.lookup f9 = some ⟨oc9, od9, .func (PySem.W.fnOf "__init__" "TooMany.__init__" (defArgs s_TooMany_init) (defBody s_TooMany_init) (defScope s_TooMany_init) .none kV9 dc9 pm9 an9 cd9 ct9), sl9⟩)
    (c9 : PySem.W.codeIn K cd9 "TooMany.__init__" = true)
    (k9 : PySem.W.keepIn K (.ref f9) = true)
    (g10 : PySem.W.nsIn K mainGlobals "TooMany" = some (some (.ref C_TooMany)))
    (xn11 : PySem.W.findIn K (.ref C_TooMany) "what" = some none)
    (xn12 : PySem.W.findIn K (.ref C_TooMany) "most" = some none)
    (g13 : PySem.W.nsIn K mainGlobals "BadNumber" = some (some (.ref C_BadNumber)))
    (x13 : K.lookup C_BadNumber = some (excClassObj nm13 qn13 C_BadNumber N13 bs13 [.ref C_BarbreaksError, .type "ValueError", .type "Exception", .type "BaseException", .type "object"] true sn13 sub13 ab13 col13 dd13 m013 m113 m213 m313 m513 "ValueError.__new__"))
    (sa13 : PySem.W.findIn K (.ref C_BadNumber) "__setattr__" = some (some (.builtin "object.__setattr__")))
    (eC13 : PySem.W.subIn K (.ref C_BadNumber) (.type "BaseException") = some true)
    (tC13 : PySem.W.typeIn K (.ref C_BadNumber) = some (.type "type"))
    (kC13 : PySem.W.keepIn K (.ref C_BadNumber) = true)
    (a13 : PySem.W.findIn K (.ref C_BadNumber) "__init__" = some (some (.ref f13)))
    (t13 : PySem.W.typeIn K (.ref f13) = some (.type "function"))
    (l13 : K.lookup f13 = some ⟨oc13, od13, .func (PySem.W.fnOf "__init__" "BadNumber.__init__" (defArgs s_BadNumber_init) (defBody s_BadNumber_init) (defScope s_BadNumber_init) .none kV13 dc13 pm13 an13 cd13 ct13), sl13⟩)
    (c13 : PySem.W.codeIn K cd13 "BadNumber.__init__" = true)
    (k13 : PySem.W.keepIn K (.ref f13) = true)
    (g14 : PySem.W.nsIn K mainGlobals "BadNumber" = some (some (.ref C_BadNumber)))
    (xn15 : PySem.W.findIn K (.ref C_BadNumber) "number" = some none)
    (a16 : PySem.W.nsIn K mainGlobals "check_things" = some (some (.ref f16)))
    (l16 : K.lookup f16 = some ⟨oc16, od16, .func (PySem.W.fnOf "check_things" "check_things" (defArgs s_check_things) (defBody s_check_things) (defScope s_check_things) .none kV16 dc16 pm16 an16 cd16 ct16), sl16⟩)
    (c16 : PySem.W.codeIn K cd16 "check_things" = true)
    (k16 : PySem.W.keepIn K (.ref f16) = true)
    (g17 : PySem.W.nsIn K mainGlobals "MOST_THINGS" = some (some u17))
    (r17 : RelV (.int 60) u17)
    (a18 : PySem.W.nsIn K mainGlobals "check_from_zero" = some (some (.ref f18)))
    (l18 : K.lookup f18 = some ⟨oc18, od18, .func (PySem.W.fnOf "check_from_zero" "check_from_zero" (defArgs s_check_from_zero) (defBody s_check_from_zero) (defScope s_check_from_zero) .none kV18 dc18 pm18 an18 cd18 ct18), sl18⟩)
    (c18 : PySem.W.codeIn K cd18 "check_from_zero" = true)
    (k18 : PySem.W.keepIn K (.ref f18) = true)
    (a19 : PySem.W.nsIn K mainGlobals "check_ends" = some (some (.ref f19)))
    (l19 : K.lookup f19 = some ⟨oc19, od19, .func (PySem.W.fnOf "check_ends" "check_ends" (defArgs s_check_ends) (defBody s_check_ends) (defScope s_check_ends) .none kV19 dc19 pm19 an19 cd19 ct19), sl19⟩)
    (c19 : PySem.W.codeIn K cd19 "check_ends" = true)
    (k19 : PySem.W.keepIn K (.ref f19) = true)
    (z20 : PySem.W.nsIn K mainGlobals "enumerate" = some none)
    (g21 : PySem.W.nsIn K mainGlobals "Band" = some (some (.ref C_Band)))
    (pg21 : PySem.W.plainGet K C_Band Str.empty = true)
    (hd21 : PySem.W.hasDictIn K C_Band = true)
    (po21 : PySem.W.plainOver K C_Band = true)
    (sa21 : PySem.W.findIn K (.ref C_Band) "__setattr__" = some (some (.builtin "object.__setattr__")))
    (n22 : PySem.W.findIn K (.ref C_Band) "ends" = some none)
    (mk23 : PySem.W.makesIn K C_Band = true)
    (a23 : PySem.W.findIn K (.ref C_Band) "__init__" = some (some (.ref f23)))
    (i23 : PySem.W.isFn K (.ref f23) = true)
    (kc23 : PySem.W.keepIn K (.ref C_Band) = true)
    (l23 : K.lookup f23 = some ⟨oc23, od23, .func (PySem.W.fnOf "__init__" "Band.__init__" (defArgs s_Band_init) (defBody s_Band_init) (defScope s_Band_init) .none kV23 dc23 pm23 an23 cd23 ct23), sl23⟩)
    (c23 : PySem.W.codeIn K cd23 "Band.__init__" = true)
    (k23 : PySem.W.keepIn K (.ref f23) = true)
    (z24 : PySem.W.nsIn K mainGlobals "tuple" = some none)
    (a25 : PySem.W.findIn K (.ref C_Band) "__len__" = some (some (.ref f25)))
    (i25 : PySem.W.isFn K (.ref f25) = true)
    (l25 : K.lookup f25 = some ⟨oc25, od25, .func (PySem.W.fnOf "__len__" "Band.__len__" (defArgs s_Band_len) (defBody s_Band_len) (defScope s_Band_len) .none kV25 dc25 pm25 an25 cd25 ct25), sl25⟩)
    (c25 : PySem.W.codeIn K cd25 "Band.__len__" = true)
    (k25 : PySem.W.keepIn K (.ref f25) = true)
    (a26 : PySem.W.findIn K (.ref C_Band) "near" = some (some (.ref f26)))
    (i26 : PySem.W.isFn K (.ref f26) = true)
    (l26 : K.lookup f26 = some ⟨oc26, od26, .func (PySem.W.fnOf "near" "Band.near" (defArgs s_Band_near) (defBody s_Band_near) (defScope s_Band_near) .none kV26 dc26 pm26 an26 cd26 ct26), sl26⟩)
    (c26 : PySem.W.codeIn K cd26 "Band.near" = true)
    (k26 : PySem.W.keepIn K (.ref f26) = true)
    (z27 : PySem.W.nsIn K mainGlobals "max" = some none)
    (z28 : PySem.W.nsIn K mainGlobals "min" = some none)
    (a29 : PySem.W.findIn K (.ref C_Band) "part" = some (some (.ref f29)))
    (i29 : PySem.W.isFn K (.ref f29) = true)
    (l29 : K.lookup f29 = some ⟨oc29, od29, .func (PySem.W.fnOf "part" "Band.part" (defArgs s_Band_part) (defBody s_Band_part) (defScope s_Band_part) .none kV29 dc29 pm29 an29 cd29 ct29), sl29⟩)
    (c29 : PySem.W.codeIn K cd29 "Band.part" = true)
    (k29 : PySem.W.keepIn K (.ref f29) = true)
    (a30 : PySem.W.findIn K (.ref C_Band) "mirrored" = some (some (.ref f30)))
    (i30 : PySem.W.isFn K (.ref f30) = true)
    (l30 : K.lookup f30 = some ⟨oc30, od30, .func (PySem.W.fnOf "mirrored" "Band.mirrored" (defArgs s_Band_mirrored) (defBody s_Band_mirrored) (defScope s_Band_mirrored) .none kV30 dc30 pm30 an30 cd30 ct30), sl30⟩)
    (c30 : PySem.W.codeIn K cd30 "Band.mirrored" = true)
    (k30 : PySem.W.keepIn K (.ref f30) = true)
    (a31 : PySem.W.findIn K (.ref C_Band) "__add__" = some (some (.ref f31)))
    (i31 : PySem.W.isFn K (.ref f31) = true)
    (l31 : K.lookup f31 = some ⟨oc31, od31, .func (PySem.W.fnOf "__add__" "Band.__add__" (defArgs s_Band_add) (defBody s_Band_add) (defScope s_Band_add) .none kV31 dc31 pm31 an31 cd31 ct31), sl31⟩)
    (c31 : PySem.W.codeIn K cd31 "Band.__add__" = true)
    (k31 : PySem.W.keepIn K (.ref f31) = true)
    (z32 : PySem.W.nsIn K mainGlobals "list" = some none)
    (a33 : PySem.W.nsIn K mainGlobals "_law_is_int" = some (some (.ref f33)))
    (l33 : K.lookup f33 = some ⟨oc33, od33, .func (PySem.W.fnOf "_law_is_int" "_law_is_int" (defArgs s_l_is_int) (defBody s_l_is_int) (defScope s_l_is_int) .none kV33 dc33 pm33 an33 cd33 ct33), sl33⟩)
    (c33 : PySem.W.codeIn K cd33 "_law_is_int" = true)
    (k33 : PySem.W.keepIn K (.ref f33) = true)
    (z34 : PySem.W.nsIn K mainGlobals "isinstance" = some none)
    (z35 : PySem.W.nsIn K mainGlobals "bool" = some none)
    (a36 : PySem.W.nsIn K mainGlobals "_law_near" = some (some (.ref f36)))
    (l36 : K.lookup f36 = some ⟨oc36, od36, .func (PySem.W.fnOf "_law_near" "_law_near" (defArgs s_l_near) (defBody s_l_near) (defScope s_l_near) .none kV36 dc36 pm36 an36 cd36 ct36), sl36⟩)
    (c36 : PySem.W.codeIn K cd36 "_law_near" = true)
    (k36 : PySem.W.keepIn K (.ref f36) = true)
    (a37 : PySem.W.nsIn K mainGlobals "_law_same" = some (some (.ref f37)))
    (l37 : K.lookup f37 = some ⟨oc37, od37, .func (PySem.W.fnOf "_law_same" "_law_same" (defArgs s_l_same) (defBody s_l_same) (defScope s_l_same) .none kV37 dc37 pm37 an37 cd37 ct37), sl37⟩)
    (c37 : PySem.W.codeIn K cd37 "_law_same" = true)
    (k37 : PySem.W.keepIn K (.ref f37) = true)
    (z38 : PySem.W.nsIn K mainGlobals "str" = some none)
    (z39 : PySem.W.nsIn K mainGlobals "dict" = some none)
    (a40 : PySem.W.nsIn K mainGlobals "_law_close" = some (some (.ref f40)))
    (l40 : K.lookup f40 = some ⟨oc40, od40, .func (PySem.W.fnOf "_law_close" "_law_close" (defArgs s_l_close) (defBody s_l_close) (defScope s_l_close) .none kV40 dc40 pm40 an40 cd40 ct40), sl40⟩)
    (c40 : PySem.W.codeIn K cd40 "_law_close" = true)
    (k40 : PySem.W.keepIn K (.ref f40) = true)
    (a41 : PySem.W.nsIn K mainGlobals "_law_ends_of" = some (some (.ref f41)))
    (l41 : K.lookup f41 = some ⟨oc41, od41, .func (PySem.W.fnOf "_law_ends_of" "_law_ends_of" (defArgs s_l_ends_of) (defBody s_l_ends_of) (defScope s_l_ends_of) .none kV41 dc41 pm41 an41 cd41 ct41), sl41⟩)
    (c41 : PySem.W.codeIn K cd41 "_law_ends_of" = true)
    (k41 : PySem.W.keepIn K (.ref f41) = true)
    (a42 : PySem.W.nsIn K mainGlobals "_law_shown" = some (some (.ref f42)))
    (l42 : K.lookup f42 = some ⟨oc42, od42, .func (PySem.W.fnOf "_law_shown" "_law_shown" (defArgs s_l_shown) (defBody s_l_shown) (defScope s_l_shown) .none kV42 dc42 pm42 an42 cd42 ct42), sl42⟩)
    (c42 : PySem.W.codeIn K cd42 "_law_shown" = true)
    (k42 : PySem.W.keepIn K (.ref f42) = true)
    (ia43 : PySem.W.findIn K (.ref C_Band) "__class__" = some (some (.builtin "object.__class__")))
    (ib43 : PySem.W.specialIn K (.builtin "object.__class__") "__get__" = some (some (.builtin "getset_descriptor.__get__")))
    (ic43 : PySem.W.takesIn K (.builtin "object.__class__") = some true)
    (id43 : PySem.W.mroIn K C_Band (.type "object") = some true)
    (ko44 : PySem.W.kitOne K (.ref C_Band) (.ref C_Band) = some true)
    (a45 : PySem.W.nsIn K mainGlobals "_law_part_kept" = some (some (.ref f45)))
    (l45 : K.lookup f45 = some ⟨oc45, od45, .func (PySem.W.fnOf "_law_part_kept" "_law_part_kept" (defArgs s_l_part_kept) (defBody s_l_part_kept) (defScope s_l_part_kept) .none kV45 dc45 pm45 an45 cd45 ct45), sl45⟩)
    (c45 : PySem.W.codeIn K cd45 "_law_part_kept" = true)
    (k45 : PySem.W.keepIn K (.ref f45) = true)
    (hg46 : PySem.W.findIn K (.ref C_BadNumber) "__getattribute__" = some (some (.builtin "BaseException.__getattribute__")))
    (hk46 : PySem.W.findIn K (.ref C_BadNumber) "__getattr__" = some none)
    (hs46 : PySem.W.subIn K (.ref C_BadNumber) (.type "BaseException") = some true)
    (hd46 : PySem.W.hasDictIn K C_BadNumber = true)
    (ha46 : PySem.W.findIn K (.ref C_BadNumber) "__class__" = some (some (.builtin "object.__class__")))
    (hn46 : PySem.W.specialIn K (.builtin "object.__class__") "__get__" = some (some (.builtin "getset_descriptor.__get__")))
    (ht46 : PySem.W.takesIn K (.builtin "object.__class__") = some true)
    (hm46 : PySem.W.mroIn K C_BadNumber (.type "object") = some true)
    (xa47 : PySem.W.subIn K (.ref C_BadNumber) (.type "BaseException") = some true)
    (xb47 : PySem.W.hasDictIn K C_BadNumber = true)
    (xc47 : PySem.W.typeIn K (.ref C_BadNumber) = some (.type "type"))
    (xd47 : PySem.W.subIn K (.ref C_BadNumber) (.ref C_BadNumber) = some true)
    (g48 : PySem.W.nsIn K mainGlobals "BarbreaksError" = some (some (.ref C_BarbreaksError)))
    (g49 : PySem.W.nsIn K mainGlobals "Refused" = some (some (.ref C_Refused)))
    (ko50 : PySem.W.kitOne K (.ref C_BadNumber) (.ref C_BarbreaksError) = some true)
    (ko51 : PySem.W.kitOne K (.ref C_BadNumber) (.type "ValueError") = some true)
    (ko52 : PySem.W.kitOne K (.ref C_BadNumber) (.ref C_Refused) = some false)
    (ko53 : PySem.W.kitOne K (.ref C_BadNumber) (.ref C_TooMany) = some false)
    (ko54 : PySem.W.kitOne K (.ref C_BadNumber) (.ref C_BadEnd) = some false)
    (z55 : PySem.W.nsIn K mainGlobals "ValueError" = some none)
    (a56 : PySem.W.nsIn K mainGlobals "_law_turned_kept" = some (some (.ref f56)))
    (l56 : K.lookup f56 = some ⟨oc56, od56, .func (PySem.W.fnOf "_law_turned_kept" "_law_turned_kept" (defArgs s_l_turned_kept) (defBody s_l_turned_kept) (defScope s_l_turned_kept) .none kV56 dc56 pm56 an56 cd56 ct56), sl56⟩)
    (c56 : PySem.W.codeIn K cd56 "_law_turned_kept" = true)
    (k56 : PySem.W.keepIn K (.ref f56) = true)
    (a57 : PySem.W.nsIn K mainGlobals "_law_parts_kept" = some (some (.ref f57)))
    (l57 : K.lookup f57 = some ⟨oc57, od57, .func (PySem.W.fnOf "_law_parts_kept" "_law_parts_kept" (defArgs s_l_parts_kept) (defBody s_l_parts_kept) (defScope s_l_parts_kept) .none kV57 dc57 pm57 an57 cd57 ct57), sl57⟩)
    (c57 : PySem.W.codeIn K cd57 "_law_parts_kept" = true)
    (k57 : PySem.W.keepIn K (.ref f57) = true)
    (a58 : PySem.W.nsIn K mainGlobals "_law_joined" = some (some (.ref f58)))
    (l58 : K.lookup f58 = some ⟨oc58, od58, .func (PySem.W.fnOf "_law_joined" "_law_joined" (defArgs s_l_joined) (defBody s_l_joined) (defScope s_l_joined) .none kV58 dc58 pm58 an58 cd58 ct58), sl58⟩)
    (c58 : PySem.W.codeIn K cd58 "_law_joined" = true)
    (k58 : PySem.W.keepIn K (.ref f58) = true)
    (hg59 : PySem.W.findIn K (.ref C_TooMany) "__getattribute__" = some (some (.builtin "BaseException.__getattribute__")))
    (hk59 : PySem.W.findIn K (.ref C_TooMany) "__getattr__" = some none)
    (hs59 : PySem.W.subIn K (.ref C_TooMany) (.type "BaseException") = some true)
    (hd59 : PySem.W.hasDictIn K C_TooMany = true)
    (ha59 : PySem.W.findIn K (.ref C_TooMany) "__class__" = some (some (.builtin "object.__class__")))
    (hn59 : PySem.W.specialIn K (.builtin "object.__class__") "__get__" = some (some (.builtin "getset_descriptor.__get__")))
    (ht59 : PySem.W.takesIn K (.builtin "object.__class__") = some true)
    (hm59 : PySem.W.mroIn K C_TooMany (.type "object") = some true)
    (xa60 : PySem.W.subIn K (.ref C_TooMany) (.type "BaseException") = some true)
    (xb60 : PySem.W.hasDictIn K C_TooMany = true)
    (xc60 : PySem.W.typeIn K (.ref C_TooMany) = some (.type "type"))
    (xd60 : PySem.W.subIn K (.ref C_TooMany) (.ref C_TooMany) = some true)
    (ko61 : PySem.W.kitOne K (.ref C_TooMany) (.ref C_BarbreaksError) = some true)
    (ko62 : PySem.W.kitOne K (.ref C_TooMany) (.type "ValueError") = some true)
    (ko63 : PySem.W.kitOne K (.ref C_TooMany) (.ref C_Refused) = some false)
    (ko64 : PySem.W.kitOne K (.ref C_TooMany) (.ref C_BadNumber) = some false)
    (ko65 : PySem.W.kitOne K (.ref C_TooMany) (.ref C_BadEnd) = some false)
    (sf66 : PySem.W.selfFirst K C_Band = true)
    (a67 : PySem.W.nsIn K mainGlobals "_law_joins_kept" = some (some (.ref f67)))
    (l67 : K.lookup f67 = some ⟨oc67, od67, .func (PySem.W.fnOf "_law_joins_kept" "_law_joins_kept" (defArgs s_l_joins_kept) (defBody s_l_joins_kept) (defScope s_l_joins_kept) .none kV67 dc67 pm67 an67 cd67 ct67), sl67⟩)
    (c67 : PySem.W.codeIn K cd67 "_law_joins_kept" = true)
    (k67 : PySem.W.keepIn K (.ref f67) = true)
    (a68 : PySem.W.nsIn K mainGlobals "_law_pool" = some (some (.ref f68)))
    (l68 : K.lookup f68 = some ⟨oc68, od68, .func (PySem.W.fnOf "_law_pool" "_law_pool" (defArgs s_l_pool) (defBody s_l_pool) (defScope s_l_pool) .none kV68 dc68 pm68 an68 cd68 ct68), sl68⟩)
    (c68 : PySem.W.codeIn K cd68 "_law_pool" = true)
    (k68 : PySem.W.keepIn K (.ref f68) = true)
    (a69 : PySem.W.nsIn K mainGlobals "_law_ends" = some (some (.ref f69)))
    (l69 : K.lookup f69 = some ⟨oc69, od69, .func (PySem.W.fnOf "_law_ends" "_law_ends" (defArgs s_l_ends) (defBody s_l_ends) (defScope s_l_ends) .none kV69 dc69 pm69 an69 cd69 ct69), sl69⟩)
    (c69 : PySem.W.codeIn K cd69 "_law_ends" = true)
    (k69 : PySem.W.keepIn K (.ref f69) = true)
    (a70 : PySem.W.nsIn K mainGlobals "law" = some (some (.ref f70)))
    (l70 : K.lookup f70 = some ⟨oc70, od70, .func (PySem.W.fnOf "law" "law" (defArgs s_law) (defBody s_law) (defScope s_law) .none kV70 dc70 pm70 an70 cd70 ct70), sl70⟩)
    (c70 : PySem.W.codeIn K cd70 "law" = true)
    (k70 : PySem.W.keepIn K (.ref f70) = true)
    : ∃ fd : FuncData, (∀ (s : Shared) (v : Value), BindsTo s fd ⟨[v], []⟩ [("_law_script", v)]) ∧ ∀ base : Heap, K.In base → base.Ns mainGlobals mg → FnOk l.prog w K mg base CX0 10 fa fd ["_law_script"] (spLaw K) := by
  have T : Txt K mg C_BadEnd C_BarbreaksError C_TooMany C_BadNumber C_Band C_Refused :=
    ⟨⟨f1, _, PySem.W.mg_of X G a1, (fun_mk (st := s_l_take) l1 c1 k1), (fun_mk (st := s_l_take) l1 c1 k1).binds (ps := ["_law_pool_here", "_law_size"]) fun _ _ _ _ _ _ us hl => match us, hl with | [_, _], _ => rfl⟩,
     PySem.W.mg_none_of X G z2,
     PySem.W.mg_none_of X G z3,
     ⟨f4, _, PySem.W.mg_of X G a4, (fun_mk (st := s_l_big) l4 c4 k4), (fun_mk (st := s_l_big) l4 c4 k4).binds (ps := ["_law_pool_here"]) fun _ _ _ _ _ _ us hl => match us, hl with | [_], _ => rfl⟩,
     PySem.W.mg_none_of X G z5,
     ⟨⟨⟨_, _, _, _, _, _, _, _, _, _, _, _, _, _, _, x6, by rfl⟩, sa6, eC6, tC6, kC6⟩, PySem.W.mg_of X G g6, f6, _, a6, t6, (fun_mk (st := s_BadEnd_init) l6 c6 k6).binds (ps := ["self", "index"]) fun _ _ _ _ _ _ us hl => match us, hl with | [_, _], _ => rfl, (fun_mk (st := s_BadEnd_init) l6 c6 k6)⟩,
     PySem.W.mg_of X G g7,
     xn8,
     ⟨⟨⟨_, _, _, _, _, _, _, _, _, _, _, _, _, _, _, x9, by rfl⟩, sa9, eC9, tC9, kC9⟩, PySem.W.mg_of X G g9, f9, _, a9, t9, (fun_mk (st := s_TooMany_init) l9 c9 k9).binds (ps := ["self", "what", "most"]) fun _ _ _ _ _ _ us hl => match us, hl with | [_, _, _], _ => rfl, (fun_mk (st := s_TooMany_init) l9 c9 k9)⟩,
     PySem.W.mg_of X G g10,
     xn11,
     xn12,
     ⟨⟨⟨_, _, _, _, _, _, _, _, _, _, _, _, _, _, _, x13, by rfl⟩, sa13, eC13, tC13, kC13⟩, PySem.W.mg_of X G g13, f13, _, a13, t13, (fun_mk (st := s_BadNumber_init) l13 c13 k13).binds (ps := ["self", "number"]) fun _ _ _ _ _ _ us hl => match us, hl with | [_, _], _ => rfl, (fun_mk (st := s_BadNumber_init) l13 c13 k13)⟩,
     PySem.W.mg_of X G g14,
     xn15,
     ⟨f16, _, PySem.W.mg_of X G a16, (fun_mk (st := s_check_things) l16 c16 k16), (fun_mk (st := s_check_things) l16 c16 k16).binds (ps := ["count"]) fun _ _ _ _ _ _ us hl => match us, hl with | [_], _ => rfl⟩,
     ⟨u17, PySem.W.mg_of X G g17, r17⟩,
     ⟨f18, _, PySem.W.mg_of X G a18, (fun_mk (st := s_check_from_zero) l18 c18 k18), (fun_mk (st := s_check_from_zero) l18 c18 k18).binds (ps := ["number", "most"]) fun _ _ _ _ _ _ us hl => match us, hl with | [_, _], _ => rfl⟩,
     ⟨f19, _, PySem.W.mg_of X G a19, (fun_mk (st := s_check_ends) l19 c19 k19), (fun_mk (st := s_check_ends) l19 c19 k19).binds (ps := ["ends"]) fun _ _ _ _ _ _ us hl => match us, hl with | [_], _ => rfl⟩,
     PySem.W.mg_none_of X G z20,
     PySem.W.mg_of X G g21,
     ⟨pg21, hd21, po21, sa21⟩,
     n22,
     ⟨f23, _, ⟨mk23, a23, i23, kc23⟩, (fun_mk (st := s_Band_init) l23 c23 k23), (fun_mk (st := s_Band_init) l23 c23 k23).binds (ps := ["self", "ends"]) fun _ _ _ _ _ _ us hl => match us, hl with | [_, _], _ => rfl⟩,
     PySem.W.mg_none_of X G z24,
     ⟨f25, _, ⟨a25, i25, k25⟩, (fun_mk (st := s_Band_len) l25 c25 k25), (fun_mk (st := s_Band_len) l25 c25 k25).binds (ps := ["self"]) fun _ _ _ _ _ _ us hl => match us, hl with | [_], _ => rfl⟩,
     ⟨f26, _, ⟨a26, i26, k26⟩, (fun_mk (st := s_Band_near) l26 c26 k26), (fun_mk (st := s_Band_near) l26 c26 k26).binds (ps := ["self", "i", "k"]) fun _ _ _ _ _ _ us hl => match us, hl with | [_, _, _], _ => rfl⟩,
     PySem.W.mg_none_of X G z27,
     PySem.W.mg_none_of X G z28,
     ⟨f29, _, ⟨a29, i29, k29⟩, (fun_mk (st := s_Band_part) l29 c29 k29), (fun_mk (st := s_Band_part) l29 c29 k29).binds (ps := ["self", "low", "high"]) fun _ _ _ _ _ _ us hl => match us, hl with | [_, _, _], _ => rfl⟩,
     ⟨f30, _, ⟨a30, i30, k30⟩, (fun_mk (st := s_Band_mirrored) l30 c30 k30), (fun_mk (st := s_Band_mirrored) l30 c30 k30).binds (ps := ["self"]) fun _ _ _ _ _ _ us hl => match us, hl with | [_], _ => rfl⟩,
     ⟨f31, _, ⟨a31, i31, k31⟩, (fun_mk (st := s_Band_add) l31 c31 k31), (fun_mk (st := s_Band_add) l31 c31 k31).binds (ps := ["self", "other"]) fun _ _ _ _ _ _ us hl => match us, hl with | [_, _], _ => rfl⟩,
     PySem.W.mg_none_of X G z32,
     ⟨f33, _, PySem.W.mg_of X G a33, (fun_mk (st := s_l_is_int) l33 c33 k33), (fun_mk (st := s_l_is_int) l33 c33 k33).binds (ps := ["_law_x"]) fun _ _ _ _ _ _ us hl => match us, hl with | [_], _ => rfl⟩,
     PySem.W.mg_none_of X G z34,
     PySem.W.mg_none_of X G z35,
     ⟨f36, _, PySem.W.mg_of X G a36, (fun_mk (st := s_l_near) l36 c36 k36), (fun_mk (st := s_l_near) l36 c36 k36).binds (ps := ["_law_ends_here", "_law_i", "_law_k"]) fun _ _ _ _ _ _ us hl => match us, hl with | [_, _, _], _ => rfl⟩,
     ⟨f37, _, PySem.W.mg_of X G a37, (fun_mk (st := s_l_same) l37 c37 k37), (fun_mk (st := s_l_same) l37 c37 k37).binds (ps := ["_law_got", "_law_due"]) fun _ _ _ _ _ _ us hl => match us, hl with | [_, _], _ => rfl⟩,
     PySem.W.mg_none_of X G z38,
     PySem.W.mg_none_of X G z39,
     ⟨f40, _, PySem.W.mg_of X G a40, (fun_mk (st := s_l_close) l40 c40 k40), (fun_mk (st := s_l_close) l40 c40 k40).binds (ps := ["_law_lists", "_law_one", "_law_two"]) fun _ _ _ _ _ _ us hl => match us, hl with | [_, _, _], _ => rfl⟩,
     ⟨f41, _, PySem.W.mg_of X G a41, (fun_mk (st := s_l_ends_of) l41 c41 k41), (fun_mk (st := s_l_ends_of) l41 c41 k41).binds (ps := ["_law_lists", "_law_things"]) fun _ _ _ _ _ _ us hl => match us, hl with | [_, _], _ => rfl⟩,
     ⟨f42, _, PySem.W.mg_of X G a42, (fun_mk (st := s_l_shown) l42 c42 k42), (fun_mk (st := s_l_shown) l42 c42 k42).binds (ps := ["_law_band", "_law_lists", "_law_things"]) fun _ _ _ _ _ _ us hl => match us, hl with | [_, _, _], _ => rfl⟩,
     ⟨ia43, ib43, ic43, id43⟩,
     ko44,
     ⟨f45, _, PySem.W.mg_of X G a45, (fun_mk (st := s_l_part_kept) l45 c45 k45), (fun_mk (st := s_l_part_kept) l45 c45 k45).binds (ps := ["_law_band", "_law_lists", "_law_things", "_law_low", "_law_high"]) fun _ _ _ _ _ _ us hl => match us, hl with | [_, _, _, _, _], _ => rfl⟩,
     ⟨hg46, hk46, hs46, hd46, ha46, hn46, ht46, hm46⟩,
     PySem.W.exm_ref xa47 xb47 xc47 xd47,
     PySem.W.mg_of X G g48,
     PySem.W.mg_of X G g49,
     ko50,
     ko51,
     ko52,
     ko53,
     ko54,
     PySem.W.mg_none_of X G z55,
     ⟨f56, _, PySem.W.mg_of X G a56, (fun_mk (st := s_l_turned_kept) l56 c56 k56), (fun_mk (st := s_l_turned_kept) l56 c56 k56).binds (ps := ["_law_band", "_law_lists", "_law_things"]) fun _ _ _ _ _ _ us hl => match us, hl with | [_, _, _], _ => rfl⟩,
     ⟨f57, _, PySem.W.mg_of X G a57, (fun_mk (st := s_l_parts_kept) l57 c57 k57), (fun_mk (st := s_l_parts_kept) l57 c57 k57).binds (ps := ["_law_pool_here", "_law_band", "_law_lists", "_law_things"]) fun _ _ _ _ _ _ us hl => match us, hl with | [_, _, _, _], _ => rfl⟩,
     ⟨f58, _, PySem.W.mg_of X G a58, (fun_mk (st := s_l_joined) l58 c58 k58), (fun_mk (st := s_l_joined) l58 c58 k58).binds (ps := ["_law_first", "_law_second"]) fun _ _ _ _ _ _ us hl => match us, hl with | [_, _], _ => rfl⟩,
     ⟨hg59, hk59, hs59, hd59, ha59, hn59, ht59, hm59⟩,
     PySem.W.exm_ref xa60 xb60 xc60 xd60,
     ko61,
     ko62,
     ko63,
     ko64,
     ko65,
     sf66,
     ⟨f67, _, PySem.W.mg_of X G a67, (fun_mk (st := s_l_joins_kept) l67 c67 k67), (fun_mk (st := s_l_joins_kept) l67 c67 k67).binds (ps := ["_law_pool_here", "_law_bands", "_law_lists"]) fun _ _ _ _ _ _ us hl => match us, hl with | [_, _, _], _ => rfl⟩,
     ⟨f68, _, PySem.W.mg_of X G a68, (fun_mk (st := s_l_pool) l68 c68 k68), (fun_mk (st := s_l_pool) l68 c68 k68).binds (ps := ["_law_script"]) fun _ _ _ _ _ _ us hl => match us, hl with | [_], _ => rfl⟩,
     ⟨f69, _, PySem.W.mg_of X G a69, (fun_mk (st := s_l_ends) l69 c69 k69), (fun_mk (st := s_l_ends) l69 c69 k69).binds (ps := ["_law_pool_here", "_law_count"]) fun _ _ _ _ _ _ us hl => match us, hl with | [_, _], _ => rfl⟩,
     ⟨f70, _, PySem.W.mg_of X G a70, (fun_mk (st := s_law) l70 c70 k70), (fun_mk (st := s_law) l70 c70 k70).binds (ps := ["_law_script"]) fun _ _ _ _ _ _ us hl => match us, hl with | [_], _ => rfl⟩⟩
  obtain ⟨f, fd, g, F, b⟩ := T.law
  obtain rfl : f = fa := Value.ref.inj (Option.some.inj (g.symm.trans hfa))
  refine ⟨fd, fun s v => ?_, fun base _ _ => (ok_law (P := l.prog) (w := w) (base := base) T) f fd F⟩
  obtain ⟨oc, od, kV, doc, pm, an, cdv, ct, osl, rfl, lk, hcd⟩ := F.ex
  exact .of_eq rfl
theorem walk {l : PySem.W.OpenLaw} {q : Program} {loose : List Str} {XP : (Str → Option Value) → Heap → Prop} {YP : World → Heap → Prop} {d : DefRec} {K : Params → PySem.W.Frag} (hn : l.most = some 63) (hdf : d.params.defaults = [])
    (hY : ∀ (w : World) (h : Heap), YP w h → (K w.params).In h)
    (F : ∀ (w : World) (mg : Str → Option Value) (fa : Addr) (h : Heap), (K w.params).In h → h.Ns mainGlobals mg → mg d.name = some (.ref fa) →
      ∃ fd : FuncData, (∀ (s : Shared) (u : Value), BindsTo s fd ⟨[u], []⟩ [("_law_script", u)]) ∧ ∀ base : Heap, (K w.params).In base → base.Ns mainGlobals mg → FnOk l.prog w (K w.params) mg base CX0 10 fa fd ["_law_script"] (spLaw (K w.params))) :
    PySem.W.WalkO q loose XP YP l.row.toRowW d [] (fun f vs => PySem.call f vs) :=
  L2.walk_of (n := 63) (k := 10) (x := "_law_script") (CX := fun _ => CX0) (sp := fun w => spLaw (K w.params)) hn (by decide) hdf ⟨rfl, by decide, by decide⟩ hY F (fun _ _ a ns hl _ hS => ⟨a, ns, rfl, hS, hl, fun _ => rfl⟩) fun _ _ _ _ _ z => z
end Brk.K41
open PySem PySem.W PyProof.Rows in
set_option maxRecDepth 100000 in
set_option maxHeartbeats 0 in
theorem PySem.Challenge.cw_barbreaks_k41_band_parts_holds : PySem.Challenge.rw_barbreaks_k41_band_parts.Holds := by
  w_on; o_law; k_head; (case hw => w_witness2)
  k_fill
  refine Brk.K41.walk (l := PySem.Challenge.rw_barbreaks_k41_band_parts) rfl rfl (fun w h Y => PySem.W.kIn_of Y) ?F
  case F =>
    intro w mg fa h KX G hmg
    refine' Brk.K41.all_mk KX G hmg ?a1 ?l1 ?c1 ?k1 ?z2 ?z3 ?a4 ?l4 ?c4 ?k4 ?z5 ?g6 ?x6 ?sa6 ?eC6 ?tC6 ?kC6 ?a6 ?t6 ?l6 ?c6 ?k6 ?g7 ?xn8 ?g9 ?x9 ?sa9 ?eC9 ?tC9 ?kC9 ?a9 ?t9 ?l9 ?c9 ?k9 ?g10 ?xn11 ?xn12 ?g13 ?x13 ?sa13 ?eC13 ?tC13 ?kC13 ?a13 ?t13 ?l13 ?c13 ?k13 ?g14 ?xn15 ?a16 ?l16 ?c16 ?k16 ?g17 ?r17 ?a18 ?l18 ?c18 ?k18 ?a19 ?l19 ?c19 ?k19 ?z20 ?g21 ?pg21 ?hd21 ?po21 ?sa21 ?n22 ?mk23 ?a23 ?i23 ?kc23 ?l23 ?c23 ?k23 ?z24 ?a25 ?i25 ?l25 ?c25 ?k25 ?a26 ?i26 ?l26 ?c26 ?k26 ?z27 ?z28 ?a29 ?i29 ?l29 ?c29 ?k29 ?a30 ?i30 ?l30 ?c30 ?k30 ?a31 ?i31 ?l31 ?c31 ?k31 ?z32 ?a33 ?l33 ?c33 ?k33 ?z34 ?z35 ?a36 ?l36 ?c36 ?k36 ?a37 ?l37 ?c37 ?k37 ?z38 ?z39 ?a40 ?l40 ?c40 ?k40 ?a41 ?l41 ?c41 ?k41 ?a42 ?l42 ?c42 ?k42 ?ia43 ?ib43 ?ic43 ?id43 ?ko44 ?a45 ?l45 ?c45 ?k45 ?hg46 ?hk46 ?hs46 ?hd46 ?ha46 ?hn46 ?ht46 ?hm46 ?xa47 ?xb47 ?xc47 ?xd47 ?g48 ?g49 ?ko50 ?ko51 ?ko52 ?ko53 ?ko54 ?z55 ?a56 ?l56 ?c56 ?k56 ?a57 ?l57 ?c57 ?k57 ?a58 ?l58 ?c58 ?k58 ?hg59 ?hk59 ?hs59 ?hd59 ?ha59 ?hn59 ?ht59 ?hm59 ?xa60 ?xb60 ?xc60 ?xd60 ?ko61 ?ko62 ?ko63 ?ko64 ?ko65 ?sf66 ?a67 ?l67 ?c67 ?k67 ?a68 ?l68 ?c68 ?k68 ?a69 ?l69 ?c69 ?k69 ?a70 ?l70 ?c70 ?k70
    (case a1 => k_is)
    (case l1 => k_is)
    (case c1 => k_is)
    (case k1 => k_is)
    (case z2 => k_is)
    (case z3 => k_is)
    (case a4 => k_is)
    (case l4 => k_is)
    (case c4 => k_is)
    (case k4 => k_is)
    (case z5 => k_is)
    (case g6 => k_is)
    (case x6 => k_is)
    (case sa6 => k_is)
    (case eC6 => k_is)
    (case tC6 => k_is)
    (case kC6 => k_is)
    (case a6 => k_is)
    (case t6 => k_is)
    (case l6 => k_is)
    (case c6 => k_is)
    (case k6 => k_is)
    (case g7 => k_is)
    (case xn8 => k_is)
    (case g9 => k_is)
    (case x9 => k_is)
    (case sa9 => k_is)
    (case eC9 => k_is)
    (case tC9 => k_is)
    (case kC9 => k_is)
    (case a9 => k_is)
    (case t9 => k_is)
    (case l9 => k_is)
    (case c9 => k_is)
    (case k9 => k_is)
    (case g10 => k_is)
    (case xn11 => k_is)
    (case xn12 => k_is)
    (case g13 => k_is)
    (case x13 => k_is)
    (case sa13 => k_is)
    (case eC13 => k_is)
    (case tC13 => k_is)
    (case kC13 => k_is)
    (case a13 => k_is)
    (case t13 => k_is)
    (case l13 => k_is)
    (case c13 => k_is)
    (case k13 => k_is)
    (case g14 => k_is)
    (case xn15 => k_is)
    (case a16 => k_is)
    (case l16 => k_is)
    (case c16 => k_is)
    (case k16 => k_is)
    (case g17 => k_is)
    (case r17 => exact ⟨_, rfl⟩)
    (case a18 => k_is)
    (case l18 => k_is)
    (case c18 => k_is)
    (case k18 => k_is)
    (case a19 => k_is)
    (case l19 => k_is)
    (case c19 => k_is)
    (case k19 => k_is)
    (case z20 => k_is)
    (case g21 => k_is)
    (case pg21 => k_is)
    (case hd21 => k_is)
    (case po21 => k_is)
    (case sa21 => k_is)
    (case n22 => k_is)
    (case mk23 => k_is)
    (case a23 => k_is)
    (case i23 => k_is)
    (case kc23 => k_is)
    (case l23 => k_is)
    (case c23 => k_is)
    (case k23 => k_is)
    (case z24 => k_is)
    (case a25 => k_is)
    (case i25 => k_is)
    (case l25 => k_is)
    (case c25 => k_is)
    (case k25 => k_is)
    (case a26 => k_is)
    (case i26 => k_is)
    (case l26 => k_is)
    (case c26 => k_is)
    (case k26 => k_is)
    (case z27 => k_is)
    (case z28 => k_is)
    (case a29 => k_is)
    (case i29 => k_is)
    (case l29 => k_is)
    (case c29 => k_is)
    (case k29 => k_is)
    (case a30 => k_is)
    (case i30 => k_is)
    (case l30 => k_is)
    (case c30 => k_is)
    (case k30 => k_is)
    (case a31 => k_is)
    (case i31 => k_is)
    (case l31 => k_is)
    (case c31 => k_is)
    (case k31 => k_is)
    (case z32 => k_is)
    (case a33 => k_is)
    (case l33 => k_is)
    (case c33 => k_is)
    (case k33 => k_is)
    (case z34 => k_is)
    (case z35 => k_is)
    (case a36 => k_is)
    (case l36 => k_is)
    (case c36 => k_is)
    (case k36 => k_is)
    (case a37 => k_is)
    (case l37 => k_is)
    (case c37 => k_is)
    (case k37 => k_is)
    (case z38 => k_is)
    (case z39 => k_is)
    (case a40 => k_is)
    (case l40 => k_is)
    (case c40 => k_is)
    (case k40 => k_is)
    (case a41 => k_is)
    (case l41 => k_is)
    (case c41 => k_is)
    (case k41 => k_is)
    (case a42 => k_is)
    (case l42 => k_is)
    (case c42 => k_is)
    (case k42 => k_is)
    (case ia43 => k_is)
    (case ib43 => k_is)
    (case ic43 => k_is)
    (case id43 => k_is)
    (case ko44 => kit_is)
    (case a45 => k_is)
    (case l45 => k_is)
    (case c45 => k_is)
    (case k45 => k_is)
    (case hg46 => k_is)
    (case hk46 => k_is)
    (case hs46 => k_is)
    (case hd46 => k_is)
    (case ha46 => k_is)
    (case hn46 => k_is)
    (case ht46 => k_is)
    (case hm46 => k_is)
    (case xa47 => k_is)
    (case xb47 => k_is)
    (case xc47 => k_is)
    (case xd47 => (first | k_is | rfl))
    (case g48 => k_is)
    (case g49 => k_is)
    (case ko50 => kit_is)
    (case ko51 => kit_is)
    (case ko52 => kit_is)
    (case ko53 => kit_is)
    (case ko54 => kit_is)
    (case z55 => k_is)
    (case a56 => k_is)
    (case l56 => k_is)
    (case c56 => k_is)
    (case k56 => k_is)
    (case a57 => k_is)
    (case l57 => k_is)
    (case c57 => k_is)
    (case k57 => k_is)
    (case a58 => k_is)
    (case l58 => k_is)
    (case c58 => k_is)
    (case k58 => k_is)
    (case hg59 => k_is)
    (case hk59 => k_is)
    (case hs59 => k_is)
    (case hd59 => k_is)
    (case ha59 => k_is)
    (case hn59 => k_is)
    (case ht59 => k_is)
    (case hm59 => k_is)
    (case xa60 => k_is)
    (case xb60 => k_is)
    (case xc60 => k_is)
    (case xd60 => (first | k_is | rfl))
    (case ko61 => kit_is)
    (case ko62 => kit_is)
    (case ko63 => kit_is)
    (case ko64 => kit_is)
    (case ko65 => kit_is)
    (case sf66 => k_is)
    (case a67 => k_is)
    (case l67 => k_is)
    (case c67 => k_is)
    (case k67 => k_is)
    (case a68 => k_is)
    (case l68 => k_is)
    (case c68 => k_is)
    (case k68 => k_is)
    (case a69 => k_is)
    (case l69 => k_is)
    (case c69 => k_is)
    (case k69 => k_is)
    (case a70 => k_is)
    (case l70 => k_is)
    (case c70 => k_is)
    (case k70 => k_is)
#print axioms PySem.Challenge.cw_barbreaks_k41_band_parts_holds
