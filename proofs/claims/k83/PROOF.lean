import PyProof.Rows.All
import Wide.All
import OpenK.AllK
import Wide.FinOn
import HandS.ForMost
import HandS.Wide
import HandS.IsInst
import HandS.TupAny
import HandS.Style
import HandS.Deep
import HandS.Conv
import HandS.Codes
import KE.KRevSl
import HandS.More
import HandS.Walk
import HandS.SetFor
import HandS.SetKeys
import HandS.Strs
import HandS.ForExc
import HandS.Lambda
import HandS.TryMany
import HandS.ExcInit
import HandS.ExcField
import HandS.EndTab
import KE.KNestM
import PySem.Challenge.RW_alldeeds_k83_kinds_and_their_forms
set_option Elab.async false
set_option linter.all false
set_option maxRecDepth 100000
namespace My
open PySem L2

/-! ### the text by places -/
def top (i : Nat) : Stmt := PySem.Challenge.pw_alldeeds_k83_kinds_and_their_forms.main.body.getD i (.Pass ⟨0, 0, 0, 0⟩)

/-! ### a def that may be called -/
structure Cal (P : Program) (w : World) (K : PySem.W.Frag) (mg : Str → Option Value) (base : Heap) (x : Str) (k : Nat) (ps : List Str) (sp : Sp) where
  f : Addr
  fd : FuncData
  ok : FnOk P w K mg base CX0 k f fd ps sp
  m : mg x = some (.ref f)
  kp : PySem.W.keepIn K (.ref f) = true
  b : Binds K fd ps []
section
variable {X : Cx} {k j : Nat} {ps : List Str} {sp : Sp} {x : Str} {p pos : Pos} {e : Expr} {es : List Expr} {t : TA}
theorem pe_callC (C : Cal X.prog X.w X.K X.mg X.base x k ps sp) (hr : Room j X.A) (ha : PA X (e :: es) t) (hk : k ≤ j := by omega) (hg : Gl X x := by rfl) (hdb : (x == ("__debug__" : Str)) = false := by decide)
    (he : starEach (e :: es) X.env = (false, eval e X.env) :: starEach es X.env := by rfl) (hpl : (backTo pos (starEach es X.env)).any (·.1) = false := by rfl) :
    PE X (.Call (.Name x p) (e :: es) [] pos) (tCall sp [] E0 t) := pe_call C.ok (hr.mono hk) hg C.m C.kp C.b .nil pass0 ha hdb he hpl
theorem pe_globE {v : V} (h : ∃ u, X.mg x = some u ∧ RelV v u) (hg : Gl X x := by rfl) (hd : (x == ("__debug__" : Str)) = false := by decide) : PE X (.Name x pos) (tC v) := by
  obtain ⟨u, hm, r⟩ := h
  exact pe_glob hg hm r hd
end

/-! ### heaps: all but the object at d is kept -/
def Keep (d : Addr) (H H' : Hp) : Prop := ∀ b o, b ≠ d → H b = some o → H' b = some o
def IsDk (H : Hp) (d : Addr) : Prop := ∃ kvs : List (Key × V), H d = some (.dK kvs)
theorem Keep.refl (d : Addr) (H : Hp) : Keep d H H := fun _ _ _ h => h
theorem Keep.trans {d : Addr} {H H1 H2 : Hp} (a : Keep d H H1) (b : Keep d H1 H2) : Keep d H H2 := fun c o n h => b c o n (a c o n h)
theorem Same.toKeep {d : Addr} {H H' : Hp} (s : Same H H') : Keep d H H' := fun c o _ h => s c o h
theorem same_new {H : Hp} {p : Addr} (h : H p = none) (o : HO) : Same H (upd H p o) := fun b u q => by rw [upd_ne (ne_of_none q h)]; exact q
theorem keep_put {d : Addr} {H : Hp} (o : HO) : Keep d H (upd H d o) := fun b u n q => by rw [upd_ne n]; exact q
theorem rd_keep {d : Addr} {H H' : Hp} {a : Addr} {o : HO} (hd : IsDk H d) (k : Keep d H H') (ho : ∀ kvs, o ≠ .dK kvs) (r : Rd H a o) : Rd H' a o := by
  obtain ⟨kvs, hd⟩ := hd
  have ne : a ≠ d := by
    rintro rfl
    rcases r with r | ⟨ob, r⟩
    · rw [hd] at r; exact ho _ (Option.some.inj r).symm
    · rw [hd] at r; cases r
  rcases r with r | ⟨ob, r⟩
  · exact .inl (k _ _ ne r)
  · exact .inr ⟨ob, k _ _ ne r⟩
variable {K : PySem.W.Frag}
theorem seqL_keep {d : Addr} {H H' : Hp} {a : Addr} {xs : List V} (hd : IsDk H d) (k : Keep d H H') (r : SqL K H a xs) : SqL K H' a xs := by
  rcases r with r | r
  · exact .inl (rd_keep hd k (fun _ z => by cases z) r)
  · exact .inr r
theorem seqT_keep {d : Addr} {H H' : Hp} {a : Addr} {xs : List V} (hd : IsDk H d) (k : Keep d H H') (r : SqT K H a xs) : SqT K H' a xs := by
  rcases r with r | r
  · exact .inl (rd_keep hd k (fun _ z => by cases z) r)
  · exact .inr r
mutual
theorem dp_keep {d : Addr} {H H' : Hp} (hd : IsDk H d) (k : Keep d H H') : ∀ (D : PyData) (v : V), Dp K H v D → Dp K H' v D
  | .none, _, h => by cases h; exact .non
  | .bool b, _, h => by cases h; exact .bl b
  | .int i, _, h => by cases h; exact .int i
  | .str x, _, h => by cases h; exact .str x
  | .list ds, _, h => by cases h with | lst hs ha => exact .lst (seqL_keep hd k hs) (dpAll_keep hd k ds _ ha)
  | .tuple ds, _, h => by cases h with | tup hs ha => exact .tup (seqT_keep hd k hs) (dpAll_keep hd k ds _ ha)
  | .dict _, _, h => by cases h
theorem dpAll_keep {d : Addr} {H H' : Hp} (hd : IsDk H d) (k : Keep d H H') : ∀ (Ds : List PyData) (vs : List V), DpAll K H vs Ds → DpAll K H' vs Ds
  | [], _, h => by cases h; exact .nil
  | D :: Ds, _, h => by cases h with | cons h1 h2 => exact .cons (dp_keep hd k D _ h1) (dpAll_keep hd k Ds _ h2)
end
/-- .. the same where nothing is changed -/
theorem rd_same {H H' : Hp} {a : Addr} {o : HO} (k : Same H H') (r : Rd H a o) : Rd H' a o := by
  rcases r with r | ⟨ob, r⟩
  · exact .inl (k _ _ r)
  · exact .inr ⟨ob, k _ _ r⟩
theorem seqT_same {H H' : Hp} {a : Addr} {xs : List V} (k : Same H H') (r : SqT K H a xs) : SqT K H' a xs := by
  rcases r with r | r
  · exact .inl (rd_same k r)
  · exact .inr r
mutual
theorem dp_same {H H' : Hp} (k : Same H H') : ∀ (D : PyData) (v : V), Dp K H v D → Dp K H' v D
  | .none, _, h => by cases h; exact .non
  | .bool b, _, h => by cases h; exact .bl b
  | .int i, _, h => by cases h; exact .int i
  | .str x, _, h => by cases h; exact .str x
  | .list ds, _, h => by cases h with | lst hs ha => exact .lst (k.seq hs) (dpAll_same k ds _ ha)
  | .tuple ds, _, h => by cases h with | tup hs ha => exact .tup (seqT_same k hs) (dpAll_same k ds _ ha)
  | .dict _, _, h => by cases h
theorem dpAll_same {H H' : Hp} (k : Same H H') : ∀ (Ds : List PyData) (vs : List V), DpAll K H vs Ds → DpAll K H' vs Ds
  | [], _, h => by cases h; exact .nil
  | D :: Ds, _, h => by cases h with | cons h1 h2 => exact .cons (dp_same k D _ h1) (dpAll_same k Ds _ h2)
end

/-! ### what isinstance says of data -/
def tagOf : PyData → String
  | .none => "NoneType" | .bool _ => "bool" | .int _ => "int" | .str _ => "str" | .list _ => "list" | .tuple _ => "tuple" | .dict _ => "dict"
theorem tyx_of {H : Hp} {v : V} {D : PyData} (h : Dp K H v D) : TyX K H v (.type (tagOf D)) := by
  cases h with
  | non => exact .base .non
  | bl b => exact .base (.bl b)
  | int i => exact .base (.int i)
  | str x => exact .base (.str x)
  | lst hs _ =>
    rcases hs with (hs | ⟨o, hs⟩) | ⟨o, its, n, lk, c, _⟩
    · exact .base (.lst hs)
    · exact .base (.frz hs)
    · exact .kList lk c
  | tup hs _ =>
    rcases hs with (hs | ⟨o, hs⟩) | ⟨o, its, n, lk, c, _⟩
    · exact .base (.tup hs)
    · exact .fTuple hs
    · exact .kTuple lk c
def isStrD : PyData → Bool | .str _ => true | _ => false
def isTupD : PyData → Bool | .tuple _ => true | _ => false
def isBoolD : PyData → Bool | .bool _ => true | _ => false
theorem kit_str (D : PyData) : PySem.W.kitOne K (.type (tagOf D)) (.type "str") = some (isStrD D) := by
  cases D <;> (refine kit_ty ?_; simp only [tagOf, isStrD]; decide +kernel)
theorem kit_tuple (D : PyData) : PySem.W.kitOne K (.type (tagOf D)) (.type "tuple") = some (isTupD D) := by
  cases D <;> (refine kit_ty ?_; simp only [tagOf, isTupD]; decide +kernel)
theorem kit_bool (D : PyData) : PySem.W.kitOne K (.type (tagOf D)) (.type "bool") = some (isBoolD D) := by
  cases D <;> (refine kit_ty ?_; simp only [tagOf, isBoolD]; decide +kernel)
theorem kit_dict_str : PySem.W.kitOne K (.type "dict") (.type "str") = some false := kit_ty (by decide +kernel)
theorem kit_dict_tuple : PySem.W.kitOne K (.type "dict") (.type "tuple") = some false := kit_ty (by decide +kernel)

/-! ### a comprehension over a text -/
theorem lc_str {x : Str} {g : TG} {tt : TT} {te : TE} {vs : List Nat} {σ : St} {H1 : Hp} {D : Addr} {Qd : Hp → Prop} (Pv : Nat → Hp → Prop) (h0 : Pv 0 (upd H1 D (.lst [])))
    (hs : ∀ i c H, x.cps.toList[i]? = some c → Pv i H → g (.str ⟨#[c]⟩) (wipe σ vs) H fun σ2 H2 => wipe σ2 vs = wipe σ vs ∧ tt σ2 H2 fun b H3 =>
      if b = true then te σ2 H3 fun y H4 => ∃ acc, H4 D = some (.lst acc) ∧ acc.length < sizeLine ∧ Pv (i + 1) (upd H4 D (.lst (acc ++ [y]))) else Pv (i + 1) H3) (hd : ∀ H, Pv x.cps.toList.length H → Qd H) :
    ∃ W : Nat → Nat → Hp → Prop, (∃ m, W 0 m (upd H1 D (.lst []))) ∧ ∀ i m H, W i m H →
      ((Its x).stop i H ∧ Qd H) ∨ ((Its x).go i H ∧ ∃ Nx : Hp → Prop, (∀ H', Nx H' → ∃ m', m' < m ∧ W (i + 1) m' H') ∧ ∀ x_1 H', (Its x).yld i H x_1 H' → g x_1 (wipe σ vs) H' fun σ2 H2 => wipe σ2 vs = wipe σ vs ∧ tt σ2 H2 fun b H3 =>
        if b = true then te σ2 H3 fun y H4 => ∃ acc, H4 D = some (.lst acc) ∧ acc.length < sizeLine ∧ Nx (upd H4 D (.lst (acc ++ [y]))) else Nx H3) := by
  refine ⟨fun i m H => m = x.cps.size - i ∧ i ≤ x.cps.size ∧ Pv i H, ⟨x.cps.size, by simp, Nat.zero_le _, h0⟩, ?_⟩
  rintro i m H ⟨rfl, hi, p⟩
  by_cases hlt : i < x.cps.size
  · refine .inr ⟨hlt, Pv (i + 1), fun H' p' => ⟨x.cps.size - (i + 1), by omega, rfl, hlt, p'⟩, fun v H' y => ?_⟩
    obtain ⟨e, c, hc, ev⟩ := y
    subst e ev
    exact hs i c _ (by rw [Array.getElem?_toList]; exact hc) p
  · have e : i = x.cps.size := by omega
    subst e
    exact .inl ⟨Nat.le_refl _, hd H p⟩
theorem same_fresh {H H' : Hp} {D : Addr} {o : HO} (k : Same H H') (n : H D = none) : Same H (upd H' D o) := fun b u q => by rw [upd_ne (ne_of_none q n)]; exact k _ _ q
theorem keep_fresh {d : Addr} {H H' : Hp} {D : Addr} {o : HO} (k : Keep d H H') (n : H D = none) : Keep d H (upd H' D o) := fun b u nd q => by rw [upd_ne (ne_of_none q n)]; exact k _ _ nd q
theorem take_next {α : Type} {xs : List α} {i : Nat} {c : α} (h : xs[i]? = some c) : xs.take (i + 1) = xs.take i ++ [c] := by
  rw [List.take_add_one, h]
  rfl

/-! ### names and forms -/
def zLetters : Str := Str.ofString "abcdefghijklmnopqrstuvwxyz"
def zDigits : Str := Str.ofString "0123456789"
def isL (c : Nat) : Bool := decide (c ∈ zLetters.cps.toList)
def isLD (c : Nat) : Bool := isL c || decide (c ∈ zDigits.cps.toList)
def isName (z : Str) : Bool := decide (1 ≤ z.length ∧ z.length ≤ 12) && ((z.cps.toList.head?.any isL) && z.cps.toList.all isLD)
def isNameD : PyData → Bool | .str z => isName z | _ => false
theorem inV_str (x : Str) : ∀ zs : List Str, inV (.str x) (zs.map V.str) = decide (x ∈ zs)
  | [] => by simp [inV]
  | z :: zs => by
    have ih := inV_str x zs
    unfold inV at ih ⊢
    rw [List.map_cons, List.any_cons, ih]
    by_cases e : z = x
    · subst e
      simp [eqV]
    · have e' : ¬ x = z := fun q => e q.symm
      simp [eqV, e, e']
def leafW : List Str := [Str.ofString "good", Str.ofString "counter"]
def halfW : List Str := [Str.ofString "both", Str.ofString "between", Str.ofString "offered", Str.ofString "chosen"]
def isForm : Nat → PyData → Bool
  | _, .tuple [.str x, n] => decide (x ∈ leafW) && isNameD n
  | 0, _ => false
  | k + 1, .tuple [.str x, a, b] => decide (x ∈ halfW) && (isForm k a && isForm k b)
  | _ + 1, _ => false
theorem isForm_tup2 (k : Nat) (a n : PyData) : isForm k (.tuple [a, n]) = (match a with | .str x => decide (x ∈ leafW) && isNameD n | _ => false) := by
  cases k <;> cases a <;> rfl
theorem isForm_tup3_0 (a b c : PyData) : isForm 0 (.tuple [a, b, c]) = false := by cases a <;> rfl
theorem isForm_tup3 (k : Nat) (a b c : PyData) : isForm (k + 1) (.tuple [a, b, c]) = (match a with | .str x => decide (x ∈ halfW) && (isForm k b && isForm k c) | _ => false) := by
  cases a <;> rfl
theorem isForm_tup_len (k : Nat) (ds : List PyData) (h2 : ds.length ≠ 2) (h3 : ds.length ≠ 3) : isForm k (.tuple ds) = false := by
  match ds, h2, h3 with
  | [], _, _ => cases k <;> rfl
  | [a], _, _ => cases k <;> cases a <;> rfl
  | [a, b], h, _ => exact absurd rfl h
  | [a, b, c], _, h => exact absurd rfl h
  | a :: b :: c :: d :: r, _, _ => cases k <;> cases a <;> rfl
theorem isForm_not_tup (k : Nat) (D : PyData) (h : isTupD D = false) : isForm k D = false := by
  cases D with
  | tuple ds => cases h
  | _ => cases k <;> rfl
def okStr (z : Str) : Bool := decide (z.length ≤ 1000) && z.cps.toList.all fun c => decide (c < 128)
mutual
def shortD : PyData → Bool
  | .str z => okStr z
  | .list xs => shortAll xs
  | .tuple xs => shortAll xs
  | .dict _ => false
  | _ => true
def shortAll : List PyData → Bool
  | [] => true
  | d :: ds => shortD d && shortAll ds
end
theorem shortAll_cons {d : PyData} {ds : List PyData} (h : shortAll (d :: ds) = true) : shortD d = true ∧ shortAll ds = true := by
  unfold shortAll at h
  exact Bool.and_eq_true_iff.mp h
theorem short_str {D : PyData} (h : shortD D = true) : ∀ z, D = .str z → z.length ≤ 1000 := by
  rintro z rfl
  unfold shortD okStr at h
  exact of_decide_eq_true (Bool.and_eq_true_iff.mp h).1
theorem strOk_of {z : Str} (h : okStr z = true) : PyData.strOk z = true := by
  unfold okStr at h
  unfold PyData.strOk
  have h2 := (Bool.and_eq_true_iff.mp h).2
  rw [List.all_eq_true] at h2
  rw [Array.all_eq_true']
  intro c hc
  have := of_decide_eq_true (h2 c (Array.mem_toList_iff.mpr hc))
  exact decide_eq_true (by omega)
mutual
theorem canLay_of : ∀ D : PyData, shortD D = true → D.canLay0 = true
  | .none, _ => by simp only [PyData.canLay0]
  | .bool _, _ => by simp only [PyData.canLay0]
  | .int _, _ => by simp only [PyData.canLay0]
  | .str x, h => by
    unfold shortD at h
    simp only [PyData.canLay0]
    exact strOk_of h
  | .list xs, h => by
    unfold shortD at h
    simp only [PyData.canLay0]
    exact canLayAll_of xs h
  | .tuple xs, h => by
    unfold shortD at h
    simp only [PyData.canLay0]
    exact canLayAll_of xs h
  | .dict _, h => by cases h
theorem canLayAll_of : ∀ xs : List PyData, shortAll xs = true → PyData.canLayAll0 xs = true
  | [], _ => by simp only [PyData.canLayAll0]
  | x :: xs, h => by
    have h' := shortAll_cons h
    simp only [PyData.canLayAll0, canLay_of x h'.1, canLayAll_of xs h'.2, Bool.and_self]
end
theorem shaped_of {D : PyData} (h : shortD D = true) (d : D.depth ≤ 64) : SeqAt.shaped D = true := by
  unfold SeqAt.shaped
  rw [canLay_of D h, decide_eq_true d]
  rfl
theorem depth_in {d : PyData} {ds : List PyData} (h : d ∈ ds) : d.depth + 1 ≤ (PyData.tuple ds).depth := by
  have key : ∀ ds : List PyData, d ∈ ds → d.depth ≤ PyData.depthAll ds := by
    intro ds
    induction ds with
    | nil => intro h; cases h
    | cons x xs ih =>
      intro h
      simp only [PyData.depthAll]
      rcases List.mem_cons.mp h with rfl | h
      · exact Nat.le_max_left _ _
      · exact Nat.le_trans (ih h) (Nat.le_max_right _ _)
  simp only [PyData.depth]
  have := key ds h
  omega
def memD (d : PyData) (zs : List Str) : Bool := match d with | .str x => decide (x ∈ zs) | _ => false
theorem any_eqv (d : PyData) : ∀ zs : List Str, ((zs.map PyData.str).any fun z => PyData.eqv z d) = memD d zs
  | [] => by cases d <;> rfl
  | z :: zs => by
    rw [List.map_cons, List.any_cons, any_eqv d zs]
    cases d with
    | str x =>
      unfold memD PyData.eqv
      by_cases e : z = x
      · subst e; simp
      · have e' : ¬ x = z := fun q => e q.symm
        simp [e, e']
    | _ => simp [memD, PyData.eqv]
theorem dpAll_strs {H : Hp} : ∀ zs : List Str, DpAll K H (zs.map V.str) (zs.map PyData.str)
  | [] => .nil
  | z :: zs => .cons (.str z) (dpAll_strs zs)
theorem dpAll_len {H : Hp} : ∀ {xs : List V} {ds : List PyData}, DpAll K H xs ds → xs.length = ds.length
  | _, _, .nil => rfl
  | _, _, .cons _ t => congrArg (· + 1) (dpAll_len t)
theorem inV_23 (n : Nat) : inV (.int n) [.int 2, .int 3] = (decide (n = 2) || decide (n = 3)) := by
  unfold inV
  simp only [List.any_cons, List.any_nil, Bool.or_false]
  have h2 : eqV (.int 2) (.int (n : Int)) = decide (n = 2) := by
    by_cases e : n = 2
    · subst e; rfl
    · rw [decide_eq_false e]
      show (if _ then _ else _) = _ <;> simp [eqV] <;> omega
  have h3 : eqV (.int 3) (.int (n : Int)) = decide (n = 3) := by
    by_cases e : n = 3
    · subst e; rfl
    · rw [decide_eq_false e]
      simp [eqV]
      omega
  rw [h2, h3]
end My

set_option Elab.async false
set_option linter.all false
set_option maxRecDepth 100000
namespace My
open PySem L2

structure Txt (K : PySem.W.Frag) (mg : Str → Option Value) where
  isinstance : mg "isinstance" = none
  len : mg "len" = none
  all : mg "all" = none
  str : mg "str" = none
  tuple : mg "tuple" = none
  int : mg "int" = none
  list : mg "list" = none
  abs : mg "abs" = none
  range : mg "range" = none
  LETTERS : ∃ u, mg "LETTERS" = some u ∧ RelV (.str zLetters) u
  DIGITS : ∃ u, mg "DIGITS" = some u ∧ RelV (.str zDigits) u
  LONGEST_NAME : ∃ u, mg "LONGEST_NAME" = some u ∧ RelV (.int 12) u
  DEEPEST : ∃ u, mg "DEEPEST" = some u ∧ RelV (.int 12) u
  aLeaf : Addr
  LEAF_WORDS : ∃ u, mg "LEAF_WORDS" = some u ∧ RelV (.ref aLeaf) u
  sLeaf : ∀ H, SqT K H aLeaf (leafW.map V.str)
  aHalf : Addr
  HALVED_WORDS : ∃ u, mg "HALVED_WORDS" = some u ∧ RelV (.ref aHalf) u
  sHalf : ∀ H, SqT K H aHalf (halfW.map V.str)

/-- what is said of a name -/
def spName (K : PySem.W.Frag) : Sp := fun vs H Q _ => ∃ v, vs = [v] ∧
  ((∃ D, Dp K H v D ∧ (∀ z, D = .str z → z.length ≤ 1000) ∧ ∀ H', Same H H' → Q (.bl (isNameD D)) H') ∨ ((∃ (a : Addr) (kvs : List (Key × V)), v = .ref a ∧ H a = some (.dK kvs)) ∧ ∀ H', Same H H' → Q (.bl false) H'))

abbrev sfits_name : Stmt := top 11
abbrev Nfits_name : List Str := ["value", "sign"]
abbrev Pfits_name : List Str := ["value"]
theorem scfits_name : FnScope Nfits_name Pfits_name (defScope sfits_name) := ⟨rfl, rfl, rfl, by decide +kernel, rfl, by decide +kernel, by decide +kernel⟩
section
variable {P : Program} {w : World} {K : PySem.W.Frag} {mg : Str → Option Value} {base : Heap} {f : Addr} {fd : FuncData}

theorem ok_fits_name (T : Txt K mg) (F : Fun K "fits_name" "fits_name" sfits_name f fd) : FnOk P w K mg base CX0 2 f fd Pfits_name (spName K) := by
  refine F.ok scfits_name (fun vs H Q E h => ?_) (fun cdv A outer s H vs Q E hr h => ?_)
  · obtain ⟨v, rfl, _⟩ := h
    rfl
  obtain ⟨v, rfl, h⟩ := h
  refine ⟨_, (pss_cons (ps_if (PW.pt (pw_or (pt_not (pt_val (pe_callB call_isi rfl T.isinstance (by decide +kernel) (pa_cons (pv 0) (pa_cons (pe_bltn (v := .ty "str") rfl T.str (by decide +kernel) rfl) pa_nil))))) (pw_or1 (pt_not (pt_chain op_le op_le pe_int (pe_callB call_len rfl T.len (by decide +kernel) (pa_cons (pv 0) pa_nil)) (pe_globE T.LONGEST_NAME))))))
    (pss_one (ps_ret pe_bl))
    pss_nil)
  (pss_one (ps_ret (pe_and (pe_cmpR op_in_sign (pe_ix ix_seq (pv 0) pe_int (fun _ _ => rfl)) (pe_globE T.LETTERS) rfl) (pe_one (pe_callB (cr_all rfl) rfl T.all (by decide +kernel) (pa_cons (pe_lc (own := [("sign", 1)]) (g := (gName 1)) rfl scfits_name.nd (pi_str (pv 0)) (blkOk_by (own := [("sign", 1)]) (N := Nfits_name) (sc := defScope sfits_name) (by decide +kernel)) (fun _ _ _ _ _ => (pg_name (i := 1) scfits_name.nd rfl (Or.inl rfl))) (fun _ _ _ _ _ => pts_nil) (fun _ _ _ _ _ => (pe_or (pe_cmpR op_in_sign (pv 1) (pe_globE T.LETTERS) rfl) (pe_one (pe_cmpR op_in_sign (pv 1) (pe_globE T.DIGITS) rfl))))) pa_nil))))))), ?_⟩
  rcases h with ⟨D, hv, hz, q⟩ | ⟨⟨a, kvs, rfl, ha⟩, q⟩
  · refine ⟨_, rfl, _, _, _, _, _, rfl, .ty "str", tyx_of hv, kit_str D, _, rfl, ?_⟩
    by_cases hs : isStrD D = true
    · cases D with
      | str z =>
        cases hv
        have hz' : z.length ≤ 1000 := hz z rfl
        have hz2 : z.length ≤ sizeLine := Nat.le_of_lt (small1000 hz')
        refine iteF ⟨_, rfl, _, _, rfl, ⟨hz2, rfl⟩, 1, _, rfl, rfl, _, rfl, ?_⟩
        refine ite2 (fun c1 => ?_) (fun c1 => ?_)
        · refine ⟨_, _, rfl, rfl, _, rfl, ?_⟩
          by_cases c2 : (z.length : Int) ≤ 12
          · rw [decide_eq_true c2]
            have c1' : (1 : Int) ≤ z.length := of_decide_eq_true c1
            refine iteF ?_
            obtain ⟨c, hc⟩ : ∃ c, z.cps.toList[0]? = some c := ⟨_, List.getElem?_eq_getElem (by rw [Array.length_toList]; show 0 < z.length; omega)⟩
            refine ⟨_, rfl, .inr (.inr ⟨z, 0, c, rfl, rfl, hz2, atI_nat hc, c, zLetters, rfl, rfl, _, rfl, ?_⟩)⟩
            have hh : z.cps.toList.head? = some c := by rw [List.head?_eq_getElem?]; exact hc
            have en : isNameD (.str z) = (isL c && z.cps.toList.all isLD) := by
              show isName z = _
              unfold isName
              rw [hh, decide_eq_true (by omega : 1 ≤ z.length ∧ z.length ≤ 12)]
              rfl
            rw [en] at q
            refine ite2 (fun c3 => ?_) (fun c3 => ?_)
            · have c3' : isL c = true := c3
              rw [c3'] at q
              refine ⟨_, rfl, z, rfl, fun D nD => lc_str (x := z) (fun i H' => Same H H' ∧ H' D = some (.lst (((z.cps.toList.take i).map isLD).map V.bl))) ⟨same_new nD _, upd_same⟩ (fun i c H' hc ⟨k, e⟩ => ?_) (fun H' ⟨k, e⟩ => ?_)⟩
              · refine ⟨rfl, _, rfl, c, zLetters, rfl, rfl, _, rfl, ?_⟩
                have fin : ∀ b : Bool, b = isLD c → ∃ acc, H' D = some (HO.lst acc) ∧ acc.length < sizeLine ∧ Same H (upd H' D (.lst (acc ++ [.bl b]))) ∧
                    upd H' D (.lst (acc ++ [.bl b])) D = some (HO.lst (((z.cps.toList.take (i + 1)).map isLD).map V.bl)) := fun b eb => by
                  refine ⟨_, e, small1000 ?_, same_fresh k nD, ?_⟩
                  · rw [List.length_map, List.length_map, List.length_take]
                    have : z.cps.toList.length = z.length := Array.length_toList
                    omega
                  · rw [upd_same, take_next hc, List.map_append, List.map_append, eb]
                    rfl
                refine ite2 (fun c4 => ?_) (fun c4 => ?_)
                · refine fin true ?_
                  have : isL c = true := c4
                  unfold isLD
                  rw [this]
                  rfl
                · refine ⟨_, rfl, c, zDigits, rfl, rfl, ?_⟩
                  have : isL c = false := Bool.eq_false_iff.mpr c4
                  refine fin _ ?_
                  unfold isLD
                  rw [this]
                  rfl
              · rw [List.take_length] at e
                have g := q H' k
                refine ⟨D, z.cps.toList.map isLD, rfl, SqL.of e, ?_⟩
                have e2 : (z.cps.toList.map isLD).all id = z.cps.toList.all isLD := by rw [List.all_map]; rfl
                rw [e2]
                exact g
            · have c3' : isL c = false := Bool.eq_false_iff.mpr c3
              rw [c3'] at q
              exact q H (Same.refl H)
          · rw [decide_eq_false c2]
            refine iteT ?_
            have en : isNameD (.str z) = false := by
              show isName z = _
              unfold isName
              rw [decide_eq_false (by omega)]
              rfl
            rw [en] at q
            exact q H (Same.refl H)
        · have c1' : ¬ (1 : Int) ≤ z.length := fun c => c1 (decide_eq_true c)
          refine ⟨_, rfl, iteT ?_⟩
          have en : isNameD (.str z) = false := by
            show isName z = _
            unfold isName
            rw [decide_eq_false (by omega)]
            rfl
          rw [en] at q
          exact q H (Same.refl H)
      | _ => cases hs
    · have e : isNameD D = false := by cases D <;> first | rfl | exact absurd rfl hs
      rw [Bool.not_eq_true] at hs
      rw [hs]
      refine iteT (iteT ?_)
      have q' := q H (Same.refl H)
      rw [e] at q'
      exact q'
  · exact ⟨_, rfl, _, _, _, _, _, rfl, .ty "str", .base (.dK ha), kit_dict_str, _, rfl, iteT (iteT (q H (Same.refl H)))⟩
end
end My

set_option Elab.async false
set_option linter.all false
set_option maxRecDepth 100000
namespace My
open PySem L2
abbrev sfits_form : Stmt := top 12
abbrev Nfits_form : List Str := ["value", "room"]
abbrev Pfits_form : List Str := ["value", "room"]
theorem scfits_form : FnScope Nfits_form Pfits_form (defScope sfits_form) := ⟨rfl, rfl, rfl, by decide +kernel, rfl, by decide +kernel, by decide +kernel⟩

def spForm (K : PySem.W.Frag) (n : Nat) : Sp := fun vs H Q _ => ∃ (v : V) (k : Nat), vs = [v, .int k] ∧ k < n ∧
  ((∃ D, Dp K H v D ∧ shortD D = true ∧ ∀ H', Same H H' → Q (.bl (isForm k D)) H') ∨ ((∃ (a : Addr) (kvs : List (Key × V)), v = .ref a ∧ H a = some (.dK kvs)) ∧ ∀ H', Same H H' → Q (.bl false) H'))
section
variable {P : Program} {w : World} {K : PySem.W.Frag} {mg : Str → Option Value} {base : Heap} {f : Addr} {fd : FuncData}

theorem ok_fits_form {n : Nat} (T : Txt K mg) (F : Fun K "fits_form" "fits_form" sfits_form f fd) (Cfits_name : Cal P w K mg base "fits_name" 2 ["value"] (spName K)) (Cfits_form : Cal P w K mg base "fits_form" (2 + n) ["value", "room"] (spForm K n)) :
    FnOk P w K mg base CX0 (2 + n + 1) f fd Pfits_form (spForm K (n + 1)) := by
  refine F.ok scfits_form (fun vs H Q E h => ?_) (fun cdv A outer s H vs Q E hr h => ?_)
  · obtain ⟨v, k, rfl, _⟩ := h
    rfl
  obtain ⟨v, k, rfl, hk, h⟩ := h
  refine ⟨_, (pss_cons (ps_if (PW.pt (pw_or (pt_not (pt_val (pe_callB call_isi rfl T.isinstance (by decide +kernel) (pa_cons (pv 0) (pa_cons (pe_bltn (v := .ty "tuple") rfl T.tuple (by decide +kernel) rfl) pa_nil))))) (pw_or (pt_cmpR op_notIn_seq (pe_callB call_len rfl T.len (by decide +kernel) (pa_cons (pv 0) pa_nil)) (pe_tup (pa_cons pe_int (pa_cons pe_int pa_nil))) rfl) (pw_or1 (pt_not (pt_val (pe_callB call_isi rfl T.isinstance (by decide +kernel) (pa_cons (pe_ix ix_tup (pv 0) pe_int (fun _ _ => rfl)) (pa_cons (pe_bltn (v := .ty "str") rfl T.str (by decide +kernel) rfl) pa_nil)))))))))
    (pss_one (ps_ret pe_bl))
    pss_nil)
  (pss_cons (ps_if (pt_cmpR op_eq (pe_callB call_len rfl T.len (by decide +kernel) (pa_cons (pv 0) pa_nil)) pe_int (nomark _))
    (pss_one (ps_ret (pe_and (pe_cmpR op_in_seq (pe_ix ix_tup (pv 0) pe_int (fun _ _ => rfl)) (pe_globE T.LEAF_WORDS) rfl) (pe_one (pe_callC Cfits_name hr (pa_cons (pe_ix ix_tup (pv 0) pe_int (fun _ _ => rfl)) pa_nil))))))
    pss_nil)
  (pss_cons (ps_if (PW.pt (pw_or (pt_cmpR op_notIn_seq (pe_ix ix_tup (pv 0) pe_int (fun _ _ => rfl)) (pe_globE T.HALVED_WORDS) rfl) (pw_or1 (pt_cmpR op_eq (pv 1) pe_int (nomark _)))))
    (pss_one (ps_ret pe_bl))
    pss_nil)
  (pss_one (ps_ret (pe_and (pe_callC Cfits_form hr (pa_cons (pe_ix ix_tup (pv 0) pe_int (fun _ _ => rfl)) (pa_cons (pe_op op_sub (pv 1) pe_int) pa_nil))) (pe_one (pe_callC Cfits_form hr (pa_cons (pe_ix ix_tup (pv 0) pe_int (fun _ _ => rfl)) (pa_cons (pe_op op_sub (pv 1) pe_int) pa_nil)))))))))), ?_⟩
  rcases h with ⟨D, hv, hz, q⟩ | ⟨⟨a, kvs, rfl, ha⟩, q⟩
  · refine ⟨_, rfl, _, _, _, _, _, rfl, .ty "tuple", tyx_of hv, kit_tuple D, _, rfl, ?_⟩
    by_cases hs : isTupD D = true
    · cases D with
      | tuple ds =>
        cases hv with
        | @tup a xs _ hT hA =>
        have hl := dpAll_len hA
        refine iteF ⟨_, rfl, _, _, rfl, .inr ⟨xs, hT, rfl⟩, by show 2 ≤ sizeLine; decide, fun p np => ?_⟩
        have S1 : Same H (upd H p (.tup [.int 2, .int 3])) := same_new np _
        refine ⟨p, _, rfl, .inr (SqT.of upd_same), rfl, rfl, _, rfl, ?_⟩
        show (if (!inV (.int (xs.length : Nat)) [.int 2, .int 3]) = true then _ else _)
        rw [inV_23]
        match ds, xs, hA, hl with
        | [], [], hA, _ =>
          rw [isForm_tup_len _ _ (by simp) (by simp)] at q
          exact iteT (iteT (q _ S1))
        | [d], [x], hA, _ =>
          rw [isForm_tup_len _ _ (by simp) (by simp)] at q
          exact iteT (iteT (q _ S1))
        | [d, e], [x, y], hA, _ =>
          cases hA with | cons hx hA => cases hA with | cons hy _ =>
          have hzx := shortAll_cons (show shortAll [d, e] = true from by unfold shortD at hz; exact hz)
          have hzy := (shortAll_cons hzx.2).1
          refine ⟨_, rfl, a, _, _, x, rfl, rfl, seqT_same S1 hT, rfl, _, _, _, _, _, rfl, .ty "str", tyx_of (dp_same S1 _ _ hx), kit_str d, _, rfl, ?_⟩
          rw [isForm_tup2] at q
          by_cases hd : isStrD d = true
          · cases d with
            | str z =>
              cases hx
              refine iteF ⟨_, rfl, _, _, rfl, .inr ⟨_, seqT_same S1 hT, rfl⟩, rfl, _, rfl, ?_⟩
              refine iteT ⟨_, rfl, a, _, _, _, rfl, rfl, seqT_same S1 hT, rfl, T.aLeaf, _, rfl, .inr (T.sLeaf _), rfl, rfl, _, rfl, ?_⟩
              show (if inV (.str z) (leafW.map V.str) = true then _ else _)
              rw [inV_str]
              by_cases hm : z ∈ leafW
              · rw [decide_eq_true hm]
                refine iteT ⟨_, rfl, a, _, _, y, rfl, rfl, seqT_same S1 hT, rfl, y, rfl, .inl ⟨e, dp_same S1 _ _ hy, short_str hzy, fun H' S2 => ?_⟩⟩
                have g := q H' (S1.trans S2)
                simp only [decide_eq_true hm, Bool.true_and] at g
                exact g
              · rw [decide_eq_false hm]
                have g := q _ S1
                simp only [decide_eq_false hm, Bool.false_and] at g
                exact iteF g
            | _ => cases hd
          · rw [Bool.not_eq_true] at hd
            rw [hd]
            have g := q _ S1
            have g2 : Q (.bl false) (upd H p (.tup [.int 2, .int 3])) := by
              cases d <;> first | exact g | cases hd
            exact g2
        | [d, e, g], [x, y, z], hA, _ =>
          cases hA with | cons hx hA => cases hA with | cons hy hA => cases hA with | cons hw _ =>
          have hzx := shortAll_cons (show shortAll [d, e, g] = true from by unfold shortD at hz; exact hz)
          have hzy := shortAll_cons hzx.2
          have hzw := (shortAll_cons hzy.2).1
          refine ⟨_, rfl, a, _, _, x, rfl, rfl, seqT_same S1 hT, rfl, _, _, _, _, _, rfl, .ty "str", tyx_of (dp_same S1 _ _ hx), kit_str d, _, rfl, ?_⟩
          by_cases hd : isStrD d = true
          · cases d with
            | str t =>
              cases hx
              refine iteF ⟨_, rfl, _, _, rfl, .inr ⟨_, seqT_same S1 hT, rfl⟩, rfl, _, rfl, ?_⟩
              refine iteF ⟨_, rfl, a, _, _, _, rfl, rfl, seqT_same S1 hT, rfl, T.aHalf, _, rfl, .inr (T.sHalf _), rfl, rfl, _, rfl, ?_⟩
              show (if (!inV (.str t) (halfW.map V.str)) = true then _ else _)
              rw [inV_str]
              cases k with
              | zero =>
                rw [isForm_tup3_0] at q
                by_cases hm : t ∈ halfW
                · rw [decide_eq_true hm]
                  exact iteF ⟨_, rfl, rfl, _, rfl, iteT (q _ S1)⟩
                · rw [decide_eq_false hm]
                  exact iteT (iteT (q _ S1))
              | succ k =>
                rw [isForm_tup3] at q
                by_cases hm : t ∈ halfW
                · rw [decide_eq_true hm]
                  refine iteF ⟨_, rfl, rfl, _, rfl, ?_⟩
                  have ek : ¬ V.int ((k + 1 : Nat) : Int) = V.int 0 := fun z => by
                    have := V.int.inj z
                    omega
                  rw [decide_eq_false ek]
                  have e1 : ((k + 1 : Nat) : Int) - 1 = (k : Int) := by omega
                  refine iteF ⟨_, rfl, a, _, _, y, rfl, rfl, seqT_same S1 hT, rfl, _, rfl, _, _, rfl, rfl, ?_⟩
                  refine ⟨y, k, congrArg (fun i => [y, V.int i]) e1, by omega, .inl ⟨e, dp_same S1 _ _ hy, hzy.1, fun H2 S2 => ?_⟩⟩
                  have S3 := S1.trans S2
                  refine ⟨_, rfl, ?_⟩
                  by_cases hb : isForm k e = true
                  · rw [hb]
                    refine iteT ⟨_, rfl, a, _, _, z, rfl, rfl, seqT_same S3 hT, rfl, _, rfl, _, _, rfl, rfl, ?_⟩
                    refine ⟨z, k, congrArg (fun i => [z, V.int i]) e1, by omega, .inl ⟨g, dp_same S3 _ _ hw, hzw, fun H4 S4 => ?_⟩⟩
                    have g := q H4 (S3.trans S4)
                    simp only [decide_eq_true hm, Bool.true_and, hb] at g
                    exact g
                  · rw [Bool.not_eq_true] at hb
                    rw [hb]
                    have g := q H2 S3
                    simp only [hb, Bool.false_and, Bool.and_false] at g
                    exact iteF g
                · rw [decide_eq_false hm]
                  have g := q _ S1
                  simp only [decide_eq_false hm, Bool.false_and] at g
                  exact iteT (iteT g)
            | _ => cases hd
          · rw [Bool.not_eq_true] at hd
            rw [hd]
            have g := q _ S1
            have g2 : Q (.bl false) (upd H p (.tup [.int 2, .int 3])) := by
              cases k with
              | zero => rw [isForm_tup3_0] at g; exact g
              | succ k => rw [isForm_tup3] at g; cases d <;> first | exact g | cases hd
            exact g2
        | d :: e :: g :: i :: ds, x, hA, hl =>
          have e2 : x.length ≠ 2 := by rw [hl]; simp
          have e3 : x.length ≠ 3 := by rw [hl]; simp
          rw [decide_eq_false e2, decide_eq_false e3]
          have g := q _ S1
          rw [isForm_tup_len _ _ (by simp) (by simp)] at g
          exact iteT (iteT g)
      | _ => cases hs
    · rw [Bool.not_eq_true] at hs
      rw [hs]
      have q' := q H (Same.refl H)
      rw [isForm_not_tup k D hs] at q'
      exact iteT (iteT q')
  · exact ⟨_, rfl, _, _, _, _, _, rfl, .ty "tuple", .base (.dK ha), kit_dict_tuple, _, rfl, iteT (iteT (q H (Same.refl H)))⟩
end
end My

set_option Elab.async false
set_option linter.all false
set_option maxRecDepth 100000
namespace My
open PySem L2
abbrev N_law_is_name : List Str := ["_law_value", "_law_sign"]
abbrev P_law_is_name : List Str := ["_law_value"]
abbrev N_law_is_form : List Str := ["_law_value", "_law_tall"]
abbrev P_law_is_form : List Str := ["_law_value", "_law_tall"]
abbrev Nis_name : List Str := ["value"]
abbrev Pis_name : List Str := ["value"]
abbrev Nis_form : List Str := ["value"]
abbrev Pis_form : List Str := ["value"]
abbrev N_law_says : List Str := ["_law_told", "_law_due"]
abbrev P_law_says : List Str := ["_law_told", "_law_due"]
def zBoth : Str := Str.ofString "abcdefghijklmnopqrstuvwxyz0123456789"
theorem isLD_both (c : Nat) : decide (c ∈ zBoth.cps.toList) = isLD c := by
  have e : zBoth.cps.toList = zLetters.cps.toList ++ zDigits.cps.toList := by decide +kernel
  unfold isLD isL
  rw [e, ← Bool.decide_or]
  exact decide_eq_decide.mpr List.mem_append
theorem head_some {z : Str} (h : 1 ≤ z.length) : ∃ c, z.cps.toList[0]? = some c := ⟨_, List.getElem?_eq_getElem (by rw [Array.length_toList]; show 0 < z.length; omega)⟩
theorem isName_eq {z : Str} {c : Nat} (h1 : 1 ≤ z.length) (h2 : z.length ≤ 12) (hc : z.cps.toList[0]? = some c) : isName z = (isL c && z.cps.toList.all isLD) := by
  have hh : z.cps.toList.head? = some c := by rw [List.head?_eq_getElem?]; exact hc
  unfold isName
  rw [hh, decide_eq_true ⟨h1, h2⟩]
  rfl
theorem isName_out {z : Str} (h : ¬ (1 ≤ z.length ∧ z.length ≤ 12)) : isName z = false := by
  unfold isName
  rw [decide_eq_false h]
  rfl
theorem isForm_m2 (k : Nat) (a n : PyData) : isForm k (.tuple [a, n]) = (memD a leafW && isNameD n) := by rw [isForm_tup2]; cases a <;> rfl
theorem isForm_m3 (k : Nat) (a b c : PyData) : isForm (k + 1) (.tuple [a, b, c]) = (memD a halfW && (isForm k b && isForm k c)) := by rw [isForm_tup3]; cases a <;> rfl
/-- what is said of a form, all of which may be compared -/
def spFormL (K : PySem.W.Frag) (n : Nat) : Sp := fun vs H Q _ => ∃ (v : V) (k : Nat) (D : PyData), vs = [v, .int k] ∧ k < n ∧ Dp K H v D ∧ shortD D = true ∧ D.depth ≤ 60 ∧ ∀ H', Same H H' → Q (.bl (isForm k D)) H'
def spIsForm (K : PySem.W.Frag) : Sp := fun vs H Q _ => ∃ (v : V), vs = [v] ∧
  ((∃ D, Dp K H v D ∧ shortD D = true ∧ ∀ H', Same H H' → Q (.bl (isForm 12 D)) H') ∨ ((∃ (a : Addr) (kvs : List (Key × V)), v = .ref a ∧ H a = some (.dK kvs)) ∧ ∀ H', Same H H' → Q (.bl false) H'))
def spSays : Sp := fun vs H Q _ => ∃ a b : Bool, vs = [.bl a, .bl b] ∧ Q (.bl (a == b)) H
section
variable {P : Program} {w : World} {K : PySem.W.Frag} {mg : Str → Option Value} {base : Heap} {f : Addr} {fd : FuncData}
end
end My

set_option Elab.async false
set_option linter.all false
set_option maxRecDepth 100000
namespace My
open PySem L2
/-! ### the source of draws -/
def penK (L : Addr) (b l : Int) : List (Key × V) := [(.inr (Str.ofString "cells"), .ref L), (.inr (Str.ofString "begun"), .int b), (.inr (Str.ofString "left"), .int l)]
structure Pen (K : PySem.W.Frag) (H : Hp) (d L : Addr) (ns : List Int) (n : Nat) : Prop where
  ex : ∃ b l : Int, H d = some (.dK (penK L b l)) ∧ 0 ≤ b ∧ b ≤ n
  cells : SqL K H L (ns.map V.int)
  few : ns.length ≤ 63
section
variable {K : PySem.W.Frag} {H H' : Hp} {d L : Addr} {ns : List Int} {n m : Nat}
theorem Pen.isDk (p : Pen K H d L ns n) : IsDk H d := by
  obtain ⟨b, l, h, _⟩ := p.ex
  exact ⟨_, h⟩
theorem Pen.same (p : Pen K H d L ns n) (k : Same H H') : Pen K H' d L ns n := by
  obtain ⟨b, l, h, h0⟩ := p.ex
  exact ⟨⟨b, l, k _ _ h, h0⟩, k.seq p.cells, p.few⟩
theorem Pen.mono (p : Pen K H d L ns n) (h : n ≤ m) : Pen K H d L ns m := by
  obtain ⟨b, l, e, h0, h1⟩ := p.ex
  exact ⟨⟨b, l, e, h0, by omega⟩, p.cells, p.few⟩
/-- .. behind a change elsewhere: D is new since H -/
theorem Pen.fresh {D : Addr} {o : HO} {H0 : Hp} (p : Pen K H d L ns n) (k : Keep d H0 H) (c0 : SqL K H0 L (ns.map V.int)) (hd : IsDk H0 d) (nD : H0 D = none) : Pen K (upd H D o) d L ns n := by
  obtain ⟨b, l, h, h0⟩ := p.ex
  have ne : d ≠ D := by
    obtain ⟨kvs, e⟩ := hd
    exact ne_of_none e nD
  exact ⟨⟨b, l, by rw [upd_ne ne]; exact h, h0⟩, seqL_keep hd (keep_fresh k nD) c0, p.few⟩
theorem Pen.put {b l : Int} (p : Pen K H d L ns n) (h0 : 0 ≤ b) (h1 : b ≤ m) : Pen K (upd H d (.dK (penK L b l))) d L ns m :=
  ⟨⟨b, l, upd_same, h0, h1⟩, seqL_keep p.isDk (keep_put _) p.cells, p.few⟩
theorem get_cells {b l : Int} (h : H d = some (.dK (penK L b l))) : DGet H d (.str (Str.ofString "cells")) (some (.ref L)) := DGet.k (k := .inr (Str.ofString "cells")) h
theorem get_begun {b l : Int} (h : H d = some (.dK (penK L b l))) : DGet H d (.str (Str.ofString "begun")) (some (.int b)) := DGet.k (k := .inr (Str.ofString "begun")) h
theorem get_left {b l : Int} (h : H d = some (.dK (penK L b l))) : DGet H d (.str (Str.ofString "left")) (some (.int l)) := DGet.k (k := .inr (Str.ofString "left")) h
theorem put_begun {b l b' : Int} (h : H d = some (.dK (penK L b l))) : DPut H d (.str (Str.ofString "begun")) (.int b') (upd H d (.dK (penK L b' l))) := DPut.k (k := .inr (Str.ofString "begun")) h (by show 3 < sizeLine; decide)
theorem put_left {b l l' : Int} (h : H d = some (.dK (penK L b l))) : DPut H d (.str (Str.ofString "left")) (.int l') (upd H d (.dK (penK L b l'))) := DPut.k (k := .inr (Str.ofString "left")) h (by show 3 < sizeLine; decide)
theorem dpAll_ints : ∀ ns : List Int, DpAll K H (ns.map V.int) (ns.map PyData.int)
  | [] => .nil
  | n :: ns => .cons (.int n) (dpAll_ints ns)
theorem shaped_ints (ns : List Int) : SeqAt.shaped (.list (ns.map PyData.int)) = true := by
  have h1 : ∀ ns : List Int, PyData.canLayAll0 (ns.map PyData.int) = true := by
    intro ns
    induction ns with
    | nil => simp only [List.map_nil, PyData.canLayAll0]
    | cons n ns ih => simp only [List.map_cons, PyData.canLayAll0, PyData.canLay0, ih, Bool.and_self]
  have h2 : ∀ ns : List Int, PyData.depthAll (ns.map PyData.int) = 0 := by
    intro ns
    induction ns with
    | nil => simp only [List.map_nil, PyData.depthAll]
    | cons n ns ih => simp only [List.map_cons, PyData.depthAll, PyData.depth, ih, Nat.max_self]
  unfold SeqAt.shaped
  simp only [PyData.canLay0, PyData.depth, h1, h2]
  decide
theorem eqv_nil (ns : List Int) : PyData.eqv (.list (ns.map PyData.int)) (.list []) = ns.isEmpty := by
  cases ns <;> simp [PyData.eqv, PyData.eqvAll]
end
abbrev s_law_begin : Stmt := top 36
abbrev N_law_begin : List Str := ["_law_script"]
abbrev P_law_begin : List Str := ["_law_script"]
theorem sc_law_begin : FnScope N_law_begin P_law_begin (defScope s_law_begin) := ⟨rfl, rfl, rfl, by decide +kernel, rfl, by decide +kernel, by decide +kernel⟩
abbrev s_law_draw : Stmt := top 37
abbrev N_law_draw : List Str := ["_law_pen", "_law_span", "_law_digit", "_law_at", "_law_cell", "_law_n"]
abbrev P_law_draw : List Str := ["_law_pen", "_law_span"]
theorem sc_law_draw : FnScope N_law_draw P_law_draw (defScope s_law_draw) := ⟨rfl, rfl, rfl, by decide +kernel, rfl, by decide +kernel, by decide +kernel⟩
abbrev s_law_pick : Stmt := top 38
abbrev N_law_pick : List Str := ["_law_pen", "_law_some"]
abbrev P_law_pick : List Str := ["_law_pen", "_law_some"]
theorem sc_law_pick : FnScope N_law_pick P_law_pick (defScope s_law_pick) := ⟨rfl, rfl, rfl, by decide +kernel, rfl, by decide +kernel, by decide +kernel⟩
def spBegin (K : PySem.W.Frag) : Sp := fun vs H Q _ => ∃ (a : Addr) (ns : List Int), vs = [.ref a] ∧ SqL K H a (ns.map V.int) ∧ ns.length ≤ 63 ∧ ∀ d L H', Same H H' → Pen K H' d L ns 0 → Q (.ref d) H'
def spDraw (K : PySem.W.Frag) : Sp := fun vs H Q _ => ∃ (d L : Addr) (ns : List Int) (n : Nat) (m : Int), vs = [.ref d, .int m] ∧ Pen K H d L ns n ∧ n < 2 ^ 40 ∧ 0 < m ∧ m ≤ 2 ^ 20 ∧
  ∀ (r : Int) H', 0 ≤ r → r < m → Keep d H H' → Pen K H' d L ns (n + 1) → Q (.int r) H'
def spPick (K : PySem.W.Frag) : Sp := fun vs H Q _ => ∃ (d L : Addr) (ns : List Int) (n : Nat) (v : V), vs = [.ref d, v] ∧ Pen K H d L ns n ∧ n < 2 ^ 40 ∧
  ((∃ (a : Addr) (xs : List V), v = .ref a ∧ SqL K H a xs ∧ xs ≠ [] ∧ xs.length ≤ 1000 ∧ ∀ x H', x ∈ xs → Keep d H H' → Pen K H' d L ns (n + 1) → Q x H') ∨
   (∃ z : Str, v = .str z ∧ 1 ≤ z.length ∧ z.length ≤ 1000 ∧ ∀ c H', c ∈ z.cps.toList → Keep d H H' → Pen K H' d L ns (n + 1) → Q (.str ⟨#[c]⟩) H'))
section
variable {P : Program} {w : World} {K : PySem.W.Frag} {mg : Str → Option Value} {base : Heap} {f : Addr} {fd : FuncData}
theorem ok_law_begin (T : Txt K mg) (F : Fun K "_law_begin" "_law_begin" s_law_begin f fd) : FnOk P w K mg base CX0 1 f fd P_law_begin (spBegin K) := by
  refine F.ok sc_law_begin (fun vs H Q E h => ?_) (fun cdv A outer s H vs Q E hr h => ?_)
  · obtain ⟨a, ns, rfl, _⟩ := h
    rfl
  obtain ⟨a, ns, rfl, hS, h63, q⟩ := h
  refine ⟨_, (pss_one (ps_ret (pe_disp (pps_cons pe_str (pe_callTy call_list_of rfl T.list (by decide +kernel) (pa_cons (pe_slice sl_list (pv 0) po_none (po_some pe_int)) pa_nil)) (pps_cons pe_str pe_int (pps_cons pe_str pe_int pps_nil))) (by rfl) (by rfl) (fun z => by cases z) (by decide)))), ?_⟩
  refine fun d nd => ⟨_, rfl, _, rfl, a, _, rfl, (same_new nd _).seq hS, fun p1 n1 => ⟨p1, _, rfl, .inl (SqL.of upd_same), fun p2 n2 => ⟨?_, penK p2 0 0, rfl, by show 3 ≤ 15; decide, ?_⟩⟩⟩
  · have e1 : upd (upd H d (.dK [])) p1 (.lst (cutV (ns.map V.int) none (some 63))) d = some (.dK []) := same_new n1 _ _ _ upd_same
    exact same_new n2 _ _ _ e1
  · have e1 : upd (upd H d (.dK [])) p1 (.lst (cutV (ns.map V.int) none (some 63))) d = some (.dK []) := same_new n1 _ _ _ upd_same
    have ne : p2 ≠ d := fun z => (ne_of_none e1 n2) z.symm
    have c : cutV (ns.map V.int) none (some 63) = ns.map V.int := by
      have el : (ns.map V.int).length = ns.length := List.length_map _
      show (ns.map V.int).take (min 63 (ns.map V.int).length - 0) = _
      rw [Nat.min_eq_right (by omega), Nat.sub_zero, List.take_length]
    refine q d p2 _ ?_ ⟨⟨0, 0, upd_same, by omega, by omega⟩, ?_, h63⟩
    · exact fun b o hb => by
        have nb : b ≠ d := ne_of_none hb nd
        rw [upd_ne nb]
        exact same_new n2 _ _ _ (same_new n1 _ _ _ (same_new nd _ _ _ hb))
    · refine SqL.of ?_
      rw [upd_ne ne, upd_same, c]
theorem ok_law_draw (T : Txt K mg) (F : Fun K "_law_draw" "_law_draw" s_law_draw f fd) : FnOk P w K mg base CX0 1 f fd P_law_draw (spDraw K) := by
  refine F.ok sc_law_draw (fun vs H Q E h => ?_) (fun cdv A outer s H vs Q E hr h => ?_)
  · obtain ⟨d, L, ns, n, m, rfl, _⟩ := h
    rfl
  obtain ⟨d, L, ns, n, m, rfl, p, hn, hm, hm2, q⟩ := h
  refine ⟨_, (pss_cons (ps_if (pt_cmpR op_gt (pe_dget (hu_of hr) (pv 0) pe_str (fun _ _ => rfl)) pe_int (nomark _))
    (pss_cons (ps_set (i := 2) sc_law_draw.nd rfl (Or.inl rfl) (pe_op op_mod (pe_callTy call_int1 rfl T.int (by decide +kernel) (pa_cons (pe_dget (hu_of hr) (pv 0) pe_str (fun _ _ => rfl)) pa_nil)) (pv 1)))
    (pss_cons (ps_dput (hu_of hr) (pv 0) pe_str (pe_op op_fdivW (pe_dget (hu_of hr) (pv 0) pe_str (fun _ _ => rfl)) (pv 1)) rfl)
    (pss_one (ps_ret (pv 2)))))
    pss_nil)
  (pss_cons (ps_set (i := 3) sc_law_draw.nd rfl (Or.inl rfl) (pe_dget (hu_of hr) (pv 0) pe_str (fun _ _ => rfl)))
  (pss_cons (ps_dput (hu_of hr) (pv 0) pe_str (pe_op op_add (pv 3) pe_int) rfl)
  (pss_cons (ps_set (i := 4) sc_law_draw.nd rfl (Or.inl rfl) (pe_op op_add (pe_op op_mul pe_int (pv 3)) pe_int))
  (pss_cons (ps_if (pt_cmpR (op_neD hr.units) (pe_dget (hu_of hr) (pv 0) pe_str (fun _ _ => rfl)) (pe_lst pa_nil) (nomark _))
    (pss_one (ps_set (i := 4) sc_law_draw.nd rfl (Or.inl rfl) (pe_ix ix_list (pe_dget (hu_of hr) (pv 0) pe_str (fun _ _ => rfl)) (pe_op op_mod (pe_callTy call_int1 rfl T.int (by decide +kernel) (pa_cons (pv 3) pa_nil)) (pe_callB call_len rfl T.len (by decide +kernel) (pa_cons (pe_dget (hu_of hr) (pv 0) pe_str (fun _ _ => rfl)) pa_nil))) (fun _ _ => rfl))))
    pss_nil)
  (pss_cons (ps_if (PW.pt (pw_and (pt_cmpR op_lt (pv 3) (pe_callB call_len rfl T.len (by decide +kernel) (pa_cons (pe_dget (hu_of hr) (pv 0) pe_str (fun _ _ => rfl)) pa_nil)) (nomark _)) (pw_and1 (pt_cmpR op_ge (pe_callB call_abs rfl T.abs (by decide +kernel) (pa_cons (pv 4) pa_nil)) (pe_op op_pow pe_int pe_int) (nomark _)))))
    (pss_cons (ps_dput (hu_of hr) (pv 0) pe_str (pe_op op_fdivW (pe_op op_sub (pe_callB call_abs rfl T.abs (by decide +kernel) (pa_cons (pv 4) pa_nil)) (pe_op op_pow pe_int pe_int)) (pv 1)) rfl)
    (pss_one (ps_ret (pe_op op_mod (pe_callTy call_int1 rfl T.int (by decide +kernel) (pa_cons (pe_op op_sub (pe_callB call_abs rfl T.abs (by decide +kernel) (pa_cons (pv 4) pa_nil)) (pe_op op_pow pe_int pe_int)) pa_nil)) (pv 1)))))
    pss_nil)
  (pss_cons (ps_set (i := 5) sc_law_draw.nd rfl (Or.inl rfl) (pe_op op_add (pe_op op_mul (pe_op op_mod (pe_callTy call_int1 rfl T.int (by decide +kernel) (pa_cons (pv 4) pa_nil)) pe_int) pe_int) (pe_op op_mul (pe_op op_mul pe_int (pv 3)) (pv 3))))
  (pss_cons (ps_set (i := 5) sc_law_draw.nd rfl (Or.inl rfl) (pe_op op_mod (pe_callTy call_int1 rfl T.int (by decide +kernel) (pa_cons (pe_op op_add (pe_op op_add (pv 5) (pe_op op_mul pe_int (pv 3))) pe_int) pa_nil)) pe_int))
  (pss_cons (ps_set (i := 5) sc_law_draw.nd rfl (Or.inl rfl) (pe_op op_mod (pe_callTy call_int1 rfl T.int (by decide +kernel) (pa_cons (pe_op op_add (pe_op op_add (pe_op op_add (pe_op op_mul (pv 5) (pv 5)) (pe_op op_mul pe_int (pv 5))) (pe_op op_mul pe_int (pv 3))) pe_int) pa_nil)) pe_int))
  (pss_cons (ps_set (i := 5) sc_law_draw.nd rfl (Or.inl rfl) (pe_op op_mod (pe_callTy call_int1 rfl T.int (by decide +kernel) (pa_cons (pe_op op_add (pe_op op_add (pe_op op_mul (pv 5) (pv 5)) (pe_op op_mul pe_int (pv 5))) (pv 3)) pa_nil)) pe_int))
  (pss_one (ps_ret (pe_op op_mod (pe_callTy call_int1 rfl T.int (by decide +kernel) (pa_cons (pe_op op_fdivW (pe_op op_mod (pe_callTy call_int1 rfl T.int (by decide +kernel) (pa_cons (pe_op op_mul (pv 5) (pe_op op_add (pv 5) pe_int)) pa_nil)) pe_int) pe_int) pa_nil)) (pv 1)))))))))))))), ?_⟩
  obtain ⟨b, l, hd, hb0, hbn⟩ := p.ex
  have hb : -(2 ^ 64) < b ∧ b < 2 ^ 64 := by omega
  have hdiv : L2.CDivW 0 m := wide_div hm (b := 21) (by omega) (by decide) (by decide)
  have kd : IsDk H d := p.isDk
  refine ⟨_, rfl, d, _, rfl, get_left hd, _, _, rfl, rfl, _, rfl, ?_⟩
  refine ite2 (fun c => ?_) (fun c => ?_)
  · refine ⟨_, rfl, d, _, rfl, get_left hd, .inl ⟨_, rfl, _, rfl, _, _, rfl, rfl, hm, ?_⟩⟩
    refine ⟨_, rfl, d, _, rfl, get_left hd, _, rfl, _, _, rfl, rfl, hdiv, _, rfl, d, _, rfl, put_left hd, _, rfl, ?_⟩
    exact q _ _ (Int.emod_nonneg _ (by omega)) (Int.emod_lt_of_pos _ hm) (keep_put _) (p.put hb0 (by omega))
  · refine ⟨_, rfl, d, _, rfl, get_begun hd, ?_⟩
    refine ⟨_, rfl, _, _, rfl, rfl, _, rfl, d, _, rfl, put_begun hd, ?_⟩
    have h1 : upd H d (.dK (penK L (b + 1) l)) d = some (.dK (penK L (b + 1) l)) := upd_same
    have p1 : Pen K (upd H d (.dK (penK L (b + 1) l))) d L ns (n + 1) := p.put (by omega) (by omega)
    have k1 : Keep d H (upd H d (.dK (penK L (b + 1) l))) := keep_put _
    generalize upd H d (.dK (penK L (b + 1) l)) = H1 at h1 p1 k1 ⊢
    refine ⟨_, rfl, _, _, rfl, rfl, .inl ⟨by decide, by decide⟩, _, _, rfl, rfl, ?_⟩
    refine ⟨_, rfl, d, _, rfl, get_cells h1, by show 0 ≤ sizeLine; decide, fun p0 np0 => ⟨.list (ns.map PyData.int), .list [], .lst ((same_new np0 _).seq p1.cells) (dpAll_ints ns), .lst (SqL.of upd_same) .nil, shaped_ints ns, by decide, _, rfl, ?_⟩⟩
    have h2 := same_new np0 (.lst []) _ _ h1
    have p2 := p1.same (same_new np0 (.lst []))
    have k2 : Keep d H (upd H1 p0 (.lst [])) := k1.trans (Same.toKeep (same_new np0 (.lst [])))
    generalize upd H1 p0 (.lst []) = H2 at h2 p2 k2 ⊢
    rw [eqv_nil]
    have hlen : ∀ x, (ns.map V.int).length = x → ns.length = x := fun x e => by rw [List.length_map] at e; exact e
    generalize hcv : (101 * b + 47 : Int) = c0
    refine ite2 (fun c1 => ?a) (fun c1 => ?b)
    case' a =>
      have hne : 0 < ns.length := by
        cases ns with
        | nil => cases c1
        | cons _ _ => exact Nat.succ_pos _
      have hpos : (0 : Int) < ((ns.map V.int).length : Nat) := by rw [List.length_map]; omega
      have hlt : (b % ((ns.map V.int).length : Nat)).toNat < ns.length := by
        have h3 := Int.emod_nonneg b (b := (((ns.map V.int).length : Nat) : Int)) (by omega)
        have h4 := Int.emod_lt_of_pos b hpos
        rw [List.length_map] at *
        omega
      have hat : atI (ns.map V.int) (b % ((ns.map V.int).length : Nat)) = some (V.int ns[(b % ((ns.map V.int).length : Nat)).toNat]) := by
        have h3 := Int.emod_nonneg b (b := (((ns.map V.int).length : Nat) : Int)) (by omega)
        have e := Int.toNat_of_nonneg h3
        have g := atI_nat (xs := ns.map V.int) (j := (b % ((ns.map V.int).length : Nat)).toNat) (v := V.int ns[(b % ((ns.map V.int).length : Nat)).toNat]) (by rw [List.getElem?_map, List.getElem?_eq_getElem hlt]; rfl)
        rw [e] at g
        exact g
      generalize ns[(b % ((ns.map V.int).length : Nat)).toNat] = c2 at hat
      refine ⟨_, rfl, d, _, rfl, get_cells h2, _, rfl, .inl ⟨_, rfl, _, rfl, d, _, rfl, get_cells h2, _, _, rfl, .inl ⟨_, p2.cells, rfl⟩, _, _, rfl, rfl, hpos, L, _, _, _, rfl, rfl, p2.cells, hat, ?_⟩⟩
    all_goals
      refine ⟨_, rfl, _, rfl, d, _, rfl, get_cells h2, _, _, rfl, .inl ⟨_, p2.cells, rfl⟩, _, _, rfl, rfl, _, rfl, ?_⟩
      refine ite2 (fun c4 => ?_) (fun c4 => ?_)
      refine ⟨_, rfl, _, rfl, _, _, rfl, rfl, ⟨by decide, by decide, by decide⟩, _, _, rfl, rfl, _, rfl, ?_⟩
      refine ite2 (fun c5 => ?_) (fun c5 => ?_)
      refine ⟨_, rfl, _, rfl, _, _, rfl, rfl, ⟨by decide, by decide, by decide⟩, _, _, rfl, rfl, _, rfl, _, _, rfl, rfl, hdiv, _, rfl, d, _, rfl, put_left h2, ?_⟩
      refine ⟨_, rfl, _, rfl, _, _, rfl, rfl, ⟨by decide, by decide, by decide⟩, _, _, rfl, rfl, .inl ⟨_, rfl, _, rfl, _, _, rfl, rfl, hm, ?_⟩⟩
      exact q _ _ (Int.emod_nonneg _ (by omega)) (Int.emod_lt_of_pos _ hm) (k2.trans (keep_put _)) (p2.put (by omega) (by omega))
      all_goals
        refine ⟨_, rfl, .inl ⟨_, rfl, _, _, rfl, rfl, (by show (0 : Int) < 2147483423; decide), _, _, rfl, rfl, .inr ⟨by decide, by decide⟩, _, rfl, _, _, rfl, rfl, .inl ⟨by decide, by decide⟩, _, rfl, _, _, rfl, rfl, .inr hb, _, _, rfl, rfl, ?_⟩⟩
        refine ⟨_, rfl, _, rfl, _, _, rfl, rfl, .inl ⟨by decide, by decide⟩, _, _, rfl, rfl, _, _, rfl, rfl, .inl ⟨_, rfl, _, _, rfl, rfl, (by show (0 : Int) < 2147483399; decide), ?_⟩⟩
        refine ⟨_, rfl, _, rfl, _, _, rfl, rfl, .inl ⟨by omega, by omega⟩, _, rfl, _, _, rfl, rfl, .inl ⟨by decide, by decide⟩, _, _, rfl, rfl, _, rfl, _, _, rfl, rfl, .inl ⟨by decide, by decide⟩, _, _, rfl, rfl, _, _, rfl, rfl, .inl ⟨_, rfl, _, _, rfl, rfl, (by show (0 : Int) < 2147483353; decide), ?_⟩⟩
        refine ⟨_, rfl, _, rfl, _, _, rfl, rfl, .inl ⟨by omega, by omega⟩, _, rfl, _, _, rfl, rfl, .inl ⟨by decide, by decide⟩, _, _, rfl, rfl, _, rfl, _, _, rfl, rfl, .inl ⟨_, rfl, _, _, rfl, rfl, (by show (0 : Int) < 2147483323; decide), ?_⟩⟩
        refine ⟨_, rfl, _, rfl, _, _, rfl, rfl, _, _, rfl, rfl, .inl ⟨by omega, by omega⟩, .inl ⟨_, rfl, _, _, rfl, rfl, (by show (0 : Int) < 2147483269; decide), _, _, rfl, rfl, ⟨by decide, by decide⟩, .inl ⟨_, rfl, _, rfl, _, _, rfl, rfl, hm, ?_⟩⟩⟩
        exact q _ _ (Int.emod_nonneg _ (by omega)) (Int.emod_lt_of_pos _ hm) k2 p2
end
end My

set_option Elab.async false
set_option linter.all false
set_option maxRecDepth 100000
namespace My
open PySem L2 SX
theorem atI_int {α : Type} {xs : List α} {r : Int} (h0 : 0 ≤ r) (h1 : r < (xs.length : Int)) : ∃ x, atI xs r = some x ∧ x ∈ xs := by
  have h : r.toNat < xs.length := by omega
  refine ⟨xs[r.toNat], ?_, List.getElem_mem h⟩
  have e := atI_nat (xs := xs) (j := r.toNat) (v := xs[r.toNat]) (List.getElem?_eq_getElem h)
  rw [Int.toNat_of_nonneg h0] at e
  exact e
theorem joinL_signs : ∀ cs : List Nat, TL.joinL [] (cs.map fun c => [c]) = cs
  | [] => rfl
  | [c] => rfl
  | c :: e :: r => by
    have ih := joinL_signs (e :: r)
    simp only [List.map_cons] at ih ⊢
    unfold TL.joinL
    rw [ih]
    rfl
theorem join_signs (cs : List Nat) : Txt.join (Str.ofString "") (cs.map fun c => (⟨#[c]⟩ : Str)) = S cs := by
  have e := join_S [] (cs.map fun c => [c])
  rw [joinL_signs, List.map_map] at e
  exact e
theorem sum_signs : ∀ cs : List Nat, ((cs.map fun c => (⟨#[c]⟩ : Str)).map (·.length)).sum = cs.length
  | [] => rfl
  | c :: cs => by
    have ih := sum_signs cs
    rw [List.map_cons, List.map_cons, List.sum_cons, ih, List.length_cons]
    show 1 + cs.length = cs.length + 1
    omega
theorem isName_cs {c : Nat} {cs : List Nat} (h : isL c = true) (hs : ∀ x ∈ cs, isLD x = true) (hl : cs.length ≤ 11) : isName (S (c :: cs)) = true := by
  have e := isName_eq (z := S (c :: cs)) (c := c) (by rw [S_len]; exact Nat.succ_pos _) (by rw [S_len, List.length_cons]; omega) rfl
  rw [e, h]
  show (true && (c :: cs).all isLD) = true
  rw [Bool.true_and, List.all_eq_true]
  intro x hx
  rcases List.mem_cons.mp hx with rfl | hx
  · unfold isLD
    rw [h]
    rfl
  · exact hs x hx
theorem isLD_asc {c : Nat} (h : isLD c = true) : c < 128 := by
  rw [← isLD_both] at h
  have h2 := of_decide_eq_true h
  have e : ∀ x ∈ zBoth.cps.toList, x < 128 := by decide +kernel
  exact e c h2
theorem okStr_of_name {z : Str} (h : isName z = true) : okStr z = true := by
  have h12 : 1 ≤ z.length ∧ z.length ≤ 12 := by
    by_cases c : 1 ≤ z.length ∧ z.length ≤ 12
    · exact c
    · rw [isName_out c] at h
      cases h
  obtain ⟨c, hc⟩ := head_some h12.1
  rw [isName_eq h12.1 h12.2 hc] at h
  have h2 := (Bool.and_eq_true_iff.mp h).2
  rw [List.all_eq_true] at h2
  unfold okStr
  rw [decide_eq_true (by omega), Bool.true_and, List.all_eq_true]
  intro x hx
  exact decide_eq_true (isLD_asc (h2 x hx))
theorem name_len {z : Str} (h : isName z = true) : 1 ≤ z.length ∧ z.length ≤ 12 := by
  by_cases c : 1 ≤ z.length ∧ z.length ≤ 12
  · exact c
  · rw [isName_out c] at h
    cases h
abbrev N_law_name : List Str := ["_law_pen", "_law_letters", "_law_many", "_law_rest", "_law_k"]
abbrev P_law_name : List Str := ["_law_pen"]
abbrev N_law_names : List Str := ["_law_pen", "_law_most", "_law_k"]
abbrev P_law_names : List Str := ["_law_pen", "_law_most"]
def spNameOf (K : PySem.W.Frag) : Sp := fun vs H Q _ => ∃ (d L : Addr) (ns : List Int) (n : Nat), vs = [.ref d] ∧ Pen K H d L ns n ∧ n < 2 ^ 39 ∧
  ∀ z H', isName z = true → Keep d H H' → Pen K H' d L ns (n + 13) → Q (.str z) H'
def spNames (K : PySem.W.Frag) : Sp := fun vs H Q _ => ∃ (d L : Addr) (ns : List Int) (n m : Nat), vs = [.ref d, .int m] ∧ Pen K H d L ns n ∧ n < 2 ^ 38 ∧ 0 < m ∧ m ≤ 100 ∧
  ∀ a zs H', (∀ z ∈ zs, isName z = true) → zs ≠ [] → zs.length ≤ 100 → SqL K H' a (zs.map V.str) → Keep d H H' → Pen K H' d L ns (n + 1 + 13 * m) → Q (.ref a) H'
section
variable {P : Program} {w : World} {K : PySem.W.Frag} {mg : Str → Option Value} {base : Heap} {f : Addr} {fd : FuncData}
theorem ok_law_pick (T : Txt K mg) (F : Fun K "_law_pick" "_law_pick" s_law_pick f fd) (C_law_draw : Cal P w K mg base "_law_draw" 1 ["_law_pen", "_law_span"] (spDraw K)) : FnOk P w K mg base CX0 2 f fd P_law_pick (spPick K) := by
  refine F.ok sc_law_pick (fun vs H Q E h => ?_) (fun cdv A outer s H vs Q E hr h => ?_)
  · obtain ⟨d, L, ns, n, v, rfl, _⟩ := h
    rfl
  obtain ⟨d, L, ns, n, v, rfl, p, hn, h⟩ := h
  refine ⟨_, (pss_one (ps_ret (pe_ix ix_seq (pv 1) (pe_callC C_law_draw hr (pa_cons (pv 0) (pa_cons (pe_callB call_len rfl T.len (by decide +kernel) (pa_cons (pv 1) pa_nil)) pa_nil))) (fun _ _ => rfl)))), ?_⟩
  rcases h with ⟨a, xs, rfl, hS, hne, hl, q⟩ | ⟨z, rfl, h1, h2, q⟩
  · have hpos : 0 < xs.length := by
      cases xs with
      | nil => exact absurd rfl hne
      | cons _ _ => exact Nat.succ_pos _
    refine ⟨_, rfl, _, rfl, _, rfl, _, _, rfl, .inl ⟨xs, hS, rfl⟩, d, L, ns, n, (xs.length : Int), rfl, p, hn, by omega, by omega, fun r H' r0 r1 k p' => ?_⟩
    obtain ⟨x, hx, hm⟩ := atI_int (xs := xs) r0 r1
    exact .inl ⟨a, xs, r, x, rfl, rfl, seqL_keep p.isDk k hS, hx, q x H' hm k p'⟩
  · have hz : z.length ≤ sizeLine := Nat.le_of_lt (small1000 h2)
    refine ⟨_, rfl, _, rfl, _, rfl, _, _, rfl, ⟨hz, rfl⟩, d, L, ns, n, (z.length : Int), rfl, p, hn, by omega, by omega, fun r H' r0 r1 k p' => ?_⟩
    have el : z.cps.toList.length = z.length := Array.length_toList
    obtain ⟨x, hx, hm⟩ := atI_int (xs := z.cps.toList) (r := r) r0 (by rw [el]; exact r1)
    exact .inr (.inr ⟨z, r, x, rfl, rfl, hz, hx, q x H' hm k p'⟩)
end
end My

set_option Elab.async false
set_option linter.all false
set_option maxRecDepth 100000
namespace My
open PySem L2 SX
theorem memD_inv {d : PyData} {zs : List Str} (h : memD d zs = true) : ∃ x, d = .str x ∧ x ∈ zs := by
  cases d with
  | str x => exact ⟨x, rfl, of_decide_eq_true h⟩
  | _ => cases h
theorem isNameD_inv {d : PyData} (h : isNameD d = true) : ∃ x, d = .str x ∧ isName x = true := by
  cases d with
  | str x => exact ⟨x, rfl, h⟩
  | _ => cases h
theorem isForm_inv {k : Nat} {D : PyData} (h : isForm k D = true) :
    (∃ w n, D = .tuple [.str w, .str n] ∧ w ∈ leafW ∧ isName n = true) ∨ ∃ j w a b, k = j + 1 ∧ D = .tuple [.str w, a, b] ∧ w ∈ halfW ∧ isForm j a = true ∧ isForm j b = true := by
  by_cases ht : isTupD D = true
  · cases D with
    | tuple ds =>
      match ds with
      | [a, n] =>
        rw [isForm_m2, Bool.and_eq_true] at h
        obtain ⟨w, rfl, hw⟩ := memD_inv h.1
        obtain ⟨x, rfl, hx⟩ := isNameD_inv h.2
        exact .inl ⟨w, x, rfl, hw, hx⟩
      | [a, b, c] =>
        cases k with
        | zero => rw [isForm_tup3_0] at h; cases h
        | succ j =>
          rw [isForm_m3, Bool.and_eq_true, Bool.and_eq_true] at h
          obtain ⟨w, rfl, hw⟩ := memD_inv h.1
          exact .inr ⟨j, w, b, c, rfl, rfl, hw, h.2.1, h.2.2⟩
      | [] => rw [isForm_tup_len _ _ (by simp) (by simp)] at h; cases h
      | [_] => rw [isForm_tup_len _ _ (by simp) (by simp)] at h; cases h
      | _ :: _ :: _ :: _ :: _ => rw [isForm_tup_len _ _ (by simp) (by simp)] at h; cases h
    | _ => cases ht
  · rw [Bool.not_eq_true] at ht
    rw [isForm_not_tup k D ht] at h
    cases h
theorem isForm_leaf (k : Nat) {w n : Str} (hw : w ∈ leafW) (hn : isName n = true) : isForm k (.tuple [.str w, .str n]) = true := by
  rw [isForm_m2]
  show (decide (w ∈ leafW) && isName n) = true
  rw [decide_eq_true hw, hn]
  rfl
theorem isForm_node {k : Nat} {w : Str} {a b : PyData} (hw : w ∈ halfW) (ha : isForm k a = true) (hb : isForm k b = true) : isForm (k + 1) (.tuple [.str w, a, b]) = true := by
  rw [isForm_m3, ha, hb]
  show (decide (w ∈ halfW) && _) = true
  rw [decide_eq_true hw]
  rfl
theorem isForm_up : ∀ {k : Nat} {D : PyData}, isForm k D = true → isForm (k + 1) D = true := by
  intro k
  induction k with
  | zero =>
    intro D h
    rcases isForm_inv h with ⟨w, n, rfl, hw, hn⟩ | ⟨j, w, a, b, e, _⟩
    · exact isForm_leaf _ hw hn
    · cases e
  | succ k ih =>
    intro D h
    rcases isForm_inv h with ⟨w, n, rfl, hw, hn⟩ | ⟨j, w, a, b, e, rfl, hw, ha, hb⟩
    · exact isForm_leaf _ hw hn
    · obtain rfl : k = j := by omega
      exact isForm_node hw (ih ha) (ih hb)
theorem isForm_le {k m : Nat} {D : PyData} (h : isForm k D = true) (l : k ≤ m) : isForm m D = true := by
  induction l with
  | refl => exact h
  | step _ ih => exact isForm_up ih
theorem okStr_leaf : ∀ w ∈ leafW, okStr w = true := by decide +kernel
theorem okStr_half : ∀ w ∈ halfW, okStr w = true := by decide +kernel
theorem short_form : ∀ {k : Nat} {D : PyData}, isForm k D = true → shortD D = true := by
  intro k
  induction k with
  | zero =>
    intro D h
    rcases isForm_inv h with ⟨w, n, rfl, hw, hn⟩ | ⟨j, w, a, b, e, _⟩
    · simp only [shortD, shortAll, okStr_leaf w hw, okStr_of_name hn, Bool.and_self]
    · cases e
  | succ k ih =>
    intro D h
    rcases isForm_inv h with ⟨w, n, rfl, hw, hn⟩ | ⟨j, w, a, b, e, rfl, hw, ha, hb⟩
    · simp only [shortD, shortAll, okStr_leaf w hw, okStr_of_name hn, Bool.and_self]
    · obtain rfl : k = j := by omega
      have h1 := ih ha
      have h2 := ih hb
      unfold shortD
      simp only [shortAll, h1, h2, Bool.and_true]
      unfold shortD
      exact okStr_half w hw
theorem depth_form : ∀ {k : Nat} {D : PyData}, isForm k D = true → D.depth ≤ k + 1 := by
  intro k
  induction k with
  | zero =>
    intro D h
    rcases isForm_inv h with ⟨w, n, rfl, hw, hn⟩ | ⟨j, w, a, b, e, _⟩
    · simp [PyData.depth, PyData.depthAll]
    · cases e
  | succ k ih =>
    intro D h
    rcases isForm_inv h with ⟨w, n, rfl, hw, hn⟩ | ⟨j, w, a, b, e, rfl, hw, ha, hb⟩
    · simp [PyData.depth, PyData.depthAll]
    · obtain rfl : k = j := by omega
      have h1 := ih ha
      have h2 := ih hb
      simp only [PyData.depth, PyData.depthAll]
      omega
theorem arg_eq {x y : V} {G : V → Hp → Prop} {H : Hp} (e : x = y) (h : G y H) : G x H := by
  rw [e]
  exact h
/-- the least depth of a form -/
def Deep (j : Nat) (D : PyData) : Prop := isForm j D = true ∧ ∀ i, i < j → isForm i D = false
theorem deep_node {x y : Nat} {w : Str} {a b : PyData} (hw : w ∈ halfW) (ha : Deep x a) (hb : Deep y b) {m : Nat} (hm : m = x ∨ m = y) (hx : x ≤ m) (hy : y ≤ m) : Deep (m + 1) (.tuple [.str w, a, b]) := by
  refine ⟨isForm_node hw (isForm_le ha.1 hx) (isForm_le hb.1 hy), fun i hi => ?_⟩
  cases i with
  | zero => exact isForm_tup3_0 _ _ _
  | succ i =>
    rw [isForm_m3]
    rcases hm with rfl | rfl
    · rw [ha.2 i (by omega), Bool.false_and, Bool.and_false]
    · rw [hb.2 i (by omega), Bool.and_false, Bool.and_false]
theorem deep_leaf {w n : Str} (hw : w ∈ leafW) (hn : isName n = true) : Deep 0 (.tuple [.str w, .str n]) := ⟨isForm_leaf 0 hw hn, fun i hi => by omega⟩
abbrev N_law_depth : List Str := ["_law_form"]
abbrev P_law_depth : List Str := ["_law_form"]
abbrev N_law_shape : List Str := ["_law_pen", "_law_names_here", "_law_many", "_law_tall", "_law_room", "_law_low", "_law_high", "_law_way", "_law_left", "_law_word", "_law_one"]
abbrev P_law_shape : List Str := ["_law_pen", "_law_names_here", "_law_many", "_law_tall"]
abbrev N_law_deeper : List Str := ["_law_form", "_law_tall", "_law_k"]
abbrev P_law_deeper : List Str := ["_law_form", "_law_tall"]
def spDepth (K : PySem.W.Frag) (k : Nat) : Sp := fun vs H Q _ => ∃ (v : V) (D : PyData) (k' : Nat), vs = [v] ∧ k' < k ∧ Dp K H v D ∧ isForm k' D = true ∧ ∀ (j : Nat) H', j ≤ k' → Deep j D → Same H H' → Q (.int j) H'
def spDeeper (K : PySem.W.Frag) : Sp := fun vs H Q _ => ∃ (v : V) (D : PyData) (t : Nat), vs = [v, .int t] ∧ 12 ≤ t ∧ t ≤ 2000 ∧ Dp K H v D ∧ isForm 12 D = true ∧ ∀ v' D' H', Dp K H' v' D' → Deep t D' ∨ (t = 12 ∧ isForm 12 D' = true) → Same H H' → Q v' H'
def spShape (K : PySem.W.Frag) (k : Nat) : Sp := fun vs H Q _ => ∃ (d L : Addr) (ns : List Int) (n : Nat) (a : Addr) (zs : List Str) (m t : Nat), vs = [.ref d, .ref a, .int m, .int t] ∧ t < k ∧ Pen K H d L ns n ∧ n + 5 * m < 2 ^ 39 ∧
  SqL K H a (zs.map V.str) ∧ zs ≠ [] ∧ zs.length ≤ 1000 ∧ (∀ z ∈ zs, isName z = true) ∧ 1 ≤ m ∧ m ≤ 1000 ∧ m ≤ 2 ^ t ∧ t ≤ 60 ∧
  ∀ v D H', Dp K H' v D → isForm t D = true → Keep d H H' → Pen K H' d L ns (n + (5 * m - 3)) → Q v H'
section
variable {P : Program} {w : World} {K : PySem.W.Frag} {mg : Str → Option Value} {base : Heap} {f : Addr} {fd : FuncData}
set_option maxHeartbeats 2000000 in
end
end My

set_option Elab.async false
set_option linter.all false
set_option maxRecDepth 100000
namespace My
open PySem PySem.Spec PyProof.Rows L2 SX HT
/-! ### t[::-1] -/
section
variable {prog : Program} {w : World} {A : Around} {E : Value → Shared → Prop} {s : Shared}
theorem back_applied {sl : Addr} {vk : Value} {n : Nat} {Q : Int × Int × Nat → Shared → Prop} (hs : s.heap.IsSliceOf sl .none .none vk) (pk : IsPart vk (some (-1)))
    (h : Q ((n : Int) - 1, -1, n) s) : wpAny (model prog w) A (Builtin.Slice.sliceApplied (.ref sl) (pure (n : Int))) Q E s := by
  obtain ⟨o, ho, hc, hd⟩ := id hs
  unfold Builtin.Slice.sliceApplied Builtin.Slice.sliceFields
  refine wpAny_bind (wpAny_bind (wpAny_field ho hd (x := .none) rfl (wpAny_bind (wpAny_field ho hd (x := .none) rfl (wpAny_bind (wpAny_field ho hd (x := vk) rfl (wpAny_pure ?_)))))))
  refine wpAny_bind (slicePart_ pk ?_)
  show wpAny _ _ (if ((-1 : Int) == 0) = true then _ else _) _ _ s
  rw [if_neg (by decide)]
  refine wpAny_bind (slicePart_none (wpAny_bind (slicePart_none (wpAny_bind (wpAny_pure ?_)))))
  have e : Builtin.Slice.sliceAdjust none none (-1) (n : Int) = ((n : Int) - 1, -1) := rfl
  show wpAny _ _ (match Builtin.Slice.sliceAdjust none none (-1) (n : Int) with | (lo, hi) => pure (lo, (-1 : Int), Builtin.Slice.slicePlaces lo hi (-1))) _ _ s
  rw [e]
  have e2 : Builtin.Slice.slicePlaces ((n : Int) - 1) (-1) (-1) = n := by
    unfold Builtin.Slice.slicePlaces
    rw [if_neg (by decide)]
    by_cases hn : n = 0
    · subst hn; rfl
    · rw [if_pos (by omega)]
      have : ((n : Int) - 1 - -1 - 1) / (- -1) + 1 = (n : Int) := by
        show ((n : Int) - 1 - -1 - 1) / 1 + 1 = (n : Int)
        rw [Int.ediv_one]
        omega
      rw [this, Int.toNat_natCast]
  show wpAny _ _ (pure ((n : Int) - 1, (-1 : Int), Builtin.Slice.slicePlaces ((n : Int) - 1) (-1) (-1))) _ _ s
  rw [e2]
  exact wpAny_pure h
theorem back_picked (xs : Array Value) : ((List.range xs.size).filterMap fun (k : Nat) => xs[(((xs.size : Int) - 1) + (k : Int) * (-1)).toNat]?).toArray = xs.toList.reverse.toArray := by
  have e : (List.range xs.size).filterMap (fun (k : Nat) => xs[(((xs.size : Int) - 1) + (k : Int) * (-1)).toNat]?) = ((List.range xs.size).map fun k => xs.size - 1 - k).filterMap (xs[·]?) := by
    rw [List.filterMap_map]
    congr 1
    funext k
    have : (((xs.size : Int) - 1) + (k : Int) * (-1)).toNat = xs.size - 1 - k := by omega
    rw [this]
    rfl
  rw [e, PySem.W.krv_range, List.filterMap_reverse, PySem.W.krv_all]
theorem back_item {t sl : Addr} {items : Array Value} {vk : Value} {Q : Value → Shared → Prop} (ht : IsTup s.heap t items) (hs : s.heap.IsSliceOf sl .none .none vk) (pk : IsPart vk (some (-1)))
    (h : Q (.ref s.heap.objs.size) { s with heap := s.heap.push { cls := .type "tuple", data := .seq items.toList.reverse.toArray } }) (hz : items.size ≤ sizeLine) : wpAny (model prog w) A (getItem (.ref t) (.ref sl)) Q E s := by
  have hsz : sizeOk (.seq items.toList.reverse.toArray) := by
    show items.toList.reverse.toArray.size ≤ sizeLine
    rw [List.size_toArray, List.length_reverse, Array.length_toList]
    exact hz
  obtain ⟨o, ho, hc, hd⟩ := id hs
  have hT : s.TypeIs (.ref sl) "slice" := ⟨o, ho, hc⟩
  unfold getItem
  try with_reducible refine wpAny_holding ?_
  first | refine wpAny_bind (wpAny_pure ?_) | skip
  refine wpAny_bind (wpAny_sequenceKey ht.typeIs (by decide) (wpAny_bind (wpAny_callSpecial?_slot (name := Str.ofString "__getitem__") ht.typeIs slot_tuple_getitem (wpAny_call_entry slot_tuple_getitem ht.typeIs entry_tuple_getitem ?_ (args_tuple_getitem _ _)))))
  show wpAny _ _ (Builtin.Tuple.tupleItemsOf (.ref t) >>= _) _ _ s
  refine wpAny_bind (tupleItemsOf_ ht (wpAny_bind (wpAny_typeOf hT ?_)))
  rw [if_pos (by decide)]
  refine wpAny_bind (back_applied hs pk ?_)
  have hno : ¬ ((((items.size : Int) - 1) == 0 && (-1 : Int) == 1 && items.size == items.size) = true) := by
    rw [Bool.and_eq_true, Bool.and_eq_true]
    rintro ⟨⟨_, q⟩, _⟩
    exact absurd q (by decide)
  show wpAny _ _ (if (((items.size : Int) - 1) == 0 && (-1 : Int) == 1 && items.size == items.size) = true then _ else _) _ _ s
  rw [if_neg hno, back_picked]
  first
    | exact wpAny_bind (m := Builtin.Tuple.tupleExact _) (wpAny_newObj_type (wpAny_pure ⟨_, rfl, wpAny_pure h⟩) hsz)
    | exact wpAny_bind (m := Builtin.Tuple.tupleExact _) (wpAny_newObj_type (wpAny_bind (wpAny_pure (wpAny_pure ⟨_, rfl, wpAny_pure h⟩))) hsz)
    | exact wpAny_bind (wpAny_bind (m := Builtin.Tuple.tupleExact _) (wpAny_newObj_type (wpAny_pure (wpAny_pure ⟨_, rfl, wpAny_pure h⟩)) hsz))
    | exact wpAny_bind (wpAny_bind (m := Builtin.Tuple.tupleExact _) (wpAny_newObj_type (wpAny_pure ⟨_, rfl, wpAny_pure h⟩) hsz))
end
section
variable {X : Cx}
def tRevT (K : PySem.W.Frag) (te : TE) : TE := fun σ H Q => te σ H fun x H1 => ∃ a xs, x = .ref a ∧ SqT K H1 a xs ∧ ∀ p, H1 p = none → Q (.ref p) (upd H1 p (.tup xs.reverse))
theorem pe_revT {e : Expr} {te : TE} {k : Nat} {p1 p2 p3 pos : Pos} (he : PE X e te) : PE X (.Subscript e (.Slice none none (some (.UnaryOp .USub (.Constant (.int 1) k p1) p2)) p3) pos) (tRevT X.K te) := by
  refine ⟨fun pins s σ H Q I h => Subscript_ (thn (he.run pins s σ H _ I h) fun v s1 ⟨x, H1, I1, r1, a, xs, ex, hx, q⟩ => ?_)⟩
  subst ex
  cases r1
  have hst : PO X (some (.UnaryOp .USub (.Constant (.int 1) k p1) p2)) (tPart (tUn (rU fun i => .int (-i)) (tC (.int 1)))) := po_some (pe_un un_neg pe_int)
  refine wpAny_Slice (thn (po_none.run pins s1 σ H1 (fun o H2 => o = none ∧ H2 = H1) I1 ⟨rfl, rfl⟩) fun vl s2 ⟨l, H2, I2, pl, el, e2⟩ => ?_)
  subst el e2
  refine thn (po_none.run pins s2 σ H2 (fun o H3 => o = none ∧ H3 = H2) I2 ⟨rfl, rfl⟩) fun vu s3 ⟨u, H3, I3, pu, eu, e3⟩ => ?_
  subst eu e3
  refine thn (hst.run pins s3 σ H3 (fun o H4 => o = some (-1) ∧ H4 = H3) I3 ⟨1, rfl, -1, rfl, rfl, rfl⟩) fun vs s4 ⟨o, H4, I4, ps, eo, e4⟩ => ?_
  subst eo e4
  cases pl
  cases pu
  have I5 : Inv X pins σ H4 { s4 with heap := s4.heap.push { cls := .type "slice", data := .fields #[.none, .none, vs] } } := I4.kept (t' := s4.toks) fun b ob q => Heap.get?_push_of_some _ q
  obtain ⟨its, r, ht, hz⟩ := I5.tuple hx
  have hlen := r.length
  show wpAny (model X.prog X.w) X.A (subscriptTail e (.Slice none none (some (.UnaryOp .USub (.Constant (.int 1) k p1) p2)) p3) (.ref a) (.ref s4.heap.objs.size)) (EP X pins σ Q) X.xe { s4 with heap := s4.heap.push { cls := .type "slice", data := .fields #[.none, .none, vs] } }
  refine tail_any (ops := [.ref a, .ref s4.heap.objs.size]) ht.typeIs (slot_tuple_getitem.lookup) ?_ (by with_unfolding_all rfl)
  refine back_item ht (Heap.IsSliceOf.new _ .none .none vs) ps ?_ (by rw [List.size_toArray]; omega)
  refine ⟨.ref _, _, I5.laid (t' := s4.toks) (o := .tup xs.reverse) (fun b ob q => Heap.get?_push_of_some _ q) (Nat.le_refl _) ?_, rfl, q _ (I5.hok.fresh (Nat.le_refl _))⟩
  exact ⟨by rw [List.length_reverse]; exact hz, its.reverse, r.reverse, _, Heap.get?_push_size _ rfl, rfl, _, rfl⟩
end
/-! ### texts that are short and of plain signs -/
theorem okS {z : Str} : okStr z = true ↔ z.length ≤ 1000 ∧ ∀ c ∈ z.cps.toList, c < 128 := by
  unfold okStr
  rw [Bool.and_eq_true, List.all_eq_true]
  constructor
  · exact fun h => ⟨of_decide_eq_true h.1, fun c hc => of_decide_eq_true (h.2 c hc)⟩
  · exact fun h => ⟨decide_eq_true h.1, fun c hc => decide_eq_true (h.2 c hc)⟩
theorem tl_len (z : Str) : z.cps.toList.length = z.length := Array.length_toList
theorem cut_tl (z : Str) (lo hi : Option Int) : (cutS z lo hi).cps.toList = (z.cps.toList.drop (HT.sIx z.length 0 lo)).take (HT.sIx z.length z.length hi - HT.sIx z.length 0 lo) := rfl
theorem cut_len (z : Str) (lo hi : Option Int) : (cutS z lo hi).length ≤ z.length := by
  rw [← tl_len, cut_tl, List.length_take, List.length_drop, tl_len]
  omega
theorem cut_asc {z : Str} (lo hi : Option Int) (h : ∀ c ∈ z.cps.toList, c < 128) : ∀ c ∈ (cutS z lo hi).cps.toList, c < 128 := fun c hc => by
  rw [cut_tl] at hc
  exact h c (List.mem_of_mem_drop (List.mem_of_mem_take hc))
theorem cat_tl (a b : Str) : (a ++ b).cps.toList = a.cps.toList ++ b.cps.toList := TL.tl_append a b
theorem cat_len (a b : Str) : (a ++ b).length = a.length + b.length := by
  rw [← tl_len, cat_tl, List.length_append, tl_len, tl_len]
theorem cat_asc {a b : Str} (ha : ∀ c ∈ a.cps.toList, c < 128) (hb : ∀ c ∈ b.cps.toList, c < 128) : ∀ c ∈ (a ++ b).cps.toList, c < 128 := fun c hc => by
  rw [cat_tl] at hc
  rcases List.mem_append.mp hc with hc | hc
  · exact ha c hc
  · exact hb c hc
theorem one_asc {c : Nat} (h : c < 128) : ∀ x ∈ (⟨#[c]⟩ : Str).cps.toList, x < 128 := fun x hx => by
  rw [List.mem_singleton.mp hx]
  exact h
theorem upper_ok {z : Str} (h : ∀ c ∈ z.cps.toList, c < 128) : (Txt.upper z).length = z.length ∧ ∀ c ∈ (Txt.upper z).cps.toList, c < 128 := by
  have e := upper_S (a := z.cps.toList) (by rw [List.all_eq_true]; exact fun c hc => decide_eq_true (h c hc))
  rw [S_tl] at e
  rw [e]
  refine ⟨by rw [S_len, List.length_map, tl_len], fun c hc => ?_⟩
  obtain ⟨x, hx, rfl⟩ := List.mem_map.mp (show c ∈ z.cps.toList.map up1 from hc)
  have := h x hx
  unfold up1
  split <;> omega
end My

set_option Elab.async false
set_option linter.all false
set_option maxRecDepth 100000
namespace My
open PySem L2 SX
abbrev N_law_bent_name : List Str := ["_law_pen", "_law_name_here", "_law_at", "_law_sign", "_law_way"]
abbrev P_law_bent_name : List Str := ["_law_pen", "_law_name_here"]
def spBentName (K : PySem.W.Frag) : Sp := fun vs H Q _ => ∃ (d L : Addr) (ns : List Int) (n : Nat) (z : Str), vs = [.ref d, .str z] ∧ Pen K H d L ns n ∧ n < 2 ^ 39 ∧ isName z = true ∧
  ∀ v D H', Dp K H' v D → shortD D = true → D.depth ≤ 1 → Keep d H H' → Pen K H' d L ns (n + 4) → Q v H'
def zSigns : Str := Str.ofString "AZ_-~ .,()*|&+09az\n\t"
theorem signs_asc : ∀ c ∈ zSigns.cps.toList, c < 128 := by decide +kernel
theorem add_fit {a b : Str} (ha : a.length ≤ 400) (hb : b.length ≤ 400) : a.length + b.length ≤ sizeLine := Nat.le_of_lt (small1000 (by omega))
section
variable {P : Program} {w : World} {K : PySem.W.Frag} {mg : Str → Option Value} {base : Heap} {f : Addr} {fd : FuncData}
end
end My

set_option Elab.async false
set_option linter.all false
set_option maxRecDepth 100000
namespace My
open PySem PySem.Spec PyProof.Rows L2 SX
/-! ### the same rules, the heap behind them left open -/
/-- a new object -/
def New (o : HO) (Q : VK) (H : Hp) : Prop := ∀ p H', Same H H' → H' p = some o → Q (.ref p) H'
/-- a tuple, new or not -/
def NewT (K : PySem.W.Frag) (xs : List V) (Q : VK) (H : Hp) : Prop := ∀ p H', Same H H' → SqT K H' p xs → Q (.ref p) H'
theorem New.go {o : HO} {Q : VK} {H : Hp} (h : New o Q H) : ∀ p, H p = none → Q (.ref p) (upd H p o) := fun p np => h p _ (same_new np o) upd_same
theorem NewT.go {K : PySem.W.Frag} {xs : List V} {Q : VK} {H : Hp} (h : NewT K xs Q H) : ∀ p, H p = none → Q (.ref p) (upd H p (.tup xs)) := fun p np => h p _ (same_new np _) (SqT.of upd_same)
theorem le1k {n : Nat} (h : Nat.ble n 1000 = true := by rfl) : n ≤ 1000 := Nat.le_of_ble_eq_true h
theorem fit1000 {n : Nat} (h : n ≤ 1000) : n ≤ sizeLine := Nat.le_of_lt (small1000 h)
def nTup (K : PySem.W.Frag) (t : TA) : TE := fun σ H Q => t σ H fun xs H1 => xs.length ≤ 1000 ∧ NewT K xs Q H1
def nLst (t : TA) : TE := fun σ H Q => t σ H fun xs H1 => xs.length ≤ 1000 ∧ New (.lst xs) Q H1
def nCatT (K : PySem.W.Frag) : R2 := fun x y H Q => ∃ a b xs ys, x = .ref a ∧ y = .ref b ∧ SqT K H a xs ∧ SqT K H b ys ∧ xs.length + ys.length ≤ 1000 ∧ NewT K (xs ++ ys) Q H
def nCatL : R2 := fun x y H Q => ∃ l b xs zs, x = .ref l ∧ y = .ref b ∧ H l = some (.lst xs) ∧ H b = some (.lst zs) ∧ xs.length + zs.length ≤ 1000 ∧ New (.lst (xs ++ zs)) Q H
def nSlT (K : PySem.W.Frag) : V → Option Int → Option Int → Hp → VK → Prop := fun x lo hi H Q => ∃ a xs, x = .ref a ∧ SqT K H a xs ∧ NewT K (cutV xs lo hi) Q H
def nListOf (K : PySem.W.Frag) : List V → Hp → VK → Prop := fun xs H Q => ∃ p ys, xs = [.ref p] ∧ (SqL K H p ys ∨ SqT K H p ys) ∧ New (.lst ys) Q H
section
variable {X : Cx} {es : List Expr} {t : TA} {pos : Pos}
theorem pe_tupN {x1} (h : PA X es t) : PE X (.Tuple es x1 pos) (nTup X.K t) := by
  refine ⟨fun pins s σ H Q I hq => wpAny_Tuple_spliced (thn (h.run pos pins s σ H _ I hq) fun us s1 ⟨xs, H1, I1, r, z, q⟩ => ⟨by rw [← r.length]; exact fit1000 z, ?_⟩)⟩
  have hf := I1.hok.fresh (Nat.le_refl s1.heap.objs.size)
  exact ⟨.ref s1.heap.objs.size, upd H1 s1.heap.objs.size (.tup xs), I1.laid (t' := s1.toks) (fun b u e => Heap.get?_push_of_some _ e) (Nat.le_refl _) ⟨fit1000 z, us, r, ⟨_, Heap.get?_push_size _ rfl, rfl, _, rfl⟩⟩, rfl, q.go _ hf⟩
theorem pe_lstN (h : PA X es t) : PE X (.List es pos) (nLst t) := by
  refine ⟨fun pins s σ H Q I hq => wpAny_List_spliced (thn (h.run pos pins s σ H _ I hq) fun us s1 ⟨xs, H1, I1, r, z, q⟩ => ⟨by rw [← r.length]; exact fit1000 z, ?_⟩)⟩
  have hf := I1.hok.fresh (Nat.le_refl s1.heap.objs.size)
  exact ⟨.ref s1.heap.objs.size, upd H1 s1.heap.objs.size (.lst xs), I1.laid (t' := s1.toks) (fun b u e => Heap.get?_push_of_some _ e) (Nat.le_refl _) ⟨fit1000 z, us, 0, r, Heap.get?_push_size _ rfl⟩, rfl, q.go _ hf⟩
theorem op_catTN : OpR X (binaryOp .Add) (nCatT X.K) := by
  intro pins s σ H x y v u Q I rx ry ⟨a, b, xs, ys, ex, ey, hx, hy, hl, q⟩
  refine op_catA pins s σ H x y v u Q I rx ry ⟨a, b, xs, ys, ex, ey, hx, hy, fit1000 hl, fun e => ?_, fun _ e => ?_, fun _ _ => q.go⟩
  · subst e
    exact q b H (Same.refl H) hy
  · subst e
    exact q a H (Same.refl H) (by rw [List.append_nil]; exact hx)
theorem op_catLN : OpR X (binaryOp .Add) nCatL := by
  intro pins s σ H x y v u Q I rx ry ⟨l, b, xs, zs, ex, ey, hx, hy, hl, q⟩
  exact op_cat pins s σ H x y v u Q I rx ry ⟨l, b, xs, zs, ex, ey, hx, hy, fit1000 hl, q.go⟩
theorem sl_tupN : SlR X (nSlT X.K) := by
  intro pins s σ H x v vl vu lo hi sl Q I rx hs pl pu ⟨a, xs, ex, hx, q⟩
  refine sl_tupA pins s σ H x v vl vu lo hi sl Q I rx hs pl pu ⟨a, xs, ex, hx, fun ⟨e1, e2⟩ => ?_, fun _ => q.go⟩
  refine q a H (Same.refl H) ?_
  have e : cutV xs lo hi = xs := by
    unfold cutV
    rw [e1, e2, List.drop_zero, Nat.sub_zero, List.take_length]
  rw [e]
  exact hx
theorem call_listN : CallR X (.type "list") (nListOf X.K) := by
  intro pins s σ H xs us Q I r ⟨p, ys, ex, hy, q⟩
  exact call_list_of pins s σ H xs us Q I r ⟨p, ys, ex, hy, q.go⟩
end
abbrev N_law_bent : List Str := ["_law_pen", "_law_form", "_law_at", "_law_rest", "_law_odd"]
abbrev P_law_bent : List Str := ["_law_pen", "_law_form"]
def spBent (K : PySem.W.Frag) (k : Nat) : Sp := fun vs H Q _ => ∃ (d L : Addr) (ns : List Int) (n : Nat) (v : V) (D : PyData) (k' : Nat), vs = [.ref d, v] ∧ k' < k ∧ k' ≤ 40 ∧ Pen K H d L ns n ∧ n + 3 * k' < 2 ^ 38 ∧ Dp K H v D ∧ isForm k' D = true ∧
  ∀ v' D' H', Dp K H' v' D' → shortD D' = true → D'.depth ≤ k' + 4 → Keep d H H' → Pen K H' d L ns (n + (2 * k' + 5)) → Q v' H'
theorem okStr_s : ∀ w ∈ leafW ++ halfW, okStr (w ++ Str.ofString "s") = true := by decide +kernel
theorem word_len : ∀ w ∈ leafW ++ halfW, w.length ≤ 100 := by decide +kernel
section
variable {P : Program} {w : World} {K : PySem.W.Frag} {mg : Str → Option Value} {base : Heap} {f : Addr} {fd : FuncData}
set_option maxHeartbeats 4000000 in
end
end My

set_option Elab.async false
set_option linter.all false
set_option maxRecDepth 100000
namespace My
open PySem L2
/-! ### forms and kinds as trees -/
inductive Sg where
  | mul | bar | amp | plus
deriving DecidableEq
def Sg.fw : Sg → Str | .mul => Str.ofString "both" | .bar => Str.ofString "between" | .amp => Str.ofString "offered" | .plus => Str.ofString "chosen"
def Sg.kw : Sg → Str | .mul => Str.ofString "pair" | .bar => Str.ofString "to" | .amp => Str.ofString "offer" | .plus => Str.ofString "sum"
def Sg.ctr : Sg → Sg | .mul => .bar | .bar => .mul | .amp => .plus | .plus => .amp
def leafZ (co : Bool) : Str := if co then Str.ofString "counter" else Str.ofString "good"
inductive FT where
  | leaf (co : Bool) (n : Str)
  | node (s : Sg) (l r : FT)
def FT.dep : FT → Nat | .leaf _ _ => 0 | .node _ l r => 1 + max l.dep r.dep
def FT.data (wd : Sg → Str) : FT → PyData | .leaf co n => .tuple [.str (leafZ co), .str n] | .node s l r => .tuple [.str (wd s), l.data wd, r.data wd]
def FT.Ok : FT → Prop | .leaf _ n => isName n = true | .node _ l r => l.Ok ∧ r.Ok
/-- a kind: no counters -/
def FT.Kd : FT → Prop | .leaf co _ => co = false | .node _ l r => l.Kd ∧ r.Kd
def FT.ctr : FT → FT | .leaf co n => .leaf (!co) n | .node s l r => .node s.ctr l.ctr r.ctr
def FT.names : FT → List Str | .leaf _ n => [n] | .node _ l r => l.names ++ r.names
def FT.lvs : FT → Nat | .leaf _ _ => 1 | .node _ l r => l.lvs + r.lvs
def FT.isLeaf : FT → Bool | .leaf _ _ => true | .node _ _ _ => false
/-- the form of a kind -/
def fOf : FT → FT | .leaf co n => .leaf co n | .node s l r => .node s (if s = .bar then (fOf l).ctr else fOf l) (fOf r)
/-- the kind of a form, given or taken -/
def kG : Bool → FT → Option FT
  | c, .leaf co n => if co = c then some (.leaf false n) else none
  | c, .node s l r =>
    match kG (if (if c then s.ctr else s) = .bar then !c else c) l, kG c r with
    | some a, some b => some (.node (if c then s.ctr else s) a b)
    | _, _ => none
theorem Sg.ctr2 (s : Sg) : s.ctr.ctr = s := by cases s <;> rfl
theorem FT.ctr2 : ∀ t : FT, t.ctr.ctr = t
  | .leaf co n => by cases co <;> rfl
  | .node s l r => by show FT.node s.ctr.ctr l.ctr.ctr r.ctr.ctr = _; rw [Sg.ctr2, FT.ctr2 l, FT.ctr2 r]
theorem FT.ctr_dep : ∀ t : FT, t.ctr.dep = t.dep
  | .leaf _ _ => rfl
  | .node s l r => by show 1 + max l.ctr.dep r.ctr.dep = 1 + max l.dep r.dep; rw [FT.ctr_dep l, FT.ctr_dep r]
theorem FT.ctr_ok : ∀ t : FT, t.Ok → t.ctr.Ok
  | .leaf _ _, h => h
  | .node s l r, h => ⟨FT.ctr_ok l h.1, FT.ctr_ok r h.2⟩
theorem FT.ctr_names : ∀ t : FT, t.ctr.names = t.names
  | .leaf _ _ => rfl
  | .node s l r => by show l.ctr.names ++ r.ctr.names = _; rw [FT.ctr_names l, FT.ctr_names r]; rfl
theorem fOf_dep : ∀ t : FT, (fOf t).dep = t.dep
  | .leaf _ _ => rfl
  | .node s l r => by
    show 1 + max (if s = .bar then (fOf l).ctr else fOf l).dep (fOf r).dep = 1 + max l.dep r.dep
    rw [fOf_dep r]
    by_cases e : s = .bar
    · rw [if_pos e, FT.ctr_dep, fOf_dep l]
    · rw [if_neg e, fOf_dep l]
theorem fOf_ok : ∀ t : FT, t.Ok → (fOf t).Ok
  | .leaf _ _, h => h
  | .node s l r, h => by
    refine ⟨?_, fOf_ok r h.2⟩
    by_cases e : s = .bar
    · rw [if_pos e]; exact FT.ctr_ok _ (fOf_ok l h.1)
    · rw [if_neg e]; exact fOf_ok l h.1
theorem fOf_names : ∀ t : FT, (fOf t).names = t.names
  | .leaf _ _ => rfl
  | .node s l r => by
    show (if s = .bar then (fOf l).ctr else fOf l).names ++ (fOf r).names = l.names ++ r.names
    rw [fOf_names r]
    by_cases e : s = .bar
    · rw [if_pos e, FT.ctr_names, fOf_names l]
    · rw [if_neg e, fOf_names l]
theorem kG_ctr : ∀ (c : Bool) (t : FT), kG c t.ctr = kG (!c) t
  | c, .leaf co n => by cases c <;> cases co <;> rfl
  | c, .node s l r => by
    show (match kG (if (if c then s.ctr.ctr else s.ctr) = .bar then !c else c) l.ctr, kG c r.ctr with
      | some a, some b => some (FT.node (if c then s.ctr.ctr else s.ctr) a b)
      | _, _ => none) = _
    rw [kG_ctr _ l, kG_ctr _ r, Sg.ctr2]
    cases c <;> cases s <;> rfl
theorem kG_fOf : ∀ t : FT, t.Kd → kG false (fOf t) = some t ∧ kG true (fOf t) = none
  | .leaf co n, h => by
    have e : co = false := h
    subst e
    exact ⟨rfl, rfl⟩
  | .node s l r, h => by
    obtain ⟨l1, l2⟩ := kG_fOf l h.1
    obtain ⟨r1, r2⟩ := kG_fOf r h.2
    constructor
    · show (match kG (if s = .bar then true else false) (if s = .bar then (fOf l).ctr else fOf l), kG false (fOf r) with
        | some a, some b => some (FT.node s a b)
        | _, _ => none) = _
      rw [r1]
      by_cases e : s = .bar
      · rw [if_pos e, if_pos e, kG_ctr]
        show (match kG false (fOf l), some r with
          | some a, some b => some (FT.node s a b)
          | _, _ => none) = _
        rw [l1]
      · rw [if_neg e, if_neg e, l1]
    · show (match kG (if s.ctr = .bar then false else true) (if s = .bar then (fOf l).ctr else fOf l), kG true (fOf r) with
        | some a, some b => some (FT.node s.ctr a b)
        | _, _ => none) = _
      rw [r2]
      cases kG (if s.ctr = .bar then false else true) (if s = .bar then (fOf l).ctr else fOf l) <;> rfl
/-- what the heap holds of a tree -/
def Fm (wd : Sg → Str) (K : PySem.W.Frag) (H : Hp) : FT → V → Prop
  | .leaf co n, v => ∃ a, v = .ref a ∧ SqT K H a [.str (leafZ co), .str n]
  | .node s l r, v => ∃ a x y, v = .ref a ∧ SqT K H a [.str (wd s), x, y] ∧ Fm wd K H l x ∧ Fm wd K H r y
theorem Fm.same {wd : Sg → Str} {K : PySem.W.Frag} {H H' : Hp} (k : Same H H') : ∀ {t : FT} {v : V}, Fm wd K H t v → Fm wd K H' t v
  | .leaf _ _, _, ⟨a, e, h⟩ => ⟨a, e, seqT_same k h⟩
  | .node _ l r, _, ⟨a, x, y, e, h, hl, hr⟩ => ⟨a, x, y, e, seqT_same k h, Fm.same k hl, Fm.same k hr⟩
theorem Fm.keep {wd : Sg → Str} {K : PySem.W.Frag} {d : Addr} {H H' : Hp} (hd : IsDk H d) (k : Keep d H H') : ∀ {t : FT} {v : V}, Fm wd K H t v → Fm wd K H' t v
  | .leaf _ _, _, ⟨a, e, h⟩ => ⟨a, e, seqT_keep hd k h⟩
  | .node _ l r, _, ⟨a, x, y, e, h, hl, hr⟩ => ⟨a, x, y, e, seqT_keep hd k h, Fm.keep hd k hl, Fm.keep hd k hr⟩
theorem Fm.dp {wd : Sg → Str} {K : PySem.W.Frag} {H : Hp} : ∀ {t : FT} {v : V}, Fm wd K H t v → Dp K H v (t.data wd)
  | .leaf _ _, _, ⟨a, e, h⟩ => by subst e; exact .tup h (.cons (.str _) (.cons (.str _) .nil))
  | .node _ l r, _, ⟨a, x, y, e, h, hl, hr⟩ => by subst e; exact .tup h (.cons (.str _) (.cons (Fm.dp hl) (.cons (Fm.dp hr) .nil)))
theorem Fm.kd {K : PySem.W.Frag} {H : Hp} {wd wd' : Sg → Str} {co : Bool} {n : Str} {v : V} (h : Fm wd K H (.leaf co n) v) : Fm wd' K H (.leaf co n) v := h
/-- a tree or none -/
def Om (wd : Sg → Str) (K : PySem.W.Frag) (H : Hp) : Option FT → V → Prop
  | none, v => v = .non
  | some t, v => Fm wd K H t v
def oData (wd : Sg → Str) : Option FT → PyData | none => .none | some t => t.data wd
theorem Om.same {wd : Sg → Str} {K : PySem.W.Frag} {H H' : Hp} (k : Same H H') {o : Option FT} {v : V} (h : Om wd K H o v) : Om wd K H' o v := by
  cases o with
  | none => exact h
  | some t => exact Fm.same k h
theorem Om.dp {wd : Sg → Str} {K : PySem.W.Frag} {H : Hp} {o : Option FT} {v : V} (h : Om wd K H o v) : Dp K H v (oData wd o) := by
  cases o with
  | none => cases h; exact .non
  | some t => exact Fm.dp h
theorem leafZ_mem (co : Bool) : leafZ co ∈ leafW := by cases co <;> decide +kernel
theorem fw_mem (s : Sg) : s.fw ∈ halfW := by cases s <;> decide +kernel
theorem ft_form : ∀ (t : FT) (k : Nat), t.Ok → t.dep ≤ k → isForm k (t.data Sg.fw) = true
  | .leaf co n, k, h, _ => isForm_leaf k (leafZ_mem co) h
  | .node s l r, 0, _, hd => absurd hd (by show ¬ (1 + max l.dep r.dep ≤ 0); omega)
  | .node s l r, k + 1, h, hd => by
    have hd' : 1 + max l.dep r.dep ≤ k + 1 := hd
    exact isForm_node (fw_mem s) (ft_form l k h.1 (by omega)) (ft_form r k h.2 (by omega))
def kindW : List Str := [Str.ofString "pair", Str.ofString "sum", Str.ofString "offer", Str.ofString "to"]
theorem kw_mem (s : Sg) : s.kw ∈ kindW := by cases s <;> decide +kernel
theorem okStr_kind : ∀ w ∈ kindW, okStr w = true := by decide +kernel
theorem okStr_leafZ (co : Bool) : okStr (leafZ co) = true := okStr_leaf _ (leafZ_mem co)
theorem ft_short {wd : Sg → Str} (hw : ∀ s, okStr (wd s) = true) : ∀ t : FT, t.Ok → shortD (t.data wd) = true
  | .leaf co n, h => by
    unfold FT.data shortD
    simp only [shortAll, Bool.and_true]
    unfold shortD
    rw [okStr_leafZ, okStr_of_name h]
    rfl
  | .node s l r, h => by
    have h1 := ft_short hw l h.1
    have h2 := ft_short hw r h.2
    unfold FT.data shortD
    simp only [shortAll, Bool.and_true]
    rw [h1, h2]
    unfold shortD
    rw [hw s]
    rfl
theorem ft_depth {wd : Sg → Str} : ∀ t : FT, (t.data wd).depth = t.dep + 1
  | .leaf co n => by simp [FT.data, PyData.depth, PyData.depthAll, FT.dep]
  | .node s l r => by
    have h1 := ft_depth (wd := wd) l
    have h2 := ft_depth (wd := wd) r
    simp only [FT.data, PyData.depth, PyData.depthAll, h1, h2, FT.dep]
    omega
/-! ### what is a kind -/
def isKind : Nat → PyData → Bool
  | _, .tuple [.str x, n] => decide (x = Str.ofString "good") && isNameD n
  | 0, _ => false
  | k + 1, .tuple [.str x, a, b] => decide (x ∈ kindW) && (isKind k a && isKind k b)
  | _ + 1, _ => false
theorem isKind_2 (k : Nat) (a n : PyData) : isKind k (.tuple [a, n]) = (match a with | .str x => decide (x = Str.ofString "good") && isNameD n | _ => false) := by
  cases k <;> cases a <;> rfl
theorem isKind_3z (a b c : PyData) : isKind 0 (.tuple [a, b, c]) = false := by cases a <;> rfl
theorem isKind_3 (k : Nat) (a b c : PyData) : isKind (k + 1) (.tuple [a, b, c]) = (match a with | .str x => decide (x ∈ kindW) && (isKind k b && isKind k c) | _ => false) := by
  cases a <;> rfl
theorem isKind_len (k : Nat) (ds : List PyData) (h2 : ds.length ≠ 2) (h3 : ds.length ≠ 3) : isKind k (.tuple ds) = false := by
  match ds, h2, h3 with
  | [], _, _ => cases k <;> rfl
  | [a], _, _ => cases k <;> cases a <;> rfl
  | [a, b], h, _ => exact absurd rfl h
  | [a, b, c], _, h => exact absurd rfl h
  | a :: b :: c :: d :: r, _, _ => cases k <;> cases a <;> rfl
theorem isKind_not (k : Nat) (D : PyData) (h : isTupD D = false) : isKind k D = false := by
  cases D with
  | tuple ds => cases h
  | _ => cases k <;> rfl
theorem ft_kind : ∀ (t : FT) (k : Nat), t.Ok → t.Kd → t.dep ≤ k → isKind k (t.data Sg.kw) = true
  | .leaf co n, k, h, hk, _ => by
    have e : co = false := hk
    subst e
    show isKind k (.tuple [.str (leafZ false), .str n]) = true
    rw [isKind_2]
    show (decide (leafZ false = Str.ofString "good") && isName n) = true
    rw [show isName n = true from h]
    decide +kernel
  | .node s l r, 0, _, _, hd => absurd hd (by show ¬ (1 + max l.dep r.dep ≤ 0); omega)
  | .node s l r, k + 1, h, hk, hd => by
    have hd' : 1 + max l.dep r.dep ≤ k + 1 := hd
    show isKind (k + 1) (.tuple [.str s.kw, l.data Sg.kw, r.data Sg.kw]) = true
    rw [isKind_3]
    show (decide (s.kw ∈ kindW) && (isKind k (l.data Sg.kw) && isKind k (r.data Sg.kw))) = true
    rw [ft_kind l k h.1 hk.1 (by omega), ft_kind r k h.2 hk.2 (by omega), decide_eq_true (kw_mem s)]
    rfl
/-- too deep a tree is no kind -/
theorem ft_no_kind : ∀ (t : FT) (k : Nat), k < t.dep → isKind k (t.data Sg.kw) = false
  | .leaf co n, k, hd => absurd hd (by show ¬ k < 0; omega)
  | .node s l r, 0, _ => isKind_3z _ _ _
  | .node s l r, k + 1, hd => by
    have hd' : k + 1 < 1 + max l.dep r.dep := hd
    show isKind (k + 1) (.tuple [.str s.kw, l.data Sg.kw, r.data Sg.kw]) = false
    rw [isKind_3]
    show (decide (s.kw ∈ kindW) && (isKind k (l.data Sg.kw) && isKind k (r.data Sg.kw))) = false
    by_cases c : k < l.dep
    · rw [ft_no_kind l k c, Bool.false_and, Bool.and_false]
    · rw [ft_no_kind r k (by omega), Bool.and_false, Bool.and_false]
end My

set_option Elab.async false
set_option linter.all false
set_option maxRecDepth 100000
set_option maxHeartbeats 4000000
/-! sets of texts that can be walked: made of a list of texts, sorted -/
namespace L2
open PySem PySem.Spec PyProof.Rows
def kS (e : Int × Value) : Str := match e.2 with | .str x _ => x | _ => Str.empty
def GS (w : World) (e : Int × Value) : Prop := ∃ x u, e.2 = Value.str x u ∧ e.1 = hashStr w x
/-- the set of texts at d: T its members, m their number -/
def SetS (w : World) (h : Heap) (d : Addr) (T : Str → Bool) (m : Nat) : Prop :=
  ∃ ob el ep tb, h.get? d = some ob ∧ ob.ExactSet ∧ ob.data = .set el ep tb ∧ (∀ e ∈ el.toList, GS w e) ∧ (el.toList.map kS).Nodup ∧ (∀ x, T x = true ↔ x ∈ el.toList.map kS) ∧
    el.size < scanBound ∧ tb.fits el.size = true ∧ el.size = m ∧ Ris tb.place.toList ∧ (w.params.followText "set-order" = true ∨ tb.led = true)
section
variable {P : Program} {w : World} {h h' : Heap} {d : Addr} {T : Str → Bool} {m : Nat}
theorem SetS.mv (R : SetS w h d T m) (k : ∀ o, h.get? d = some o → h'.get? d = some o) : SetS w h' d T m := by
  obtain ⟨ob, el, ep, tb, ho, r⟩ := R
  exact ⟨ob, el, ep, tb, k ob ho, r⟩
theorem SetS.cg {T' : Str → Bool} (R : SetS w h d T m) (e : ∀ x, T' x = T x) : SetS w h d T' m := by
  have q : T' = T := funext e
  rw [q]; exact R
theorem gs_elems {l : List (Int × Value)} (g : ∀ e ∈ l, GS w e) : ElemsOf (strKind P w) l := fun e he => by
  obtain ⟨x, u, h1, h2⟩ := g e he
  exact ⟨⟨x, by rw [h1]; exact strKind_is P w x u, h2⟩, by rw [h1] <;> rfl⟩
theorem gs_is {e : Int × Value} (g : GS w e) (x : Str) : (strKind P w).is x e.2 = true ↔ kS e = x := by
  obtain ⟨y, u, h1, _⟩ := g
  rw [h1, (strKind P w).is_eq_decide (strKind_is P w y u) x, decide_eq_true_eq]
  have e1 : kS e = y := by unfold kS; rw [h1]
  rw [e1]
  exact eq_comm
theorem gs_mem {l : List (Int × Value)} (g : ∀ e ∈ l, GS w e) (x : Str) : x ∈ l.map kS ↔ ∃ e ∈ l, (strKind P w).is x e.2 = true := by
  rw [List.mem_map]
  exact ⟨fun ⟨e, he, q⟩ => ⟨e, he, (gs_is (g e he) x).2 q⟩, fun ⟨e, he, q⟩ => ⟨e, he, (gs_is (g e he) x).1 q⟩⟩
end
section
variable {P : Program} {w : World} {A : Around} {E : Value → Shared → Prop} {s : Shared} {d : Addr} {T : Str → Bool} {m : Nat}
theorem sets_tail {g : Bool → Sem Unit} (hg : ∀ (b : Bool) (z : Shared) (Q' : Unit → Shared → Prop), Q' () z → wpAny (model P w) A (g b) Q' E z)
    {ob : Obj} {el : Array (Int × Value)} {ep : Nat} {tb : SetTable} (ho : s.heap.get? d = some ob) (hex : ob.ExactSet) (hd : ob.data = .set el ep tb)
    {el1 : Array (Int × Value)} {tb2 : SetTable} {T' : Str → Bool} (g1 : ∀ e ∈ el1.toList, GS w e) (nd1 : (el1.toList.map kS).Nodup) (m1 : ∀ x, T' x = true ↔ x ∈ el1.toList.map kS)
    (hb1 : el1.size < scanBound) (hf2 : tb2.fits el1.size = true) (hr : Ris tb2.place.toList) (hl : w.params.followText "set-order" = true ∨ tb2.led = true) {wd : Bool} {R : Option Bool → Shared → Prop}
    (hR : ∀ h', Heap.SameBut d s.heap h' → SetS w h' d T' el1.size → R (some true) { s with heap := h' }) :
    wpAny (model P w) A (do
        storeSet d el1 tb2
        if (!wd && tb2.tooFull) = true then do
            g (relayAll tb2 el1 (SetTable.grown el1.size)).2.2
            storeSet d (relayAll tb2 el1 (SetTable.grown el1.size)).1 (relayAll tb2 el1 (SetTable.grown el1.size)).2.1
            pure (some true)
          else pure (some true)) R E s := by
  have ho1 := store_at (es' := el1) (t' := tb2) ho hd
  have sb1 := Heap.SameBut.update s.heap d (Obj.putSet el1 tb2)
  refine wpAny_bind (wpAny_storeSet_of ho hd ?_ (fits_of_scanBound hb1)); split
  · have pm := relayAll_perm tb2 el1 (SetTable.grown el1.size); have hf3 := relayAll_fits tb2 el1 (SetTable.grown el1.size)
    have hr3 := relayAll_ris tb2 el1 (SetTable.grown el1.size); have hl3 := relayAll_led tb2 el1 (SetTable.grown el1.size)
    generalize relayAll tb2 el1 (SetTable.grown el1.size) = Y at pm hf3 hr3 hl3 ⊢
    obtain ⟨el2, tb3, gv⟩ := Y
    dsimp only at pm hf3 hr3 hl3 ⊢
    have hz : el2.size = el1.size := by rw [← Array.length_toList, pm.length_eq, Array.length_toList]
    have hb2 : el2.size < scanBound := by rw [hz]; exact hb1
    refine wpAny_bind (hg _ _ _ (wpAny_bind (wpAny_storeSet_of ho1 rfl ?_ (fits_of_scanBound hb2))))
    have ho2 := store_at (es' := el2) (t' := tb3) ho1 rfl
    refine wpAny_pure (hR _ (sb1.trans (Heap.SameBut.update _ d _)) ⟨_, el2, _, tb3, ho2, hex, rfl, fun e he => g1 e (pm.mem_iff.mp he), (pm.map kS).nodup_iff.mpr nd1, fun x => (m1 x).trans (pm.map kS).mem_iff.symm, hb2, hf3, hz, hr3, hl.imp id fun z => by rw [hl3]; exact z⟩)
  · exact wpAny_pure (hR _ sb1 ⟨_, el1, _, tb2, ho1, hex, rfl, g1, nd1, m1, hb1, hf2, rfl, hr, hl⟩)

theorem sets_add {x : Str} {u : Tok} {Q : Bool → Shared → Prop} (R : SetS w s.heap d T m) (room : m + 1 < scanBound)
    (hQ : ∀ h', Heap.SameBut d s.heap h' → SetS w h' d (fun y => T y || decide (y = x)) (if T x = true then m else m + 1) → Q (!T x) { s with heap := h' }) :
    wpAny (model P w) A (setAddHashed d (.str x u) ((strKind P w).hash x)) Q E s := by
  obtain ⟨ob, el, ep, tb, ho, hex, hd, g, nd, hm, hb, hf, hn, hr, hl⟩ := R
  have hkey : (strKind P w).is x (.str x u) = true := strKind_is P w x u
  have hsc : (Value.str x u).scannable = true := rfl
  have hel : ElemsOf (strKind P w) el.toList := gs_elems g
  unfold setAddHashed setAddHashedIn
  refine wpAny_holding (wpAny_bind (wpAny_setState_of ho hd hf ?_)); dsimp only
  rw [byScan_of hsc hb hel]; simp only [↓reduceIte]
  unfold setAddByScan
  refine wpAny_bind (wpAny_bind (wpAny_rule (wpAny_bind (wpAny_setScan_of hkey ho hd hf hel ?_))))
  cases hfi : List.findIdx? (fun e => (strKind P w).is x e.2) el.toList with
  | some j =>
    dsimp only
    obtain ⟨hj, pj, _⟩ := List.findIdx?_eq_some_iff_getElem.mp hfi
    have hTx : T x = true := (hm x).2 ((gs_mem (P := P) (w := w) g x).2 ⟨el.toList[j], List.getElem_mem hj, pj⟩)
    have q := hQ s.heap (Heap.SameBut.refl d s.heap) ⟨ob, el, ep, tb, ho, hex, hd, g, nd, fun y => by rw [Bool.or_eq_true, decide_eq_true_eq, ← hm y]; exact ⟨fun z => z.elim id (fun e => e ▸ hTx), .inl⟩, hb, hf, by rw [if_pos hTx]; exact hn, hr, hl⟩
    rw [hTx] at q
    exact wpAny_pure (wpAny_pure q)
  | none =>
    dsimp only
    have hnx : x ∉ el.toList.map kS := fun z => by
      obtain ⟨e, he, q⟩ := (gs_mem (P := P) (w := w) g x).1 z
      have c := List.findIdx?_eq_none_iff.mp hfi e he
      rw [q] at c; cases c
    have hTx : T x = false := by
      cases q : T x with
      | false => rfl
      | true => exact absurd ((hm x).1 q) hnx
    have hgw : ∀ (b : Bool) {z : Shared} {Q' : Unit → Shared → Prop}, Q' () z → wpAny (model P w) A (match b with | true => rule "set.scan.the-table-gave-way" | false => pure ()) Q' E z :=
      fun b z Q' q => by cases b <;> first | exact wpAny_pure q | exact wpAny_rule q
    have pm := layNew_perm tb el ((strKind P w).hash x) (.str x u); have hf1 := layNew_fits tb el ((strKind P w).hash x) (.str x u)
    have hr1 := layNew_ris tb el ((strKind P w).hash x) (.str x u) hr; have hl1 := layNew_led tb el ((strKind P w).hash x) (.str x u)
    generalize layNew tb el ((strKind P w).hash x) (.str x u) = Y at pm hf1 hr1 hl1 ⊢
    obtain ⟨el1, tb1, wd, gv⟩ := Y
    dsimp only at pm hf1 hr1 hl1 ⊢
    rw [Array.toList_push] at pm
    have pc : el1.toList.Perm (((strKind P w).hash x, Value.str x u) :: el.toList) := pm.trans (List.perm_append_singleton _ _)
    have pk : (el1.toList.map kS).Perm (x :: el.toList.map kS) := pc.map kS
    have g1 : ∀ e ∈ el1.toList, GS w e := fun e he => (List.mem_cons.mp (pc.mem_iff.mp he)).elim (fun z => by rw [z]; exact ⟨x, u, rfl, rfl⟩) (fun z => g e z)
    have nd1 : (el1.toList.map kS).Nodup := pk.nodup_iff.mpr (List.nodup_cons.mpr ⟨hnx, nd⟩)
    have m1 : ∀ y, (T y || decide (y = x)) = true ↔ y ∈ el1.toList.map kS := fun y => by rw [Bool.or_eq_true, decide_eq_true_eq, hm y, pk.mem_iff, List.mem_cons]; exact Or.comm
    have hz : el1.size = m + 1 := by rw [← Array.length_toList, pc.length_eq, List.length_cons, Array.length_toList, hn]
    have hb1 : el1.size < scanBound := by rw [hz]; exact room
    have hld : w.params.followText "set-order" = true ∨ tb1.led = true := hl.imp id fun z => by rw [hl1]; exact z
    have fin : ∀ h', Heap.SameBut d s.heap h' → SetS w h' d (fun y => T y || decide (y = x)) el1.size → Q true { s with heap := h' } := fun h' sb r => by
      have q := hQ h' sb
      rw [hTx] at q; rw [hz] at r
      exact q r
    refine wpAny_bind (hgw _ ?_); split
    · refine wpAny_bind ?_; rw [hashByValue_scannable 8 hsc]
      refine wpAny_pure (sets_tail ?_ ho hex hd g1 nd1 m1 hb1 ?_ ?_ ?_ ?_)
      · intro b z Q' q; cases b <;> first | exact wpAny_pure q | exact wpAny_rule q
      · first | (split <;> first | exact hf1 | exact SetTable.fits_plain_off hf1) | exact hf1
      · first | (split <;> exact hr1) | exact hr1
      · first | (split <;> exact hld) | exact hld
      · intro h' sb r; dsimp only; exact wpAny_pure (fin h' sb r)
    · refine wpAny_bind (wpAny_pure ?_); simp only [↓reduceIte]
      refine sets_tail ?_ ho hex hd g1 nd1 m1 hb1 hf1 hr1 hld fun h' sb r => ?_
      · intro b z Q' q; cases b <;> first | exact wpAny_pure q | exact wpAny_rule q
      · dsimp only; exact wpAny_pure (fin h' sb r)
end
end L2

set_option Elab.async false
set_option linter.all false
set_option maxRecDepth 100000
set_option maxHeartbeats 4000000
namespace L2
open PySem PySem.Spec PyProof.Rows
theorem sets_new {w : World} {h : Heap} {d : Addr} {zs : List Str} (ho : h.get? d = some { cls := .type "set", dict := none, data := .set #[] 0 (.fresh 0 0 (!w.params.followText "set-order")) }) : SetS w h d (fun x => decide (x ∈ zs.take 0)) 0 :=
  ⟨_, #[], 0, _, ho, ⟨rfl, rfl, rfl⟩, rfl, (fun e he => by simp at he), (by simp), (fun k => by simp), (by decide), (by rfl), rfl, List.Pairwise.nil, by show _ ∨ (!w.params.followText "set-order") = true; cases w.params.followText "set-order" <;> first | exact .inl rfl | exact .inr rfl⟩
section
variable {P : Program} {w : World} {A : Around} {E : Value → Shared → Prop} {s : Shared}
theorem sets_loop {J : Addr} {fp wr : List Addr} {G : Array GenState → Array GenState → Prop} {m : Nat} {Pv : Nat → Value → Prop} {St : Nat → Shared → Prop} {R : Result → Shared → Prop}
    (W : WalksS P w A.in1 J fp wr G m Pv St) (D : Addr) (hDf : D ∉ fp) (zs : List Str) (hm : m = zs.length) (hb : zs.length + 1 < scanBound) (hval : ∀ i v, Pv i v → ∃ x u, zs[i]? = some x ∧ v = .str x u) :
    ∀ (k i : Nat) (s : Shared), m - i = k → i ≤ m → St i s → (∃ c, c ≤ i ∧ SetS w s.heap D (fun x => decide (x ∈ zs.take i)) c) →
      (∀ s' c, Moved (D :: wr) G s s' → c ≤ m → SetS w s'.heap D (fun x => decide (x ∈ zs)) c → R (.ok (.ret .none)) s') →
      codeAny (model P w) A (.builtin "set.update.loop" ⟨[.ref D, .ref J], []⟩) R s := by
  have hDw : D ∉ wr := fun h => hDf (W.sub _ h)
  have hsub : ∀ b ∈ wr, b ∈ D :: wr := fun b hb => List.mem_cons_of_mem _ hb
  intro k
  induction k with
  | zero =>
    intro i s hk' hi hst ⟨c, hc, hS⟩ hR
    obtain rfl : i = m := by omega
    refine codeAny_builtin F.entry_set_update_loop ?_; rw [Around.under_plainId F.plain_set_update_loop _]
    show wpAny _ A.in1 (pyNext (.ref J) >>= _) _ _ s
    refine wpAny_bind (W.done s _ _ hst fun s' hmv => ?_)
    show wpAny _ A.in1 (ret Value.none) _ _ s'
    have e : zs.take i = zs := List.take_of_length_le (by omega)
    rw [e] at hS
    exact wpAny_pure (hR s' c (hmv.mono hsub) hc (hS.mv fun o e => hmv.heap D o hDw e))
  | succ k ih =>
    intro i s hk' hi hst ⟨c, hc, hS⟩ hR
    have hlt : i < m := by omega
    refine codeAny_builtin F.entry_set_update_loop ?_; rw [Around.under_plainId F.plain_set_update_loop _]
    show wpAny _ A.in1 (pyNext (.ref J) >>= _) _ _ s
    refine wpAny_bind (W.item i s _ _ hlt hst fun v s' hP hst' hmv => ?_)
    obtain ⟨x, u, hx, rfl⟩ := hval i v hP
    have hS' : SetS w s'.heap D (fun y => decide (y ∈ zs.take i)) c := hS.mv fun o e => hmv.heap D o hDw e
    show wpAny _ A.in1 (holding [Value.str x u] (setAdd D (.str x u)) >>= _) _ _ s'
    refine wpAny_bind (wpAny_holding ?_); unfold setAdd
    refine wpAny_holding (wpAny_bind ((strKind P w).pyHash (k := x) (strKind_is _ _ _ _) (sets_add (s := { s' with toks := s'.toks + 1 }) hS' (by omega) fun h' hsb hS2 => ?_)))
    have hS3 : SetS w h' D (fun y => decide (y ∈ zs.take (i + 1))) (if decide (x ∈ zs.take i) = true then c else c + 1) := hS2.cg fun y => by rw [List.take_add_one, hx]; simp [List.mem_append]
    have hc3 : (if decide (x ∈ zs.take i) = true then c else c + 1) ≤ i + 1 := by split <;> omega
    refine wpAny_pure ⟨plainId_quiet F.plain_set_update_loop _, ih (i + 1) _ (by omega) hlt (W.frame _ s' _ _ hst' (Nat.le_succ _) fun b hb o e => ?_) ⟨_, hc3, hS3⟩ fun s2 c2 hm2 hc2 hS4 => hR s2 c2 (Moved.trans W.gtrans ((hmv.mono hsub).then_heap (Nat.le_succ _) fun b o hb e => ?_) hm2) hc2 hS4⟩
    · rw [hsb.2 b (fun h : b = D => hDf (h ▸ hb))]; exact e
    · rw [hsb.2 b (fun h : b = D => hb (h ▸ List.mem_cons_self))]; exact e
/-- the object that set() begins with -/
def nSet (w : World) : Obj := { cls := .type "set", dict := none, data := .set #[] 0 (.fresh 0 0 (!w.params.followText "set-order")) }
set_option maxHeartbeats 3200000 in
theorem call_sets {l : Addr} {items : Array Value} (zs : List Str) {Q : Value → Shared → Prop} (hh : A.handled = none) (hl : s.heap.IsList l items) (hit : StrsAre items.toList zs) (hb : zs.length + 1 < scanBound)
    (h : ∀ (h' : Heap) (tk c : Nat), SetS w h' s.heap.objs.size (fun x => decide (x ∈ zs)) c → c ≤ zs.length → (∀ b o, s.heap.get? b = some o → h'.get? b = some o) → Q (.ref s.heap.objs.size) { s with heap := h', toks := tk }) :
    wpAny (model P w) A (call (.type "set") [.ref l]) Q E s := by
  have hz : items.size = zs.length := by rw [← Array.length_toList]; exact StrsAre.len_eq hit
  obtain ⟨c, tl, hmro⟩ := F.called_set.mro
  have hmade := F.called_set.made; have hsub := F.called_set.sub
  refine wpAny_call (codeAny_of_tree ?_); show wpAny _ _ (callAny (.type "set") _) _ _ _
  refine wpAny_pure ⟨Code.quiet_builtin _ (by decide +kernel), codeAny_builtin F.entry_type_call ?_⟩; rw [Around.under_plain (weight_type_call_type "set" [.ref l] []) rfl]
  have h1 := F.called_set.notType; have h2 := F.called_set.canCreate; have hct := F.typeCall_set_1 (.ref l)
  repeat (any_goals (first | assumption | wp_step))
  refine codeAny_mono (code_set_led1 (.ref l) (E := E) (Q₁ := fun b z => b = .ref s.heap.objs.size ∧ z = { s with heap := s.heap.push (nSet w) }) ⟨rfl, rfl⟩) fun r z hr => ?_
  cases r with
  | error e => exact hr
  | ok fl =>
    cases fl with
    | ret b =>
      obtain ⟨rfl, rfl⟩ := hr
      have hS : (s.heap.push (nSet w)).get? s.heap.objs.size = some (nSet w) := Heap.get?_push_size _ rfl
      have hT : Shared.TypeIs { s with heap := s.heap.push (nSet w) } (.ref s.heap.objs.size) "set" := ⟨_, hS, rfl⟩
      have hli := F.called_set.init.lookup; have hbi := F.called_set.init.bind (.ref s.heap.objs.size)
      repeat (any_goals (first | assumption | wp_step))
      refine codeAny_mono (codeAny_call_builtin (R := wants (fun r z2 => r = .none ∧ ∃ h' tk c, z2 = { s with heap := h', toks := tk } ∧ SetS w h' s.heap.objs.size (fun x => decide (x ∈ zs)) c ∧ c ≤ zs.length ∧ (∀ b o, s.heap.get? b = some o → h'.get? b = some o)) E) F.called_set.init.plain F.entry_set_init (check_set_init_1 hT ?_)) fun r2 z2 hr2 => ?_
      · obtain ⟨ol, hol, hcl, nl, hdl⟩ := hl
        obtain ⟨oc, od, oa, os⟩ := ol
        simp only at hcl hdl; subst hcl; subst hdl
        have hol' : (s.heap.push (nSet w)).get? l = some { cls := .type "list", dict := od, data := .seq items nl, slots := os } := Heap.get?_push_of_some _ hol
        have hsls := PySem.F.sub_list_set; have hslf := PySem.F.sub_list_frozenset
        have hne : (Value.type "list" == Value.type "dict") = false := by decide
        have hl1 : (s.heap.push (nSet w)).IsList l items := ⟨_, hol', rfl, nl, rfl⟩
        unfold Builtin.«set.__init__» noKeywords Builtin.Frozenset.updateFrom; generalize hPI : pyIter = PI
        wp_walk
        subst hPI
        refine wpAny_pyIter_list hl1 (wpAny_bind (wpAny_runValue ?_))
        have hlS : l < s.heap.objs.size := Heap.lt_size hol; have hh3 : A.in1.in1.in1.handled = none := by simp [hh]
        have hnI : l ≠ (s.heap.push (nSet w)).objs.size := by rw [Heap.size_push]; exact Nat.ne_of_lt (Nat.lt_succ_of_lt hlS)
        have hDf : s.heap.objs.size ∉ [(s.heap.push (nSet w)).objs.size, l] := by
          rw [Heap.size_push]; simp only [List.mem_cons, List.mem_singleton, List.not_mem_nil, or_false, not_or]; exact ⟨Nat.ne_of_lt (Nat.lt_succ_self _), Nat.ne_of_gt hlS⟩
        have hval : ∀ (i : Nat) (v : Value), items[i]? = some v → ∃ x u, zs[i]? = some x ∧ v = .str x u := fun i v hv => by
          have hi : i < zs.length := by rw [← hz]; exact (Array.getElem?_eq_some_iff.mp hv).1
          obtain ⟨u, e⟩ := SS.strs_at hit i v (by rw [Array.getElem?_toList]; exact hv)
          refine ⟨zs[i], u, List.getElem?_eq_getElem hi, ?_⟩
          rw [e, List.getD_eq_getElem?_getD, List.getElem?_eq_getElem hi] <;> rfl
        refine sets_loop ((Walks.list hh3 _ l hnI items).toS) s.heap.objs.size hDf zs hz hb hval (items.size - 0) 0 _ (by omega) (Nat.zero_le _) ⟨⟨_, Heap.get?_push_size _ rfl, rfl, rfl⟩, (hl1.push _)⟩ ?a0 ?a1
        case a0 => exact ⟨0, Nat.le_refl 0, sets_new (Heap.get?_push_of_some _ hS)⟩
        case a1 =>
          intro s' c' hm hc' hS'
          obtain ⟨h', g2, d', tk', os'⟩ := s'
          obtain rfl : g2 = s.gens := hm.gens
          obtain rfl : d' = s.drawn := hm.drawn
          obtain rfl : os' = s.os := hm.os
          show wpAny _ _ _ _ _ _
          refine wpAny_pure ?_; show wpAny _ _ (ret Value.none) _ _ _
          rw [hz] at hc'
          refine wpAny_pure ⟨rfl, h', tk', c', rfl, hS', hc', fun b o e => ?_⟩
          have hb0 : b < s.heap.objs.size := Heap.lt_size e
          have hb2 : b ≠ (s.heap.push (nSet w)).objs.size := by rw [Heap.size_push]; exact Nat.ne_of_lt (Nat.lt_succ_of_lt hb0)
          exact hm.heap b o (by simp only [List.mem_cons, List.mem_singleton, List.not_mem_nil, or_false, not_or]; exact ⟨Nat.ne_of_lt hb0, hb2⟩) (Heap.get?_push_of_some _ (Heap.get?_push_of_some _ e))
      · cases r2 with
        | error e => exact hr2
        | ok fl2 =>
          cases fl2 with
          | ret r =>
            obtain ⟨rfl, h', tk, c', rfl, hS', hc', hk'⟩ := hr2
            repeat (any_goals (first | assumption | wp_step))
            exact h _ _ _ hS' hc' hk'
          | _ => exact hr2.elim
    | _ => exact hr.elim
theorem strs_of : ∀ (l : List (Int × Value)), (∀ e ∈ l, GS w e) → StrsAre (l.map (·.2)) (l.map kS)
  | [], _ => .nil
  | e :: l, g => by
    obtain ⟨x, u, h1, _⟩ := g e List.mem_cons_self
    have t := strs_of l fun y hy => g y (List.mem_cons_of_mem _ hy)
    have k : kS e = x := by unfold kS; rw [h1]
    show StrsAre (e.2 :: _) (kS e :: _)
    rw [k, h1]
    exact .cons x u t
theorem strs_perm {us vs : List Value} {xs : List Str} (p : vs.Perm us) : StrsAre us xs → ∃ ys, StrsAre vs ys ∧ ys.Perm xs := by
  induction p generalizing xs with
  | nil => intro h; exact ⟨xs, h, List.Perm.refl _⟩
  | cons v _ ih =>
    intro h
    cases h with
    | cons x u t =>
      obtain ⟨ys, h1, h2⟩ := ih t
      exact ⟨x :: ys, .cons x u h1, h2.cons x⟩
  | swap a b l =>
    intro h
    cases h with
    | cons x u t =>
      cases t with
      | cons y z t => exact ⟨y :: x :: _, .cons y z (.cons x u t), List.Perm.swap _ _ _⟩
  | trans _ _ i1 i2 =>
    intro h
    obtain ⟨ys, h1, h2⟩ := i2 h
    obtain ⟨zs, h3, h4⟩ := i1 h1
    exact ⟨zs, h3, h4.trans h2⟩
theorem sorted_sets {d : Addr} {T : Str → Bool} {m : Nat} {Q : Value → Shared → Prop} (R : SetS w s.heap d T m) (hh : A.handled = none) (h64 : m < 64)
    (hQ : ∀ s' p (out : Array Value) (c : Nat) (ys : List Str), (∀ b o, s.heap.get? b = some o → s'.heap.get? b = some o) → s'.gens = s.gens → s'.os = s.os → s.heap.objs.size ≤ p →
      s'.heap.get? p = some (seqObj "list" out c) → StrsAre out.toList ys → sortedS ys = true → ys.Nodup → (∀ x, x ∈ ys ↔ T x = true) → ys.length = m → Q (.ref p) s') :
    wpAny (model P w) A (call (.builtin "sorted") [.ref d]) Q E s := by
  obtain ⟨ob, el, ep, tb, ho, hex, hd, g, nd, hm, hb, hf, hn, hr, hl⟩ := R
  refine Calls.call_function_entry kind_sorted plain_sorted entry_sorted (args_sorted1 _) ?_
  unfold Builtin.«sorted»
  refine wpAny_bind (m := checkCount "sorted" 1 1 _) (wpAny_pure (wpAny_bind (collect_set (A := A.in1) hh ⟨ob, ho, hex.1, hd⟩ hf hb hr hl fun s1 vs k1 hz g1 o1 pm => ?_)))
  have hvl : vs.length = m := by rw [pm.length_eq, List.length_map, Array.length_toList]; exact hn
  obtain ⟨xs, hI, hp⟩ := strs_perm pm (strs_of _ g)
  refine wpAny_bind (wpAny_newList ?_ (by rw [hvl, sizeLine_eq]; omega))
  have hoL : (s1.heap.push (seqObj "list" vs.toArray 0)).get? s1.heap.objs.size = some (seqObj "list" vs.toArray 0) := Heap.get?_push_size _ rfl
  refine wpAny_bind (wpAny_holding (wpAny_call_entry slot_list_sort ⟨_, hoL, rfl⟩ entry_list_sort (list_sort_treeK strKind_oneLt hoL hI.keysOf (fun v₁ v₂ rest e => keyKind_strs (by rw [← e]; exact hI)) (by rw [hvl]; exact h64) fun st' a1 a2 => ⟨_, rfl, ?_⟩) (args_list_sort _)))
  obtain ⟨ys, b1, b2, b3⟩ := sorted_out_str hI a1 a2
  obtain ⟨c, hc⟩ := sortedHeap_at (vs := vs) (out := (arrOf st').map (·.2)) hoL
  have pn : ys.Perm (el.toList.map kS) := b2.trans hp
  refine wpAny_pure ⟨_, rfl, hQ _ s1.heap.objs.size _ c ys (fun b u e => ?_) g1 o1 hz hc b1 b3 (pn.nodup_iff.mpr nd) (fun x => by rw [pn.mem_iff, ← hm x]) (by rw [pn.length_eq, List.length_map, Array.length_toList]; exact hn)⟩
  have q := k1 b u e
  have hlt := Heap.lt_size q
  show (sortedHeap (s1.heap.push (seqObj "list" vs.toArray 0)) s1.heap.objs.size vs _).get? b = some u
  rw [sortedHeap_old (Nat.ne_of_lt hlt) (by rw [size_push']; exact Nat.lt_succ_of_lt hlt)]
  exact Heap.get?_push_of_some _ q
end
/-! ### the rules -/
/-- the set of texts at d, as the heap tells it -/
def SetSO (w : World) (d : Addr) (T : Str → Bool) (m : Nat) : HO := .ext fun h => SetS w h d T m
section
variable {X : Cx}
theorem setSO_new {w : World} {P : Program} {H : Hp} {h : Heap} {d : Addr} {T : Str → Bool} {m : Nat} (R : SetS w h d T m) : ObjOk P w H h d (SetSO w d T m) := by
  have ⟨o, _, _, _, ho, _⟩ := R
  exact ⟨R, ⟨o, ho⟩, fun h1 h2 p k => SetS.mv p k⟩
theorem setSO_get {pins : List (Addr × Obj)} {σ : St} {H : Hp} {s : Shared} {d : Addr} {T : Str → Bool} {m : Nat} (I : Inv X pins σ H s) (hd : H d = some (SetSO X.w d T m)) : SetS X.w s.heap d T m := (I.hok d _ hd).1
/-- set(l), l a list of texts -/
def rSetStrs (K : PySem.W.Frag) (w : World) : List V → Hp → VK → Prop := fun xs H Q => ∃ (l : Addr) (zs : List Str), xs = [V.ref l] ∧ SqL K H l (zs.map V.str) ∧ zs.length + 1 < scanBound ∧
  ∀ (p : Addr) (c : Nat), c ≤ zs.length → H p = none → Q (.ref p) (upd H p (SetSO w p (fun x => decide (x ∈ zs)) c))
theorem cr_setStrs (hc : X.calm = true) : CallR X (.type "set") (rSetStrs X.K X.w) := by
  intro pins s σ H xs us Q I r h
  obtain ⟨l, zs, rfl, hs, hb, q⟩ := h
  obtain ⟨its, rv, hl, _⟩ := I.list hs
  rw [Vals.ref1 r]
  refine call_sets (w := X.w) zs (I.ok.hd hc) hl.isList (by simpa using strsAre_of rv) hb fun h' tk c hS hc' hk => ?_
  exact ⟨.ref s.heap.objs.size, upd H s.heap.objs.size (SetSO X.w s.heap.objs.size (fun x => decide (x ∈ zs)) c), I.laid (t' := tk) (fun b u e => hk b u e) (Nat.le_refl _) (setSO_new hS), rfl, q _ c hc' (I.hok.fresh (Nat.le_refl _))⟩
/-- sorted(d), d such a set -/
def rSortSS (w : World) : List V → Hp → VK → Prop := fun vs H Q => ∃ (d : Addr) (T : Str → Bool) (m : Nat), vs = [V.ref d] ∧ H d = some (SetSO w d T m) ∧ m < 64 ∧
  ∀ (ys : List Str) (p : Addr), sortedS ys = true → ys.Nodup → (∀ x, x ∈ ys ↔ T x = true) → H p = none → Q (.ref p) (upd H p (.lst (ys.map V.str)))
theorem cr_sortSS (hc : X.calm = true) : CallR X (.builtin "sorted") (rSortSS X.w) := by
  intro pins s σ H vs us Q I r h
  obtain ⟨d, T, m, rfl, hd, h64, q⟩ := h
  have R := setSO_get I hd
  rw [Vals.ref1 r]
  refine sorted_sets R (I.ok.hd hc) h64 fun s' p out c ys k g o hp hg hi h1 h2 h3 h4 => ?_
  have hn : H p = none := I.hok.fresh hp
  have hle : (ys.map V.str).length ≤ sizeLine := by
    rw [List.length_map, h4]
    exact Nat.le_trans (Nat.le_of_lt h64) (by decide)
  have J : Inv X pins σ (upd H p (.lst (ys.map V.str))) { s with heap := s'.heap, gens := s'.gens, drawn := s'.drawn, toks := s'.toks } :=
    I.call (ch := []) (Un.laid k hp hn) (I.hok.laid k hp ⟨hle, out.toList, c, vals_of_strs hi, hg⟩) (by rw [g]; exact I.bare) (fun _ z => nomatch z)
  have e : s' = { s with heap := s'.heap, gens := s'.gens, drawn := s'.drawn, toks := s'.toks } := by
    cases s'; cases s; cases o; rfl
  rw [e]
  exact ⟨.ref p, _, J, rfl, q ys p h1 h2 h3 hn⟩
end
end L2

set_option Elab.async false
set_option linter.all false
set_option maxRecDepth 100000
namespace My
open PySem L2 SX
abbrev sis_leaf : Stmt := top 13
abbrev Nis_leaf : List Str := ["form"]
theorem scis_leaf : FnScope Nis_leaf Nis_leaf (defScope sis_leaf) := ⟨rfl, rfl, rfl, by decide +kernel, rfl, by decide +kernel, by decide +kernel⟩
abbrev scounter_of : Stmt := top 14
abbrev Ncounter_of : List Str := ["form", "word"]
theorem sccounter_of : FnScope Ncounter_of Nis_leaf (defScope scounter_of) := ⟨rfl, rfl, rfl, by decide +kernel, rfl, by decide +kernel, by decide +kernel⟩
abbrev sgoods_of : Stmt := top 15
theorem scgoods_of : FnScope Nis_leaf Nis_leaf (defScope sgoods_of) := ⟨rfl, rfl, rfl, by decide +kernel, rfl, by decide +kernel, by decide +kernel⟩
abbrev sfits_kind : Stmt := top 23
theorem scfits_kind : FnScope Nfits_form Nfits_form (defScope sfits_kind) := ⟨rfl, rfl, rfl, by decide +kernel, rfl, by decide +kernel, by decide +kernel⟩
abbrev sform_told : Stmt := top 24
abbrev Nform_told : List Str := ["kind", "word", "left", "right", "one", "other"]
abbrev Pkind : List Str := ["kind"]
theorem scform_told : FnScope Nform_told Pkind (defScope sform_told) := ⟨rfl, rfl, rfl, by decide +kernel, rfl, by decide +kernel, by decide +kernel⟩
abbrev sof_halves : Stmt := top 25
abbrev Nof_halves : List Str := ["word", "left", "right"]
theorem scof_halves : FnScope Nof_halves Nof_halves (defScope sof_halves) := ⟨rfl, rfl, rfl, by decide +kernel, rfl, by decide +kernel, by decide +kernel⟩
abbrev skind_given : Stmt := top 26
abbrev Nkind_given : List Str := ["form", "word", "left", "right", "one"]
theorem sckind_given : FnScope Nkind_given Nis_leaf (defScope skind_given) := ⟨rfl, rfl, rfl, by decide +kernel, rfl, by decide +kernel, by decide +kernel⟩
abbrev skind_counted : Stmt := top 27
theorem sckind_counted : FnScope Nkind_given Nis_leaf (defScope skind_counted) := ⟨rfl, rfl, rfl, by decide +kernel, rfl, by decide +kernel, by decide +kernel⟩
def spLeafT (K : PySem.W.Frag) : Sp := fun vs H Q _ => ∃ v wd t, vs = [v] ∧ Fm wd K H t v ∧ Q (.bl t.isLeaf) H
def spCounter (K : PySem.W.Frag) (n : Nat) : Sp := fun vs H Q _ => ∃ v t, vs = [v] ∧ Fm Sg.fw K H t v ∧ t.dep < n ∧ ∀ H' u, Same H H' → Fm Sg.fw K H' t.ctr u → Q u H'
def spGoods (K : PySem.W.Frag) (n : Nat) : Sp := fun vs H Q _ => ∃ v wd t, vs = [v] ∧ Fm wd K H t v ∧ t.dep < n ∧ t.lvs ≤ 500 ∧ ∀ H' l, Same H H' → H' l = some (.lst (t.names.map V.str)) → Q (.ref l) H'
def spTold (K : PySem.W.Frag) (n : Nat) : Sp := fun vs H Q _ => ∃ v t, vs = [v] ∧ Fm Sg.kw K H t v ∧ t.dep < n ∧ n ≤ 20 ∧ ∀ H' u, Same H H' → Fm Sg.fw K H' (fOf t) u → Q u H'
def spHalves (K : PySem.W.Frag) : Sp := fun vs H Q _ => ∃ s x y a b, vs = [.str (Sg.kw s), x, y] ∧ Om Sg.kw K H a x ∧ Om Sg.kw K H b y ∧
  ∀ H' u, Same H H' → Om Sg.kw K H' (match a, b with | some a, some b => some (.node s a b) | _, _ => none) u → Q u H'
def spKind (K : PySem.W.Frag) (c : Bool) (n : Nat) : Sp := fun vs H Q _ => ∃ v t, vs = [v] ∧ Fm Sg.fw K H t v ∧ t.dep < n ∧ ∀ H' u, Same H H' → Om Sg.kw K H' (kG c t) u → Q u H'
structure TxtK (K : PySem.W.Frag) (mg : Str → Option Value) (w : World) where
  aCW : Addr
  COUNTER_WORDS : ∃ u, mg "COUNTER_WORDS" = some u ∧ RelV (.ref aCW) u
  kCL : ∀ co : Bool, KDct K w aCW (leafZ co) (.str (leafZ (!co)))
  kCN : ∀ s : Sg, KDct K w aCW s.fw (.str s.ctr.fw)
  aFK : Addr
  FORM_WORDS_OF_KINDS : ∃ u, mg "FORM_WORDS_OF_KINDS" = some u ∧ RelV (.ref aFK) u
  kFK : ∀ s : Sg, KDct K w aFK s.kw (.str s.fw)
  aGW : Addr
  GIVEN_WORDS : ∃ u, mg "GIVEN_WORDS" = some u ∧ RelV (.ref aGW) u
  kGW : ∀ s : Sg, KDct K w aGW s.fw (.str s.kw)
  aTW : Addr
  TAKEN_WORDS : ∃ u, mg "TAKEN_WORDS" = some u ∧ RelV (.ref aTW) u
  kTW : ∀ s : Sg, KDct K w aTW s.fw (.str s.ctr.kw)
  aHK : Addr
  HALVED_KINDS : ∃ u, mg "HALVED_KINDS" = some u ∧ RelV (.ref aHK) u
  sHK : ∀ H, SqT K H aHK (kindW.map V.str)
theorem FT.names_len : ∀ t : FT, t.names.length = t.lvs
  | .leaf _ _ => rfl
  | .node s l r => by show (l.names ++ r.names).length = l.lvs + r.lvs; rw [List.length_append, FT.names_len l, FT.names_len r]
theorem ne_good (s : Sg) : ¬ (V.str s.fw = V.str (Str.ofString "good")) := fun h => by
  have h2 := V.str.inj h
  revert h2
  cases s <;> decide +kernel
section
variable {P : Program} {w : World} {K : PySem.W.Frag} {mg : Str → Option Value} {base : Heap} {f : Addr} {fd : FuncData}
theorem okis_leaf (T : Txt K mg) (F : Fun K "is_leaf" "is_leaf" sis_leaf f fd) : FnOk P w K mg base CX0 1 f fd Nis_leaf (spLeafT K) := by
  refine F.ok scis_leaf (fun vs H Q E h => ?_) (fun cdv A outer s H vs Q E hr h => ?_)
  · obtain ⟨v, wd, t, rfl, _⟩ := h
    rfl
  obtain ⟨v, wd, t, rfl, hf, q⟩ := h
  refine ⟨_, (pss_one (ps_ret (pe_cmpR op_eq (pe_callB call_len rfl T.len (by decide +kernel) (pa_cons (pv 0) pa_nil)) pe_int (nomark _)))), ?_⟩
  cases t with
  | leaf co n =>
    obtain ⟨a, rfl, hs⟩ := hf
    exact ⟨_, rfl, _, _, rfl, .inr ⟨_, hs, rfl⟩, rfl, q⟩
  | node s l r =>
    obtain ⟨a, x, y, rfl, hs, _⟩ := hf
    exact ⟨_, rfl, _, _, rfl, .inr ⟨_, hs, rfl⟩, rfl, q⟩
theorem okcounter_of {n : Nat} (Y : TxtK K mg w) (F : Fun K "counter_of" "counter_of" scounter_of f fd) (Cis_leaf : Cal P w K mg base "is_leaf" 1 Nis_leaf (spLeafT K)) (Ccounter_of : Cal P w K mg base "counter_of" (1 + n) Nis_leaf (spCounter K n)) :
    FnOk P w K mg base CX0 (1 + n + 1) f fd Nis_leaf (spCounter K (n + 1)) := by
  refine F.ok sccounter_of (fun vs H Q E h => ?_) (fun cdv A outer s H vs Q E hr h => ?_)
  · obtain ⟨v, t, rfl, _⟩ := h
    rfl
  obtain ⟨v, t, rfl, hf, hd, q⟩ := h
  refine ⟨_, (pss_cons (ps_set (i := 1) sccounter_of.nd rfl (Or.inl rfl) (pe_ix ix_kdict (pe_globE Y.COUNTER_WORDS) (pe_ix ix_tup (pv 0) pe_int (fun _ _ => rfl)) (fun _ _ => rfl)))
  (pss_cons (ps_if (pt_val (pe_callC Cis_leaf hr (pa_cons (pv 0) pa_nil)))
    (pss_one (ps_ret (pe_tupN (pa_cons (pv 1) (pa_cons (pe_ix ix_tup (pv 0) pe_int (fun _ _ => rfl)) pa_nil)))))
    pss_nil)
  (pss_one (ps_ret (pe_tupN (pa_cons (pv 1) (pa_cons (pe_callC Ccounter_of hr (pa_cons (pe_ix ix_tup (pv 0) pe_int (fun _ _ => rfl)) pa_nil)) (pa_cons (pe_callC Ccounter_of hr (pa_cons (pe_ix ix_tup (pv 0) pe_int (fun _ _ => rfl)) pa_nil)) pa_nil)))))))), ?_⟩
  cases t with
  | leaf co m =>
    have hf0 := hf
    obtain ⟨a, rfl, hs⟩ := hf
    exact ⟨_, rfl, a, _, _, _, rfl, rfl, hs, rfl, _, _, _, rfl, rfl, Y.kCL co, _, rfl, _, _, _, rfl, hf0, _, rfl, iteT ⟨_, rfl, _, rfl, a, _, _, _, rfl, rfl, hs, rfl, le1k, fun p H2 s2 e2 => q H2 _ s2 ⟨p, rfl, e2⟩⟩⟩
  | node s l r =>
    have hf0 := hf
    obtain ⟨a, x, y, rfl, hs, hx, hy⟩ := hf
    have hdd : 1 + max l.dep r.dep < n + 1 := hd
    refine ⟨_, rfl, a, _, _, _, rfl, rfl, hs, rfl, _, _, _, rfl, rfl, Y.kCN s, _, rfl, _, _, _, rfl, hf0, _, rfl, iteF ?_⟩
    refine ⟨_, rfl, _, rfl, a, _, _, _, rfl, rfl, hs, rfl, x, l, rfl, hx, by omega, fun H1 u1 s1 f1 => ?_⟩
    refine ⟨_, rfl, a, _, _, _, rfl, rfl, seqT_same s1 hs, rfl, y, r, rfl, hy.same s1, by omega, fun H2 u2 s2 f2 => ⟨le1k, fun p H3 s3 e3 => ?_⟩⟩
    exact q H3 _ ((s1.trans s2).trans s3) ⟨p, _, _, rfl, e3, f1.same (s2.trans s3), f2.same s3⟩
theorem okgoods_of {n : Nat} (F : Fun K "goods_of" "goods_of" sgoods_of f fd) (Cis_leaf : Cal P w K mg base "is_leaf" 1 Nis_leaf (spLeafT K)) (Cgoods_of : Cal P w K mg base "goods_of" (1 + n) Nis_leaf (spGoods K n)) :
    FnOk P w K mg base CX0 (1 + n + 1) f fd Nis_leaf (spGoods K (n + 1)) := by
  refine F.ok scgoods_of (fun vs H Q E h => ?_) (fun cdv A outer s H vs Q E hr h => ?_)
  · obtain ⟨v, wd, t, rfl, _⟩ := h
    rfl
  obtain ⟨v, wd, t, rfl, hf, hd, hl, q⟩ := h
  refine ⟨_, (pss_cons (ps_if (pt_val (pe_callC Cis_leaf hr (pa_cons (pv 0) pa_nil)))
    (pss_one (ps_ret (pe_lstN (pa_cons (pe_ix ix_tup (pv 0) pe_int (fun _ _ => rfl)) pa_nil))))
    pss_nil)
  (pss_one (ps_ret (pe_op op_catLN (pe_callC Cgoods_of hr (pa_cons (pe_ix ix_tup (pv 0) pe_int (fun _ _ => rfl)) pa_nil)) (pe_callC Cgoods_of hr (pa_cons (pe_ix ix_tup (pv 0) pe_int (fun _ _ => rfl)) pa_nil)))))), ?_⟩
  cases t with
  | leaf co m =>
    have hf0 := hf
    obtain ⟨a, rfl, hs⟩ := hf
    exact ⟨_, rfl, _, wd, _, rfl, hf0, _, rfl, iteT ⟨_, rfl, a, _, _, _, rfl, rfl, hs, rfl, le1k, fun p H2 s2 e2 => q H2 p s2 e2⟩⟩
  | node s l r =>
    have hf0 := hf
    obtain ⟨a, x, y, rfl, hs, hx, hy⟩ := hf
    have hdd : 1 + max l.dep r.dep < n + 1 := hd
    have hll : l.lvs + r.lvs ≤ 500 := hl
    refine ⟨_, rfl, _, wd, _, rfl, hf0, _, rfl, iteF ⟨_, rfl, a, _, _, _, rfl, rfl, hs, rfl, x, wd, l, rfl, hx, by omega, by omega, fun H1 l1 s1 f1 => ?_⟩⟩
    refine ⟨_, rfl, a, _, _, _, rfl, rfl, seqT_same s1 hs, rfl, y, wd, r, rfl, hy.same s1, by omega, by omega, fun H2 l2 s2 f2 => ⟨_, _, _, _, rfl, rfl, s2 _ _ f1, f2, ?_, fun p H3 s3 e3 => q H3 p ((s1.trans s2).trans s3) ?_⟩⟩
    · rw [List.length_map, List.length_map, FT.names_len, FT.names_len]; omega
    · rw [e3, ← List.map_append]; rfl
theorem okof_halves (F : Fun K "of_halves" "of_halves" sof_halves f fd) : FnOk P w K mg base CX0 1 f fd Nof_halves (spHalves K) := by
  refine F.ok scof_halves (fun vs H Q E h => ?_) (fun cdv A outer s H vs Q E hr h => ?_)
  · obtain ⟨s, x, y, a, b, rfl, _⟩ := h
    rfl
  obtain ⟨sg, x, y, a, b, rfl, ha, hb, q⟩ := h
  refine ⟨_, (pss_cons (ps_if (PW.pt (pw_or (pt_cmpR op_isN (pv 1) pe_non (nomark _)) (pw_or1 (pt_cmpR op_isN (pv 2) pe_non (nomark _)))))
    (pss_one (ps_ret pe_non))
    pss_nil)
  (pss_one (ps_ret (pe_tupN (pa_cons (pv 0) (pa_cons (pv 1) (pa_cons (pv 2) pa_nil))))))), ?_⟩
  have nn : ∀ {wd : Sg → Str} {t : FT} {v : V}, Fm wd K H t v → decide (v = .non) = false := fun {wd t v} h => decide_eq_false fun e => by
    subst e
    cases t with
    | leaf _ _ => obtain ⟨a, e, _⟩ := h; cases e
    | node _ _ _ => obtain ⟨a, _, _, e, _⟩ := h; cases e
  refine ⟨_, rfl, rfl, _, rfl, ?_⟩
  cases a with
  | none =>
    cases ha
    exact iteT (iteT (q H _ (Same.refl H) rfl))
  | some t1 =>
    rw [nn (wd := Sg.kw) ha]
    refine iteF ⟨_, rfl, rfl, _, rfl, ?_⟩
    cases b with
    | none =>
      cases hb
      exact iteT (q H _ (Same.refl H) rfl)
    | some t2 =>
      rw [nn (wd := Sg.kw) hb]
      exact iteF ⟨_, rfl, _, rfl, _, rfl, le1k, fun p H3 s3 e3 => q H3 _ s3 ⟨p, _, _, rfl, e3, Fm.same s3 ha, Fm.same s3 hb⟩⟩
theorem okform_told {n : Nat} (Y : TxtK K mg w) (F : Fun K "form_told" "form_told" sform_told f fd) (Cis_leaf : Cal P w K mg base "is_leaf" 1 Nis_leaf (spLeafT K)) (Ccounter_of : Cal P w K mg base "counter_of" 21 Nis_leaf (spCounter K 20)) (Cform_told : Cal P w K mg base "form_told" (21 + n) Pkind (spTold K n)) :
    FnOk P w K mg base CX0 (21 + n + 1) f fd Pkind (spTold K (n + 1)) := by
  refine F.ok scform_told (fun vs H Q E h => ?_) (fun cdv A outer s H vs Q E hr h => ?_)
  · obtain ⟨v, t, rfl, _⟩ := h
    rfl
  obtain ⟨v, t, rfl, hf, hd, hn, q⟩ := h
  refine ⟨_, (pss_cons (ps_if (pt_val (pe_callC Cis_leaf hr (pa_cons (pv 0) pa_nil)))
    (pss_one (ps_ret (pv 0)))
    pss_nil)
  (pss_cons (ps_asg (pv 0) (pg_tup rfl (pgs_cons (pg_name (i := 1) scform_told.nd rfl (Or.inl rfl)) (pgs_cons (pg_name (i := 2) scform_told.nd rfl (Or.inl rfl)) (pgs_cons (pg_name (i := 3) scform_told.nd rfl (Or.inl rfl)) pgs_nil)))))
  (pss_cons (ps_par (i := 4) (j := 5) (by rfl) scform_told.nd rfl rfl (by decide) rfl rfl (pa_cons (pe_callC Cform_told hr (pa_cons (pv 2) pa_nil)) (pa_cons (pe_callC Cform_told hr (pa_cons (pv 3) pa_nil)) pa_nil)) (by rfl))
  (pss_cons (ps_if (pt_cmpR op_eq (pv 1) pe_str (nomark _))
    (pss_one (ps_set (i := 4) scform_told.nd rfl (Or.inl rfl) (pe_callC Ccounter_of hr (pa_cons (pv 4) pa_nil))))
    pss_nil)
  (pss_one (ps_ret (pe_tupN (pa_cons (pe_ix ix_kdict (pe_globE Y.FORM_WORDS_OF_KINDS) (pv 1) (fun _ _ => rfl)) (pa_cons (pv 4) (pa_cons (pv 5) pa_nil)))))))))), ?_⟩
  cases t with
  | leaf co m =>
    have hf0 := hf
    obtain ⟨a, rfl, hs⟩ := hf
    exact ⟨_, rfl, _, _, _, rfl, hf0, _, rfl, iteT ⟨_, rfl, q H _ (Same.refl H) ⟨a, rfl, hs⟩⟩⟩
  | node s l r =>
    have hf0 := hf
    obtain ⟨a, x, y, rfl, hs, hx, hy⟩ := hf
    have hdd : 1 + max l.dep r.dep < n + 1 := hd
    refine ⟨_, rfl, _, _, _, rfl, hf0, _, rfl, iteF ⟨_, rfl, a, _, rfl, hs, rfl, _, _, rfl, _, _, rfl, _, _, rfl, rfl, ?_⟩⟩
    refine ⟨_, rfl, x, l, rfl, hx, by omega, by omega, fun H1 u1 s1 f1 => ?_⟩
    refine ⟨_, rfl, y, r, rfl, hy.same s1, by omega, by omega, fun H2 u2 s2 f2 => ?_⟩
    refine ⟨_, _, rfl, _, rfl, rfl, _, rfl, ?_⟩
    have fin : ∀ H3 u3, Same H2 H3 → Fm Sg.fw K H3 (if s = .bar then (fOf l).ctr else fOf l) u3 → ∀ p H4, Same H3 H4 → SqT K H4 p [.str s.fw, u3, u2] → Q (.ref p) H4 := fun H3 u3 s3 f3 p H4 s4 e4 =>
      q H4 _ (((s1.trans s2).trans s3).trans s4) ⟨p, _, _, rfl, e4, f3.same s4, f2.same (s3.trans s4)⟩
    by_cases e : s = .bar
    · subst e
      refine iteT ⟨_, rfl, u1, fOf l, rfl, f1.same s2, by rw [fOf_dep]; omega, fun H3 u3 s3 f3 => ?_⟩
      exact ⟨_, rfl, _, _, _, rfl, rfl, Y.kFK .bar, _, rfl, _, rfl, le1k, fin H3 u3 s3 (by rw [if_pos rfl]; exact f3)⟩
    · refine ite2 (fun c => ?_) (fun c => ?_)
      · exact absurd (of_decide_eq_true c) (fun h => by have h2 := V.str.inj h; revert h2 e; cases s <;> decide +kernel)
      · exact ⟨_, rfl, _, _, _, rfl, rfl, Y.kFK s, _, rfl, _, rfl, le1k, fin H2 u1 (Same.refl H2) (by rw [if_neg e]; exact f1.same s2)⟩
theorem okkind_given {n : Nat} (Y : TxtK K mg w) (F : Fun K "kind_given" "kind_given" skind_given f fd) (Cis_leaf : Cal P w K mg base "is_leaf" 1 Nis_leaf (spLeafT K)) (Cof_halves : Cal P w K mg base "of_halves" 1 Nof_halves (spHalves K))
    (Ckind_given : Cal P w K mg base "kind_given" (1 + n) Nis_leaf (spKind K false n)) (Ckind_counted : Cal P w K mg base "kind_counted" (1 + n) Nis_leaf (spKind K true n)) : FnOk P w K mg base CX0 (1 + n + 1) f fd Nis_leaf (spKind K false (n + 1)) := by
  refine F.ok sckind_given (fun vs H Q E h => ?_) (fun cdv A outer s H vs Q E hr h => ?_)
  · obtain ⟨v, t, rfl, _⟩ := h
    rfl
  obtain ⟨v, t, rfl, hf, hd, q⟩ := h
  refine ⟨_, (pss_cons (ps_if (pt_val (pe_callC Cis_leaf hr (pa_cons (pv 0) pa_nil)))
    (pss_one (ps_ret (pe_ifExp (pt_cmpR op_eq (pe_ix ix_tup (pv 0) pe_int (fun _ _ => rfl)) pe_str (nomark _)) (pv 0) pe_non)))
    pss_nil)
  (pss_cons (ps_asg (pv 0) (pg_tup rfl (pgs_cons (pg_name (i := 1) sckind_given.nd rfl (Or.inl rfl)) (pgs_cons (pg_name (i := 2) sckind_given.nd rfl (Or.inl rfl)) (pgs_cons (pg_name (i := 3) sckind_given.nd rfl (Or.inl rfl)) pgs_nil)))))
  (pss_cons (ps_set (i := 4) sckind_given.nd rfl (Or.inl rfl) (pe_ifExp (pt_cmpR op_eq (pv 1) pe_str (nomark _)) (pe_callC Ckind_counted hr (pa_cons (pv 2) pa_nil)) (pe_callC Ckind_given hr (pa_cons (pv 2) pa_nil))))
  (pss_one (ps_ret (pe_callC Cof_halves hr (pa_cons (pe_ix ix_kdict (pe_globE Y.GIVEN_WORDS) (pv 1) (fun _ _ => rfl)) (pa_cons (pv 4) (pa_cons (pe_callC Ckind_given hr (pa_cons (pv 3) pa_nil)) pa_nil))))))))), ?_⟩
  cases t with
  | leaf co m =>
    have hf0 := hf
    obtain ⟨a, rfl, hs⟩ := hf
    refine ⟨_, rfl, _, _, _, rfl, hf0, _, rfl, iteT ⟨_, rfl, a, _, _, _, rfl, rfl, hs, rfl, rfl, _, rfl, ?_⟩⟩
    cases co with
    | false => exact iteT ⟨_, rfl, q H _ (Same.refl H) ⟨a, rfl, hs⟩⟩
    | true => exact iteF (q H _ (Same.refl H) rfl)
  | node s l r =>
    have hf0 := hf
    obtain ⟨a, x, y, rfl, hs, hx, hy⟩ := hf
    have hdd : 1 + max l.dep r.dep < n + 1 := hd
    refine ⟨_, rfl, _, _, _, rfl, hf0, _, rfl, iteF ⟨_, rfl, a, _, rfl, hs, rfl, _, _, rfl, _, _, rfl, _, _, rfl, rfl, _, rfl, rfl, _, rfl, ?_⟩⟩
    by_cases e : s = .bar
    · subst e
      refine iteT ⟨_, rfl, x, l, rfl, hx, by omega, fun H1 u1 s1 f1 => ?_⟩
      exact ⟨_, rfl, _, _, _, rfl, rfl, Y.kGW .bar, _, rfl, _, rfl, y, r, rfl, hy.same s1, by omega, fun H2 u2 s2 f2 => ⟨.bar, u1, u2, _, _, rfl, f1.same s2, f2, fun H3 u3 s3 f3 => q H3 u3 ((s1.trans s2).trans s3) f3⟩⟩
    · refine ite2 (fun c => ?_) (fun c => ?_)
      · exact absurd (of_decide_eq_true c) (fun h => by have h2 := V.str.inj h; revert h2 e; cases s <;> decide +kernel)
      · exact ⟨_, rfl, x, l, rfl, hx, by omega, fun H1 u1 s1 f1 => by
          have f1 : Om Sg.kw K H1 (kG (if s = .bar then true else false) l) u1 := by rw [if_neg e]; exact f1
          exact ⟨_, rfl, _, _, _, rfl, rfl, Y.kGW s, _, rfl, _, rfl, y, r, rfl, hy.same s1, by omega, fun H2 u2 s2 f2 => ⟨s, u1, u2, _, _, rfl, f1.same s2, f2, fun H3 u3 s3 f3 => q H3 u3 ((s1.trans s2).trans s3) (by
                show Om Sg.kw K H3 (match kG (if s = .bar then !false else false) l, kG false r with | some a, some b => some (FT.node s a b) | _, _ => none) u3
                exact f3)⟩⟩⟩
theorem okkind_counted {n : Nat} (Y : TxtK K mg w) (F : Fun K "kind_counted" "kind_counted" skind_counted f fd) (Cis_leaf : Cal P w K mg base "is_leaf" 1 Nis_leaf (spLeafT K)) (Cof_halves : Cal P w K mg base "of_halves" 1 Nof_halves (spHalves K))
    (Ckind_given : Cal P w K mg base "kind_given" (1 + n) Nis_leaf (spKind K false n)) (Ckind_counted : Cal P w K mg base "kind_counted" (1 + n) Nis_leaf (spKind K true n)) : FnOk P w K mg base CX0 (1 + n + 1) f fd Nis_leaf (spKind K true (n + 1)) := by
  refine F.ok sckind_counted (fun vs H Q E h => ?_) (fun cdv A outer s H vs Q E hr h => ?_)
  · obtain ⟨v, t, rfl, _⟩ := h
    rfl
  obtain ⟨v, t, rfl, hf, hd, q⟩ := h
  refine ⟨_, (pss_cons (ps_if (pt_val (pe_callC Cis_leaf hr (pa_cons (pv 0) pa_nil)))
    (pss_one (ps_ret (pe_ifExp (pt_cmpR op_eq (pe_ix ix_tup (pv 0) pe_int (fun _ _ => rfl)) pe_str (nomark _)) (pe_tupN (pa_cons pe_str (pa_cons (pe_ix ix_tup (pv 0) pe_int (fun _ _ => rfl)) pa_nil))) pe_non)))
    pss_nil)
  (pss_cons (ps_asg (pv 0) (pg_tup rfl (pgs_cons (pg_name (i := 1) sckind_counted.nd rfl (Or.inl rfl)) (pgs_cons (pg_name (i := 2) sckind_counted.nd rfl (Or.inl rfl)) (pgs_cons (pg_name (i := 3) sckind_counted.nd rfl (Or.inl rfl)) pgs_nil)))))
  (pss_cons (ps_set (i := 4) sckind_counted.nd rfl (Or.inl rfl) (pe_ifExp (pt_cmpR op_eq (pv 1) pe_str (nomark _)) (pe_callC Ckind_given hr (pa_cons (pv 2) pa_nil)) (pe_callC Ckind_counted hr (pa_cons (pv 2) pa_nil))))
  (pss_one (ps_ret (pe_callC Cof_halves hr (pa_cons (pe_ix ix_kdict (pe_globE Y.TAKEN_WORDS) (pv 1) (fun _ _ => rfl)) (pa_cons (pv 4) (pa_cons (pe_callC Ckind_counted hr (pa_cons (pv 3) pa_nil)) pa_nil))))))))), ?_⟩
  cases t with
  | leaf co m =>
    have hf0 := hf
    obtain ⟨a, rfl, hs⟩ := hf
    refine ⟨_, rfl, _, _, _, rfl, hf0, _, rfl, iteT ⟨_, rfl, a, _, _, _, rfl, rfl, hs, rfl, rfl, _, rfl, ?_⟩⟩
    cases co with
    | true => exact iteT ⟨_, rfl, a, _, _, _, rfl, rfl, hs, rfl, le1k, fun p H2 s2 e2 => q H2 _ s2 ⟨p, rfl, e2⟩⟩
    | false => exact iteF (q H _ (Same.refl H) rfl)
  | node s l r =>
    have hf0 := hf
    obtain ⟨a, x, y, rfl, hs, hx, hy⟩ := hf
    have hdd : 1 + max l.dep r.dep < n + 1 := hd
    refine ⟨_, rfl, _, _, _, rfl, hf0, _, rfl, iteF ⟨_, rfl, a, _, rfl, hs, rfl, _, _, rfl, _, _, rfl, _, _, rfl, rfl, _, rfl, rfl, _, rfl, ?_⟩⟩
    by_cases e : s = .mul
    · subst e
      refine iteT ⟨_, rfl, x, l, rfl, hx, by omega, fun H1 u1 s1 f1 => ?_⟩
      exact ⟨_, rfl, _, _, _, rfl, rfl, Y.kTW .mul, _, rfl, _, rfl, y, r, rfl, hy.same s1, by omega, fun H2 u2 s2 f2 => ⟨Sg.mul.ctr, u1, u2, _, _, rfl, f1.same s2, f2, fun H3 u3 s3 f3 => q H3 u3 ((s1.trans s2).trans s3) f3⟩⟩
    · refine ite2 (fun c => ?_) (fun c => ?_)
      · exact absurd (of_decide_eq_true c) (fun h => by have h2 := V.str.inj h; revert h2 e; cases s <;> decide +kernel)
      · exact ⟨_, rfl, x, l, rfl, hx, by omega, fun H1 u1 s1 f1 => by
          have f1 : Om Sg.kw K H1 (kG (if s = .mul then false else true) l) u1 := by rw [if_neg e]; exact f1
          exact ⟨_, rfl, _, _, _, rfl, rfl, Y.kTW s, _, rfl, _, rfl, y, r, rfl, hy.same s1, by omega, fun H2 u2 s2 f2 => ⟨s.ctr, u1, u2, _, _, rfl, f1.same s2, f2, fun H3 u3 s3 f3 => q H3 u3 ((s1.trans s2).trans s3) (by
                have e : (if s = .mul then false else true) = (if s.ctr = .bar then !true else true) := by cases s <;> rfl
                rw [e] at f3
                exact f3)⟩⟩⟩
end
end My

set_option Elab.async false
set_option linter.all false
set_option maxRecDepth 100000
/-! closures as values: a lambda without parameters that is handed on to defs, and called there -/
namespace Clo
open PySem PySem.Spec PyProof.Rows L2 LamX
/-- the object at c is just o -/
def Pin (c : Addr) (o : Obj) : HO := .ext fun h => h.get? c = some o
theorem pin_ok {P : Program} {w : World} {H : Hp} {h : Heap} {c : Addr} {o : Obj} (e : h.get? c = some o) : ObjOk P w H h c (Pin c o) :=
  ⟨e, ⟨o, e⟩, fun h1 h2 q st => st _ q⟩
theorem pin_get {P : Program} {w : World} {H : Hp} {h : Heap} {c : Addr} {o : Obj} (hok : HOk P w H h) (e : H c = some (Pin c o)) : h.get? c = some o := (hok c _ e).1
/-- the cells at C known to the object; .. forgotten -/
def plus (C : Addr → Option Obj) (H : Hp) : Hp := fun b => match C b with | some o => some (Pin b o) | none => H b
def minus (C : Addr → Option Obj) (H : Hp) : Hp := fun b => match C b with | some _ => none | none => H b
section
variable {C : Addr → Option Obj} {H H' : Hp} {b : Addr} {o : Obj} {u : HO}
theorem plus_in (e : C b = some o) : plus C H b = some (Pin b o) := by unfold plus; rw [e]
theorem plus_out (e : C b = none) : plus C H b = H b := by unfold plus; rw [e]
theorem minus_in (e : C b = some o) : minus C H b = none := by unfold minus; rw [e]
theorem minus_out (e : C b = none) : minus C H b = H b := by unfold minus; rw [e]
theorem out_of (e : H b = some u) (f : ∀ c o, C c = some o → H c = none) : C b = none := by
  cases q : C b with
  | none => rfl
  | some o =>
    rw [f b o q] at e
    cases e
theorem pin_own {c x : Addr} : Pin c o ≠ .own x := fun z => by
  have z' : HO.ext _ = HO.own x := z
  cases z'
theorem pin_tup {c : Addr} {xs : List V} : Pin c o ≠ .tup xs := fun z => by
  have z' : HO.ext _ = HO.tup xs := z
  cases z'
theorem pin_frz {c : Addr} {p : Obj} : Pin c o ≠ .frz p u := fun z => by
  have z' : HO.ext _ = HO.frz p u := z
  cases z'
theorem pin_tbl {c : Addr} {ps : Array Value} : Pin c o ≠ .tbl ps := fun z => by
  have z' : HO.ext _ = HO.tbl ps := z
  cases z'
/-- Hm is H without the cells -/
structure Less (C : Addr → Option Obj) (Hm H : Hp) (h : Heap) : Prop where
  inn : ∀ c o, C c = some o → Hm c = none ∧ H c = some (Pin c o) ∧ h.get? c = some o
  out : ∀ b, C b = none → Hm b = H b
theorem less_plus {h : Heap} (f : ∀ c o, C c = some o → H c = none ∧ h.get? c = some o) : Less C H (plus C H) h :=
  ⟨fun c o e => ⟨(f c o e).1, plus_in e, (f c o e).2⟩, fun b e => (plus_out e).symm⟩
theorem less_minus {P : Program} {w : World} {h : Heap} (hok : HOk P w H h) (f : ∀ c o, C c = some o → H c = some (Pin c o)) : Less C (minus C H) H h :=
  ⟨fun c o e => ⟨minus_in e, f c o e, (hok c _ (f c o e)).1⟩, fun b e => minus_out e⟩
end
section
variable {P : Program} {w : World} {C : Addr → Option Obj} {H Hm H' : Hp} {h h' : Heap} {fs : List Addr}
theorem Less.cells (L : Less C Hm H h) {b : Addr} {u : HO} (e : H b = some u) (n : ∀ o, u ≠ Pin b o) : C b = none := by
  cases q : C b with
  | none => rfl
  | some o =>
    rw [(L.inn b o q).2.1] at e
    exact absurd (Option.some.inj e).symm (n o)
theorem Less.hok (L : Less C Hm H h) (k : HOk P w Hm h) : HOk P w H h := fun b u e => by
  cases q : C b with
  | some o =>
    rw [(L.inn b o q).2.1] at e
    cases e
    exact pin_ok (L.inn b o q).2.2
  | none =>
    rw [← L.out b q] at e
    refine (k b u e).stay (fun _ _ _ z => z) (fun c z => ?_) fun c xs z => ?_
    · cases qc : C c with
      | none => rw [← L.out c qc]; exact z
      | some o => rw [(L.inn c o qc).1] at z; cases z
    · cases qc : C c with
      | none => rw [← L.out c qc]; exact z
      | some o => rw [(L.inn c o qc).1] at z; cases z
theorem Less.hokm (L : Less C Hm H h) (k : HOk P w H h) : HOk P w Hm h := fun b u e => by
  have qb : C b = none := by
    cases q : C b with
    | none => rfl
    | some o => rw [(L.inn b o q).1] at e; cases e
  rw [L.out b qb] at e
  refine (k b u e).stay (fun _ _ _ z => z) (fun c z => ?_) fun c xs z => ?_
  · rw [L.out c (L.cells z fun o => Ne.symm pin_own)]; exact z
  · rw [L.out c (L.cells z fun o => Ne.symm pin_tup)]; exact z
/-- what is kept over Hm is kept over H, the cells told again -/
theorem un_plus (L : Less C Hm H h) (u : Un fs [] Hm H' h h') (nf : ∀ c o, C c = some o → c ∉ fs) : Un fs [] H (plus C H') h h' ∧ (∀ c o, C c = some o → h'.get? c = some o ∧ H' c = none) := by
  have cell : ∀ c o, C c = some o → h'.get? c = some o ∧ H' c = none := fun c o e => by
    have i := L.inn c o e
    exact ⟨u.keep c o i.2.2 i.1 (nf c o e) (by simp), u.free c o i.2.2 i.1 (by simp)⟩
  have nn : ∀ {b}, H b = none → C b = none := fun {b} n => by
    cases q : C b with
    | none => rfl
    | some o => rw [(L.inn b o q).2.1] at n; cases n
  refine ⟨⟨fun b o e n hb hx => ?_, fun b o e n hb hx => ?_, fun b o e n hx => ?_, u.there, fun b xs e => ?_, fun b o v e => ?_, fun b ps e => ?_⟩, cell⟩
  · exact u.keep b o e (by rw [L.out b (nn n)]; exact n) hb hx
  · exact u.slot b o e (by rw [L.out b (nn n)]; exact n) hb hx
  · rw [plus_out (nn n)]
    exact u.free b o e (by rw [L.out b (nn n)]; exact n) hx
  · have q := L.cells e fun o => Ne.symm pin_tup
    rw [plus_out q]
    exact u.tups b xs (by rw [L.out b q]; exact e)
  · have q := L.cells e fun o' => Ne.symm pin_frz
    rw [plus_out q]
    exact u.frzs b o v (by rw [L.out b q]; exact e)
  · have q := L.cells e fun o => Ne.symm pin_tbl
    rw [plus_out q]
    exact u.tbls b ps (by rw [L.out b q]; exact e)
/-- what is kept over H, the cells known behind it too, is kept over Hm -/
theorem un_minus (L : Less C Hm H h) (u : Un fs [] H H' h h') (hok : HOk P w H' h') (st : ∀ c o, C c = some o → H' c = some (Pin c o)) : Un fs [] Hm (minus C H') h h' := by
  have cell : ∀ c o, C c = some o → h'.get? c = some o := fun c o e => (hok c _ (st c o e)).1
  refine ⟨fun b o e n hb hx => ?_, fun b o e n hb hx => ?_, fun b o e n hx => ?_, u.there, fun b xs e => ?_, fun b o v e => ?_, fun b ps e => ?_⟩
  · cases q : C b with
    | some o' =>
      have := (L.inn b o' q).2.2
      rw [e] at this
      cases this
      exact cell b o q
    | none => exact u.keep b o e (by rw [← L.out b q]; exact n) hb hx
  · cases q : C b with
    | some o' =>
      have := (L.inn b o' q).2.2
      rw [e] at this
      cases this
      exact ⟨o.slots, cell b o q⟩
    | none => exact u.slot b o e (by rw [← L.out b q]; exact n) hb hx
  · cases q : C b with
    | some o' => exact minus_in q
    | none =>
      rw [minus_out q]
      exact u.free b o e (by rw [← L.out b q]; exact n) hx
  · have q : C b = none := by
      cases q : C b with
      | none => rfl
      | some o => rw [(L.inn b o q).1] at e; cases e
    rw [minus_out q]
    exact u.tups b xs (by rw [← L.out b q]; exact e)
  · have q : C b = none := by
      cases q : C b with
      | none => rfl
      | some o => rw [(L.inn b o q).1] at e; cases e
    rw [minus_out q]
    exact u.frzs b o v (by rw [← L.out b q]; exact e)
  · have q : C b = none := by
      cases q : C b with
      | none => rfl
      | some o => rw [(L.inn b o q).1] at e; cases e
    rw [minus_out q]
    exact u.tbls b ps (by rw [← L.out b q]; exact e)
end
section
variable {P : Program} {w : World} {C : Addr → Option Obj} {H Hm : Hp} {s s' : Shared} {outer : List Env}
theorem ce_plus {Q : VK} {u : Value} (L : Less C Hm H s.heap) (nf : ∀ c o, C c = some o → c ∉ frs outer) (h : CE outer P w Hm s (fun v H' => (∀ c o, C c = some o → H' c = none) → Q v (plus C H')) u s') : CE outer P w H s Q u s' := by
  obtain ⟨v, H', os, bare, un, hok, r, q⟩ := h
  obtain ⟨un', cell⟩ := un_plus L un nf
  exact ⟨v, plus C H', os, bare, un', (less_plus fun c o e => ⟨(cell c o e).2, (cell c o e).1⟩).hok hok, r, q fun c o e => (cell c o e).2⟩
theorem ce_minus {Q : VK} {u : Value} (L : Less C Hm H s.heap) (h : CE outer P w H s (fun v H' => (∀ c o, C c = some o → H' c = some (Pin c o)) ∧ Q v (minus C H')) u s') : CE outer P w Hm s Q u s' := by
  obtain ⟨v, H', os, bare, un, hok, r, st, q⟩ := h
  exact ⟨v, minus C H', os, bare, un_minus L un hok st, (less_minus hok st).hokm hok, r, q⟩
theorem cx_plus {E : XK} {u : Value} (L : Less C Hm H s.heap) (nf : ∀ c o, C c = some o → c ∉ frs outer) (h : L2.CX P w outer Hm s (fun cls d H' => (∀ c o, C c = some o → H' c = none) → E cls d (plus C H')) u s') : L2.CX P w outer H s E u s' := by
  obtain ⟨a, B, H', cls, d, eu, fl, hok, ub, na, os, ag, q⟩ := h
  have nn : ∀ {b}, H b = none → C b = none := fun {b} n => by
    cases q : C b with
    | none => rfl
    | some o => rw [(L.inn b o q).2.1] at n; cases n
  have cell : ∀ c o, C c = some o → B.get? c = some o ∧ H' c = none := fun c o e => by
    have i := L.inn c o e
    exact ⟨ub.keep c o i.2.2 i.1 (nf c o e), ub.free c o i.2.2 i.1⟩
  refine ⟨a, B, plus C H', cls, d, eu, fl, (less_plus fun c o e => ⟨(cell c o e).2, (cell c o e).1⟩).hok hok, ⟨fun b o e n hb => ?_, ub.slot, fun b o e n => ?_, ub.there, fun b xs e => ?_, fun b o v e => ?_, fun b ps e => ?_⟩, ?_, os, ag, q fun c o e => (cell c o e).2⟩
  · exact ub.keep b o e (by rw [L.out b (nn n)]; exact n) hb
  · rw [plus_out (nn n)]
    exact ub.free b o e (by rw [L.out b (nn n)]; exact n)
  · have q := L.cells e fun o => Ne.symm pin_tup
    rw [plus_out q]
    exact ub.tups b xs (by rw [L.out b q]; exact e)
  · have q := L.cells e fun o' => Ne.symm pin_frz
    rw [plus_out q]
    exact ub.frzs b o v (by rw [L.out b q]; exact e)
  · have q := L.cells e fun o => Ne.symm pin_tbl
    rw [plus_out q]
    exact ub.tbls b ps (by rw [L.out b q]; exact e)
  · have qa : C a = none := by
      cases q : C a with
      | none => rfl
      | some o =>
        have h1 := (cell a o q).1
        rw [fl.2.1] at h1
        cases h1
    rw [plus_out qa]
    exact na
end

/-! ### the cells of a frame -/
/-- C: the objects of the cells that env knows, with the values of the names -/
structure CellsAt (env : Env) (N : List Str) (σ : L2.St) (C : Addr → Option Obj) : Prop where
  all : ∀ x c, env.cells.lookup x = some c → ∃ o v, C c = some o ∧ o.data = .cell v
  val : ∀ (i : Nat) (x : Str) (v : V) (c : Addr), N[i]? = some x → σ[i]? = some (some v) → (env.kindOf x = some .cell ∨ env.kindOf x = some .free) → env.cells.lookup x = some c → ∃ o u, C c = some o ∧ o.data = .cell (some u) ∧ RelV v u
section
variable {X : Cx} {pins : List (Addr × Obj)} {σ : L2.St} {H : Hp} {s : Shared}
open Classical in
theorem cells_of (I : Inv X pins σ H s) : ∃ C : Addr → Option Obj, CellsAt X.env X.N σ C ∧ (∀ c o, C c = some o → s.heap.get? c = some o ∧ H c = none ∧ ∃ x, X.env.cells.lookup x = some c) := by
  refine ⟨fun c => if ∃ x, X.env.cells.lookup x = some c then s.heap.get? c else none, ⟨fun x c e => ?_, fun i x v c hn hs hk e => ?_⟩, fun c o e => ?_⟩
  · obtain ⟨v, o, ho, hd⟩ := I.cell x c e
    exact ⟨o, v, by rw [if_pos ⟨x, e⟩]; exact ho, hd⟩
  · obtain ⟨m, hm, hl⟩ := I.loc
    have vis : Vis X.env.scope x := hk.elim (fun k => .inr (.inl k)) (fun k => .inr (.inr k))
    obtain ⟨u, ru, q⟩ := hl i x v hn hs vis
    rcases q with ⟨k', _⟩ | ⟨_, c', e', o, ho, hd⟩
    · rcases hk with k | k <;> rw [k] at k' <;> cases k'
    · rw [e] at e'
      cases e'
      exact ⟨o, u, by rw [if_pos ⟨x, e⟩]; exact ho, hd, ru⟩
  · have e : (if ∃ x, X.env.cells.lookup x = some c then s.heap.get? c else none) = some o := e
    by_cases hx : ∃ x, X.env.cells.lookup x = some c
    · rw [if_pos hx] at e
      obtain ⟨x, ex⟩ := hx
      exact ⟨e, I.freeC x c ex, x, ex⟩
    · rw [if_neg hx] at e
      cases e
end
section
variable {X : Cx} {σ : L2.St} {C : Addr → Option Obj} {HZ : Hp} {s1 : Shared}
/-- the lambda's body, entered anywhere while the cells lie as C tells -/
theorem lam_start3 {A : Around} {outer : List Env} {E : XK} {scope : Scope} {f c' : Addr} {h₁ : Heap} {tk : Nat} (ok : X.Ok) (len : σ.length = X.N.length) (L : LamS X.env.scope scope) (KC : CellsAt X.env X.N σ C) (lie : ∀ c o, C c = some o → s1.heap.get? c = some o) (off : ∀ c o, C c = some o → HZ c = none)
    (e0 : Env0 X.prog X.w X.K X.mg X.base A outer s1 HZ) (hd : A.handled = none) (hns : h₁.Ns s1.heap.objs.size fun y => ([] : List (Str × Value)).reverse.lookup y) (kp : ∀ b o, s1.heap.get? b = some o → h₁.get? b = some o) :
    Inv (lamCx X A outer s1 HZ E scope f c') [] σ HZ { s1 with heap := h₁, toks := tk } := by
  have old : ∀ {x c}, (cloFrom X.env.cells scope.names []).lookup x = some c → X.env.cells.lookup x = some c := fun {x c} lk => by
    rcases cloFrom_mem (PySem.mem_of_lookup lk) with z | ⟨nm, at_⟩
    · exact absurd z (by simp)
    · obtain ⟨d, hl⟩ := L.has ok _ nm rfl
      have hl : X.env.cells.lookup x = some d := hl
      rw [at_, hl]
      rfl
  have seek : ∀ {x}, scope.names.lookup x = some .free → ∃ c, (cloFrom X.env.cells scope.names []).lookup x = some c := fun {x} lk =>
    mem_lookup (cloFrom_has (cells := X.env.cells) (acc := []) (PySem.mem_of_lookup lk))
  have noE : ∀ b : Addr, b ∉ (lamCx X A outer s1 HZ E scope f c').ex := fun b z => nomatch (show b ∈ ([] : List Addr) from z)
  refine ⟨⟨e0.mod, L.kind, rfl, rfl, Nat.le_refl _, fun x y c l1 l2 => ok.inj x y c (old l1) (old l2), fun x kx => ?_, fun x c z => ?_, fun _ => hd, Around.frames_deeper e0.frames, .inr ⟨rfl, rfl⟩, fun b z => (noE b z).elim, e0.bs, e0.bsz, fun b _ _ => noE b, fun b z => (noE b z).elim, e0.funs, e0.frf⟩,
    rfl, e0.bare, Un.kept kp, ⟨_, hns, fun i x v l1 l2 vs => ?_⟩, fun x c lk => ?_, e0.hok.fresh (Nat.le_refl _), fun x c lk => ?_, fun p z => (nomatch (show p ∈ ([] : List (Addr × Obj)) ++ [] from z)), e0.hok.kept kp, len⟩
  · have kx : scope.names.lookup x = some .cell ∨ scope.names.lookup x = some .free := kx
    rcases kx with k | k
    · exact ((L.own _ (PySem.mem_of_lookup k)).2 rfl).elim
    · exact seek k
  · exact nomatch (show false = true from z)
  · have vs : Vis scope x := vs
    rcases vs with k | k | k
    · exact ((L.own _ (PySem.mem_of_lookup k)).1 rfl).elim
    · exact ((L.own _ (PySem.mem_of_lookup k)).2 rfl).elim
    · have kk : X.env.kindOf x = some .cell ∨ X.env.kindOf x = some .free := L.free _ (PySem.mem_of_lookup k) rfl
      obtain ⟨c, lk⟩ := seek k
      obtain ⟨o, u, co, od, ru⟩ := KC.val i x v c l1 l2 kk (old lk)
      exact ⟨u, ru, .inr ⟨.inr k, c, lk, o, kp _ _ (lie c o co), od⟩⟩
  · obtain ⟨o, v, co, od⟩ := KC.all x c (old lk)
    exact ⟨v, o, kp _ _ (lie c o co), od⟩
  · obtain ⟨o, v, co, od⟩ := KC.all x c (old lk)
    exact off c o co
end

/-! ### a closure -/
/-- what a call of the object at f, without arguments, does -/
def Act (P : Program) (w : World) (K : PySem.W.Frag) (mg : Str → Option Value) (base : Heap) (k : Nat) (f : Addr) (tl : Hp → VK → XK → Prop) : Prop :=
  ∀ (A : Around) (outer : List Env) (s : Shared) (H : Hp) (Q : VK) (E : XK), Room k A → Env0 P w K mg base A outer s H → tl H Q E →
    codeAny (model P w) A (.call (.ref f) ⟨[], []⟩) (CR (L2.CX P w) outer P w H s Q E) s
theorem Act.mono {P : Program} {w : World} {K : PySem.W.Frag} {mg : Str → Option Value} {base : Heap} {j k : Nat} {f : Addr} {tl : Hp → VK → XK → Prop} (a : Act P w K mg base j f tl) (h : j ≤ k) : Act P w K mg base k f tl :=
  fun A outer s H Q E r => a A outer s H Q E (r.mono h)
/-- the reading of a lambda's call, wherever it comes: its object and the cells are known, the body's reading holds without them -/
def tlX (f c' : Addr) (fo : Obj) (q : Str) (C : Addr → Option Obj) (σ : L2.St) (t : XK → TE) : Hp → VK → XK → Prop := fun H Q E =>
  H f = some (Pin f fo) ∧ H c' = some (CodeO c' q) ∧ (∀ c o, C c = some o → H c = some (Pin c o)) ∧ t (fun cls d H' => (∀ c o, C c = some o → H' c = none) → E cls d (plus C H')) σ (minus C H) (fun v H' => (∀ c o, C c = some o → H' c = none) → Q v (plus C H'))
section
variable {X : Cx} {σ : L2.St} {C : Addr → Option Obj}
theorem act_ok {f c' : Addr} {pm ctv : Value} {params : Arguments} {body : Expr} {scope : Scope} {k : Nat} {t : XK → TE} (ok : X.Ok) (len : σ.length = X.N.length) (L : LamS X.env.scope scope) (KC : CellsAt X.env X.N σ C)
    (hbind : bindArgs (PySem.W.kla_fn "<lambda>" (X.env.qual ++ "<lambda>") params body scope (cloFrom X.env.cells scope.names []) pm (.ref c') ctv) ⟨[], []⟩ = pure [])
    (hbody : ∀ (A : Around) (outer : List Env) (s : Shared) (H : Hp) (E : XK), Room k (A.deeper (lamEnv X scope s.heap.objs.size f c')) → PE (lamCx X A outer s H E scope f c') body (t E)) :
    Act X.prog X.w X.K X.mg X.base (k + 1) f (tlX f c' (PySem.W.kla_obj "<lambda>" (X.env.qual ++ "<lambda>") params body scope (cloFrom X.env.cells scope.names []) pm c' ctv) (X.env.qual ++ "<lambda>") C σ t) := by
  intro A outer s H Q E hr e0 h
  obtain ⟨hf, hc, hC, ht⟩ := h
  have gf := pin_get e0.hok hf
  obtain ⟨⟨oc, vs, tq, g1, g2, g3⟩, _, _⟩ := e0.hok c' _ hc
  have LS : Less C (minus C H) H s.heap := less_minus e0.hok hC
  have nf : ∀ c o, C c = some o → c ∉ frs outer := fun c o e z => by
    have := e0.frf c z
    rw [hC c o e] at this
    cases this
  have e1 : Env0 X.prog X.w X.K X.mg X.base A outer s (minus C H) := ⟨e0.frames, e0.mod, fun b o e => ⟨(e0.bs b o e).1, by
      cases q : C b with
      | some o' => exact minus_in q
      | none => rw [minus_out q]; exact (e0.bs b o e).2⟩, e0.bsz, e0.funs, fun b hb => by
      cases q : C b with
      | some o' => exact minus_in q
      | none => rw [minus_out q]; exact e0.frf b hb, LS.hokm e0.hok, e0.bare⟩
  have lim : s.heap.NoLimit := e0.mod.nolimit.keeps fun b o e => (e0.bs b o e).1
  refine PySem.W.kla_callFunE hr.depth gf rfl L.co L.gen rfl ⟨c', oc, vs, tq, rfl, g1, g2, g3⟩ ?_
  rw [hbind]
  refine wpAny_pure (wpAny_newFunctionEnv (fun y hy => (L.own y hy).2) (fun y hy => nomatch hy) (fun h₁ hns hsb => ⟨lim.fresh _ hsb, ?_⟩) L.kind)
  show codeAny _ _ (.expr body (lamEnv X scope s.heap.objs.size f c')) _ _
  have kp : ∀ b o, s.heap.get? b = some o → h₁.get? b = some o := fun b o g => hsb.extBut b o (Nat.ne_of_lt (Heap.lt_size g)) (Heap.get?_push_of_some _ g)
  have J : Inv (lamCx X A outer s (minus C H) (fun cls d H' => (∀ c o, C c = some o → H' c = none) → E cls d (plus C H')) scope f c') [] σ (minus C H) { s with heap := h₁, toks := s.toks + ([] : List (Str × Value)).length } :=
    lam_start3 ok len L KC (fun c o e => (LS.inn c o e).2.2) (fun c o e => (LS.inn c o e).1) e1 hr.hd hns kp
  refine PySem.W.kla_codeExpr (wpAny_mono ((hbody A outer s (minus C H) _ (hr.deeper _)).run [] _ _ _ _ J ht) (fun v s' hq => ?_) fun e s' hq => ?_)
  · obtain ⟨v', H', J', rv, q⟩ := hq
    exact ce_plus LS nf ⟨v', H', J'.os, J'.bare, J'.base, J'.hok, rv, q⟩
  · exact wpAny_mono hq (fun _ s2 z => cx_plus LS nf z) fun e2 s2 z => cx_plus LS nf z
end

/-! ### a lambda is made -/
section
variable {X : Cx} {pins : List (Addr × Obj)} {σ : L2.St} {H : Hp} {s : Shared}
theorem pin_lay {h' : Heap} {o : Obj} {tk : Nat} (nf : o.isFreed = false) (I : Inv X pins σ H { s with heap := h', toks := tk }) : Inv X pins σ (upd H h'.objs.size (Pin h'.objs.size o)) { s with heap := h'.push o, toks := tk } :=
  I.laid (t' := tk) (fun b u g => Heap.get?_push_of_some _ g) (Nat.le_refl _) (pin_ok (Heap.get?_push_size _ nf))
theorem new_same {p : Addr} {o : HO} (n : H p = none) : ∀ b u, H b = some u → upd H p o b = some u := fun b u g => by
  rw [upd_ne (ne_of_none g n)]
  exact g
/-- a lambda is made, and known from then on -/
theorem lam_make3 {T : List (Addr × Str)} {c P : Addr} {params : Arguments} {body : Expr} {scope : Scope} {pos : Pos} {E : Value → Shared → Prop} {Q : Value → Shared → Prop} (I : Inv X pins σ H s) (TB : TabB X.base X.mg c P) (hcode : X.env.code = .ref c)
    (inT : (P, X.env.qual ++ "<lambda>") ∈ T) (one : ∀ p ∈ T, p.1 = P → p.2 = X.env.qual ++ "<lambda>") (tabs : Tabs T H) (nodef : defaultsOf params X.env = ([], [])) (free : ∀ y ∈ scope.names, y.2 = .free → ∃ c, X.env.cells.lookup y.1 = some c)
    (h : ∀ (f c' : Addr) (pm ctv : Value) (H1 : Hp) (s' : Shared), Inv X pins σ H1 s' → ExtN H H1 → Tabs T H1 → H f = none →
      H1 f = some (Pin f (PySem.W.kla_obj "<lambda>" (X.env.qual ++ "<lambda>") params body scope (cloFrom X.env.cells scope.names []) pm c' ctv)) → H1 c' = some (CodeO c' (X.env.qual ++ "<lambda>")) → Q (.ref f) s') :
    wpAny (model X.prog X.w) X.A (eval (.Lambda params body scope pos) X.env) Q E s := by
  obtain ⟨ps, tP, tOk, tAll⟩ := tabs _ inT
  have bP : s.heap.BuiltinsAt X.mg P := TB.bm.keeps I.bk
  have gP : s.heap.get? P = some { cls := .none, data := .fields ps } := I.hok P _ tP
  refine PySem.W.kla_eval nodef ?_
  cases among : codeAmong pos ps.toList with
  | some cv =>
    obtain ⟨c', rfl, known⟩ := tAll pos cv among
    refine PySem.W.kla_makeFunctionHit (mg := X.mg) (c := c) (P := P) (ps := ps) (closure_ok free) I.ok.glob (I.mod.glob.keeps I.bk) hcode (TB.code.keeps I.bk) gP tOk among bP fun ctv h' tk kept bigger => ?_
    have J : Inv X pins σ H { s with heap := h', toks := tk } := I.kept kept
    have n := J.hok.fresh (Nat.le_refl h'.objs.size)
    exact h _ c' _ ctv _ _ (pin_lay rfl J) (ExtN.of (new_same n)) (tabs.ext (new_same n)) n upd_same (new_same n _ _ known)
  | none =>
    refine PySem.W.kla_makeFunction (mg := X.mg) (c := c) (P := P) (ps := ps) (closure_ok free) I.ok.glob (I.mod.glob.keeps I.bk) hcode (TB.code.keeps I.bk) gP tOk among TB.gP bP fun c' ctv h' tk but ge lt rc tab => ?_
    obtain ⟨c2, oc, vs, tq, ec, g1, g2, g3⟩ := rc
    cases ec
    have J := inv_table (q := X.env.qual ++ "<lambda>") (t' := tk) (more := #[rawInt pos.line, rawInt pos.col, .ref c']) (h' := h') I tP (fun b o nb g => but b o nb g) tab ge ⟨oc, vs, tq, g1, g2, g3⟩
    have nc : H c' = none := I.hok.fresh ge
    have n := J.hok.fresh (Nat.le_refl h'.objs.size)
    have nH : H h'.objs.size = none := I.hok.fresh (Nat.le_trans ge (Nat.le_of_lt lt))
    have E1 : ExtN H (upd (upd H P (.tbl (ps ++ #[rawInt pos.line, rawInt pos.col, .ref c']))) c' (CodeO c' (X.env.qual ++ "<lambda>"))) := fun b u g no => by
      have nP : b ≠ P := fun z => no ps (Option.some.inj (g.symm.trans (z ▸ tP)))
      rw [upd_ne (ne_of_none g nc), upd_ne nP]
      exact g
    have T1 : Tabs T (upd (upd H P (.tbl (ps ++ #[rawInt pos.line, rawInt pos.col, .ref c']))) c' (CodeO c' (X.env.qual ++ "<lambda>"))) := fun p hp => by
      by_cases eP : p.1 = P
      · rw [one p hp eP, eP]
        refine ⟨ps ++ #[rawInt pos.line, rawInt pos.col, .ref c'], by rw [upd_ne (ne_of_none tP nc), upd_same], ?_, fun pos' cv hcv => ?_⟩
        · rw [Array.toList_append]
          exact PySem.TriplesOk_snoc _ _ _ _ tOk
        · rw [Array.toList_append] at hcv
          rcases among_app _ tOk hcv with z | z
          · obtain ⟨d, ed, kd⟩ := tAll pos' cv z
            exact ⟨d, ed, E1 _ _ kd codeO_ne⟩
          · exact ⟨c', z, upd_same⟩
      · obtain ⟨qs, b1, b2, b3⟩ := tabs p hp
        refine ⟨qs, by rw [upd_ne (ne_of_none b1 nc), upd_ne eP]; exact b1, b2, fun pos' cv hcv => ?_⟩
        obtain ⟨d, ed, kd⟩ := b3 pos' cv hcv
        exact ⟨d, ed, E1 _ _ kd codeO_ne⟩
    refine h _ c' _ ctv _ _ (pin_lay rfl J) (fun b u g no => new_same n _ _ (E1 b u g no)) (T1.ext (new_same n)) nH upd_same (new_same n _ _ upd_same)
end

/-- a def's object -/
def FnObj (o : Obj) : Prop := ∃ (oc : Value) (od : Option Addr) (fd : FuncData) (osl : Array (Option Value)), o = ⟨oc, od, .func fd, osl⟩
/-- the expression lambda: body -/
def tLam3 (X : Cx) (T : List (Addr × Str)) (k : Nat) (t : XK → TE) : TE := fun σ H Q => Tabs T H ∧ ∀ (f : Addr) (fo : Obj) (c' : Addr) (H1 : Hp), ExtN H H1 → Tabs T H1 → H f = none → H1 f = some (Pin f fo) → H1 c' = some (CodeO c' (X.env.qual ++ "<lambda>")) →
  FnObj fo → (∀ C, CellsAt X.env X.N σ C → Act X.prog X.w X.K X.mg X.base (k + 1) f (tlX f c' fo (X.env.qual ++ "<lambda>") C σ t)) → Q (.ref f) H1
/-- a call of v, without arguments, from here -/
def Does (P : Program) (w : World) (K : PySem.W.Frag) (mg : Str → Option Value) (base : Heap) (k : Nat) (v : V) (H : Hp) (Q : VK) (E : XK) : Prop :=
  ∃ (f : Addr) (fo : Obj) (tl : Hp → VK → XK → Prop), v = .ref f ∧ FnObj fo ∧ H f = some (Pin f fo) ∧ Act P w K mg base k f tl ∧ tl H Q E
theorem Does.mono {P : Program} {w : World} {K : PySem.W.Frag} {mg : Str → Option Value} {base : Heap} {j k : Nat} {v : V} {H : Hp} {Q : VK} {E : XK} (d : Does P w K mg base j v H Q E) (h : j ≤ k) : Does P w K mg base k v H Q E := by
  obtain ⟨f, fo, tl, e, n, p, a, t⟩ := d
  exact ⟨f, fo, tl, e, n, p, a.mono h, t⟩
/-- x(), x the slot i -/
def tAct (P : Program) (w : World) (K : PySem.W.Frag) (mg : Str → Option Value) (base : Heap) (i k : Nat) (E : L2.St → XK) : TE := fun σ H Q => ∃ v, σ[i]? = some (some v) ∧ Does P w K mg base k v H Q (E σ)
/-- a def's call, the caller's cells known while it runs -/
def tCallT (X : Cx) (sp : Sp) (t : TA) : TE := fun σ H Q => t σ H fun vs H1 => ∀ C, CellsAt X.env X.N σ C → (∀ c o, C c = some o → H1 c = none) →
  sp vs (plus C H1) (fun v H' => (∀ c o, C c = some o → H' c = some (Pin c o)) ∧ Q v (minus C H')) C8.E0
section
variable {X : Cx}
theorem pe_lam {T : List (Addr × Str)} {c P : Addr} {k : Nat} {params : Arguments} {body : Expr} {scope : Scope} {t : XK → TE} {pos : Pos} (TB : TabB X.base X.mg c P) (hcode : X.env.code = .ref c)
    (inT : (P, X.env.qual ++ "<lambda>") ∈ T) (one : ∀ p ∈ T, p.1 = P → p.2 = X.env.qual ++ "<lambda>") (L : LamS X.env.scope scope) (nodef : defaultsOf params X.env = ([], []))
    (hbind : ∀ (q : Str) (cl : List (Str × Addr)) (pm cv ctv : Value), bindArgs (PySem.W.kla_fn "<lambda>" q params body scope cl pm cv ctv) ⟨[], []⟩ = pure [])
    (hbody : ∀ (A : Around) (outer : List Env) (s : Shared) (H : Hp) (E : XK) (f c' : Addr), Room k (A.deeper (lamEnv X scope s.heap.objs.size f c')) → PE (lamCx X A outer s H E scope f c') body (t E)) :
    PE X (.Lambda params body scope pos) (tLam3 X T k t) := by
  refine ⟨fun pins s σ H Q I h => ?_⟩
  obtain ⟨tabs, h⟩ := h
  refine lam_make3 I TB hcode inT one tabs nodef (L.has I.ok) fun f c' pm ctv H1 s1 I1 x1 t1 n1 k1 k2 => ?_
  exact ⟨.ref f, H1, I1, rfl, h f _ c' H1 x1 t1 n1 k1 k2 ⟨_, _, _, _, rfl⟩ fun C KC => act_ok I1.ok I1.len L KC (hbind _ _ _ _ _) fun A outer s H E r => hbody A outer s H E f c' r⟩
theorem pe_act3 {i k : Nat} {a : Str} {E : L2.St → XK} {p1 p2 : Pos} (hr : Room k X.A) (hx : ∀ σ, PassesAt (L2.CX X.prog X.w) X σ (E σ)) (hN : X.N[i]? = some a) (hv : Vis X.env.scope a)
    (hd : (a == ("__debug__" : Str)) = false := by decide) (hcd : (a == ("__classdict__" : Str)) = false := by decide) : PE X (.Call (.Name a p1) [] [] p2) (tAct X.prog X.w X.K X.mg X.base i k E) := by
  refine ⟨fun pins s σ H Q I h => ?_⟩
  obtain ⟨w, hs, f, fo, tl, ew, ⟨oc, od, fd, osl, efo⟩, hf, act, ht⟩ := h
  subst ew
  refine wpAny_Call_Name_kw (thn ((pe_var (pos := p1) (i := i) hN hv hd hcd).run pins s σ H (fun v H1 => v = .ref f ∧ H1 = H) I ⟨.ref f, hs, rfl, rfl⟩) fun u s1 hu => ?_)
  obtain ⟨v, H1, I1, rv, ev, eH⟩ := hu
  subst ev
  rw [eH] at I1
  obtain rfl : u = Value.ref f := rv
  have gf := pin_get I1.hok hf
  refine PySem.W.callWith_F0 ⟨oc, od, fd, osl, by rw [gf, efo]⟩ ?_
  refine wpAny_call (codeAny_mono (act X.A X.stack s1 H Q (E σ) hr I1.env0 ht) fun r s2 hq => ?_)
  cases r with
  | error e => exact hx σ pins H s1 e s2 I1 hq
  | ok fl =>
    cases fl with
    | ret u => exact I1.after hq
    | next => exact False.elim hq
    | brk => exact False.elim hq
    | cont => exact False.elim hq
/-- f(..), the caller's cells known while it runs -/
theorem pe_callT {k : Nat} {f : Addr} {fd : FuncData} {ps : List Str} {sp : Sp} {x : Str} {p pos : Pos} {e : Expr} {es : List Expr} {t : TA} (F : FnOk X.prog X.w X.K X.mg X.base C8.CX0 k f fd ps sp) (hr : Room k X.A) (hg : Gl X x) (hm : X.mg x = some (.ref f)) (hk : PySem.W.keepIn X.K (.ref f) = true)
    (hb : Binds X.K fd ps []) (hfn : ∀ x, X.fn x = true) (ha : PA X (e :: es) t) (hdb : (x == ("__debug__" : Str)) = false := by decide) (he : starEach (e :: es) X.env = (false, eval e X.env) :: starEach es X.env := by rfl)
    (hpl : (backTo pos (starEach es X.env)).any (·.1) = false := by rfl) : PE X (.Call (.Name x p) (e :: es) [] pos) (tCallT X sp t) := by
  refine ⟨fun pins s σ H Q I h => ?_⟩
  refine wpAny_Call_Name_kw (ld_glob I hg hm ?_ hdb)
  refine PySem.W.callWith_K (h₀ := X.base) I.ok.mod.kin hk (thn (ha.run pos pins s σ H _ I h) fun us s1 ⟨vs, H1, I1, r, q⟩ => ⟨I1.kIn, ?_⟩) he hpl
  obtain ⟨C, KC, hC⟩ := cells_of I1
  have q := q C KC fun c o e => (hC c o e).2.1
  have LS : Less C H1 (plus C H1) s1.heap := less_plus fun c o e => ⟨(hC c o e).2.1, (hC c o e).1⟩
  have big : ∀ c o, C c = some o → X.s_0.heap.objs.size ≤ c := fun c o e => by
    obtain ⟨y, ey⟩ := (hC c o e).2.2
    exact I1.ok.cab y c (hfn y) ey
  have none_of : ∀ b, b < X.s_0.heap.objs.size → C b = none := fun b lt => by
    cases z : C b with
    | none => rfl
    | some o => exact absurd (Nat.lt_of_lt_of_le lt (big b o z)) (Nat.lt_irrefl _)
  have e0 := I1.env0
  have e1 : Env0 X.prog X.w X.K X.mg X.base X.A X.stack s1 (plus C H1) := ⟨e0.frames, e0.mod, fun b o g => ⟨(e0.bs b o g).1, by
      rw [plus_out (none_of b (Nat.lt_of_lt_of_le (Heap.lt_size g) I1.ok.bsz))]
      exact (e0.bs b o g).2⟩, e0.bsz, e0.funs, fun b hb => by
      have nb : C b = none := by
        rcases List.mem_cons.mp (I1.stkSub b hb) with z | z
        · rw [z]
          cases w : C X.env.locals with
          | none => rfl
          | some o =>
            obtain ⟨y, ey⟩ := (hC _ o w).2.2
            exact absurd rfl (I1.cne y _ ey)
        · obtain ⟨_, o, ho, _⟩ := I1.ok.funs.mem z
          exact none_of b (Heap.lt_size ho)
      rw [plus_out nb]
      exact e0.frf b hb, LS.hok e0.hok, e0.bare⟩
  have hl : us.length = ps.length := by rw [← r.length]; exact F.len _ _ _ _ q
  have b := hb s1 us I1.kIn (by rw [List.append_nil]; exact hl)
  rw [List.append_nil] at b
  refine wpAny_call (codeAny_mono (F.run X.A X.stack s1 (plus C H1) ⟨us, []⟩ us vs _ C8.E0 hr e1 b r q) fun rr s2 hq => ?_)
  cases rr with
  | error e => exact (show False from hq).elim
  | ok fl =>
    cases fl with
    | ret u => exact I1.after (ce_minus LS hq)
    | next => exact False.elim hq
    | brk => exact False.elim hq
    | cont => exact False.elim hq
end
end Clo

set_option Elab.async false
set_option linter.all false
set_option maxRecDepth 100000
/-! several except clauses, each with a name (the same one) -/
namespace Clo
open PySem PySem.Spec PyProof.Rows L2 LamX
/-- the ends of a suite behind which its name is gone -/
def goneD (i : Nat) (D : Ends) : Ends where
  nx := fun τ G => D.nx (τ.set i none) G
  rt := D.rt
  bk := fun τ G => D.bk (τ.set i none) G
  ct := fun τ G => D.ct (τ.set i none) G
/-- what the clauses wish, one behind the other; the caught one stands in slot i -/
def wNam (K : PySem.W.Frag) (i : Nat) (Wout : WX) (D : Ends) : List (Value × (Addr → Value → Option Addr → TS)) → WX
  | [] => Wout
  | (k, ts) :: more => fun cls d τ G => ∃ b, PySem.W.exmOne K cls k = some b ∧ (b = true → ∀ a, G a = none → ts a cls d (goneD i D) (τ.set i (some (.ref a))) G) ∧ (b = false → wNam K i Wout D more cls d τ G)
inductive HdsN (X : Cx) (n : Str) : List ExceptHandler → List (Value × (Addr → Value → Option Addr → TS)) → Prop
  | nil : HdsN X n [] []
  | cons {x : Str} {k : Value} {ts : Addr → Value → Option Addr → TS} {st : Stmt} {sts : List Stmt} {p1 p2 : Pos} {more : List ExceptHandler} {l : List (Value × (Addr → Value → Option Addr → TS))} (nm : Names X x k)
      (su : ∀ (a : Addr) (oe : Obj) (cls : Value) (d : Option Addr) (pn : List (Addr × Obj)), Zc cls d oe → (∃ vs, oe.data = .fields vs) → PSs (X.suite a ((a, oe) :: pn)) (st :: sts) (ts a cls d)) (r : HdsN X n more l) :
      HdsN X n (.ExceptHandler (some (.Name x p1)) (some n) (st :: sts) p2 :: more) ((k, ts) :: l)
section
variable {X : Cx} {body : List Stmt} {h₀ : ExceptHandler} {hds : List ExceptHandler} {l : List (Value × (Addr → Value → Option Addr → TS))} {pos : Pos} {tb : WX → TS} {Wout : WX} {n : Str} {i : Nat}
theorem ps_try_nam (st : X.stack = X.env :: X.outer) (fr : X.env.frame = some X.env.locals) (nd : X.N.Nodup) (at_ : X.N[i]? = some n) (lc : X.env.kindOf n = some .local) (tk : Takes X Wout)
    (hb : ∀ (W : WX) (pn : List (Addr × Obj)) (xe : Value → Shared → Prop), Takes (X.tr pn xe) W → PassesOwn (model X.prog X.w) X.A X.env xe → PSs (X.tr pn xe) body (tb W)) (hh : HdsN X n (h₀ :: hds) l) :
    PS X (.Try body (h₀ :: hds) [] [] pos) (fun D τ G => tb (wNam X.K i Wout D l) D τ G) := by
  refine ⟨fun pins s τ G D I hyp => ?_⟩
  have ok := I.ok
  have frames : X.A.frames = some (X.env :: X.outer) := by
    rw [ok.frames, st]
  refine wpAny_Try_except (wpAny_mono ((hb (wNam X.K i Wout D l) (X.pn ++ pins)
    (fun e s₁ => wpAny (model X.prog X.w) X.A (noteFrame e X.env) (fun _ s₂ => wpAny (model X.prog X.w) X.A (setFlight e none)
      (fun _ s₃ => wpAny (model X.prog X.w) X.A (handleBy e X.env (h₀ :: hds)) (SP X pins D) X.xe s₃) X.xe s₂) X.xe s₁)
    (fun u s' air => ?_) PassesOwn.looking).run [] s τ G D (I.toTry _) hyp) (fun f s1 z => ?_) (fun e s1 z => z))
  · obtain ⟨a, B, sI, pins', τ', G', cls, d, rfl, J', below, up, sky, new, os, bare, wish⟩ := air
    have J : Inv X pins τ' G' sI := J'.ofTry ok
    have sky1 : Sky B (X.env :: X.outer) a (Zc cls d) X.env.locals s'.heap := by
      rw [← st]
      exact sky
    show wpAny (model X.prog X.w) X.A (noteFrame (.ref a) X.env) _ _ _
    refine Sky.land Zc.steady frames fr sky1 fun h3 fly up3 => ?_
    have J3 : Inv X pins τ' G' { s' with heap := h3 } := J.landed below fly.1 (up.trans up3) os bare
    obtain ⟨oe, vs, ge, ze, de⟩ := fly.there
    have noFrame : a ∉ frs (X.env :: X.outer) := fun m => by
      obtain ⟨_, o', g', other⟩ := fly.2.2.1.mem m
      rw [ge] at g'
      cases g'
      exact other _ de
    have noLoc : a ≠ X.env.locals := fun z => noFrame (List.mem_filterMap.mpr ⟨X.env, List.mem_cons_self, by rw [fr, z]⟩)
    have noOut : a ∉ X.fs := fun m => by
      obtain ⟨e, me, q⟩ := List.mem_filterMap.mp m
      exact noFrame (List.mem_filterMap.mpr ⟨e, List.mem_cons_of_mem _ me, q⟩)
    have S3 := J3.suite ge de new noLoc noOut
    have go : ∀ {hs : List ExceptHandler} {ll : List (Value × (Addr → Value → Option Addr → TS))}, HdsN X n hs ll → wNam X.K i Wout D ll cls d τ' G' → wpAny (model X.prog X.w) X.A (handleBy (.ref a) X.env hs) (SP X pins D) X.xe { s' with heap := h3 } := by
      intro hs ll hk
      induction hk with
      | nil =>
        intro wish
        refine wpAny_handleBy_nil ?_
        obtain ⟨_, _, _, oe', vs', T, oT, tt, ge', _, de', g1, _⟩ := id fly
        have out : wpAny (model X.prog X.w) X.A (setFlight (.ref a) X.env.frame) (fun _ s4 => wpAny (model X.prog X.w) X.A (throw (.ref a) : Sem Flow) (SP X pins D) X.xe s4) X.xe { s' with heap := h3 } := by
          rw [fr]
          exact HandSPX.setFlight_upZ fly fun h4 hh4 up4 => wpAny_throw (tk _ _ ⟨a, B, sI, pins, τ', G', cls, d, rfl, J, below, (up.trans up3).trans up4, .inr (.inr (by rw [st]; exact hh4)), new, os, bare, wish⟩)
        unfold PySem.passOn
        refine wpAny_bind (wpAny_field ge' de' g1 ?_)
        rw [if_neg (show ¬ (Value.ref T == Value.none) = true from by simp)]
        first
          | exact wpAny_bind (wpAny_pure (wpAny_bind out))
          | exact wpAny_bind out
      | @cons x k ts st0 sts p1 p2 more ll nm su r ih =>
        intro wish
        obtain ⟨b, decided, yes, no⟩ := wish
        refine wpAny_handleBy_cons (codeAny_handlers_test ?_) (by intro q; cases q)
        have tyOf : PySem.W.Looks (model X.prog X.w) h3 (typeOf (.ref a)) cls := fun A Q E s k q => wpAny_typeOf_ref (k _ _ ge) (by rw [ze.1]; exact q)
        have named : ∀ {Q : Value → Shared → Prop} {E : Value → Shared → Prop}, Q k { s' with heap := h3 } → wpAny (model X.prog X.w) (X.A.mark (some (.ref a))) (eval (.Name x p1) X.env) Q E { s' with heap := h3 } := fun {Q E} q => by
          obtain ⟨g, dbg, m | ⟨m, v, nn⟩⟩ := nm
          · exact ld_glob (X := X.suite a ((a, oe) :: (X.pn ++ pins))) S3 g m q dbg
          · exact ld_blt (X := X.suite a ((a, oe) :: (X.pn ++ pins))) S3 g m v q nn dbg
        refine named ((PySem.W.exm_one (M := model X.prog X.w) (J3.kIn) tyOf decided).here ?_)
        cases b with
        | false =>
          show wpAny _ X.A (handleBy (.ref a) X.env more) _ _ _
          exact ih (no rfl)
        | true =>
          refine codeAny_handlers_suite_as (HandSPX.lands_againZ fly fun h4 fly4 up4 => ?_)
          have J4 : Inv X pins τ' G' { s' with heap := h4 } := J.landed below fly4.1 ((up.trans up3).trans up4) os bare
          obtain ⟨oe4, vs4, ge4, ze4, de4⟩ := fly4.there
          refine store_ok (X := X.suite a ((a, oe4) :: (X.pn ++ pins))) (v := .ref a) (J4.suite ge4 de4 new noLoc noOut) nd at_ (.inl lc) rfl (fun s5 S5 => ?_) (.inr lc)
          refine wpAny_mono ((su a oe4 cls d (X.pn ++ pins) ze4 ⟨_, de4⟩).run [] s5 _ G' _ S5 (yes rfl a new)) (fun f s6 z => ?_) (fun _ _ z => z.elim)
          have away : ∀ {τ6 : L2.St} {G6 : Hp} {Q : Shared → Prop}, Inv (X.suite a ((a, oe4) :: (X.pn ++ pins))) [] τ6 G6 s6 → (∀ s7, Inv X pins (τ6.set i none) G6 s7 → Q s7) →
              wpAny (model X.prog X.w) X.A (do bindName X.env n .none; unbindBehindTheSuite X.env n p2) (fun _ s7 => Q s7) X.xe s6 := fun S6 hq => gone_ok (S6.unsuite ok) nd at_ lc hq
          cases f with
          | next =>
            obtain ⟨τ6, G6, S6, q6⟩ := z
            exact away S6 fun s7 J7 => ⟨_, _, J7, q6⟩
          | brk =>
            obtain ⟨τ6, G6, S6, q6⟩ := z
            exact away S6 fun s7 J7 => ⟨_, _, J7, q6⟩
          | cont =>
            obtain ⟨τ6, G6, S6, q6⟩ := z
            exact away S6 fun s7 J7 => ⟨_, _, J7, q6⟩
          | ret u =>
            obtain ⟨v6, τ6, G6, S6, r6, q6⟩ := z
            exact away S6 fun s7 J7 => ⟨_, _, _, J7, r6, q6⟩
    exact go hh wish
  · cases f with
    | next =>
      obtain ⟨τ', G', J', q⟩ := z
      exact wpAny_execs_nil ⟨τ', G', J'.ofTry ok, q⟩
    | brk =>
      obtain ⟨τ', G', J', q⟩ := z
      exact ⟨τ', G', J'.ofTry ok, q⟩
    | cont =>
      obtain ⟨τ', G', J', q⟩ := z
      exact ⟨τ', G', J'.ofTry ok, q⟩
    | ret u =>
      obtain ⟨v, τ', G', J', r, q⟩ := z
      exact ⟨v, τ', G', J'.ofTry ok, r, q⟩
end
end Clo

set_option Elab.async false
set_option linter.all false
set_option maxRecDepth 100000
namespace My
open PySem L2
/-! ### own errors with one field -/
def meth (i j : Nat) : Stmt := (C8.clsBody (top i)).getD j (.Pass ⟨0, 0, 0, 0⟩)
def spInit (K : PySem.W.Frag) (C : Addr) (fld : Str) : Sp := fun vs H Q _ => ∃ (a : Addr) (v : V), vs = [.ref a, v] ∧ H a = some (exo a C none) ∧ OexC K C ∧ PySem.W.findIn K (.ref C) fld = some none ∧
  ∀ dx, H dx = none → dx ≠ a → Q .non (upd (upd H dx (exd dx [(fld, v)])) a (exo a C (some dx)))
structure OneE (P : Program) (w : World) (K : PySem.W.Frag) (mg : Str → Option Value) (base : Heap) (x fld : Str) (C : Addr) where
  oex : OexC K C
  xf : XfC K C
  no : PySem.W.findIn K (.ref C) fld = some none
  g : mg x = some (.ref C)
  fI : Addr
  fd : FuncData
  iC : PySem.W.findIn K (.ref C) "__init__" = some (some (.ref fI))
  tI : PySem.W.typeIn K (.ref fI) = some (.type "function")
  b : Binds K fd ["self", fld] []
  F : FnOk P w K mg base CX0 1 fI fd ["self", fld] (spInit K C fld)
section
variable {P : Program} {w : World} {K : PySem.W.Frag} {mg : Str → Option Value} {base : Heap} {f : Addr} {fd : FuncData}
theorem sc_i2 : FnScope ["self", "value"] ["self", "value"] (defScope (meth 2 0)) := ⟨rfl, rfl, rfl, by decide +kernel, rfl, by decide +kernel, by decide +kernel⟩
theorem ok_i2 (C : Addr) (F : Fun K "__init__" "BadValue.__init__" (meth 2 0) f fd) : FnOk P w K mg base CX0 1 f fd ["self", "value"] (spInit K C "value") := by
  refine F.ok sc_i2 (fun vs H Q E h => ?_) (fun cdv A outer s H vs Q E hr h => ?_)
  · obtain ⟨a, v, rfl, _⟩ := h
    rfl
  obtain ⟨a, v, rfl, ea, T, no, q⟩ := h
  refine ⟨_, pss_one (ps_ost (pv 0) (pv 1)), ?_⟩
  exact ⟨v, rfl, _, rfl, a, C, rfl, T, no, .inl ⟨ea, fun dx n ne => q dx n ne⟩⟩
end
section
variable {X : Cx} {x fld : Str} {C : Addr}
theorem exo_exd_ne {e C' : Addr} {d : Option Addr} : True := trivial
/-- C(v): the error's dict d is new, all else is as it was -/
theorem mk_one {K : PySem.W.Frag} {H1 : Hp} {v : V} {Q : XK} (T : OexC K C) (no : PySem.W.findIn K (.ref C) fld = some none) (q : ∀ d, H1 d = none → Q (.ref C) (some d) (upd H1 d (.xd [(fld, v)]))) :
    [v].length ≤ 1000 ∧ ∀ a, H1 a = none → spInit K C fld (.ref a :: ([v] ++ [])) (upd H1 a (exo a C none))
      (fun r H2 => r = .non ∧ ∃ (d : Addr) (fs : List (Str × V)), H2 a = some (exo a C (some d)) ∧ H2 d = some (exd d fs) ∧ H1 d = none ∧ Q (.ref C) (some d) (upd (L2.del H2 a) d (.xd fs))) (fun _ _ _ => False) := by
  refine ⟨by show 1 ≤ 1000; decide, fun a na => ⟨a, v, rfl, upd_same, T, no, fun dx nx ne => ⟨rfl, dx, [(fld, v)], upd_same, by rw [upd_ne ne, upd_same], by rw [upd_ne ne] at nx; exact nx, ?_⟩⟩⟩
  have n1 : H1 dx = none := by
    rw [upd_ne ne] at nx
    exact nx
  have e : upd (L2.del (upd (upd (upd H1 a (exo a C none)) dx (exd dx [(fld, v)])) a (exo a C (some dx))) a) dx (.xd [(fld, v)]) = upd H1 dx (.xd [(fld, v)]) := by
    funext b
    by_cases h1 : b = dx
    · rw [h1, upd_same, upd_same]
    · rw [upd_ne h1, upd_ne h1]
      by_cases h2 : b = a
      · rw [h2, L2.del_same, na]
      · rw [L2.del_ne h2, upd_ne h2, upd_ne h1, upd_ne h2]
  rw [e]
  exact q dx n1
theorem pass00 {X : Cx} : Passes CX0 X (fun _ _ _ => False) := fun _ _ _ _ _ _ _ h => h.elim
/-- raise x(e) -/
theorem ps_raise1 {W : WX} {e : Expr} {te : TE} {p pos pos2 : Pos} {k : Nat} (O : OneE X.prog X.w X.K X.mg X.base x fld C) (hc : X.calm = true) (hr : Room (k + 2) X.A) (tk : Takes X W) (he : PE X e te) (hg : Gl X x := by rfl)
    (hdb : (x == ("__debug__" : Str)) = false := by decide) (h1 : starEach (e :: []) X.env = (false, eval e X.env) :: starEach [] X.env := by rfl) (h2 : (backTo pos (starEach [] X.env)).any (·.1) = false := by rfl) :
    PS X (.Raise (some (.Call (.Name x p) [e] [] pos)) none pos2) (fun _ σ H => tMkO C (spInit X.K C fld) [] (tCons te tNil) σ H fun cls d H' => W cls d σ H') :=
  ps_raise hc tk (pmk_oex O.oex O.iC O.tI O.F (hr.mono (by omega)) O.b .nil pass00 hg O.g (pa_cons he pa_nil h1) hdb h1 h2)
end

/-- as Does, whatever is wished beyond -/
def DoesM (P : Program) (w : World) (K : PySem.W.Frag) (mg : Str → Option Value) (base : Heap) (k : Nat) (v : V) (H : Hp) (Q : VK) (E : XK) : Prop :=
  ∃ (f : Addr) (fo : Obj) (tl : Hp → VK → XK → Prop), v = .ref f ∧ Clo.FnObj fo ∧ H f = some (Clo.Pin f fo) ∧ Clo.Act P w K mg base k f tl ∧
    ∀ (Q' : VK) (E' : XK), (∀ v H', Q v H' → Q' v H') → (∀ c d H', E c d H' → E' c d H') → tl H Q' E'
theorem DoesM.does {P : Program} {w : World} {K : PySem.W.Frag} {mg : Str → Option Value} {base : Heap} {j k : Nat} {v : V} {H : Hp} {Q Q' : VK} {E E' : XK} (d : DoesM P w K mg base j v H Q E) (le : j ≤ k) (h1 : ∀ v H', Q v H' → Q' v H') (h2 : ∀ c d H', E c d H' → E' c d H') :
    Clo.Does P w K mg base k v H Q' E' := by
  obtain ⟨f, fo, tl, e, n, p, a, t⟩ := d
  exact ⟨f, fo, tl, e, n, p, a.mono le, t Q' E' h1 h2⟩
theorem lookup1 (f : Str) (v : V) : List.lookup f [(f, v)] = some v := by simp [List.lookup]
theorem DoesM.imp {P : Program} {w : World} {K : PySem.W.Frag} {mg : Str → Option Value} {base : Heap} {k : Nat} {v : V} {H : Hp} {Q Q' : VK} {E E' : XK} (d : DoesM P w K mg base k v H Q E) (h1 : ∀ v H', Q v H' → Q' v H') (h2 : ∀ c d H', E c d H' → E' c d H') :
    DoesM P w K mg base k v H Q' E' := by
  obtain ⟨f, fo, tl, e, n, p, a, t⟩ := d
  exact ⟨f, fo, tl, e, n, p, a, fun Q2 E2 i1 i2 => t Q2 E2 (fun v H' q => i1 v H' (h1 v H' q)) fun c d H' q => i2 c d H' (h2 c d H' q)⟩
/-- the error that is caught -/
structure ErrB (K : PySem.W.Frag) (mg : Str → Option Value) where
  B : Addr
  gB : mg "BadValue" = some (.ref B)
  xB : XfC K B
  nB : PySem.W.findIn K (.ref B) "value" = some none
  BB : PySem.W.exmOne K (.ref B) (.ref B) = some true
/-- raises BadValue of what is told on in a list -/
def whyE {K : PySem.W.Frag} {mg : Str → Option Value} (T : ErrB K mg) (Q : VK) : XK := fun cls d H' => ∃ (dd : Addr) (x : V), cls = .ref T.B ∧ d = some dd ∧ H' dd = some (.xd [("value", x)]) ∧ ∀ l H2, Same H' H2 → H2 l = some (.lst [x]) → Q (.ref l) H2
def spWhy (P : Program) (w : World) (K : PySem.W.Frag) (mg : Str → Option Value) (base : Heap) (T : ErrB K mg) (k : Nat) : Sp := fun vs H Q _ => ∃ v, vs = [v] ∧ DoesM P w K mg base k v H (fun _ _ => False) (whyE T Q)
abbrev s_law_why : Stmt := top 47
abbrev N_law_why : List Str := ["_law_call", "e"]
abbrev P_law_why : List Str := ["_law_call"]
theorem sc_law_why : FnScope N_law_why P_law_why (defScope s_law_why) := ⟨rfl, rfl, rfl, by decide +kernel, rfl, by decide +kernel, by decide +kernel⟩
section
variable {P : Program} {w : World} {K : PySem.W.Frag} {mg : Str → Option Value} {base : Heap} {f : Addr} {fd : FuncData}
theorem ok_law_why {k : Nat} (T : ErrB K mg) (F : Fun K "_law_why" "_law_why" s_law_why f fd) : FnOk P w K mg base CX0 (k + 1) f fd P_law_why (spWhy P w K mg base T k) := by
  refine F.ok sc_law_why (fun vs H Q E h => ?_) (fun cdv A outer s H vs Q E hr h => ?_)
  · obtain ⟨v, rfl, h⟩ := h
    rfl
  obtain ⟨v, rfl, h⟩ := h
  refine ⟨_, (pss_cons (Clo.ps_try_nam (i := 1) (tb := fun W => tDrop (Clo.tAct P w K mg base 0 k (WE W))) rfl rfl sc_law_why.nd rfl rfl takes0 (fun W pn xe tk _ => pss_one (ps_expr (Clo.pe_act3 (i := 0) (E := WE W) hr (fun σ => passAt tk σ) rfl (Or.inl rfl))))
    (.cons ⟨rfl, by decide, .inl T.gB⟩ (fun a oe cls d pn hz hf => pss_one (ps_ret (pe_lstN (pa_cons (pe_xf T.xB T.nB hz hf (pv 1)) pa_nil))))
    .nil))
  (pss_one (ps_ret (pe_lstN pa_nil)))), ?_⟩
  refine ⟨v, rfl, h.does (Nat.le_refl k) (fun r H' q => q.elim) fun cls d H' ⟨dd, x, e1, e2, ed, q⟩ => ?_⟩
  subst e1
  subst e2
  exact ⟨true, T.BB, fun _ a ha => ⟨.ref a, rfl, rfl, rfl, dd, _, x, rfl, ed, lookup1 _ _, le1k, fun p H2 s2 e2 => q p H2 s2 e2⟩, fun z => nomatch z⟩
end
end My

set_option Elab.async false
set_option linter.all false
set_option maxRecDepth 100000
namespace My
open PySem L2 SX
abbrev Nvalue : List Str := ["value"]
abbrev scheck_form : Stmt := top 17
theorem sccheck_form : FnScope Nis_leaf Nis_leaf (defScope scheck_form) := ⟨rfl, rfl, rfl, by decide +kernel, rfl, by decide +kernel, by decide +kernel⟩
abbrev sis_kind : Stmt := top 29
theorem scis_kind : FnScope Nvalue Nvalue (defScope sis_kind) := ⟨rfl, rfl, rfl, by decide +kernel, rfl, by decide +kernel, by decide +kernel⟩
abbrev scheck_kind : Stmt := top 30
theorem sccheck_kind : FnScope Pkind Pkind (defScope scheck_kind) := ⟨rfl, rfl, rfl, by decide +kernel, rfl, by decide +kernel, by decide +kernel⟩
abbrev sform_of_kind : Stmt := top 31
theorem scform_of_kind : FnScope Pkind Pkind (defScope sform_of_kind) := ⟨rfl, rfl, rfl, by decide +kernel, rfl, by decide +kernel, by decide +kernel⟩
abbrev skind_of_form : Stmt := top 32
theorem sckind_of_form : FnScope Nis_leaf Nis_leaf (defScope skind_of_form) := ⟨rfl, rfl, rfl, by decide +kernel, rfl, by decide +kernel, by decide +kernel⟩
abbrev skind_taken : Stmt := top 33
theorem sckind_taken : FnScope Nis_leaf Nis_leaf (defScope skind_taken) := ⟨rfl, rfl, rfl, by decide +kernel, rfl, by decide +kernel, by decide +kernel⟩
abbrev sgoods_in : Stmt := top 34
theorem scgoods_in : FnScope Pkind Pkind (defScope sgoods_in) := ⟨rfl, rfl, rfl, by decide +kernel, rfl, by decide +kernel, by decide +kernel⟩
structure CalX (P : Program) (w : World) (K : PySem.W.Frag) (mg : Str → Option Value) (base : Heap) (x : Str) (k : Nat) (ps : List Str) (sp : Sp) where
  f : Addr
  fd : FuncData
  ok : FnOk P w K mg base (L2.CX P w) k f fd ps sp
  m : mg x = some (.ref f)
  kp : PySem.W.keepIn K (.ref f) = true
  b : Binds K fd ps []
def badE (C : Addr) (fld : Str) (v : V) (H : Hp) (E : XK) : Prop := ∀ (d : Addr) (H' : Hp), Same H H' → H' d = none → E (.ref C) (some d) (upd H' d (.xd [(fld, v)]))
def spKindF (K : PySem.W.Frag) (n : Nat) : Sp := fun vs H Q _ => ∃ (v : V) (k : Nat) (D : PyData), vs = [v, .int k] ∧ k < n ∧ Dp K H v D ∧ shortD D = true ∧ ∀ H', Same H H' → Q (.bl (isKind k D)) H'
def spIsKind (K : PySem.W.Frag) : Sp := fun vs H Q _ => ∃ (v : V) (D : PyData), vs = [v] ∧ Dp K H v D ∧ shortD D = true ∧ ∀ H', Same H H' → Q (.bl (isKind 12 D)) H'
/-- refused as `no` says: v with the data D -/
def Bad (K : PySem.W.Frag) (CB : Addr) (no : PyData → Bool) (v : V) (H : Hp) (E : XK) : Prop := ∃ D, Dp K H v D ∧ shortD D = true ∧ no D = false ∧ badE CB "value" v H E
def spCheck (K : PySem.W.Frag) (CB : Addr) (no : PyData → Bool) : Sp := fun vs H Q E => ∃ v, vs = [v] ∧ ((∃ D, Dp K H v D ∧ shortD D = true ∧ no D = true ∧ ∀ H', Same H H' → Q .non H') ∨ Bad K CB no v H E)
def spFormOf (K : PySem.W.Frag) (CB : Addr) : Sp := fun vs H Q E => ∃ v, vs = [v] ∧ ((∃ t, Fm Sg.kw K H t v ∧ t.Ok ∧ t.Kd ∧ t.dep ≤ 12 ∧ ∀ H' u, Same H H' → Fm Sg.fw K H' (fOf t) u → Q u H') ∨ Bad K CB (isKind 12) v H E)
def spKindOf (K : PySem.W.Frag) (CB : Addr) (c : Bool) : Sp := fun vs H Q E => ∃ v, vs = [v] ∧ ((∃ t, Fm Sg.fw K H t v ∧ t.Ok ∧ t.dep ≤ 12 ∧ ∀ H' u, Same H H' → Om Sg.kw K H' (kG c t) u → Q u H') ∨ Bad K CB (isForm 12) v H E)
def spGoodsIn (K : PySem.W.Frag) (CB : Addr) : Sp := fun vs H Q E => ∃ v, vs = [v] ∧ ((∃ t, Fm Sg.kw K H t v ∧ t.Ok ∧ t.Kd ∧ t.dep ≤ 12 ∧ t.lvs ≤ 50 ∧
  ∀ H' l ys, Same H H' → SqT K H' l (ys.map V.str) → PyProof.Rows.sortedS ys = true → ys.Nodup → (∀ x, x ∈ ys ↔ x ∈ t.names) → Q (.ref l) H') ∨ Bad K CB (isKind 12) v H E)
theorem okStr_fw (s : Sg) : okStr s.fw = true := okStr_half _ (fw_mem s)
theorem okStr_kw (s : Sg) : okStr s.kw = true := okStr_kind _ (kw_mem s)
structure TxtG (mg : Str → Option Value) : Prop where
  set : mg "set" = none
  sorted : mg "sorted" = none
section
variable {P : Program} {w : World} {K : PySem.W.Frag} {mg : Str → Option Value} {base : Heap} {f : Addr} {fd : FuncData} {CB : Addr}
theorem okfits_kind {n : Nat} (T : Txt K mg) (Y : TxtK K mg w) (F : Fun K "fits_kind" "fits_kind" sfits_kind f fd) (Cfits_name : Cal P w K mg base "fits_name" 2 ["value"] (spName K)) (Cfits_kind : Cal P w K mg base "fits_kind" (2 + n) ["value", "room"] (spKindF K n)) :
    FnOk P w K mg base CX0 (2 + n + 1) f fd Nfits_form (spKindF K (n + 1)) := by
  refine F.ok scfits_kind (fun vs H Q E h => ?_) (fun cdv A outer s H vs Q E hr h => ?_)
  · obtain ⟨v, k, D, rfl, _⟩ := h
    rfl
  obtain ⟨v, k, D, rfl, hk, hv, hz, q⟩ := h
  refine ⟨_, (pss_cons (ps_if (PW.pt (pw_or (pt_not (pt_val (pe_callB call_isi rfl T.isinstance (by decide +kernel) (pa_cons (pv 0) (pa_cons (pe_bltn (v := .ty "tuple") rfl T.tuple (by decide +kernel) rfl) pa_nil))))) (pw_or (pt_cmpR op_notIn_seq (pe_callB call_len rfl T.len (by decide +kernel) (pa_cons (pv 0) pa_nil)) (pe_tup (pa_cons pe_int (pa_cons pe_int pa_nil))) rfl) (pw_or1 (pt_not (pt_val (pe_callB call_isi rfl T.isinstance (by decide +kernel) (pa_cons (pe_ix ix_tup (pv 0) pe_int (fun _ _ => rfl)) (pa_cons (pe_bltn (v := .ty "str") rfl T.str (by decide +kernel) rfl) pa_nil)))))))))
    (pss_one (ps_ret pe_bl))
    pss_nil)
  (pss_cons (ps_if (pt_cmpR op_eq (pe_callB call_len rfl T.len (by decide +kernel) (pa_cons (pv 0) pa_nil)) pe_int (nomark _))
    (pss_one (ps_ret (pe_and (pe_cmpR op_eq (pe_ix ix_tup (pv 0) pe_int (fun _ _ => rfl)) pe_str (nomark _)) (pe_one (pe_callC Cfits_name hr (pa_cons (pe_ix ix_tup (pv 0) pe_int (fun _ _ => rfl)) pa_nil))))))
    pss_nil)
  (pss_cons (ps_if (PW.pt (pw_or (pt_cmpR op_notIn_seq (pe_ix ix_tup (pv 0) pe_int (fun _ _ => rfl)) (pe_globE Y.HALVED_KINDS) rfl) (pw_or1 (pt_cmpR op_eq (pv 1) pe_int (nomark _)))))
    (pss_one (ps_ret pe_bl))
    pss_nil)
  (pss_one (ps_ret (pe_and (pe_callC Cfits_kind hr (pa_cons (pe_ix ix_tup (pv 0) pe_int (fun _ _ => rfl)) (pa_cons (pe_op op_sub (pv 1) pe_int) pa_nil))) (pe_one (pe_callC Cfits_kind hr (pa_cons (pe_ix ix_tup (pv 0) pe_int (fun _ _ => rfl)) (pa_cons (pe_op op_sub (pv 1) pe_int) pa_nil)))))))))), ?_⟩
  refine ⟨_, rfl, _, _, _, _, _, rfl, .ty "tuple", tyx_of hv, kit_tuple D, _, rfl, ?_⟩
  by_cases hs : isTupD D = true
  · cases D with
    | tuple ds =>
      cases hv with
      | @tup a xs _ hT hA =>
      have hl := dpAll_len hA
      refine iteF ⟨_, rfl, _, _, rfl, .inr ⟨xs, hT, rfl⟩, by show 2 ≤ sizeLine; decide, fun p np => ?_⟩
      have S1 : Same H (upd H p (.tup [.int 2, .int 3])) := same_new np _
      refine ⟨p, _, rfl, .inr (SqT.of upd_same), rfl, rfl, _, rfl, ?_⟩
      show (if (!inV (.int (xs.length : Nat)) [.int 2, .int 3]) = true then _ else _)
      rw [inV_23]
      match ds, xs, hA, hl with
      | [], [], hA, _ =>
        rw [isKind_len _ _ (by simp) (by simp)] at q
        exact iteT (iteT (q _ S1))
      | [d], [x], hA, _ =>
        rw [isKind_len _ _ (by simp) (by simp)] at q
        exact iteT (iteT (q _ S1))
      | [d, e], [x, y], hA, _ =>
        cases hA with | cons hx hA => cases hA with | cons hy _ =>
        have hzx := shortAll_cons (show shortAll [d, e] = true from by unfold shortD at hz; exact hz)
        have hzy := (shortAll_cons hzx.2).1
        refine ⟨_, rfl, a, _, _, x, rfl, rfl, seqT_same S1 hT, rfl, _, _, _, _, _, rfl, .ty "str", tyx_of (dp_same S1 _ _ hx), kit_str d, _, rfl, ?_⟩
        rw [isKind_2] at q
        by_cases hd : isStrD d = true
        · cases d with
          | str z =>
            cases hx
            refine iteF ⟨_, rfl, _, _, rfl, .inr ⟨_, seqT_same S1 hT, rfl⟩, rfl, _, rfl, ?_⟩
            refine iteT ⟨_, rfl, a, _, _, _, rfl, rfl, seqT_same S1 hT, rfl, rfl, _, rfl, ?_⟩
            by_cases hm : z = Str.ofString "good"
            · subst hm
              refine ite2 (fun c => ?_) (fun c => absurd (decide_eq_true rfl) c)
              refine ⟨_, rfl, a, _, _, y, rfl, rfl, seqT_same S1 hT, rfl, y, rfl, .inl ⟨e, dp_same S1 _ _ hy, short_str hzy, fun H' S2 => ?_⟩⟩
              have g := q H' (S1.trans S2)
              simp only [decide_true, Bool.true_and] at g
              exact g
            · refine ite2 (fun c => absurd (V.str.inj (of_decide_eq_true c)) hm) (fun c => ?_)
              have g := q _ S1
              simp only [decide_eq_false hm, Bool.false_and] at g
              exact g
          | _ => cases hd
        · rw [Bool.not_eq_true] at hd
          rw [hd]
          have g := q _ S1
          have g2 : Q (.bl false) (upd H p (.tup [.int 2, .int 3])) := by
            cases d <;> first | exact g | cases hd
          exact g2
      | [d, e, g], [x, y, z], hA, _ =>
        cases hA with | cons hx hA => cases hA with | cons hy hA => cases hA with | cons hw _ =>
        have hzx := shortAll_cons (show shortAll [d, e, g] = true from by unfold shortD at hz; exact hz)
        have hzy := shortAll_cons hzx.2
        have hzw := (shortAll_cons hzy.2).1
        refine ⟨_, rfl, a, _, _, x, rfl, rfl, seqT_same S1 hT, rfl, _, _, _, _, _, rfl, .ty "str", tyx_of (dp_same S1 _ _ hx), kit_str d, _, rfl, ?_⟩
        by_cases hd : isStrD d = true
        · cases d with
          | str t =>
            cases hx
            refine iteF ⟨_, rfl, _, _, rfl, .inr ⟨_, seqT_same S1 hT, rfl⟩, rfl, _, rfl, ?_⟩
            refine iteF ⟨_, rfl, a, _, _, _, rfl, rfl, seqT_same S1 hT, rfl, Y.aHK, _, rfl, .inr (Y.sHK _), rfl, rfl, _, rfl, ?_⟩
            show (if (!inV (.str t) (kindW.map V.str)) = true then _ else _)
            rw [inV_str]
            cases k with
            | zero =>
              rw [isKind_3z] at q
              by_cases hm : t ∈ kindW
              · rw [decide_eq_true hm]
                exact iteF ⟨_, rfl, rfl, _, rfl, iteT (q _ S1)⟩
              · rw [decide_eq_false hm]
                exact iteT (iteT (q _ S1))
            | succ k =>
              rw [isKind_3] at q
              by_cases hm : t ∈ kindW
              · rw [decide_eq_true hm]
                refine iteF ⟨_, rfl, rfl, _, rfl, ?_⟩
                have ek : ¬ V.int ((k + 1 : Nat) : Int) = V.int 0 := fun z => by
                  have := V.int.inj z
                  omega
                rw [decide_eq_false ek]
                have e1 : ((k + 1 : Nat) : Int) - 1 = (k : Int) := by omega
                refine iteF ⟨_, rfl, a, _, _, y, rfl, rfl, seqT_same S1 hT, rfl, _, rfl, _, _, rfl, rfl, ?_⟩
                refine ⟨y, k, e, congrArg (fun i => [y, V.int i]) e1, by omega, dp_same S1 _ _ hy, hzy.1, fun H2 S2 => ?_⟩
                have S3 := S1.trans S2
                refine ⟨_, rfl, ?_⟩
                by_cases hb : isKind k e = true
                · rw [hb]
                  refine iteT ⟨_, rfl, a, _, _, z, rfl, rfl, seqT_same S3 hT, rfl, _, rfl, _, _, rfl, rfl, ?_⟩
                  refine ⟨z, k, g, congrArg (fun i => [z, V.int i]) e1, by omega, dp_same S3 _ _ hw, hzw, fun H4 S4 => ?_⟩
                  have g := q H4 (S3.trans S4)
                  simp only [decide_eq_true hm, Bool.true_and, hb] at g
                  exact g
                · rw [Bool.not_eq_true] at hb
                  rw [hb]
                  have g := q H2 S3
                  simp only [hb, Bool.false_and, Bool.and_false] at g
                  exact iteF g
              · rw [decide_eq_false hm]
                have g := q _ S1
                simp only [decide_eq_false hm, Bool.false_and] at g
                exact iteT (iteT g)
          | _ => cases hd
        · rw [Bool.not_eq_true] at hd
          rw [hd]
          have g := q _ S1
          have g2 : Q (.bl false) (upd H p (.tup [.int 2, .int 3])) := by
            cases k with
            | zero => rw [isKind_3z] at g; exact g
            | succ k => rw [isKind_3] at g; cases d <;> first | exact g | cases hd
          exact g2
      | d :: e :: g :: i :: ds, x, hA, hl =>
        have e2 : x.length ≠ 2 := by rw [hl]; simp
        have e3 : x.length ≠ 3 := by rw [hl]; simp
        rw [decide_eq_false e2, decide_eq_false e3]
        have g := q _ S1
        rw [isKind_len _ _ (by simp) (by simp)] at g
        exact iteT (iteT g)
    | _ => cases hs
  · rw [Bool.not_eq_true] at hs
    rw [hs]
    have q' := q H (Same.refl H)
    rw [isKind_not k D hs] at q'
    exact iteT (iteT q')
theorem okis_kind (T : Txt K mg) (F : Fun K "is_kind" "is_kind" sis_kind f fd) (Cfits_kind : Cal P w K mg base "fits_kind" 15 ["value", "room"] (spKindF K 13)) : FnOk P w K mg base CX0 16 f fd Nvalue (spIsKind K) := by
  refine F.ok scis_kind (fun vs H Q E h => ?_) (fun cdv A outer s H vs Q E hr h => ?_)
  · obtain ⟨v, D, rfl, _⟩ := h
    rfl
  obtain ⟨v, D, rfl, hv, hz, q⟩ := h
  refine ⟨_, (pss_one (ps_ret (pe_callC Cfits_kind hr (pa_cons (pv 0) (pa_cons (pe_globE T.DEEPEST) pa_nil))))), ?_⟩
  exact ⟨_, rfl, v, 12, D, rfl, by decide, hv, hz, q⟩
theorem okcheck_kind (T : Txt K mg) (O : OneE P w K mg base "BadValue" "value" CB) (F : Fun K "check_kind" "check_kind" scheck_kind f fd) (Cfits_kind : Cal P w K mg base "fits_kind" 15 ["value", "room"] (spKindF K 13)) :
    FnOk P w K mg base (L2.CX P w) 16 f fd Pkind (spCheck K CB (isKind 12)) := by
  refine F.okX sccheck_kind (fun vs H Q E h => ?_) (fun cdv A outer s H vs Q E hr h => ?_)
  · obtain ⟨v, rfl, _⟩ := h
    rfl
  obtain ⟨v, rfl, h⟩ := h
  refine ⟨_, (pss_one (ps_if (pt_not (pt_val (pe_callC Cfits_kind hr (pa_cons (pv 0) (pa_cons (pe_globE T.DEEPEST) pa_nil)))))
    (pss_one (ps_raise1 (k := 0) O rfl (hr.mono (by decide)) (takes_of rfl rfl rfl rfl) (pv 0)))
    pss_nil)), ?_⟩
  rcases h with ⟨D, hv, hz, c, q⟩ | ⟨D, hv, hz, c, q⟩
  · exact ⟨_, rfl, v, 12, D, rfl, by decide, hv, hz, fun H1 s1 => ⟨_, rfl, by rw [c]; exact q H1 s1⟩⟩
  · exact ⟨_, rfl, v, 12, D, rfl, by decide, hv, hz, fun H1 s1 => ⟨_, rfl, by rw [c]; exact ⟨_, rfl, mk_one O.oex O.no fun d nd => q d H1 s1 nd⟩⟩⟩
theorem okcheck_form (T : Txt K mg) (O : OneE P w K mg base "BadValue" "value" CB) (F : Fun K "check_form" "check_form" scheck_form f fd) (Cfits_form : Cal P w K mg base "fits_form" 15 Pfits_form (spForm K 13)) :
    FnOk P w K mg base (L2.CX P w) 16 f fd Nis_leaf (spCheck K CB (isForm 12)) := by
  refine F.okX sccheck_form (fun vs H Q E h => ?_) (fun cdv A outer s H vs Q E hr h => ?_)
  · obtain ⟨v, rfl, _⟩ := h
    rfl
  obtain ⟨v, rfl, h⟩ := h
  refine ⟨_, (pss_one (ps_if (pt_not (pt_val (pe_callC Cfits_form hr (pa_cons (pv 0) (pa_cons (pe_globE T.DEEPEST) pa_nil)))))
    (pss_one (ps_raise1 (k := 0) O rfl (hr.mono (by decide)) (takes_of rfl rfl rfl rfl) (pv 0)))
    pss_nil)), ?_⟩
  rcases h with ⟨D, hv, hz, c, q⟩ | ⟨D, hv, hz, c, q⟩
  · exact ⟨_, rfl, v, 12, rfl, by decide, .inl ⟨D, hv, hz, fun H1 s1 => ⟨_, rfl, by rw [c]; exact q H1 s1⟩⟩⟩
  · exact ⟨_, rfl, v, 12, rfl, by decide, .inl ⟨D, hv, hz, fun H1 s1 => ⟨_, rfl, by rw [c]; exact ⟨_, rfl, mk_one O.oex O.no fun d nd => q d H1 s1 nd⟩⟩⟩⟩
theorem okform_of_kind (Cck : CalX P w K mg base "check_kind" 16 Pkind (spCheck K CB (isKind 12))) (Ct : Cal P w K mg base "form_told" 34 Pkind (spTold K 13)) (F : Fun K "form_of_kind" "form_of_kind" sform_of_kind f fd) :
    FnOk P w K mg base (L2.CX P w) 40 f fd Pkind (spFormOf K CB) := by
  refine F.okX scform_of_kind (fun vs H Q E h => ?_) (fun cdv A outer s H vs Q E hr h => ?_)
  · obtain ⟨v, rfl, _⟩ := h
    rfl
  obtain ⟨v, rfl, h⟩ := h
  refine ⟨_, (pss_cons (ps_expr (pe_callS Cck.ok (hr.mono (by decide)) rfl Cck.m Cck.kp Cck.b (fun σ => passAt (takes_of rfl rfl rfl rfl) σ) (pa_cons (pv 0) pa_nil)))
  (pss_one (ps_ret (pe_callC Ct hr (pa_cons (pv 0) pa_nil))))), ?_⟩
  rcases h with ⟨t, hf, ok, kd, hd, q⟩ | hb
  · refine ⟨_, rfl, _, rfl, .inl ⟨_, hf.dp, ft_short okStr_kw t ok, ft_kind t 12 ok kd hd, fun H1 s1 => ?_⟩⟩
    exact ⟨_, rfl, v, t, rfl, hf.same s1, by omega, by decide, fun H2 u s2 f2 => q H2 u (s1.trans s2) f2⟩
  · exact ⟨_, rfl, _, rfl, .inr hb⟩
theorem okkind_of_form (Ccf : CalX P w K mg base "check_form" 16 Nis_leaf (spCheck K CB (isForm 12))) (Ct : Cal P w K mg base "kind_given" 14 Nis_leaf (spKind K false 13)) (F : Fun K "kind_of_form" "kind_of_form" skind_of_form f fd) :
    FnOk P w K mg base (L2.CX P w) 40 f fd Nis_leaf (spKindOf K CB false) := by
  refine F.okX sckind_of_form (fun vs H Q E h => ?_) (fun cdv A outer s H vs Q E hr h => ?_)
  · obtain ⟨v, rfl, _⟩ := h
    rfl
  obtain ⟨v, rfl, h⟩ := h
  refine ⟨_, (pss_cons (ps_expr (pe_callS Ccf.ok (hr.mono (by decide)) rfl Ccf.m Ccf.kp Ccf.b (fun σ => passAt (takes_of rfl rfl rfl rfl) σ) (pa_cons (pv 0) pa_nil)))
  (pss_one (ps_ret (pe_callC Ct hr (pa_cons (pv 0) pa_nil))))), ?_⟩
  rcases h with ⟨t, hf, ok, hd, q⟩ | hb
  · refine ⟨_, rfl, _, rfl, .inl ⟨_, hf.dp, ft_short okStr_fw t ok, ft_form t 12 ok hd, fun H1 s1 => ?_⟩⟩
    exact ⟨_, rfl, v, t, rfl, hf.same s1, by omega, fun H2 u s2 f2 => q H2 u (s1.trans s2) f2⟩
  · exact ⟨_, rfl, _, rfl, .inr hb⟩
theorem okkind_taken (Ccf : CalX P w K mg base "check_form" 16 Nis_leaf (spCheck K CB (isForm 12))) (Ct : Cal P w K mg base "kind_counted" 14 Nis_leaf (spKind K true 13)) (F : Fun K "kind_taken" "kind_taken" skind_taken f fd) :
    FnOk P w K mg base (L2.CX P w) 40 f fd Nis_leaf (spKindOf K CB true) := by
  refine F.okX sckind_taken (fun vs H Q E h => ?_) (fun cdv A outer s H vs Q E hr h => ?_)
  · obtain ⟨v, rfl, _⟩ := h
    rfl
  obtain ⟨v, rfl, h⟩ := h
  refine ⟨_, (pss_cons (ps_expr (pe_callS Ccf.ok (hr.mono (by decide)) rfl Ccf.m Ccf.kp Ccf.b (fun σ => passAt (takes_of rfl rfl rfl rfl) σ) (pa_cons (pv 0) pa_nil)))
  (pss_one (ps_ret (pe_callC Ct hr (pa_cons (pv 0) pa_nil))))), ?_⟩
  rcases h with ⟨t, hf, ok, hd, q⟩ | hb
  · refine ⟨_, rfl, _, rfl, .inl ⟨_, hf.dp, ft_short okStr_fw t ok, ft_form t 12 ok hd, fun H1 s1 => ?_⟩⟩
    exact ⟨_, rfl, v, t, rfl, hf.same s1, by omega, fun H2 u s2 f2 => q H2 u (s1.trans s2) f2⟩
  · exact ⟨_, rfl, _, rfl, .inr hb⟩
theorem okgoods_in (T : Txt K mg) (G : TxtG mg) (Cck : CalX P w K mg base "check_kind" 16 Pkind (spCheck K CB (isKind 12))) (Cgoods_of : Cal P w K mg base "goods_of" 14 Nis_leaf (spGoods K 13)) (F : Fun K "goods_in" "goods_in" sgoods_in f fd) :
    FnOk P w K mg base (L2.CX P w) 40 f fd Pkind (spGoodsIn K CB) := by
  refine F.okX scgoods_in (fun vs H Q E h => ?_) (fun cdv A outer s H vs Q E hr h => ?_)
  · obtain ⟨v, rfl, _⟩ := h
    rfl
  obtain ⟨v, rfl, h⟩ := h
  refine ⟨_, (pss_cons (ps_expr (pe_callS Cck.ok (hr.mono (by decide)) rfl Cck.m Cck.kp Cck.b (fun σ => passAt (takes_of rfl rfl rfl rfl) σ) (pa_cons (pv 0) pa_nil)))
  (pss_one (ps_ret (pe_callTy call_tuple_of rfl T.tuple (by decide +kernel) (pa_cons (pe_callB (cr_sortSS rfl) rfl G.sorted (by decide +kernel) (pa_cons (pe_callTy (cr_setStrs rfl) rfl G.set (by decide +kernel) (pa_cons (pe_callC Cgoods_of hr (pa_cons (pv 0) pa_nil)) pa_nil)) pa_nil)) pa_nil))))), ?_⟩
  rcases h with ⟨t, hf, ok, kd, hd, hl, q⟩ | hb
  · refine ⟨_, rfl, _, rfl, .inl ⟨_, hf.dp, ft_short okStr_kw t ok, ft_kind t 12 ok kd hd, fun H1 s1 => ?_⟩⟩
    have hn := FT.names_len t
    refine ⟨_, rfl, v, _, t, rfl, hf.same s1, by omega, by omega, fun H2 l s2 e2 => ?_⟩
    refine ⟨l, t.names, rfl, SqL.of e2, by unfold scanBound; omega, fun p c hc np => ?_⟩
    refine ⟨p, _, c, rfl, upd_same, by omega, fun ys p2 h1 h2 h3 np2 => ?_⟩
    refine ⟨p2, _, rfl, .inl ⟨SqL.of upd_same, fun p3 np3 => ?_⟩⟩
    exact q _ p3 ys (((s1.trans s2).trans (same_new np _)).trans ((same_new np2 _).trans (same_new np3 _))) (SqT.of upd_same) h1 h2 fun x => (h3 x).trans decide_eq_true_iff
  · exact ⟨_, rfl, _, rfl, .inr hb⟩
end
end My

set_option Elab.async false
set_option linter.all false
set_option maxRecDepth 100000
namespace My
open PySem L2 SX
/-! ### texts in order -/
def leS (a b : Str) : Prop := a.cps.toList ≤ b.cps.toList
theorem leS_trans {a b c : Str} (h1 : leS a b) (h2 : leS b c) : leS a c := List.le_trans h1 h2
theorem leS_anti {a b : Str} (h1 : leS a b) (h2 : leS b a) : a = b := TL.ext_tl (List.le_antisymm h1 h2)
theorem rising_pw : ∀ (r : List Str) (p : Str), PyProof.Rows.risingS p r = true → (p :: r).Pairwise leS
  | [], p, _ => List.pairwise_singleton _ _
  | x :: r, p, h => by
    unfold PyProof.Rows.risingS at h
    obtain ⟨h1, h2⟩ := Bool.and_eq_true_iff.mp h
    have t := rising_pw r x h2
    have px : leS p x := by
      rw [PyProof.Rows.ltCps_eq] at h1
      have h3 : ¬ (x.cps.toList < p.cps.toList) := fun z => by rw [decide_eq_true z] at h1; cases h1
      exact List.not_lt.mp h3
    refine List.pairwise_cons.mpr ⟨fun y hy => ?_, t⟩
    rcases List.mem_cons.mp hy with e | e
    · rw [e]; exact px
    · exact leS_trans px ((List.pairwise_cons.mp t).1 y e)
theorem sorted_pw {ys : List Str} (h : PyProof.Rows.sortedS ys = true) : ys.Pairwise leS := by
  cases ys with
  | nil => exact List.Pairwise.nil
  | cons x r => exact rising_pw r x h
theorem sorted_eq {xs ys : List Str} (h1 : xs.Pairwise leS) (h2 : ys.Pairwise leS) (n1 : xs.Nodup) (n2 : ys.Nodup) (m : ∀ x, x ∈ xs ↔ x ∈ ys) : xs = ys :=
  List.Perm.eq_of_pairwise (le := leS) (fun _ _ _ _ => leS_anti) h1 h2 ((List.perm_ext_iff_of_nodup n1 n2).mpr m)
/-- what is laid out of the first i of zs -/
structure Once (zs : List Str) (i : Nat) (out : List Str) : Prop where
  sub : out.Sublist (zs.take i)
  nd : out.Nodup
  mem : ∀ x, x ∈ zs.take i → x ∈ out
  last : out.getLast? = (zs.take i).getLast?
theorem Once.zero (zs : List Str) : Once zs 0 [] := ⟨List.nil_sublist _, List.nodup_nil, fun x h => by simp at h, rfl⟩
theorem Once.len {zs : List Str} {i : Nat} {out : List Str} (o : Once zs i out) : out.length ≤ zs.length := by
  have := o.sub.length_le
  rw [List.length_take] at this
  omega
theorem Once.skip {zs : List Str} {i : Nat} {out : List Str} {z : Str} (o : Once zs i out) (hz : zs[i]? = some z) (h : out.getLast? = some z) : Once zs (i + 1) out := by
  have e := take_next hz
  have zm : z ∈ out := List.mem_of_getLast? h
  refine ⟨by rw [e]; exact o.sub.trans (List.sublist_append_left _ _), o.nd, fun x hx => ?_, by rw [e, List.getLast?_append]; simpa using h⟩
  rw [e] at hx
  rcases List.mem_append.mp hx with hx | hx
  · exact o.mem x hx
  · rw [List.mem_singleton.mp hx]; exact zm
theorem Once.push {zs : List Str} {i : Nat} {out : List Str} {z : Str} (o : Once zs i out) (srt : zs.Pairwise leS) (hz : zs[i]? = some z) (h : ∀ y, out.getLast? = some y → y ≠ z) : Once zs (i + 1) (out ++ [z]) := by
  have e := take_next hz
  refine ⟨by rw [e]; exact o.sub.append (List.Sublist.refl _), ?_, fun x hx => ?_, by rw [e, List.getLast?_append, List.getLast?_append]; rfl⟩
  · rw [List.nodup_append]
    refine ⟨o.nd, by simp, fun a ha b hb => ?_⟩
    rw [List.mem_singleton.mp hb]
    rintro rfl
    have hs : (zs.take (i + 1)).Pairwise leS := srt.sublist (List.take_sublist _ _)
    rw [e] at hs
    have hin : a ∈ zs.take i := o.sub.subset ha
    cases hl : out.getLast? with
    | none =>
      rw [List.getLast?_eq_none_iff] at hl
      rw [hl] at ha
      cases ha
    | some y =>
      have hl2 := hl
      rw [o.last] at hl2
      obtain ⟨ini, ei⟩ := List.getLast?_eq_some_iff.mp hl2
      have le1 : leS y a := by
        have hy : y ∈ zs.take i := List.mem_of_getLast? hl2
        exact (List.pairwise_append.mp hs).2.2 y hy a (List.mem_singleton.mpr rfl)
      have le2 : leS a y := by
        rw [ei] at hin hs
        rcases List.mem_append.mp hin with q | q
        · have := (List.pairwise_append.mp (List.pairwise_append.mp hs).1).2.2 a q y (List.mem_singleton.mpr rfl)
          exact this
        · rw [List.mem_singleton.mp q]
          exact List.le_refl _
      exact h y hl (leS_anti le1 le2)
  · rw [e] at hx
    rcases List.mem_append.mp hx with hx | hx
    · exact List.mem_append_left _ (o.mem x hx)
    · exact List.mem_append_right _ hx
/-! ### the leaves of a form -/
def FT.leafs : FT → List (Bool × Str) | .leaf co n => [(co, n)] | .node _ l r => l.leafs ++ r.leafs
theorem FT.leafs_names : ∀ t : FT, t.leafs.map (·.2) = t.names
  | .leaf _ _ => rfl
  | .node s l r => by show (l.leafs ++ r.leafs).map (·.2) = l.names ++ r.names; rw [List.map_append, FT.leafs_names l, FT.leafs_names r]
theorem FT.leafs_len (t : FT) : t.leafs.length = t.lvs := by rw [← FT.names_len, ← FT.leafs_names, List.length_map]
def Lf (K : PySem.W.Frag) (H : Hp) (u : V) (p : Bool × Str) : Prop := ∃ a, u = .ref a ∧ SqT K H a [.str (leafZ p.1), .str p.2]
theorem Lf.same {K : PySem.W.Frag} {H H' : Hp} (s : Same H H') {u : V} {p : Bool × Str} : Lf K H u p → Lf K H' u p := fun ⟨a, e, h⟩ => ⟨a, e, seqT_same s h⟩
theorem prd_len {α β : Type} {r : α → β → Prop} : ∀ {xs : List α} {ys : List β}, Paired r xs ys → xs.length = ys.length
  | _, _, .nil => rfl
  | _, _, .cons _ t => congrArg (· + 1) (prd_len t)
theorem prd_app {α β : Type} {r : α → β → Prop} : ∀ {xs xs' : List α} {ys ys' : List β}, Paired r xs ys → Paired r xs' ys' → Paired r (xs ++ xs') (ys ++ ys')
  | _, _, _, _, .nil, h => h
  | _, _, _, _, .cons a t, h => .cons a (prd_app t h)
theorem prd_imp {α β : Type} {r s : α → β → Prop} (h : ∀ x y, r x y → s x y) : ∀ {xs : List α} {ys : List β}, Paired r xs ys → Paired s xs ys
  | _, _, .nil => .nil
  | _, _, .cons a b => .cons (h _ _ a) (prd_imp h b)
theorem prd_at {α β : Type} {r : α → β → Prop} : ∀ {xs : List α} {ys : List β} {i : Nat} {x : α}, Paired r xs ys → xs[i]? = some x → ∃ y, ys[i]? = some y ∧ r x y
  | _, _, i, _, .nil, e => by simp at e
  | _, _, 0, _, .cons a _, e => by
    simp at e
    subst e
    exact ⟨_, rfl, a⟩
  | _, _, i + 1, _, .cons _ b, e => by
    obtain ⟨y, h1, h2⟩ := prd_at (i := i) b (by simpa using e)
    exact ⟨y, by simpa using h1, h2⟩
theorem FT.lvs_pow : ∀ t : FT, t.lvs ≤ 2 ^ t.dep
  | .leaf _ _ => Nat.le_refl _
  | .node s l r => by
    show l.lvs + r.lvs ≤ 2 ^ (1 + max l.dep r.dep)
    have h1 := FT.lvs_pow l
    have h2 := FT.lvs_pow r
    have h3 : 2 ^ l.dep ≤ 2 ^ max l.dep r.dep := Nat.pow_le_pow_right (by decide) (Nat.le_max_left _ _)
    have h4 : 2 ^ r.dep ≤ 2 ^ max l.dep r.dep := Nat.pow_le_pow_right (by decide) (Nat.le_max_right _ _)
    rw [Nat.pow_add]
    omega
/-- how many draws a drawn kind takes at most -/
def dk : Nat → Nat | 0 => 1 | k + 1 => 2 + 2 * dk k
theorem dk_pos : ∀ k, 1 ≤ dk k
  | 0 => Nat.le_refl _
  | k + 1 => by show 1 ≤ 2 + 2 * dk k; omega
theorem dk4 : dk 4 = 46 := rfl
theorem dk_le : ∀ k, k ≤ 4 → dk k ≤ 46
  | 0, _ => by decide
  | 1, _ => by decide
  | 2, _ => by decide
  | 3, _ => by decide
  | 4, _ => by decide
  | _ + 5, h => absurd h (by omega)
end My

set_option Elab.async false
set_option linter.all false
set_option maxRecDepth 100000
namespace My
open PySem L2 SX
abbrev s_law_counter : Stmt := top 39
abbrev N_law_counter : List Str := ["_law_form", "_law_turned"]
abbrev P_law_form : List Str := ["_law_form"]
theorem sc_law_counter : FnScope N_law_counter P_law_form (defScope s_law_counter) := ⟨rfl, rfl, rfl, by decide +kernel, rfl, by decide +kernel, by decide +kernel⟩
abbrev s_law_leaves : Stmt := top 40
theorem sc_law_leaves : FnScope P_law_form P_law_form (defScope s_law_leaves) := ⟨rfl, rfl, rfl, by decide +kernel, rfl, by decide +kernel, by decide +kernel⟩
abbrev s_law_kind : Stmt := top 41
abbrev N_law_kind : List Str := ["_law_pen", "_law_goods", "_law_depth", "_law_word", "_law_left"]
abbrev P_law_kind : List Str := ["_law_pen", "_law_goods", "_law_depth"]
theorem sc_law_kind : FnScope N_law_kind P_law_kind (defScope s_law_kind) := ⟨rfl, rfl, rfl, by decide +kernel, rfl, by decide +kernel, by decide +kernel⟩
abbrev s_law_form_of : Stmt := top 42
abbrev N_law_form_of : List Str := ["_law_kind_here", "_law_left", "_law_right"]
abbrev P_law_here : List Str := ["_law_kind_here"]
theorem sc_law_form_of : FnScope N_law_form_of P_law_here (defScope s_law_form_of) := ⟨rfl, rfl, rfl, by decide +kernel, rfl, by decide +kernel, by decide +kernel⟩
abbrev s_law_once : Stmt := top 43
abbrev N_law_once : List Str := ["_law_some", "_law_out", "_law_one"]
abbrev P_law_once : List Str := ["_law_some"]
theorem sc_law_once : FnScope N_law_once P_law_once (defScope s_law_once) := ⟨rfl, rfl, rfl, by decide +kernel, rfl, by decide +kernel, by decide +kernel⟩
abbrev s_law_kind_of : Stmt := top 44
abbrev N_law_kind_of : List Str := ["_law_form", "_law_word", "_law_left", "_law_right"]
theorem sc_law_kind_of : FnScope N_law_kind_of P_law_form (defScope s_law_kind_of) := ⟨rfl, rfl, rfl, by decide +kernel, rfl, by decide +kernel, by decide +kernel⟩
def spLeaves (K : PySem.W.Frag) (n : Nat) : Sp := fun vs H Q _ => ∃ v wd t, vs = [v] ∧ Fm wd K H t v ∧ t.dep < n ∧ t.lvs ≤ 500 ∧ ∀ H' l us, Same H H' → H' l = some (.lst us) → Paired (Lf K H') us t.leafs → Q (.ref l) H'
def spLKind (K : PySem.W.Frag) (k : Nat) : Sp := fun vs H Q _ => ∃ (d L : Addr) (ns : List Int) (n : Nat) (a : Addr) (zs : List Str) (j : Nat), vs = [.ref d, .ref a, .int j] ∧ j < k ∧ k ≤ 5 ∧ Pen K H d L ns n ∧ n + dk j < 2 ^ 39 ∧ SqL K H a (zs.map V.str) ∧ zs ≠ [] ∧ zs.length ≤ 1000 ∧ (∀ z ∈ zs, isName z = true) ∧
  ∀ v t H', Fm Sg.kw K H' t v → t.Ok → t.Kd → t.dep ≤ j → Keep d H H' → Pen K H' d L ns (n + dk j) → Q v H'
def spLFormOf (K : PySem.W.Frag) (n : Nat) : Sp := fun vs H Q _ => ∃ v t, vs = [v] ∧ Fm Sg.kw K H t v ∧ t.Kd ∧ t.dep < n ∧ n ≤ 20 ∧ ∀ H' u, Same H H' → Fm Sg.fw K H' (fOf t) u → Q u H'
def spOnce (K : PySem.W.Frag) : Sp := fun vs H Q _ => ∃ (l : Addr) (zs : List Str), vs = [.ref l] ∧ SqL K H l (zs.map V.str) ∧ zs.length < 64 ∧ (∀ z ∈ zs, okStr z = true) ∧
  ∀ (H' : Hp) (p : Addr) (ys : List Str), Same H H' → H' p = some (.lst (ys.map V.str)) → ys.Pairwise leS → ys.Nodup → (∀ x, x ∈ ys ↔ x ∈ zs) → Q (.ref p) H'
def spLKindOf (K : PySem.W.Frag) (n : Nat) : Sp := fun vs H Q _ => ∃ v t, vs = [v] ∧ Fm Sg.fw K H t v ∧ t.dep < n ∧ n ≤ 20 ∧ ∀ H' u, Same H H' → Om Sg.kw K H' (kG false t) u → Q u H'
def turnD : List (Key × V) := [(.inr "both", .str "between"), (.inr "between", .str "both"), (.inr "offered", .str "chosen"), (.inr "chosen", .str "offered")]
theorem turnD_get (s : Sg) : valV (mergeK [] turnD) (.inr s.fw) = some (.str s.ctr.fw) := by cases s <;> rfl
def fokD : List (Key × V) := [(.inr "pair", .str "both"), (.inr "sum", .str "chosen"), (.inr "offer", .str "offered")]
theorem fokD_get (s : Sg) (h : s ≠ .bar) : valV (mergeK [] fokD) (.inr s.kw) = some (.str s.fw) := by
  cases s with
  | bar => exact absurd rfl h
  | _ => rfl
def kofD : List (Key × V) := [(.inr "both", .str "pair"), (.inr "chosen", .str "sum"), (.inr "offered", .str "offer"), (.inr "between", .str "to")]
theorem kofD_get (s : Sg) : valV (mergeK [] kofD) (.inr s.fw) = some (.str s.kw) := by cases s <;> rfl
theorem same_disp {H : Hp} {p : Addr} {o o' : HO} (n : H p = none) : Same H (upd (upd H p o) p o') := fun b u e => by
  rw [upd_ne (ne_of_none e n), upd_ne (ne_of_none e n)]
  exact e
def gcW : List Str := [Str.ofString "good", Str.ofString "counter"]
theorem in_gc (co : Bool) : inV (.str (leafZ co)) (gcW.map V.str) = true := by
  rw [inV_str]
  cases co <;> decide +kernel
theorem in_gc_no (s : Sg) : inV (.str s.fw) (gcW.map V.str) = false := by
  rw [inV_str]
  cases s <;> decide +kernel
theorem kw_inj {s s' : Sg} (h : s.kw = s'.kw) : s = s' := by revert h; cases s <;> cases s' <;> decide +kernel
section
variable {P : Program} {w : World} {K : PySem.W.Frag} {mg : Str → Option Value} {base : Heap} {f : Addr} {fd : FuncData}
theorem ok_law_counter {n : Nat} (F : Fun K "_law_counter" "_law_counter" s_law_counter f fd) (C_law_counter : Cal P w K mg base "_law_counter" (1 + n) P_law_form (spCounter K n)) : FnOk P w K mg base CX0 (1 + n + 1) f fd P_law_form (spCounter K (n + 1)) := by
  refine F.ok sc_law_counter (fun vs H Q E h => ?_) (fun cdv A outer s H vs Q E hr h => ?_)
  · obtain ⟨v, t, rfl, _⟩ := h
    rfl
  obtain ⟨v, t, rfl, hf, hd, q⟩ := h
  refine ⟨_, (pss_cons (ps_if (pt_cmpR op_in_seq (pe_ix ix_tup (pv 0) pe_int (fun _ _ => rfl)) (pe_lstN (pa_cons pe_str (pa_cons pe_str pa_nil))) rfl)
    (pss_one (ps_ret (pe_tupN (pa_cons (pe_ifExp (pt_cmpR op_eq (pe_ix ix_tup (pv 0) pe_int (fun _ _ => rfl)) pe_str (nomark _)) pe_str pe_str) (pa_cons (pe_ix ix_tup (pv 0) pe_int (fun _ _ => rfl)) pa_nil)))))
    pss_nil)
  (pss_cons (ps_set (i := 1) sc_law_counter.nd rfl (Or.inl rfl) (pe_disp (pps_cons pe_str pe_str (pps_cons pe_str pe_str (pps_cons pe_str pe_str (pps_cons pe_str pe_str pps_nil)))) (by rfl) (by rfl) (fun z => by cases z) (by decide)))
  (pss_one (ps_ret (pe_tupN (pa_cons (pe_dget (hu_of hr) (pv 1) (pe_ix ix_tup (pv 0) pe_int (fun _ _ => rfl)) (fun _ _ => rfl)) (pa_cons (pe_callC C_law_counter hr (pa_cons (pe_ix ix_tup (pv 0) pe_int (fun _ _ => rfl)) pa_nil)) (pa_cons (pe_callC C_law_counter hr (pa_cons (pe_ix ix_tup (pv 0) pe_int (fun _ _ => rfl)) pa_nil)) pa_nil)))))))), ?_⟩
  cases t with
  | leaf co m =>
    obtain ⟨a, rfl, hs⟩ := hf
    refine ⟨_, rfl, a, _, _, _, rfl, rfl, hs, rfl, le1k, fun p H1 s1 e1 => ⟨p, _, rfl, .inl (SqL.of e1), rfl, rfl, _, rfl, ?_⟩⟩
    show (if inV (.str (leafZ co)) (gcW.map V.str) = true then _ else _)
    rw [in_gc]
    have hs1 := seqT_same s1 hs
    refine iteT ⟨_, rfl, a, _, _, _, rfl, rfl, hs1, rfl, rfl, _, rfl, ?_⟩
    cases co with
    | false => exact iteT ⟨_, rfl, a, _, _, _, rfl, rfl, hs1, rfl, le1k, fun p H2 s2 e2 => q H2 _ (s1.trans s2) ⟨p, rfl, e2⟩⟩
    | true => exact iteF ⟨_, rfl, a, _, _, _, rfl, rfl, hs1, rfl, le1k, fun p H2 s2 e2 => q H2 _ (s1.trans s2) ⟨p, rfl, e2⟩⟩
  | node s l r =>
    obtain ⟨a, x, y, rfl, hs, hx, hy⟩ := hf
    have hdd : 1 + max l.dep r.dep < n + 1 := hd
    refine ⟨_, rfl, a, _, _, _, rfl, rfl, hs, rfl, le1k, fun p H1 s1 e1 => ⟨p, _, rfl, .inl (SqL.of e1), rfl, rfl, _, rfl, ?_⟩⟩
    show (if inV (.str s.fw) (gcW.map V.str) = true then _ else _)
    rw [in_gc_no]
    refine iteF ?_
    intro p5 np5
    refine ⟨upd_same, turnD, rfl, by decide, ?_⟩
    have s5 : Same H1 (upd (upd H1 p5 (.dK [])) p5 (.dK (mergeK [] turnD))) := same_disp np5
    have s15 := s1.trans s5
    have h5 : upd (upd H1 p5 (.dK [])) p5 (.dK (mergeK [] turnD)) p5 = some (.dK (mergeK [] turnD)) := upd_same
    refine ⟨_, rfl, _, rfl, a, _, _, _, rfl, rfl, seqT_same s15 hs, rfl, p5, .str s.ctr.fw, rfl, .inl ⟨_, .inr s.fw, .inl h5, rfl, (turnD_get s).symm⟩, ?_⟩
    refine ⟨_, rfl, a, _, _, _, rfl, rfl, seqT_same s15 hs, rfl, x, l, rfl, hx.same s15, by omega, fun H2 u2 s2 f2 => ?_⟩
    refine ⟨_, rfl, a, _, _, _, rfl, rfl, seqT_same (s15.trans s2) hs, rfl, y, r, rfl, hy.same (s15.trans s2), by omega, fun H3 u3 s3 f3 => ⟨le1k, fun p H4 s4 e4 => ?_⟩⟩
    exact q H4 _ ((s15.trans s2).trans (s3.trans s4)) ⟨p, _, _, rfl, e4, f2.same (s3.trans s4), f3.same s4⟩
theorem ok_law_leaves {n : Nat} (T : Txt K mg) (F : Fun K "_law_leaves" "_law_leaves" s_law_leaves f fd) (C_law_leaves : Cal P w K mg base "_law_leaves" (1 + n) P_law_form (spLeaves K n)) : FnOk P w K mg base CX0 (1 + n + 1) f fd P_law_form (spLeaves K (n + 1)) := by
  refine F.ok sc_law_leaves (fun vs H Q E h => ?_) (fun cdv A outer s H vs Q E hr h => ?_)
  · obtain ⟨v, wd, t, rfl, _⟩ := h
    rfl
  obtain ⟨v, wd, t, rfl, hf, hd, hl, q⟩ := h
  refine ⟨_, (pss_one (ps_ret (pe_ifExp (pt_cmpR op_eq (pe_callB call_len rfl T.len (by decide +kernel) (pa_cons (pv 0) pa_nil)) pe_int (nomark _)) (pe_lstN (pa_cons (pv 0) pa_nil)) (pe_op op_catLN (pe_callC C_law_leaves hr (pa_cons (pe_ix ix_tup (pv 0) pe_int (fun _ _ => rfl)) pa_nil)) (pe_callC C_law_leaves hr (pa_cons (pe_ix ix_tup (pv 0) pe_int (fun _ _ => rfl)) pa_nil)))))), ?_⟩
  cases t with
  | leaf co m =>
    obtain ⟨a, rfl, hs⟩ := hf
    exact ⟨_, rfl, _, _, rfl, .inr ⟨_, hs, rfl⟩, rfl, _, rfl, iteT ⟨_, rfl, le1k, fun p H2 s2 e2 => q H2 p _ s2 e2 (.cons ⟨a, rfl, seqT_same s2 hs⟩ .nil)⟩⟩
  | node s l r =>
    obtain ⟨a, x, y, rfl, hs, hx, hy⟩ := hf
    have hdd : 1 + max l.dep r.dep < n + 1 := hd
    have hll : l.lvs + r.lvs ≤ 500 := hl
    refine ⟨_, rfl, _, _, rfl, .inr ⟨_, hs, rfl⟩, rfl, _, rfl, iteF ⟨_, rfl, a, _, _, _, rfl, rfl, hs, rfl, x, wd, l, rfl, hx, by omega, by omega, fun H1 l1 us1 s1 f1 p1 => ?_⟩⟩
    refine ⟨_, rfl, a, _, _, _, rfl, rfl, seqT_same s1 hs, rfl, y, wd, r, rfl, hy.same s1, by omega, by omega, fun H2 l2 us2 s2 f2 p2 => ⟨_, _, _, _, rfl, rfl, s2 _ _ f1, f2, ?_, fun p H3 s3 e3 => q H3 p _ ((s1.trans s2).trans s3) e3 ?_⟩⟩
    · rw [prd_len p1, prd_len p2, FT.leafs_len, FT.leafs_len]; omega
    · exact prd_app (prd_imp (fun _ _ => Lf.same (s2.trans s3)) p1) (prd_imp (fun _ _ => Lf.same s3) p2)
theorem ok_law_kind {k : Nat} (C_law_draw : Cal P w K mg base "_law_draw" 1 ["_law_pen", "_law_span"] (spDraw K)) (C_law_pick : Cal P w K mg base "_law_pick" 2 ["_law_pen", "_law_some"] (spPick K)) (F : Fun K "_law_kind" "_law_kind" s_law_kind f fd)
    (C_law_kind : Cal P w K mg base "_law_kind" (2 + k) P_law_kind (spLKind K k)) : FnOk P w K mg base CX0 (2 + k + 1) f fd P_law_kind (spLKind K (k + 1)) := by
  refine F.ok sc_law_kind (fun vs H Q E h => ?_) (fun cdv A outer s H vs Q E hr h => ?_)
  · obtain ⟨d, L, ns, n, a, zs, j, rfl, _⟩ := h
    rfl
  obtain ⟨d, L, ns, n, a, zs, j, rfl, hj, hk5, hp, hn, hz, hne, hzl, hzn, q⟩ := h
  refine ⟨_, (pss_cons (ps_if (PW.pt (pw_or (pt_cmpR op_eq (pv 2) pe_int (nomark _)) (pw_or1 (pt_cmpR op_lt (pe_callC C_law_draw hr (pa_cons (pv 0) (pa_cons pe_int pa_nil))) pe_int (nomark _)))))
    (pss_one (ps_ret (pe_tupN (pa_cons pe_str (pa_cons (pe_callC C_law_pick hr (pa_cons (pv 0) (pa_cons (pv 1) pa_nil))) pa_nil)))))
    pss_nil)
  (pss_cons (ps_set (i := 3) sc_law_kind.nd rfl (Or.inl rfl) (pe_callC C_law_pick hr (pa_cons (pv 0) (pa_cons (pe_lstN (pa_cons pe_str (pa_cons pe_str (pa_cons pe_str (pa_cons pe_str pa_nil))))) pa_nil))))
  (pss_cons (ps_set (i := 4) sc_law_kind.nd rfl (Or.inl rfl) (pe_callC C_law_kind hr (pa_cons (pv 0) (pa_cons (pv 1) (pa_cons (pe_op op_sub (pv 2) pe_int) pa_nil)))))
  (pss_one (ps_ret (pe_tupN (pa_cons (pv 3) (pa_cons (pv 4) (pa_cons (pe_callC C_law_kind hr (pa_cons (pv 0) (pa_cons (pv 1) (pa_cons (pe_op op_sub (pv 2) pe_int) pa_nil)))) pa_nil))))))))), ?_⟩
  have hdk : dk j ≤ 46 := dk_le j (by omega)
  have hpow : (2 : Nat) ^ 39 + 10 < 2 ^ 40 := by decide
  have leafy : ∀ H1 m, Keep d H H1 → Pen K H1 d L ns m → m + 1 ≤ n + dk j → spPick K [.ref d, .ref a] H1 (fun v H2 => [V.str "good", v].length ≤ 1000 ∧ NewT K [V.str "good", v] Q H2) E0 := fun H1 m k1 p1 hm => by
    refine ⟨d, L, ns, m, .ref a, rfl, p1, by omega, .inl ⟨a, _, rfl, seqL_keep hp.isDk k1 hz, by simpa using hne, by rw [List.length_map]; exact hzl, fun x H2 hx k2 p2 => ⟨le1k, fun p H3 s3 e3 => ?_⟩⟩⟩
    obtain ⟨z, hz1, rfl⟩ := List.mem_map.mp hx
    exact q _ (.leaf false z) H3 ⟨p, rfl, e3⟩ (hzn z hz1) rfl (Nat.zero_le _) ((k1.trans k2).trans (Same.toKeep s3)) ((p2.same s3).mono hm)
  cases j with
  | zero =>
    refine ⟨_, rfl, rfl, _, rfl, iteT (iteT ?_)⟩
    exact ⟨_, rfl, _, rfl, leafy H n (Keep.refl _ _) hp (by show n + 1 ≤ n + 1; omega)⟩
  | succ j =>
    have e0 : dk (j + 1) = 2 + 2 * dk j := rfl
    have dp := dk_pos j
    refine ⟨_, rfl, rfl, _, rfl, ?_⟩
    rw [decide_eq_false (by intro z; have := V.int.inj z; omega)]
    refine iteF ⟨_, rfl, d, L, ns, n, 5, rfl, hp, by omega, by decide, by decide, fun r H1 r0 r1 k1 p1 => ⟨_, _, rfl, rfl, _, rfl, ?_⟩⟩
    refine ite2 (fun c => ?_) (fun c => ?_)
    · exact ⟨_, rfl, _, rfl, leafy H1 (n + 1) k1 p1 (by omega)⟩
    · refine ⟨_, rfl, le1k, fun w1 H2 s2 e2 => ?_⟩
      refine ⟨d, L, ns, n + 1, .ref w1, rfl, p1.same s2, by omega, .inl ⟨w1, _, rfl, SqL.of e2, by simp, le1k, fun x H3 hx k3 p3 => ?_⟩⟩
      obtain ⟨sg, rfl⟩ : ∃ sg : Sg, x = .str sg.kw := by
        simp only [List.mem_cons, List.not_mem_nil, or_false] at hx
        rcases hx with rfl | rfl | rfl | rfl
        · exact ⟨.mul, rfl⟩
        · exact ⟨.plus, rfl⟩
        · exact ⟨.amp, rfl⟩
        · exact ⟨.bar, rfl⟩
      have kA : Keep d H H3 := (k1.trans (Same.toKeep s2)).trans k3
      have ej : ((j + 1 : Nat) : Int) - 1 = (j : Int) := by omega
      refine ⟨_, rfl, _, rfl, _, rfl, _, _, rfl, rfl, ?_⟩
      refine ⟨d, L, ns, n + 1 + 1, a, zs, j, congrArg (fun i => [V.ref d, V.ref a, V.int i]) ej, by omega, by omega, p3, by omega, seqL_keep hp.isDk kA hz, hne, hzl, hzn, fun v1 t1 H4 f1 o1 kd1 d1 k4 p4 => ?_⟩
      refine ⟨_, rfl, _, rfl, _, rfl, _, rfl, _, rfl, _, _, rfl, rfl, ?_⟩
      refine ⟨d, L, ns, n + 1 + 1 + dk j, a, zs, j, congrArg (fun i => [V.ref d, V.ref a, V.int i]) ej, by omega, by omega, p4, by omega, seqL_keep hp.isDk (kA.trans k4) hz, hne, hzl, hzn, fun v2 t2 H5 f2 o2 kd2 d2 k5 p5 => ⟨le1k, fun p H6 s6 e6 => ?_⟩⟩
      refine q _ (.node sg t1 t2) H6 ⟨p, _, _, rfl, e6, (Fm.keep p4.isDk k5 f1).same s6, f2.same s6⟩ ⟨o1, o2⟩ ⟨kd1, kd2⟩ ?_ (((kA.trans k4).trans k5).trans (Same.toKeep s6)) ((p5.same s6).mono (by omega))
      show 1 + max t1.dep t2.dep ≤ j + 1
      omega
end
end My

set_option Elab.async false
set_option linter.all false
set_option maxRecDepth 100000
namespace My
open PySem L2 SX
theorem short_strs : ∀ (zs : List Str), (∀ z ∈ zs, okStr z = true) → shortAll (zs.map PyData.str) = true
  | [], _ => by unfold shortAll; rfl
  | z :: zs, h => by
    show shortAll (PyData.str z :: zs.map PyData.str) = true
    unfold shortAll
    rw [short_strs zs fun y hy => h y (List.mem_cons_of_mem _ hy)]
    unfold shortD
    rw [h z List.mem_cons_self]
    rfl
theorem depth_strs : ∀ zs : List Str, PyData.depthAll (zs.map PyData.str) = 0
  | [] => by simp only [List.map_nil, PyData.depthAll]
  | z :: zs => by simp only [List.map_cons, PyData.depthAll, PyData.depth, depth_strs zs, Nat.max_self]
theorem shaped_strs {zs : List Str} (h : ∀ z ∈ zs, okStr z = true) : SeqAt.shaped (.list (zs.map PyData.str)) = true := by
  refine shaped_of ?_ ?_
  · unfold shortD; exact short_strs zs h
  · simp only [PyData.depth, depth_strs]; decide
theorem shaped_tstrs {zs : List Str} (h : ∀ z ∈ zs, okStr z = true) : SeqAt.shaped (.tuple (zs.map PyData.str)) = true := by
  refine shaped_of ?_ ?_
  · unfold shortD; exact short_strs zs h
  · simp only [PyData.depth, depth_strs]; decide
theorem eqv_nilS (zs : List Str) : PyData.eqv (.list (zs.map PyData.str)) (.list []) = zs.isEmpty := by
  cases zs <;> simp [PyData.eqv, PyData.eqvAll]
theorem perm_pw {xs ys : List Str} : True := trivial
section
variable {P : Program} {w : World} {K : PySem.W.Frag} {mg : Str → Option Value} {base : Heap} {f : Addr} {fd : FuncData}
theorem ok_law_form_of {n : Nat} (F : Fun K "_law_form_of" "_law_form_of" s_law_form_of f fd) (C_law_counter : Cal P w K mg base "_law_counter" 21 P_law_form (spCounter K 20)) (C_law_form_of : Cal P w K mg base "_law_form_of" (21 + n) P_law_here (spLFormOf K n)) :
    FnOk P w K mg base CX0 (21 + n + 1) f fd P_law_here (spLFormOf K (n + 1)) := by
  refine F.ok sc_law_form_of (fun vs H Q E h => ?_) (fun cdv A outer s H vs Q E hr h => ?_)
  · obtain ⟨v, t, rfl, _⟩ := h
    rfl
  obtain ⟨v, t, rfl, hf, hk, hd, hn, q⟩ := h
  refine ⟨_, (pss_cons (ps_if (pt_cmpR op_eq (pe_ix ix_tup (pv 0) pe_int (fun _ _ => rfl)) pe_str (nomark _))
    (pss_one (ps_ret (pv 0)))
    pss_nil)
  (pss_cons (ps_par (i := 1) (j := 2) (by rfl) sc_law_form_of.nd rfl rfl (by decide) rfl rfl (pa_cons (pe_callC C_law_form_of hr (pa_cons (pe_ix ix_tup (pv 0) pe_int (fun _ _ => rfl)) pa_nil)) (pa_cons (pe_callC C_law_form_of hr (pa_cons (pe_ix ix_tup (pv 0) pe_int (fun _ _ => rfl)) pa_nil)) pa_nil)) (by rfl))
  (pss_cons (ps_if (pt_cmpR op_eq (pe_ix ix_tup (pv 0) pe_int (fun _ _ => rfl)) pe_str (nomark _))
    (pss_one (ps_ret (pe_tupN (pa_cons pe_str (pa_cons (pe_callC C_law_counter hr (pa_cons (pv 1) pa_nil)) (pa_cons (pv 2) pa_nil))))))
    pss_nil)
  (pss_one (ps_ret (pe_tupN (pa_cons (pe_dget (hu_of hr) (pe_disp (pps_cons pe_str pe_str (pps_cons pe_str pe_str (pps_cons pe_str pe_str pps_nil))) (by rfl) (by rfl) (fun z => by cases z) (by decide)) (pe_ix ix_tup (pv 0) pe_int (fun _ _ => rfl)) (fun _ _ => rfl)) (pa_cons (pv 1) (pa_cons (pv 2) pa_nil))))))))), ?_⟩
  cases t with
  | leaf co m =>
    obtain ⟨a, rfl, hs⟩ := hf
    have e : co = false := hk
    subst e
    exact ⟨_, rfl, a, _, _, _, rfl, rfl, hs, rfl, rfl, _, rfl, iteT ⟨_, rfl, q H _ (Same.refl H) ⟨a, rfl, hs⟩⟩⟩
  | node s l r =>
    obtain ⟨a, x, y, rfl, hs, hx, hy⟩ := hf
    have hdd : 1 + max l.dep r.dep < n + 1 := hd
    refine ⟨_, rfl, a, _, _, _, rfl, rfl, hs, rfl, rfl, _, rfl, ?_⟩
    refine ite2 (fun c => absurd (V.str.inj (of_decide_eq_true c)) (by cases s <;> decide +kernel)) (fun _ => ?_)
    refine ⟨_, rfl, a, _, _, _, rfl, rfl, hs, rfl, x, l, rfl, hx, hk.1, by omega, by omega, fun H1 u1 s1 f1 => ?_⟩
    refine ⟨_, rfl, a, _, _, _, rfl, rfl, seqT_same s1 hs, rfl, y, r, rfl, hy.same s1, hk.2, by omega, by omega, fun H2 u2 s2 f2 => ?_⟩
    have hs2 := seqT_same (s1.trans s2) hs
    refine ⟨_, _, rfl, _, rfl, a, _, _, _, rfl, rfl, hs2, rfl, rfl, _, rfl, ?_⟩
    by_cases e : s = .bar
    · subst e
      refine iteT ⟨_, rfl, u1, fOf l, rfl, f1.same s2, by rw [fOf_dep]; omega, fun H3 u3 s3 f3 => ⟨_, rfl, le1k, fun p H4 s4 e4 => ?_⟩⟩
      exact q H4 _ (((s1.trans s2).trans s3).trans s4) ⟨p, _, _, rfl, e4, f3.same s4, f2.same (s3.trans s4)⟩
    · refine ite2 (fun c => absurd (kw_inj (s' := .bar) (V.str.inj (of_decide_eq_true c))) e) (fun _ => ?_)
      intro p5 np5
      refine ⟨upd_same, fokD, rfl, by decide, ?_⟩
      have s5 : Same H2 (upd (upd H2 p5 (.dK [])) p5 (.dK (mergeK [] fokD))) := same_disp np5
      refine ⟨_, rfl, a, _, _, _, rfl, rfl, seqT_same s5 hs2, rfl, p5, .str s.fw, rfl, .inl ⟨_, .inr s.kw, .inl upd_same, rfl, (fokD_get s e).symm⟩, ?_⟩
      refine ⟨_, rfl, _, rfl, le1k, fun p H4 s4 e4 => q H4 _ (((s1.trans s2).trans s5).trans s4) ⟨p, _, _, rfl, e4, ?_, f2.same (s5.trans s4)⟩⟩
      rw [if_neg e]
      exact f1.same ((s2.trans s5).trans s4)
theorem ok_law_once (G : TxtG mg) (F : Fun K "_law_once" "_law_once" s_law_once f fd) : FnOk P w K mg base CX0 1 f fd P_law_once (spOnce K) := by
  refine F.ok sc_law_once (fun vs H Q E h => ?_) (fun cdv A outer s H vs Q E hr h => ?_)
  · obtain ⟨l, zs, rfl, _⟩ := h
    rfl
  obtain ⟨l0, zs0, rfl, hz, h64, hok, q⟩ := h
  refine ⟨_, (pss_cons (ps_set (i := 1) sc_law_once.nd rfl (Or.inl rfl) (pe_lst pa_nil))
  (pss_cons (ps_for PassesOwn.never rfl (pi_list (pe_callB cr_sortedS rfl G.sorted (by decide +kernel) (pa_cons (pv 0) pa_nil))) (pg_name (i := 2) sc_law_once.nd rfl (Or.inl rfl))
    (pss_one (ps_if (PW.pt (pw_or (pt_cmpR (op_eqD hr.units) (pv 1) (pe_lstN pa_nil) (nomark _)) (pw_or1 (pt_cmpR op_ne (pe_ix ix_list (pv 1) (pe_un un_neg pe_int) (fun _ _ => rfl)) (pv 2) (nomark _)))))
      (pss_one (ps_expr (pe_bm PySem.F.plainAttrs_list PySem.F.slot_list_append PySem.F.type_list_append mt_append (pv 1) (pa_cons (pv 2) pa_nil))))
      pss_nil)))
  (pss_one (ps_ret (pv 1))))), ?_⟩
  refine ⟨by show 0 ≤ sizeLine; decide, fun l nl => ?_⟩
  have sl := same_new nl (.lst [])
  refine ⟨_, rfl, l0, zs0, rfl, sl.seq hz, h64, fun zs p perm srt np => ⟨p, rfl, ⟨_, SqL.of upd_same⟩, ?_⟩⟩
  have hlen : zs.length < 64 := by rw [perm.length_eq]; exact h64
  have hok2 : ∀ z ∈ zs, okStr z = true := fun z h => hok z (perm.mem_iff.mp h)
  have pw := sorted_pw srt
  have npl : p ≠ l := fun e => by rw [e, upd_same] at np; cases np
  have s1 : Same H (upd (upd H l (.lst [])) p (.lst (zs.map V.str))) := sl.trans (same_new np _)
  have hl1 : upd (upd H l (.lst [])) p (.lst (zs.map V.str)) l = some (.lst (([] : List Str).map V.str)) := same_new np _ _ _ upd_same
  have hp1 : upd (upd H l (.lst [])) p (.lst (zs.map V.str)) p = some (.lst (zs.map V.str)) := upd_same
  generalize upd (upd H l (.lst [])) p (.lst (zs.map V.str)) = H1 at *
  refine for_it walk_list (fun i σ H' => ∃ out o2, σ = [some (.ref l0), some (.ref l), o2] ∧ Once zs i out ∧ Keep l H1 H' ∧ H' l = some (.lst (out.map V.str))) ⟨[], none, rfl, Once.zero zs, Keep.refl _ _, hl1⟩
    (fun i σ H' _ pv => by obtain ⟨out, o2, _, _, k, _⟩ := pv; exact SqL.of (k _ _ npl hp1)) (fun i x σ H2 H3 hi pv y => ?_) (fun σ H' pv => ?_)
  · obtain ⟨rfl, hx⟩ := y
    obtain ⟨out, o2, rfl, on, k, hl⟩ := pv
    obtain ⟨z, hzz, rfl⟩ : ∃ z, zs[i]? = some z ∧ x = .str z := by
      rw [List.getElem?_map] at hx
      cases e : zs[i]? with
      | none => rw [e] at hx; cases hx
      | some z => rw [e] at hx; exact ⟨z, rfl, (Option.some.inj hx).symm⟩
    have hout : ∀ y ∈ out, okStr y = true := fun y hy => hok2 y (List.mem_of_mem_take (on.sub.subset hy))
    have hol := on.len
    refine ⟨_, rfl, le1k, fun p0 H4 s4 e4 => ⟨.list (out.map PyData.str), .list [], .lst (s4.seq (SqL.of hl)) (dpAll_strs out), .lst (SqL.of e4) .nil, shaped_strs hout, by decide, _, rfl, ?_⟩⟩
    rw [eqv_nilS]
    have hl4 : H4 l = some (.lst (out.map V.str)) := s4 _ _ hl
    have k4 : Keep l H1 H4 := k.trans (Same.toKeep s4)
    have push : (∀ y, out.getLast? = some y → y ≠ z) → _ := fun hne =>
      show ∃ out' o2', [some (V.ref l0), some (.ref l), some (.str z)] = [some (.ref l0), some (.ref l), o2'] ∧ Once zs (i + 1) out' ∧ Keep l H1 (upd H4 l (.lst (out.map V.str ++ [.str z]))) ∧ upd H4 l (.lst (out.map V.str ++ [.str z])) l = some (.lst (out'.map V.str)) from
        ⟨out ++ [z], _, rfl, on.push pw hzz hne, k4.trans (keep_put _), by rw [upd_same, List.map_append]; rfl⟩
    have small : (out.map V.str).length < sizeLine := by rw [List.length_map]; exact Nat.lt_of_le_of_lt hol (Nat.lt_trans hlen (by decide))
    cases out with
    | nil => exact iteT ⟨_, rfl, .inl ⟨rfl, _, SqL.of hl4⟩, _, rfl, l, _, _, rfl, rfl, hl4, small, push (fun y h => by cases h)⟩
    | cons o1 r =>
      obtain ⟨ini, b, eo⟩ : ∃ ini b, o1 :: r = ini ++ [b] := ⟨_, _, (List.dropLast_concat_getLast (List.cons_ne_nil o1 r)).symm⟩
      rw [show (o1 :: r).isEmpty = false from rfl]
      have hl5 : H4 l = some (.lst (ini.map V.str ++ [V.str b])) := by rw [hl4, eo, List.map_append]; rfl
      have glast : (o1 :: r).getLast? = some b := by rw [eo, List.getLast?_append]; rfl
      refine iteF ⟨_, rfl, _, rfl, l, _, _, _, rfl, rfl, SqL.of hl5, atI_last _ _, _, rfl, rfl, _, rfl, ?_⟩
      by_cases eb : b = z
      · rw [eb, decide_eq_true rfl]
        refine iteF ⟨o1 :: r, _, rfl, on.skip hzz (by rw [glast, eb]), k4, hl4⟩
      · rw [decide_eq_false (fun h => eb (V.str.inj h))]
        exact iteT ⟨_, rfl, .inl ⟨rfl, _, SqL.of hl4⟩, _, rfl, l, _, _, rfl, rfl, hl4, small, push (fun y h => by rw [glast] at h; cases h; exact eb)⟩
  · obtain ⟨out, o2, rfl, on, k, hl⟩ := pv
    have on' : Once zs zs.length out := by
      have : (zs.map V.str).length = zs.length := List.length_map _
      rw [← this]; exact on
    have sub := on'.sub
    have mem := on'.mem
    rw [List.take_length] at sub mem
    refine ⟨_, rfl, q _ l out (fun b o e => k _ _ (ne_of_none e nl) (s1 _ _ e)) hl (pw.sublist sub) on'.nd fun x => ⟨fun h => perm.mem_iff.mp (sub.subset h), fun h => mem x (perm.mem_iff.mpr h)⟩⟩
end
end My

set_option Elab.async false
set_option linter.all false
set_option maxRecDepth 100000
namespace My
open PySem L2 SX
abbrev s_law_bent : Stmt := top 45
abbrev N_law_bentk : List Str := ["_law_pen", "_law_form", "_law_way"]
theorem sc_law_bent : FnScope N_law_bentk P_law_bent (defScope s_law_bent) := ⟨rfl, rfl, rfl, by decide +kernel, rfl, by decide +kernel, by decide +kernel⟩
abbrev s_law_deep : Stmt := top 46
abbrev N_law_deep : List Str := ["_law_pen", "_law_kind_here", "_law_depth", "_law_k", "_law_word"]
abbrev P_law_deep : List Str := ["_law_pen", "_law_kind_here", "_law_depth"]
theorem sc_law_deep : FnScope N_law_deep P_law_deep (defScope s_law_deep) := ⟨rfl, rfl, rfl, by decide +kernel, rfl, by decide +kernel, by decide +kernel⟩
def spLBent (K : PySem.W.Frag) (k : Nat) : Sp := fun vs H Q _ => ∃ (d L : Addr) (ns : List Int) (n : Nat) (v : V) (t : FT), vs = [.ref d, v] ∧ t.dep < k ∧ k ≤ 20 ∧ Pen K H d L ns n ∧ n + 2 * t.dep < 2 ^ 39 ∧ Fm Sg.fw K H t v ∧ t.Ok ∧
  ∀ v' t' H', Fm Sg.fw K H' t' v' → t'.Ok → t'.dep ≤ t.dep → Keep d H H' → Pen K H' d L ns (n + 2 * t.dep) → Q v' H'
def spDeepK (K : PySem.W.Frag) : Sp := fun vs H Q _ => ∃ (d L : Addr) (ns : List Int) (n : Nat) (v : V) (t : FT) (m : Nat), vs = [.ref d, v, .int m] ∧ m ≤ 20 ∧ Pen K H d L ns n ∧ n < 2 ^ 38 ∧ Fm Sg.kw K H t v ∧ t.Ok ∧ t.Kd ∧
  ∀ v' t' H', Fm Sg.kw K H' t' v' → t'.Ok → t'.Kd → t'.dep = t.dep + m → t'.lvs = t.lvs + m → Keep d H H' → Pen K H' d L ns (n + 2 * m) → Q v' H'
theorem fw_of {x : V} (h : x ∈ [V.str "both", .str "between", .str "offered", .str "chosen"]) : ∃ s : Sg, x = .str s.fw := by
  simp only [List.mem_cons, List.not_mem_nil, or_false] at h
  rcases h with rfl | rfl | rfl | rfl
  · exact ⟨.mul, rfl⟩
  · exact ⟨.bar, rfl⟩
  · exact ⟨.amp, rfl⟩
  · exact ⟨.plus, rfl⟩
theorem kw_of {x : V} (h : x ∈ [V.str "pair", .str "sum", .str "offer", .str "to"]) : ∃ s : Sg, x = .str s.kw := by
  simp only [List.mem_cons, List.not_mem_nil, or_false] at h
  rcases h with rfl | rfl | rfl | rfl
  · exact ⟨.mul, rfl⟩
  · exact ⟨.plus, rfl⟩
  · exact ⟨.amp, rfl⟩
  · exact ⟨.bar, rfl⟩
section
variable {P : Program} {w : World} {K : PySem.W.Frag} {mg : Str → Option Value} {base : Heap} {f : Addr} {fd : FuncData}
theorem ok_law_kind_of {n : Nat} (F : Fun K "_law_kind_of" "_law_kind_of" s_law_kind_of f fd) (C_law_counter : Cal P w K mg base "_law_counter" 21 P_law_form (spCounter K 20)) (C_law_kind_of : Cal P w K mg base "_law_kind_of" (21 + n) P_law_form (spLKindOf K n)) :
    FnOk P w K mg base CX0 (21 + n + 1) f fd P_law_form (spLKindOf K (n + 1)) := by
  refine F.ok sc_law_kind_of (fun vs H Q E h => ?_) (fun cdv A outer s H vs Q E hr h => ?_)
  · obtain ⟨v, t, rfl, _⟩ := h
    rfl
  obtain ⟨v, t, rfl, hf, hd, hn, q⟩ := h
  refine ⟨_, (pss_cons (ps_if (pt_cmpR op_in_seq (pe_ix ix_tup (pv 0) pe_int (fun _ _ => rfl)) (pe_lstN (pa_cons pe_str (pa_cons pe_str pa_nil))) rfl)
    (pss_one (ps_ret (pe_ifExp (pt_cmpR op_eq (pe_ix ix_tup (pv 0) pe_int (fun _ _ => rfl)) pe_str (nomark _)) (pv 0) pe_non)))
    pss_nil)
  (pss_cons (ps_set (i := 1) sc_law_kind_of.nd rfl (Or.inl rfl) (pe_dget (hu_of hr) (pe_disp (pps_cons pe_str pe_str (pps_cons pe_str pe_str (pps_cons pe_str pe_str (pps_cons pe_str pe_str pps_nil)))) (by rfl) (by rfl) (fun z => by cases z) (by decide)) (pe_ix ix_tup (pv 0) pe_int (fun _ _ => rfl)) (fun _ _ => rfl)))
  (pss_cons (ps_set (i := 2) sc_law_kind_of.nd rfl (Or.inl rfl) (pe_callC C_law_kind_of hr (pa_cons (pe_ifExp (pt_cmpR op_eq (pv 1) pe_str (nomark _)) (pe_callC C_law_counter hr (pa_cons (pe_ix ix_tup (pv 0) pe_int (fun _ _ => rfl)) pa_nil)) (pe_ix ix_tup (pv 0) pe_int (fun _ _ => rfl))) pa_nil)))
  (pss_cons (ps_set (i := 3) sc_law_kind_of.nd rfl (Or.inl rfl) (pe_callC C_law_kind_of hr (pa_cons (pe_ix ix_tup (pv 0) pe_int (fun _ _ => rfl)) pa_nil)))
  (pss_one (ps_ret (pe_ifExp (PW.pt (pw_or (pt_cmpR op_isN (pv 2) pe_non (nomark _)) (pw_or1 (pt_cmpR op_isN (pv 3) pe_non (nomark _))))) pe_non (pe_tupN (pa_cons (pv 1) (pa_cons (pv 2) (pa_cons (pv 3) pa_nil))))))))))), ?_⟩
  have nn : ∀ {H : Hp} {t : FT} {v : V}, Fm Sg.kw K H t v → decide (v = .non) = false := fun {H t v} h => decide_eq_false fun e => by
    subst e
    cases t with
    | leaf _ _ => obtain ⟨a, e, _⟩ := h; cases e
    | node _ _ _ => obtain ⟨a, _, _, e, _⟩ := h; cases e
  cases t with
  | leaf co m =>
    obtain ⟨a, rfl, hs⟩ := hf
    refine ⟨_, rfl, a, _, _, _, rfl, rfl, hs, rfl, le1k, fun p H1 s1 e1 => ⟨p, _, rfl, .inl (SqL.of e1), rfl, rfl, _, rfl, ?_⟩⟩
    show (if inV (.str (leafZ co)) (gcW.map V.str) = true then _ else _)
    rw [in_gc]
    have hs1 := seqT_same s1 hs
    refine iteT ⟨_, rfl, a, _, _, _, rfl, rfl, hs1, rfl, rfl, _, rfl, ?_⟩
    cases co with
    | false => exact iteT ⟨_, rfl, q H1 _ s1 ⟨a, rfl, hs1⟩⟩
    | true => exact iteF (q H1 _ s1 rfl)
  | node s l r =>
    obtain ⟨a, x, y, rfl, hs, hx, hy⟩ := hf
    have hdd : 1 + max l.dep r.dep < n + 1 := hd
    refine ⟨_, rfl, a, _, _, _, rfl, rfl, hs, rfl, le1k, fun p H1 s1 e1 => ⟨p, _, rfl, .inl (SqL.of e1), rfl, rfl, _, rfl, ?_⟩⟩
    show (if inV (.str s.fw) (gcW.map V.str) = true then _ else _)
    rw [in_gc_no]
    refine iteF ?_
    intro p5 np5
    refine ⟨upd_same, kofD, rfl, by decide, ?_⟩
    have s5 : Same H1 (upd (upd H1 p5 (.dK [])) p5 (.dK (mergeK [] kofD))) := same_disp np5
    have s15 := s1.trans s5
    have hs15 := seqT_same s15 hs
    refine ⟨_, rfl, a, _, _, _, rfl, rfl, hs15, rfl, p5, .str s.kw, rfl, .inl ⟨_, .inr s.fw, .inl upd_same, rfl, (kofD_get s).symm⟩, ?_⟩
    generalize upd (upd H1 p5 (.dK [])) p5 (.dK (mergeK [] kofD)) = H5 at *
    have fin : ∀ (H6 : Hp) (u1 : V), Same H H6 → Om Sg.kw K H6 (kG (if s = .bar then true else false) l) u1 → spLKindOf K n [y] H6 (fun u2 H7 => tIf (tOr (tTest (tOp (fun x y H Q => y = .non ∧ Q (.bl (decide (x = .non))) H) (tVar 2) (tC .non))) (tTest (tOp (fun x y H Q => y = .non ∧ Q (.bl (decide (x = .non))) H) (tVar 3) (tC .non)))) (tC .non) (nTup K (tCons (tVar 1) (tCons (tVar 2) (tCons (tVar 3) tNil)))) [some (.ref a), some (.str s.kw), some u1, some u2] H7 Q) E0 := fun H6 u1 s6 f1 => by
      refine ⟨y, r, rfl, hy.same s6, by omega, by omega, fun H7 u2 s7 f2 => ?_⟩
      have e7 : ∀ H8 u, Same H7 H8 → Om Sg.kw K H8 (match kG (if s = .bar then true else false) l, kG false r with | some a, some b => some (FT.node s a b) | _, _ => none) u → Q u H8 := fun H8 u s8 f => q H8 u ((s6.trans s7).trans s8) f
      refine ⟨_, rfl, rfl, _, rfl, ?_⟩
      cases ha : kG (if s = .bar then true else false) l with
      | none =>
        rw [ha] at f1 e7
        cases f1
        exact iteT (iteT (e7 H7 _ (Same.refl H7) rfl))
      | some t1 =>
        rw [ha] at f1 e7
        rw [nn (t := t1) f1]
        refine iteF ⟨_, rfl, rfl, _, rfl, ?_⟩
        cases hb : kG false r with
        | none =>
          rw [hb] at f2 e7
          cases f2
          exact iteT (e7 H7 _ (Same.refl H7) rfl)
        | some t2 =>
          rw [hb] at f2 e7
          rw [nn (t := t2) f2]
          exact iteF ⟨_, rfl, _, rfl, _, rfl, le1k, fun p H8 s8 e8 => e7 H8 _ s8 ⟨p, _, _, rfl, e8, (Fm.same s7 f1).same s8, Fm.same s8 f2⟩⟩
    refine ⟨_, rfl, rfl, _, rfl, ?_⟩
    by_cases e : s = .bar
    · subst e
      refine iteT ⟨_, rfl, a, _, _, _, rfl, rfl, hs15, rfl, x, l, rfl, hx.same s15, by omega, fun H6 u6 s6 f6 => ?_⟩
      refine ⟨u6, l.ctr, rfl, f6, by rw [FT.ctr_dep]; omega, by omega, fun H7 u7 s7 f7 => ?_⟩
      rw [kG_ctr] at f7
      exact ⟨_, rfl, a, _, _, _, rfl, rfl, seqT_same (s6.trans s7) hs15, rfl, fin H7 u7 ((s15.trans s6).trans s7) f7⟩
    · refine ite2 (fun c => absurd (kw_inj (s' := .bar) (V.str.inj (of_decide_eq_true c))) e) (fun _ => ?_)
      refine ⟨_, rfl, a, _, _, _, rfl, rfl, hs15, rfl, x, l, rfl, hx.same s15, by omega, by omega, fun H7 u7 s7 f7 => ?_⟩
      exact ⟨_, rfl, a, _, _, _, rfl, rfl, seqT_same s7 hs15, rfl, fin H7 u7 (s15.trans s7) (by rw [if_neg e]; exact f7)⟩
theorem ok_law_bent {k : Nat} (T : Txt K mg) (C_law_counter : Cal P w K mg base "_law_counter" 21 P_law_form (spCounter K 20)) (C_law_draw : Cal P w K mg base "_law_draw" 1 ["_law_pen", "_law_span"] (spDraw K)) (C_law_pick : Cal P w K mg base "_law_pick" 2 ["_law_pen", "_law_some"] (spPick K))
    (F : Fun K "_law_bent" "_law_bent" s_law_bent f fd) (C_law_bent : Cal P w K mg base "_law_bent" (21 + k) P_law_bent (spLBent K k)) : FnOk P w K mg base CX0 (21 + k + 1) f fd P_law_bent (spLBent K (k + 1)) := by
  refine F.ok sc_law_bent (fun vs H Q E h => ?_) (fun cdv A outer s H vs Q E hr h => ?_)
  · obtain ⟨d, L, ns, n, v, t, rfl, _⟩ := h
    rfl
  obtain ⟨d, L, ns, n, v, t, rfl, hd, hk, hp, hn, hf, ok, q⟩ := h
  refine ⟨_, (pss_cons (ps_if (pt_cmpR op_eq (pe_callB call_len rfl T.len (by decide +kernel) (pa_cons (pv 1) pa_nil)) pe_int (nomark _))
    (pss_one (ps_ret (pe_callC C_law_counter hr (pa_cons (pv 1) pa_nil))))
    pss_nil)
  (pss_cons (ps_set (i := 2) sc_law_bent.nd rfl (Or.inl rfl) (pe_callC C_law_draw hr (pa_cons (pv 0) (pa_cons pe_int pa_nil))))
  (pss_cons (ps_if (pt_cmpR op_eq (pv 2) pe_int (nomark _))
    (pss_one (ps_ret (pe_tupN (pa_cons (pe_callC C_law_pick hr (pa_cons (pv 0) (pa_cons (pe_lstN (pa_cons pe_str (pa_cons pe_str (pa_cons pe_str (pa_cons pe_str pa_nil))))) pa_nil))) (pa_cons (pe_ix ix_tup (pv 1) pe_int (fun _ _ => rfl)) (pa_cons (pe_ix ix_tup (pv 1) pe_int (fun _ _ => rfl)) pa_nil))))))
    pss_nil)
  (pss_cons (ps_if (pt_cmpR op_eq (pv 2) pe_int (nomark _))
    (pss_one (ps_ret (pe_tupN (pa_cons (pe_ix ix_tup (pv 1) pe_int (fun _ _ => rfl)) (pa_cons (pe_ix ix_tup (pv 1) pe_int (fun _ _ => rfl)) (pa_cons (pe_ix ix_tup (pv 1) pe_int (fun _ _ => rfl)) pa_nil))))))
    pss_nil)
  (pss_one (ps_ret (pe_ifExp (pt_cmpR op_lt (pv 2) pe_int (nomark _)) (pe_tupN (pa_cons (pe_ix ix_tup (pv 1) pe_int (fun _ _ => rfl)) (pa_cons (pe_callC C_law_bent hr (pa_cons (pv 0) (pa_cons (pe_ix ix_tup (pv 1) pe_int (fun _ _ => rfl)) pa_nil))) (pa_cons (pe_ix ix_tup (pv 1) pe_int (fun _ _ => rfl)) pa_nil)))) (pe_tupN (pa_cons (pe_ix ix_tup (pv 1) pe_int (fun _ _ => rfl)) (pa_cons (pe_ix ix_tup (pv 1) pe_int (fun _ _ => rfl)) (pa_cons (pe_callC C_law_bent hr (pa_cons (pv 0) (pa_cons (pe_ix ix_tup (pv 1) pe_int (fun _ _ => rfl)) pa_nil))) pa_nil))))))))))), ?_⟩
  have hpow : (2 : Nat) ^ 39 + 10 < 2 ^ 40 := by decide
  cases t with
  | leaf co m =>
    have hf0 := hf
    obtain ⟨a, rfl, hs⟩ := hf
    refine ⟨_, rfl, _, _, rfl, .inr ⟨_, hs, rfl⟩, rfl, _, rfl, iteT ⟨_, rfl, .ref a, .leaf co m, rfl, hf0, by show 0 < 20; decide, fun H1 u1 s1 f1 => ?_⟩⟩
    exact q u1 _ H1 f1 (FT.ctr_ok _ ok) (Nat.le_refl _) (Same.toKeep s1) (hp.same s1)
  | node sg l r =>
    obtain ⟨a, x, y, rfl, hs, hx, hy⟩ := hf
    have hdd : 1 + max l.dep r.dep < k + 1 := hd
    have hnd : n + 2 * (1 + max l.dep r.dep) < 2 ^ 39 := hn
    have ed : (FT.node sg l r).dep = 1 + max l.dep r.dep := rfl
    refine ⟨_, rfl, _, _, rfl, .inr ⟨_, hs, rfl⟩, rfl, _, rfl, iteF ⟨_, rfl, d, L, ns, n, 5, rfl, hp, by omega, by decide, by decide, fun w H1 w0 w1 k1 p1 => ?_⟩⟩
    have hs1 := seqT_keep hp.isDk k1 hs
    have hx1 := Fm.keep hp.isDk k1 hx
    have hy1 := Fm.keep hp.isDk k1 hy
    refine ⟨_, rfl, rfl, _, rfl, ?_⟩
    refine ite2 (fun c => ?_) (fun c => ?_)
    · refine ⟨_, rfl, le1k, fun l2 H2 s2 e2 => ⟨d, L, ns, n + 1, .ref l2, rfl, p1.same s2, by omega, .inl ⟨l2, _, rfl, SqL.of e2, by simp, le1k, fun z H3 hz k3 p3 => ?_⟩⟩⟩
      obtain ⟨s', rfl⟩ := fw_of hz
      have d1 := p1.isDk
      have kk : Keep d H1 H3 := (Same.toKeep s2).trans k3
      have hs3 := seqT_keep d1 kk hs1
      exact ⟨_, rfl, a, _, _, _, rfl, rfl, hs3, rfl, _, rfl, a, _, _, _, rfl, rfl, hs3, rfl, le1k, fun p H4 s4 e4 => q _ (.node s' l r) H4 ⟨p, _, _, rfl, e4, (Fm.keep d1 kk hx1).same s4, (Fm.keep d1 kk hy1).same s4⟩ ok (Nat.le_refl _) ((k1.trans kk).trans (Same.toKeep s4)) ((p3.same s4).mono (by rw [ed]; omega))⟩
    · refine ⟨_, rfl, rfl, _, rfl, ?_⟩
      refine ite2 (fun c2 => ?_) (fun c2 => ?_)
      · exact ⟨_, rfl, a, _, _, _, rfl, rfl, hs1, rfl, _, rfl, a, _, _, _, rfl, rfl, hs1, rfl, _, rfl, a, _, _, _, rfl, rfl, hs1, rfl, le1k, fun p H4 s4 e4 => q _ (.node sg r l) H4 ⟨p, _, _, rfl, e4, hy1.same s4, hx1.same s4⟩ ⟨ok.2, ok.1⟩ (by show 1 + max r.dep l.dep ≤ 1 + max l.dep r.dep; omega) (k1.trans (Same.toKeep s4)) ((p1.same s4).mono (by rw [ed]; omega))⟩
      · refine ⟨_, rfl, _, _, rfl, rfl, _, rfl, ?_⟩
        have d1 := p1.isDk
        refine ite2 (fun c3 => ?_) (fun c3 => ?_)
        · refine ⟨_, rfl, a, _, _, _, rfl, rfl, hs1, rfl, _, rfl, _, rfl, a, _, _, _, rfl, rfl, hs1, rfl, d, L, ns, n + 1, x, l, rfl, by omega, by omega, p1, by omega, hx1, ok.1, fun v' t' H2 f2 o2 d2 k2 p2 => ?_⟩
          refine ⟨_, rfl, a, _, _, _, rfl, rfl, seqT_keep d1 k2 hs1, rfl, le1k, fun p H4 s4 e4 => q _ (.node sg t' r) H4 ⟨p, _, _, rfl, e4, f2.same s4, (Fm.keep d1 k2 hy1).same s4⟩ ⟨o2, ok.2⟩ ?_ ((k1.trans k2).trans (Same.toKeep s4)) ((p2.same s4).mono (by rw [ed]; omega))⟩
          show 1 + max t'.dep r.dep ≤ 1 + max l.dep r.dep
          omega
        · refine ⟨_, rfl, a, _, _, _, rfl, rfl, hs1, rfl, _, rfl, a, _, _, _, rfl, rfl, hs1, rfl, _, rfl, _, rfl, a, _, _, _, rfl, rfl, hs1, rfl, d, L, ns, n + 1, y, r, rfl, by omega, by omega, p1, by omega, hy1, ok.2, fun v' t' H2 f2 o2 d2 k2 p2 => ?_⟩
          refine ⟨le1k, fun p H4 s4 e4 => q _ (.node sg l t') H4 ⟨p, _, _, rfl, e4, (Fm.keep d1 k2 hx1).same s4, f2.same s4⟩ ⟨ok.1, o2⟩ ?_ ((k1.trans k2).trans (Same.toKeep s4)) ((p2.same s4).mono (by rw [ed]; omega))⟩
          show 1 + max l.dep t'.dep ≤ 1 + max l.dep r.dep
          omega
theorem ok_law_deep (T : Txt K mg) (C_law_draw : Cal P w K mg base "_law_draw" 1 ["_law_pen", "_law_span"] (spDraw K)) (C_law_pick : Cal P w K mg base "_law_pick" 2 ["_law_pen", "_law_some"] (spPick K)) (F : Fun K "_law_deep" "_law_deep" s_law_deep f fd) : FnOk P w K mg base CX0 3 f fd P_law_deep (spDeepK K) := by
  refine F.ok sc_law_deep (fun vs H Q E h => ?_) (fun cdv A outer s H vs Q E hr h => ?_)
  · obtain ⟨d, L, ns, n, v, t, m, rfl, _⟩ := h
    rfl
  obtain ⟨d, L, ns, n, v, t, m, rfl, hm, hp, hn, hf, ok, kd, q⟩ := h
  refine ⟨_, (pss_cons (ps_for PassesOwn.never rfl (pi_range1 rfl T.range (pa_cons (pv 2) pa_nil)) (pg_name (i := 3) sc_law_deep.nd rfl (Or.inl rfl))
    (pss_cons (ps_set (i := 4) sc_law_deep.nd rfl (Or.inl rfl) (pe_callC C_law_pick hr (pa_cons (pv 0) (pa_cons (pe_lstN (pa_cons pe_str (pa_cons pe_str (pa_cons pe_str (pa_cons pe_str pa_nil))))) pa_nil))))
    (pss_one (ps_set (i := 1) sc_law_deep.nd rfl (Or.inl rfl) (pe_ifExp (pt_cmpR op_eq (pe_callC C_law_draw hr (pa_cons (pv 0) (pa_cons pe_int pa_nil))) pe_int (nomark _)) (pe_tupN (pa_cons (pv 4) (pa_cons (pv 1) (pa_cons (pe_tupN (pa_cons pe_str (pa_cons pe_str pa_nil))) pa_nil)))) (pe_tupN (pa_cons (pv 4) (pa_cons (pe_tupN (pa_cons pe_str (pa_cons pe_str pa_nil))) (pa_cons (pv 1) pa_nil)))))))))
  (pss_one (ps_ret (pv 1)))), ?_⟩
  have hpow : (2 : Nat) ^ 38 + 100 < 2 ^ 40 := by decide
  refine ⟨_, rfl, (m : Int), rfl, by omega, by omega, ?_⟩
  refine for_range (lo := 0) (n := (m : Int).toNat) (fun i σ H' => Keep d H H' ∧ Pen K H' d L ns (n + 2 * i) ∧ ∃ v' t' o3 o4, σ = [some (.ref d), some v', some (.int m), o3, o4] ∧ Fm Sg.kw K H' t' v' ∧ t'.Ok ∧ t'.Kd ∧ t'.dep = t.dep + i ∧ t'.lvs = t.lvs + i) ⟨Keep.refl _ _, hp, v, t, none, none, rfl, hf, ok, kd, rfl, rfl⟩
    (fun i σ H2 hi ⟨k2, p2, v', t', o3, o4, eσ, f2, o2, kd2, d2, l2⟩ => ?_) (fun σ H2 ⟨k2, p2, v', t', o3, o4, eσ, f2, o2, kd2, d2, l2⟩ => ?_)
  · subst eσ
    refine ⟨_, rfl, le1k, fun w1 H3 s3 e3 => ⟨d, L, ns, n + 2 * i, .ref w1, rfl, p2.same s3, by omega, .inl ⟨w1, _, rfl, SqL.of e3, by simp, le1k, fun z H4 hz k4 p4 => ?_⟩⟩⟩
    obtain ⟨sg, rfl⟩ := kw_of hz
    refine ⟨_, rfl, d, L, ns, n + 2 * i + 1, 2, rfl, p4, by omega, by decide, by decide, fun r H5 r0 r1 k5 p5 => ⟨rfl, _, rfl, ?_⟩⟩
    have kk : Keep d H2 H5 := ((Same.toKeep s3).trans k4).trans k5
    have f5 : Fm Sg.kw K H5 t' v' := Fm.keep p2.isDk kk f2
    have hn : isName (Str.ofString "z") = true := by decide +kernel
    have ez : (FT.leaf false (Str.ofString "z")).Ok := hn
    have fin : ∀ (H7 : Hp) (u : V) (t2 : FT), Same H5 H7 → Fm Sg.kw K H7 t2 u → t2.Ok → t2.Kd → t2.dep = t'.dep + 1 → t2.lvs = t'.lvs + 1 → Keep d H H7 ∧ Pen K H7 d L ns (n + 2 * (i + 1)) ∧ ∃ v' t' o3 o4, [some (V.ref d), some u, some (.int m), some (.int (0 + (i : Int))), some (.str sg.kw)] = [some (.ref d), some v', some (.int m), o3, o4] ∧ Fm Sg.kw K H7 t' v' ∧ t'.Ok ∧ t'.Kd ∧ t'.dep = t.dep + (i + 1) ∧ t'.lvs = t.lvs + (i + 1) :=
      fun H7 u t2 s7 f7 o7 kd7 d7 l7 => ⟨(k2.trans kk).trans (Same.toKeep s7), (p5.same s7).mono (by omega), u, t2, _, _, rfl, f7, o7, kd7, by omega, by omega⟩
    refine ite2 (fun c => ?_) (fun c => ?_)
    · refine ⟨_, rfl, _, rfl, le1k, fun p6 H6 s6 e6 => ⟨le1k, fun p7 H7 s7 e7 => fin H7 _ (.node sg t' (.leaf false (Str.ofString "z"))) (s6.trans s7) ⟨p7, _, _, rfl, e7, f5.same (s6.trans s7), p6, rfl, seqT_same s7 e6⟩ ⟨o2, ez⟩ ⟨kd2, rfl⟩ ?_ rfl⟩⟩
      show 1 + max t'.dep 0 = t'.dep + 1
      omega
    · refine ⟨_, rfl, le1k, fun p6 H6 s6 e6 => ⟨_, rfl, le1k, fun p7 H7 s7 e7 => fin H7 _ (.node sg (.leaf false (Str.ofString "z")) t') (s6.trans s7) ⟨p7, _, _, rfl, e7, ⟨p6, rfl, seqT_same s7 e6⟩, f5.same (s6.trans s7)⟩ ⟨ez, o2⟩ ⟨rfl, kd2⟩ ?_ ?_⟩⟩
      · show 1 + max 0 t'.dep = t'.dep + 1
        omega
      · show 1 + t'.lvs = t'.lvs + 1
        omega
  · subst eσ
    have e : (m : Int).toNat = m := by omega
    rw [e] at d2 l2 p2
    exact ⟨_, rfl, q v' t' H2 f2 o2 kd2 d2 l2 k2 p2⟩
end
end My

set_option Elab.async false
set_option linter.all false
set_option maxRecDepth 100000
namespace My
open PySem L2 SX
abbrev s_law_no_kinds : Stmt := top 48
abbrev N_law_no_kinds : List Str := ["_law_pen", "_law_kind_here", "_law_name", "_law_odd"]
abbrev P_law_no_kinds : List Str := ["_law_pen", "_law_kind_here"]
theorem sc_law_no_kinds : FnScope N_law_no_kinds P_law_no_kinds (defScope s_law_no_kinds) := ⟨rfl, rfl, rfl, by decide +kernel, rfl, by decide +kernel, by decide +kernel⟩
abbrev s_law_goods_right : Stmt := top 49
abbrev N_law_goods_right : List Str := ["_law_kind_here", "_law_form", "_law_leaf"]
theorem sc_law_goods_right : FnScope N_law_goods_right P_law_here (defScope s_law_goods_right) := ⟨rfl, rfl, rfl, by decide +kernel, rfl, by decide +kernel, by decide +kernel⟩
/-- what is no kind -/
def Odd (K : PySem.W.Frag) (no : PyData → Bool) (H : Hp) (v : V) : Prop := ∃ D, Dp K H v D ∧ shortD D = true ∧ D.depth ≤ 40 ∧ no D = false
theorem Odd.same {K : PySem.W.Frag} {no : PyData → Bool} {H H' : Hp} {v : V} (s : Same H H') : Odd K no H v → Odd K no H' v := fun ⟨D, h, r⟩ => ⟨D, dp_same s _ _ h, r⟩
theorem Odd.keep {K : PySem.W.Frag} {no : PyData → Bool} {d : Addr} {H H' : Hp} {v : V} (hd : IsDk H d) (k : Keep d H H') : Odd K no H v → Odd K no H' v := fun ⟨D, h, r⟩ => ⟨D, dp_keep hd k _ _ h, r⟩
def spNoKinds (K : PySem.W.Frag) : Sp := fun vs H Q _ => ∃ (d L : Addr) (ns : List Int) (n : Nat) (v : V) (t : FT), vs = [.ref d, v] ∧ Pen K H d L ns n ∧ n < 2 ^ 37 ∧ Fm Sg.kw K H t v ∧ t.Ok ∧ t.Kd ∧ t.dep ≤ 4 ∧
  ∀ (l : Addr) (xs : List V) (H' : Hp), H' l = some (.lst xs) → xs ≠ [] → xs.length ≤ 100 → (∀ x ∈ xs, Odd K (isKind 12) H' x) → Keep d H H' → Pen K H' d L ns (n + 30) → Q (.ref l) H'
def spGoodsRight (K : PySem.W.Frag) : Sp := fun vs H Q _ => ∃ v t, vs = [v] ∧ Fm Sg.kw K H t v ∧ t.Ok ∧ t.Kd ∧ t.dep ≤ 12 ∧ t.lvs ≤ 50 ∧ ∀ H', Same H H' → Q (.bl true) H'
theorem bad_names : ∀ z ∈ [Str.ofString "", Str.ofString "A", Str.ofString "1a", Str.ofString "a b", Str.ofString "abcdefghijklm", Str.ofString "a~"], isName z = false ∧ okStr z = true := by decide +kernel
theorem kind2 (k : Nat) {a n : PyData} (h : memD a [Str.ofString "good"] = false ∨ isNameD n = false) : isKind k (.tuple [a, n]) = false := by
  rw [isKind_2]
  cases a with
  | str x =>
    show (decide (x = Str.ofString "good") && isNameD n) = false
    rcases h with h | h
    · have e : decide (x = Str.ofString "good") = false := by
        have h2 : decide (x ∈ [Str.ofString "good"]) = false := h
        rw [← h2]
        exact decide_eq_decide.mpr (by simp)
      rw [e]; rfl
    · rw [h, Bool.and_false]
  | _ => rfl
theorem kind3 (k : Nat) {a b c : PyData} (h : memD a kindW = false ∨ isKind k b = false ∨ isKind k c = false) : isKind (k + 1) (.tuple [a, b, c]) = false := by
  rw [isKind_3]
  cases a with
  | str x =>
    show (decide (x ∈ kindW) && (isKind k b && isKind k c)) = false
    rcases h with h | h | h
    · have h2 : decide (x ∈ kindW) = false := h
      rw [h2]; rfl
    · rw [h, Bool.false_and, Bool.and_false]
    · rw [h, Bool.and_false, Bool.and_false]
  | _ => rfl
theorem FT.names_ok : ∀ t : FT, t.Ok → ∀ z ∈ t.names, isName z = true
  | .leaf _ n, h, z, hz => by rw [List.mem_singleton.mp hz]; exact h
  | .node _ l r, h, z, hz => (List.mem_append.mp hz).elim (FT.names_ok l h.1 z) (FT.names_ok r h.2 z)
section
variable {P : Program} {w : World} {K : PySem.W.Frag} {mg : Str → Option Value} {base : Heap} {f : Addr} {fd : FuncData} {CB : Addr}
theorem ok_law_goods_right (T : Txt K mg) (C_law_form_of : Cal P w K mg base "_law_form_of" 34 P_law_here (spLFormOf K 13)) (C_law_leaves : Cal P w K mg base "_law_leaves" 14 P_law_form (spLeaves K 13)) (C_law_once : Cal P w K mg base "_law_once" 1 P_law_once (spOnce K))
    (Cgoods_in : CalX P w K mg base "goods_in" 40 Pkind (spGoodsIn K CB)) (F : Fun K "_law_goods_right" "_law_goods_right" s_law_goods_right f fd) : FnOk P w K mg base (L2.CX P w) 45 f fd P_law_here (spGoodsRight K) := by
  refine F.okX sc_law_goods_right (fun vs H Q E h => ?_) (fun cdv A outer s H vs Q E hr h => ?_)
  · obtain ⟨v, t, rfl, _⟩ := h
    rfl
  obtain ⟨v, t, rfl, hf, ok, kd, hd, hl, q⟩ := h
  refine ⟨_, (pss_cons (ps_set (i := 1) sc_law_goods_right.nd rfl (Or.inl rfl) (pe_callC C_law_form_of hr (pa_cons (pv 0) pa_nil)))
  (pss_one (ps_ret (pe_cmpR (op_eqD hr.units) (pe_callS Cgoods_in.ok (hr.mono (by decide)) rfl Cgoods_in.m Cgoods_in.kp Cgoods_in.b (fun σ => passAt (takes_of rfl rfl rfl rfl) σ) (pa_cons (pv 0) pa_nil)) (pe_callTy call_tuple_of rfl T.tuple (by decide +kernel) (pa_cons (pe_callC C_law_once hr (pa_cons (pe_lc (own := [("_law_leaf", 2)]) (g := (gName 2)) (te := tOp (rIxT K) (tVar 2) (tC (.int 1))) rfl sc_law_goods_right.nd (pi_list (pe_callC C_law_leaves hr (pa_cons (pv 1) pa_nil))) (blkOk_by (own := [("_law_leaf", 2)]) (N := N_law_goods_right) (sc := defScope s_law_goods_right) (by decide +kernel)) (fun _ _ _ _ _ => (pg_name (i := 2) sc_law_goods_right.nd rfl (Or.inl rfl))) (fun _ _ _ _ _ => pts_nil) (fun _ _ _ _ _ => (pe_ix ix_tup (pv 2) pe_int (fun _ _ => rfl)))) pa_nil)) pa_nil)) (nomark _))))), ?_⟩
  refine ⟨_, rfl, v, t, rfl, hf, kd, by omega, by decide, fun H1 u1 s1 f1 => ?_⟩
  refine ⟨_, rfl, _, rfl, .inl ⟨t, hf.same s1, ok, kd, hd, hl, fun H2 l2 ys s2 e2 srt nd mem => ?_⟩⟩
  have fl : (fOf t).lvs = t.lvs := by rw [← FT.names_len, fOf_names, FT.names_len]
  have fn : (fOf t).leafs.map (·.2) = t.names := by rw [FT.leafs_names, fOf_names]
  have nok := FT.names_ok t ok
  have nlen := FT.names_len t
  refine ⟨_, rfl, u1, Sg.fw, fOf t, rfl, f1.same s2, by rw [fOf_dep]; omega, by omega, fun H3 l3 us s3 e3 pr => ⟨l3, rfl, ⟨us, SqL.of e3⟩, fun D nD => ?_⟩⟩
  have ulen : us.length = t.names.length := by rw [prd_len pr, ← fn, List.length_map]
  refine lc_it (walk_list (xs := us)) (fun i H' => Same H3 H' ∧ H' D = some (.lst ((t.names.take i).map V.str))) ⟨same_new nD _, upd_same⟩ (fun i H' _ p => SqL.of (p.1 _ _ e3)) (fun i y H4 H5 hi p yy => ?_) (fun H4 p => ?_)
  · obtain ⟨rfl, hy⟩ := yy
    obtain ⟨s4, e4⟩ := p
    obtain ⟨b, hb, aa, rfl, hs⟩ := prd_at pr hy
    have hz : t.names[i]? = some b.2 := by rw [← fn, List.getElem?_map, hb]; rfl
    refine ⟨rfl, _, rfl, aa, _, _, _, rfl, rfl, seqT_same s4 hs, rfl, _, e4, ?_, same_fresh s4 nD, ?_⟩
    · rw [List.length_map, List.length_take]
      exact Nat.lt_of_le_of_lt (Nat.min_le_right _ _) (Nat.lt_of_le_of_lt (by omega : t.names.length ≤ 50) (by decide))
    · rw [upd_same, take_next hz, List.map_append]
      rfl
  · obtain ⟨s4, e4⟩ := p
    rw [ulen, List.take_length] at e4
    refine ⟨D, t.names, rfl, SqL.of e4, by omega, fun z hz => okStr_of_name (nok z hz), fun H5 p ys2 s5 e5 pw2 nd2 mem2 => ⟨p, _, rfl, .inl ⟨SqL.of e5, fun p6 np6 => ?_⟩⟩⟩
    have eq : ys = ys2 := sorted_eq (sorted_pw srt) pw2 nd nd2 fun x => (mem x).trans (mem2 x).symm
    have oky : ∀ z ∈ ys, okStr z = true := fun z hz => okStr_of_name (nok z ((mem z).mp hz))
    have s6 := same_new np6 (.tup (ys2.map V.str))
    have s26 := ((s3.trans s4).trans s5).trans s6
    rw [← eq] at s6 s26 ⊢
    refine ⟨.tuple (ys.map PyData.str), .tuple (ys.map PyData.str), .tup (seqT_same s26 e2) (dpAll_strs ys), .tup (SqT.of upd_same) (dpAll_strs ys), shaped_tstrs oky, shaped_tstrs oky, ?_⟩
    have lay : (PyData.tuple (ys.map PyData.str)).canLay0 = true := canLay_of _ (by unfold shortD; exact short_strs ys oky)
    rw [SeqAt.eqv_refl _ lay]
    exact q _ ((s1.trans s2).trans s26)
end
end My

set_option Elab.async false
set_option linter.all false
set_option maxRecDepth 100000
namespace My
open PySem L2 SX
theorem ft_vals {wd : Sg → Str} {K : PySem.W.Frag} {H : Hp} {t : FT} {v : V} (h : Fm wd K H t v) : ∃ a ys, v = .ref a ∧ SqT K H a ys ∧ ys.length ≤ 3 ∧ ∃ ds, t.data wd = .tuple ds ∧ DpAll K H ys ds := by
  have h2 := h.dp
  cases t with
  | leaf co n =>
    obtain ⟨a, e, hs⟩ := h
    exact ⟨a, _, e, hs, Nat.le_of_ble_eq_true rfl, _, rfl, .cons (.str _) (.cons (.str _) .nil)⟩
  | node s l r =>
    obtain ⟨a, x, y, e, hs, hl, hr⟩ := h
    exact ⟨a, _, e, hs, Nat.le_of_ble_eq_true rfl, _, rfl, .cons (.str _) (.cons hl.dp (.cons hr.dp .nil))⟩
section
variable {P : Program} {w : World} {K : PySem.W.Frag} {mg : Str → Option Value} {base : Heap} {f : Addr} {fd : FuncData} {CB : Addr}
set_option maxHeartbeats 2000000 in
theorem ok_law_no_kinds (T : Txt K mg) (C_law_pick : Cal P w K mg base "_law_pick" 2 ["_law_pen", "_law_some"] (spPick K)) (C_law_deep : Cal P w K mg base "_law_deep" 3 P_law_deep (spDeepK K)) (F : Fun K "_law_no_kinds" "_law_no_kinds" s_law_no_kinds f fd) : FnOk P w K mg base CX0 4 f fd P_law_no_kinds (spNoKinds K) := by
  refine F.ok sc_law_no_kinds (fun vs H Q E h => ?_) (fun cdv A outer s H vs Q E hr h => ?_)
  · obtain ⟨d, L, ns, n, v, t, rfl, _⟩ := h
    rfl
  obtain ⟨d, L, ns, n, v, t, rfl, hp, hn, hf, ok, kd, hd, q⟩ := h
  refine ⟨_, (pss_cons (ps_set (i := 2) sc_law_no_kinds.nd rfl (Or.inl rfl) (pe_callC C_law_pick hr (pa_cons (pv 0) (pa_cons (pe_lstN (pa_cons pe_str (pa_cons pe_str (pa_cons pe_str (pa_cons pe_str (pa_cons pe_str (pa_cons pe_non (pa_cons pe_int (pa_cons (pe_tupN (pa_cons pe_str pa_nil)) (pa_cons pe_str pa_nil)))))))))) pa_nil))))
  (pss_cons (ps_set (i := 3) sc_law_no_kinds.nd rfl (Or.inl rfl) (pe_lstN (pa_cons pe_non (pa_cons pe_int (pa_cons pe_bl (pa_cons pe_str (pa_cons (pe_tupN pa_nil) (pa_cons (pe_tupN (pa_cons pe_str pa_nil)) (pa_cons (pe_tupN (pa_cons pe_str (pa_cons (pv 2) pa_nil))) (pa_cons (pe_tupN (pa_cons pe_str (pa_cons pe_str pa_nil))) (pa_cons (pe_lstN (pa_cons pe_str (pa_cons pe_str pa_nil))) (pa_cons (pe_callTy call_listN rfl T.list (by decide +kernel) (pa_cons (pv 1) pa_nil)) pa_nil))))))))))))
  (pss_cons (ps_set (i := 3) sc_law_no_kinds.nd rfl (Or.inl rfl) (pe_op op_catLN (pv 3) (pe_lstN (pa_cons (pe_tupN (pa_cons pe_str (pa_cons (pv 1) pa_nil))) (pa_cons (pe_tupN (pa_cons pe_str (pa_cons (pv 1) (pa_cons (pv 1) (pa_cons (pv 1) pa_nil))))) (pa_cons (pe_tupN (pa_cons pe_str (pa_cons (pv 1) (pa_cons (pv 1) pa_nil)))) (pa_cons (pe_tupN (pa_cons pe_str (pa_cons (pv 1) (pa_cons pe_str pa_nil)))) pa_nil)))))))
  (pss_cons (ps_set (i := 3) sc_law_no_kinds.nd rfl (Or.inl rfl) (pe_op op_catLN (pv 3) (pe_lstN (pa_cons (pe_tupN (pa_cons pe_str (pa_cons (pv 1) (pa_cons pe_non pa_nil)))) (pa_cons (pe_tupN (pa_cons pe_int (pa_cons (pv 1) (pa_cons (pv 1) pa_nil)))) (pa_cons (pe_tupN (pa_cons (pe_lstN (pa_cons pe_str pa_nil)) (pa_cons (pv 1) (pa_cons (pv 1) pa_nil)))) (pa_cons (pe_tupN (pa_cons pe_str (pa_cons (pe_lstN (pa_cons pe_str (pa_cons pe_str pa_nil))) (pa_cons (pv 1) pa_nil)))) pa_nil)))))))
  (pss_one (ps_ret (pe_op op_catLN (pv 3) (pe_lstN (pa_cons (pe_callC C_law_deep hr (pa_cons (pv 0) (pa_cons (pe_tupN (pa_cons pe_str (pa_cons pe_str pa_nil))) (pa_cons pe_int pa_nil)))) pa_nil))))))))), ?_⟩
  have hpow : (2 : Nat) ^ 37 + 1000 < 2 ^ 38 ∧ (2 : Nat) ^ 38 + 100 < 2 ^ 40 := by decide
  refine ⟨_, rfl, le1k, fun a0 Ha sa ea => ⟨le1k, fun w1 H1 s1 e1 => ?_⟩⟩
  refine ⟨d, L, ns, n, .ref w1, rfl, (hp.same sa).same s1, by omega, .inl ⟨w1, _, rfl, SqL.of e1, by simp, le1k, fun nm H2 hnm k2 p2 => ?_⟩⟩
  have d1 : IsDk H1 d := ((hp.same sa).same s1).isDk
  have k02 : Keep d H H2 := (Same.toKeep (sa.trans s1)).trans k2
  obtain ⟨Dn, hDn, nDn, sDn, dDn⟩ : ∃ Dn, Dp K H2 nm Dn ∧ isNameD Dn = false ∧ shortD Dn = true ∧ Dn.depth ≤ 2 := by
    simp only [List.mem_cons, List.not_mem_nil, or_false] at hnm
    have st : ∀ z : Str, isName z = false → okStr z = true → ∃ Dn, Dp K H2 (.str z) Dn ∧ isNameD Dn = false ∧ shortD Dn = true ∧ Dn.depth ≤ 2 := fun z h1 h2 => ⟨.str z, .str z, h1, by unfold shortD; exact h2, by simp [PyData.depth]⟩
    rcases hnm with rfl | rfl | rfl | rfl | rfl | rfl | rfl | rfl | rfl
    · exact st _ (by decide +kernel) (by decide +kernel)
    · exact st _ (by decide +kernel) (by decide +kernel)
    · exact st _ (by decide +kernel) (by decide +kernel)
    · exact st _ (by decide +kernel) (by decide +kernel)
    · exact st _ (by decide +kernel) (by decide +kernel)
    · exact ⟨.none, .non, rfl, rfl, by decide⟩
    · exact ⟨.int 3, .int 3, rfl, rfl, by decide⟩
    · exact ⟨.tuple [.str "a"], .tup (seqT_keep d1 k2 (seqT_same s1 ea)) (.cons (.str _) .nil), rfl, by decide +kernel, by simp [PyData.depth, PyData.depthAll]⟩
    · exact st _ (by decide +kernel) (by decide +kernel)
  have f2 : Fm Sg.kw K H2 t v := Fm.keep hp.isDk k02 hf
  obtain ⟨ka, kys, rfl, hks, kle, kds, ekds, hkds⟩ := ft_vals f2
  have tsh := ft_short okStr_kw t ok
  have tdp : (t.data Sg.kw).depth ≤ 5 := by rw [ft_depth]; omega
  have kle' : kys.length ≤ 1000 := by omega
  refine ⟨le1k, fun a1 H3 s3 e3 => ⟨le1k, fun a2 H4 s4 e4 => ⟨_, rfl, le1k, fun a3 H5 s5 e5 => ⟨le1k, fun a4 H6 s6 e6 => ⟨le1k, fun a5 H7 s7 e7 => ⟨_, rfl, ka, kys, rfl, .inr (seqT_same (s3.trans (s4.trans (s5.trans (s6.trans s7)))) hks), fun a6 H8 s8 e8 => ⟨le1k, fun l1 H9 s9 e9 => ?_⟩⟩⟩⟩⟩⟩⟩
  have x89 := s9
  have x79 := s8.trans x89
  have x69 := s7.trans x79
  have x59 := s6.trans x69
  have x49 := s5.trans x59
  have x39 := s4.trans x49
  have x29 := s3.trans x39
  have odd1 : ∀ x ∈ [V.non, .int 5, .bl true, .str "a", .ref a1, .ref a2, .ref a3, .ref a4, .ref a5, .ref a6], Odd K (isKind 12) H9 x := by
    intro x hx
    simp only [List.mem_cons, List.not_mem_nil, or_false] at hx
    rcases hx with rfl | rfl | rfl | rfl | rfl | rfl | rfl | rfl | rfl | rfl
    · exact ⟨.none, .non, rfl, by decide, rfl⟩
    · exact ⟨.int 5, .int 5, rfl, by decide, rfl⟩
    · exact ⟨.bool true, .bl true, rfl, by decide, rfl⟩
    · exact ⟨.str "a", .str _, by decide +kernel, by decide, rfl⟩
    · exact ⟨.tuple [], .tup (seqT_same x39 e3) .nil, rfl, by decide, rfl⟩
    · exact ⟨.tuple [.str "good"], .tup (seqT_same x49 e4) (.cons (.str _) .nil), by decide +kernel, by simp [PyData.depth, PyData.depthAll], rfl⟩
    · refine ⟨.tuple [.str "good", Dn], .tup (seqT_same x59 e5) (.cons (.str _) (.cons (dp_same x29 _ _ hDn) .nil)), ?_, by simp only [PyData.depth, PyData.depthAll]; omega, kind2 12 (.inr nDn)⟩
      unfold shortD
      simp only [shortAll, sDn, Bool.and_true]
      decide +kernel
    · exact ⟨.tuple [.str "counter", .str "a"], .tup (seqT_same x69 e6) (.cons (.str _) (.cons (.str _) .nil)), by decide +kernel, by simp [PyData.depth, PyData.depthAll], kind2 12 (.inl (by decide +kernel))⟩
    · exact ⟨.list [.str "good", .str "a"], .lst (SqL.of (x79 _ _ e7)) (.cons (.str _) (.cons (.str _) .nil)), by decide +kernel, by simp [PyData.depth, PyData.depthAll], rfl⟩
    · refine ⟨.list kds, .lst (SqL.of (x89 _ _ e8)) (dpAll_same x29 _ _ hkds), ?_, ?_, rfl⟩
      · rw [ekds] at tsh
        unfold shortD at tsh ⊢
        exact tsh
      · rw [ekds] at tdp
        simp only [PyData.depth] at tdp ⊢
        omega
  have f9 : Fm Sg.kw K H9 t (.ref ka) := f2.same x29
  have D9 := f9.dp
  obtain ⟨Dk, eDk⟩ : ∃ Dk, Dk = t.data Sg.kw := ⟨_, rfl⟩
  rw [← eDk] at D9 tsh tdp
  refine ⟨_, rfl, _, rfl, le1k, fun b1 G1 g1 u1 => ⟨_, rfl, _, rfl, _, rfl, le1k, fun b2 G2 g2 u2 => ⟨_, rfl, _, rfl, le1k, fun b3 G3 g3 u3 => ⟨_, rfl, le1k, fun b4 G4 g4 u4 => ⟨le1k, fun l2 G5 g5 u5 => ⟨l1, l2, _, _, rfl, rfl, g5 _ _ (g4 _ _ (g3 _ _ (g2 _ _ (g1 _ _ e9)))), u5, le1k, fun l3 G6 g6 u6 => ?_⟩⟩⟩⟩⟩⟩
  have y56 := g6
  have y46 := g5.trans y56
  have y36 := g4.trans y46
  have y26 := g3.trans y36
  have y16 := g2.trans y26
  have y06 := g1.trans y16
  have D6 := dp_same y06 _ _ D9
  have odd2 : ∀ x ∈ [V.ref b1, .ref b2, .ref b3, .ref b4], Odd K (isKind 12) G6 x := by
    intro x hx
    simp only [List.mem_cons, List.not_mem_nil, or_false] at hx
    rcases hx with rfl | rfl | rfl | rfl
    · exact ⟨.tuple [.str "pair", Dk], .tup (seqT_same y16 u1) (.cons (.str _) (.cons D6 .nil)), (by unfold shortD; simp only [shortAll, tsh, Bool.and_true]; decide +kernel), by simp only [PyData.depth, PyData.depthAll]; omega, kind2 12 (.inl (by decide +kernel))⟩
    · exact ⟨.tuple [.str "pair", Dk, Dk, Dk], .tup (seqT_same y26 u2) (.cons (.str _) (.cons D6 (.cons D6 (.cons D6 .nil)))), (by unfold shortD; simp only [shortAll, tsh, Bool.and_true]; decide +kernel), by simp only [PyData.depth, PyData.depthAll]; omega, isKind_len 12 _ (by simp) (by simp)⟩
    · exact ⟨.tuple [.str "both", Dk, Dk], .tup (seqT_same y36 u3) (.cons (.str _) (.cons D6 (.cons D6 .nil))), (by unfold shortD; simp only [shortAll, tsh, Bool.and_true]; decide +kernel), by simp only [PyData.depth, PyData.depthAll]; omega, kind3 11 (.inl (by decide +kernel))⟩
    · exact ⟨.tuple [.str "pair", Dk, .str "a"], .tup (seqT_same y46 u4) (.cons (.str _) (.cons D6 (.cons (.str _) .nil))), (by unfold shortD; simp only [shortAll, tsh, Bool.and_true]; decide +kernel), by simp only [PyData.depth, PyData.depthAll]; omega, kind3 11 (.inr (.inr rfl))⟩
  refine ⟨_, rfl, _, rfl, le1k, fun c1 J1 j1 v1 => ⟨_, rfl, _, rfl, le1k, fun c2 J2 j2 v2 => ⟨le1k, fun c3 J3 j3 v3 => ⟨_, rfl, _, rfl, le1k, fun c4 J4 j4 v4 => ⟨le1k, fun c5 J5 j5 v5 => ⟨_, rfl, le1k, fun c6 J6 j6 v6 => ⟨le1k, fun l4 J7 j7 v7 => ⟨l3, l4, _, _, rfl, rfl, j7 _ _ (j6 _ _ (j5 _ _ (j4 _ _ (j3 _ _ (j2 _ _ (j1 _ _ u6)))))), v7, le1k, fun l5 J8 j8 v8 => ?_⟩⟩⟩⟩⟩⟩⟩⟩
  have z78 := j8
  have z68 := j7.trans z78
  have z58 := j6.trans z68
  have z48 := j5.trans z58
  have z38 := j4.trans z48
  have z28 := j3.trans z38
  have z18 := j2.trans z28
  have z08 := j1.trans z18
  have D8 := dp_same z08 _ _ D6
  have odd3 : ∀ x ∈ [V.ref c1, .ref c2, .ref c4, .ref c6], Odd K (isKind 12) J8 x := by
    intro x hx
    simp only [List.mem_cons, List.not_mem_nil, or_false] at hx
    rcases hx with rfl | rfl | rfl | rfl
    · exact ⟨.tuple [.str "to", Dk, .none], .tup (seqT_same z18 v1) (.cons (.str _) (.cons D8 (.cons .non .nil))), (by unfold shortD; simp only [shortAll, tsh, Bool.and_true]; decide +kernel), by simp only [PyData.depth, PyData.depthAll]; omega, kind3 11 (.inr (.inr rfl))⟩
    · exact ⟨.tuple [.int 3, Dk, Dk], .tup (seqT_same z28 v2) (.cons (.int _) (.cons D8 (.cons D8 .nil))), (by unfold shortD; simp only [shortAll, tsh, Bool.and_true]; decide +kernel), by simp only [PyData.depth, PyData.depthAll]; omega, kind3 11 (.inl rfl)⟩
    · exact ⟨.tuple [.list [.str "pair"], Dk, Dk], .tup (seqT_same z48 v4) (.cons (.lst (SqL.of (z38 _ _ v3)) (.cons (.str _) .nil)) (.cons D8 (.cons D8 .nil))), (by unfold shortD; simp only [shortAll, tsh, Bool.and_true]; decide +kernel), by simp only [PyData.depth, PyData.depthAll]; omega, kind3 11 (.inl rfl)⟩
    · exact ⟨.tuple [.str "pair", .list [.str "good", .str "a"], Dk], .tup (seqT_same z68 v6) (.cons (.str _) (.cons (.lst (SqL.of (z58 _ _ v5)) (.cons (.str _) (.cons (.str _) .nil))) (.cons D8 .nil))), (by unfold shortD; simp only [shortAll, tsh, Bool.and_true]; decide +kernel), by simp only [PyData.depth, PyData.depthAll]; omega, kind3 11 (.inr (.inl rfl))⟩
  have s28 : Same H2 J8 := (x29.trans y06).trans z08
  have p8 : Pen K J8 d L ns (n + 1) := p2.same s28
  have nb : isName (Str.ofString "b") = true := by decide +kernel
  refine ⟨_, rfl, _, rfl, le1k, fun tb M1 m1 w1b => ⟨d, L, ns, n + 1, .ref tb, .leaf false (Str.ofString "b"), 13, rfl, by decide, p8.same m1, by omega, ⟨tb, rfl, w1b⟩, nb, rfl, fun dv dt M2 fd2 od2 kd2 dd2 ld2 k3 p3 => ⟨le1k, fun l6 M3 m3 w3 => ?_⟩⟩⟩
  have d8 := p8.isDk
  have l5d : l5 ≠ d := fun e => by
    obtain ⟨kvs, h⟩ := d8
    rw [← e, v8] at h
    cases h
  have kB : Keep d J8 M3 := ((Same.toKeep m1).trans k3).trans (Same.toKeep m3)
  refine ⟨l5, l6, _, _, rfl, rfl, kB _ _ l5d v8, w3, le1k, fun l7 M4 m4 w4 => ?_⟩
  have kC : Keep d J8 M4 := kB.trans (Same.toKeep m4)
  refine q l7 _ M4 w4 (by simp) (Nat.le_of_ble_eq_true rfl) (fun x hx => ?_) ((k02.trans (Same.toKeep s28)).trans kC) (((p3.same m3).same m4).mono (by omega))
  rcases List.mem_append.mp hx with hx | hx
  · rcases List.mem_append.mp hx with hx | hx
    · rcases List.mem_append.mp hx with hx | hx
      · exact Odd.keep d8 kC ((odd1 x hx).same (y06.trans z08))
      · exact Odd.keep d8 kC ((odd2 x hx).same z08)
    · exact Odd.keep d8 kC (odd3 x hx)
  · rw [List.mem_singleton.mp hx]
    have fd4 : Fm Sg.kw K M4 dt dv := fd2.same (m3.trans m4)
    have e13 : dt.dep = 13 := by rw [dd2]; rfl
    exact ⟨_, fd4.dp, ft_short okStr_kw dt od2, by rw [ft_depth]; omega, ft_no_kind dt 12 (by omega)⟩
end
end My

set_option Elab.async false
set_option linter.all false
set_option maxRecDepth 100000
namespace My
open PySem L2
namespace Told
variable {X : Cx} {k j : Nat} {ps : List Str} {sp : Sp} {x : Str} {p pos : Pos} {e : Expr} {es : List Expr} {t : TA}
/-- a call of a def that may raise, where it does not -/
theorem pe_callV (C : CalX X.prog X.w X.K X.mg X.base x k ps sp) (hr : Room j X.A) (ha : PA X (e :: es) t) (hk : k ≤ j := by omega) (hg : Gl X x := by rfl) (hdb : (x == ("__debug__" : Str)) = false := by decide)
    (he : starEach (e :: es) X.env = (false, eval e X.env) :: starEach es X.env := by rfl) (hpl : (backTo pos (starEach es X.env)).any (·.1) = false := by rfl) :
    PE X (.Call (.Name x p) (e :: es) [] pos) (tCall sp [] E0 t) := pe_call C.ok (hr.mono hk) hg C.m C.kp C.b .nil passL ha hdb he hpl
end Told
/-- a def of the text whose code object is known -/
structure FunC (K : PySem.W.Frag) (x qual : Str) (st : Stmt) (f : Addr) (fd : FuncData) (cdv : Value) : Prop where
  ex : ∃ (oc : Value) (od : Option Addr) (kV doc pm : Value) (an : Option Addr) (ct : Value) (osl : Array (Option Value)),
    fd = PySem.W.fnOf x qual (defArgs st) (defBody st) (defScope st) .none kV doc pm an cdv ct ∧ K.lookup f = some ⟨oc, od, .func fd, osl⟩ ∧ PySem.W.codeIn K cdv qual = true
theorem FunC.ok {P : Program} {w : World} {K : PySem.W.Frag} {mg : Str → Option Value} {base : Heap} {x qual : Str} {st : Stmt} {f : Addr} {fd : FuncData} {cdv : Value} {N ps : List Str} {k : Nat} {sp : Sp} (F : FunC K x qual st f fd cdv) (S : FnScope N ps (defScope st))
    (len : ∀ vs H Q E, sp vs H Q E → vs.length = ps.length)
    (hbody : ∀ (A : Around) (outer : List Env) (s : Shared) (H : Hp) (vs : List V) (Q : VK) (E : XK), Room k (A.deeper (PyProof.Rows.envOfC qual (defScope st) s.heap.objs.size f cdv)) → sp vs H Q E →
      ∃ t, PSs (cxOf CX0 P w K mg base N qual (defScope st) f cdv A outer s H E).nox (defBody st) t ∧ t { nx := fun _ H' => Q .non H', rt := Q } (L2.start N vs) H) : FnOk P w K mg base CX0 (k + 1) f fd ps sp := by
  obtain ⟨oc, od, kV, doc, pm, an, ct, osl, rfl, lk, hcd⟩ := F.ex
  refine fn_of lk hcd S len fun A outer s H vs Q E hr hsp => ?_
  obtain ⟨t, h, q⟩ := hbody A outer s H vs Q E hr hsp
  exact ⟨t, h.nox, q⟩
theorem cells_mono {env : Env} {N : List Str} {σ τ : L2.St} {C : Addr → Option Obj} (h : ∀ (i : Nat) (x : Str) (v : V), N[i]? = some x → σ[i]? = some (some v) → (env.kindOf x = some .cell ∨ env.kindOf x = some .free) → τ[i]? = some (some v)) (K : Clo.CellsAt env N τ C) : Clo.CellsAt env N σ C :=
  ⟨K.all, fun i x v c hn hs hk e => K.val i x v c hn (h i x v hn hs hk) hk e⟩
theorem minus_plus {C : Addr → Option Obj} {H : Hp} (h : ∀ c o, C c = some o → H c = none) : Clo.minus C (Clo.plus C H) = H := by
  funext b
  cases e : C b with
  | none => rw [Clo.minus_out e, Clo.plus_out e]
  | some o => rw [Clo.minus_in e, h b o e]
section
variable {K : PySem.W.Frag}
theorem seqT_x {H H' : Hp} (k : LamX.ExtN H H') {a : Addr} {xs : List V} (h : SqT K H a xs) : SqT K H' a xs := by
  rcases h with (h | ⟨o, h⟩) | h
  · exact .inl (.inl (k _ _ h fun _ z => nomatch z))
  · exact .inl (.inr ⟨o, k _ _ h fun _ z => nomatch z⟩)
  · exact .inr h
theorem seqL_x {H H' : Hp} (k : LamX.ExtN H H') {a : Addr} {xs : List V} (h : SqL K H a xs) : SqL K H' a xs := by
  rcases h with (h | ⟨o, h⟩) | h
  · exact .inl (.inl (k _ _ h fun _ z => nomatch z))
  · exact .inl (.inr ⟨o, k _ _ h fun _ z => nomatch z⟩)
  · exact .inr h
mutual
theorem dp_x {H H' : Hp} (k : LamX.ExtN H H') : ∀ (D : PyData) (v : V), Dp K H v D → Dp K H' v D
  | .none, _, h => by cases h; exact .non
  | .bool b, _, h => by cases h; exact .bl b
  | .int i, _, h => by cases h; exact .int i
  | .str x, _, h => by cases h; exact .str x
  | .list ds, _, h => by cases h with | lst hs ha => exact .lst (seqL_x k hs) (dpAll_x k ds _ ha)
  | .tuple ds, _, h => by cases h with | tup hs ha => exact .tup (seqT_x k hs) (dpAll_x k ds _ ha)
  | .dict _, _, h => by cases h
theorem dpAll_x {H H' : Hp} (k : LamX.ExtN H H') : ∀ (Ds : List PyData) (vs : List V), DpAll K H vs Ds → DpAll K H' vs Ds
  | [], _, h => by cases h; exact .nil
  | D :: Ds, _, h => by cases h with | cons h1 h2 => exact .cons (dp_x k D _ h1) (dpAll_x k Ds _ h2)
end
end
theorem tabs_keep {d : Addr} {H H' : Hp} {Tb : List (Addr × Str)} (hd : IsDk H d) (k : Keep d H H') (t : LamX.Tabs Tb H) : LamX.Tabs Tb H' := fun p hp => by
  obtain ⟨kvs, hd⟩ := hd
  obtain ⟨ps, h1, h2, h3⟩ := t p hp
  refine ⟨ps, k _ _ (fun z => by rw [z, hd] at h1; cases h1) h1, h2, fun pos cv hc => ?_⟩
  obtain ⟨c, e, hc2⟩ := h3 pos cv hc
  exact ⟨c, e, k _ _ (fun z => by
    rw [z, hd] at hc2
    have z' := Option.some.inj hc2
    unfold LamX.CodeO at z'
    cases z') hc2⟩
theorem pen_x {K : PySem.W.Frag} {H H' : Hp} {d L : Addr} {ns : List Int} {n : Nat} (k : LamX.ExtN H H') (p : Pen K H d L ns n) : Pen K H' d L ns n := by
  obtain ⟨⟨b, l, h, h0, h1⟩, c, f⟩ := p
  exact ⟨⟨b, l, k _ _ h (fun _ z => nomatch z), h0, h1⟩, seqL_x k c, f⟩
theorem Fm.x {wd : Sg → Str} {K : PySem.W.Frag} {H H' : Hp} (k : LamX.ExtN H H') : ∀ {t : FT} {v : V}, Fm wd K H t v → Fm wd K H' t v
  | .leaf _ _, _, ⟨a, e, h⟩ => ⟨a, e, seqT_x k h⟩
  | .node _ l r, _, ⟨a, x, y, e, h, hl, hr⟩ => ⟨a, x, y, e, seqT_x k h, Fm.x k hl, Fm.x k hr⟩
end My

set_option Elab.async false
set_option linter.all false
set_option maxRecDepth 100000
namespace My
open PySem L2 SX
abbrev slaw : Stmt := top 50
abbrev Nlaw : List Str := ["_law_script", "_law_pen", "_law_goods", "_law_kind_here", "_law_deep_here", "_law_one", "_law_form", "_law_none", "_law_odd", "_law_k"]
abbrev Plaw : List Str := ["_law_script"]
theorem sclaw : FnScope Nlaw Plaw (defScope slaw) := ⟨rfl, rfl, rfl, by decide +kernel, rfl, by decide +kernel, by decide +kernel⟩
abbrev lamQ : Str := "law.<locals>.<lambda>"
def nmsL : List Str := [Str.ofString "a", Str.ofString "b", Str.ofString "c1", Str.ofString "let", Str.ofString "x", Str.ofString "abcdefghijkl", Str.ofString "z9"]
theorem nmsL_ok : ∀ z ∈ nmsL, isName z = true := by decide +kernel
def spLaw (K : PySem.W.Frag) (Tb : List (Addr × Str)) : Sp := fun vs H Q _ => ∃ (a : Addr) (ns : List Int), vs = [.ref a] ∧ SqL K H a (ns.map V.int) ∧ ns.length ≤ 63 ∧ LamX.Tabs Tb H ∧ ∀ H', Q (.bl true) H'
theorem lst_no_pin {C : Addr → Option Obj} {H : Hp} {l : Addr} {xs : List V} (h : H l = some (.lst xs)) (k : ∀ c o, C c = some o → H c = some (Clo.Pin c o)) : C l = none := by
  cases e : C l with
  | none => rfl
  | some o =>
    rw [k l o e] at h
    have z : Clo.Pin l o = HO.lst xs := Option.some.inj h
    have z' : HO.ext _ = HO.lst xs := z
    cases z'
theorem one_shaped {D : PyData} (h : shortD D = true) (d : D.depth ≤ 40) : SeqAt.shaped (.list [D]) = true ∧ (PyData.list [D]).canLay0 = true := by
  have s1 : shortD (.list [D]) = true := by
    unfold shortD
    simp only [shortAll, h, Bool.and_true]
  exact ⟨shaped_of s1 (by simp only [PyData.depth, PyData.depthAll]; omega), canLay_of _ s1⟩
theorem o_shaped {o : Option FT} (ok : ∀ t, o = some t → t.Ok ∧ t.dep ≤ 20) : SeqAt.shaped (oData Sg.kw o) = true ∧ (oData Sg.kw o).canLay0 = true := by
  cases o with
  | none => exact ⟨by decide +kernel, by decide +kernel⟩
  | some t =>
    obtain ⟨h, hd⟩ := ok t rfl
    have s1 := ft_short okStr_kw t h
    exact ⟨shaped_of s1 (by show (t.data Sg.kw).depth ≤ 64; rw [ft_depth]; omega), canLay_of _ s1⟩
theorem f_shaped {t : FT} (h : t.Ok) (hd : t.dep ≤ 20) : SeqAt.shaped (t.data Sg.fw) = true ∧ (t.data Sg.fw).canLay0 = true := by
  have s1 := ft_short okStr_fw t h
  exact ⟨shaped_of s1 (by rw [ft_depth]; omega), canLay_of _ s1⟩
theorem kG_ok : ∀ (c : Bool) (t t' : FT), kG c t = some t' → t.Ok → t'.Ok ∧ t'.dep ≤ t.dep
  | c, .leaf co n, t', h, ok => by
    have h2 : (if co = c then some (FT.leaf false n) else none) = some t' := h
    by_cases e : co = c
    · rw [if_pos e] at h2
      cases h2
      exact ⟨ok, Nat.le_refl _⟩
    · rw [if_neg e] at h2
      cases h2
  | c, .node s l r, t', h, ok => by
    have h2 : (match kG (if (if c then s.ctr else s) = .bar then !c else c) l, kG c r with
      | some a, some b => some (FT.node (if c then s.ctr else s) a b)
      | _, _ => none) = some t' := h
    cases ha : kG (if (if c then s.ctr else s) = .bar then !c else c) l with
    | none => rw [ha] at h2; cases h2
    | some a =>
      cases hb : kG c r with
      | none => rw [ha, hb] at h2; cases h2
      | some b =>
        rw [ha, hb] at h2
        cases h2
        obtain ⟨a1, a2⟩ := kG_ok _ l a ha ok.1
        obtain ⟨b1, b2⟩ := kG_ok _ r b hb ok.2
        refine ⟨⟨a1, b1⟩, ?_⟩
        show 1 + max a.dep b.dep ≤ 1 + max l.dep r.dep
        omega
theorem fm_nn {wd : Sg → Str} {K : PySem.W.Frag} {H : Hp} {t : FT} {v : V} (h : Fm wd K H t v) : decide (v = .non) = false := decide_eq_false fun e => by
  subst e
  cases t with
  | leaf _ _ => obtain ⟨a, e, _⟩ := h; cases e
  | node _ _ _ => obtain ⟨a, _, _, e, _⟩ := h; cases e
theorem dpAll_app {K : PySem.W.Frag} {H : Hp} : ∀ {xs ys : List V} {ds es : List PyData}, DpAll K H xs ds → DpAll K H ys es → DpAll K H (xs ++ ys) (ds ++ es)
  | _, _, _, _, .nil, h => h
  | _, _, _, _, .cons a t, h => .cons a (dpAll_app t h)
theorem shortAll_app : ∀ ds es : List PyData, shortAll (ds ++ es) = (shortAll ds && shortAll es)
  | [], es => by simp [shortAll]
  | d :: ds, es => by
    have h := shortAll_app ds es
    show shortAll (d :: (ds ++ es)) = (shortAll (d :: ds) && shortAll es)
    rw [show shortAll (d :: (ds ++ es)) = (shortD d && shortAll (ds ++ es)) from by simp only [shortAll], show shortAll (d :: ds) = (shortD d && shortAll ds) from by simp only [shortAll], h, Bool.and_assoc]
theorem depthAll_app : ∀ ds es : List PyData, PyData.depthAll (ds ++ es) = max (PyData.depthAll ds) (PyData.depthAll es)
  | [], es => by simp [PyData.depthAll]
  | d :: ds, es => by
    show PyData.depthAll (d :: (ds ++ es)) = max (PyData.depthAll (d :: ds)) (PyData.depthAll es)
    simp only [PyData.depthAll]
    rw [depthAll_app ds es]
    omega
theorem cat_no_form {t : FT} {ds : List PyData} (h : t.data Sg.kw = .tuple ds) (D : PyData) : isForm 12 (.tuple (ds ++ [D])) = false := by
  cases t with
  | leaf co n =>
    have e : ds = [.str (leafZ co), .str n] := (PyData.tuple.inj h).symm
    subst e
    show isForm 12 (.tuple [.str (leafZ co), .str n, D]) = false
    rw [isForm_m3]
    have e2 : memD (.str (leafZ co)) halfW = false := by cases co <;> decide +kernel
    rw [e2]
    rfl
  | node s l r =>
    have e : ds = [.str s.kw, l.data Sg.kw, r.data Sg.kw] := (PyData.tuple.inj h).symm
    subst e
    exact isForm_tup_len 12 _ (by simp) (by simp)
/-- a form, in order to be looked at -/
def Fin12 (K : PySem.W.Frag) (H : Hp) (v : V) : Prop := ∃ t : FT, Fm Sg.fw K H t v ∧ t.Ok ∧ t.dep ≤ 12
theorem Fin12.same {K : PySem.W.Frag} {H H' : Hp} {v : V} (s : Same H H') : Fin12 K H v → Fin12 K H' v := fun ⟨t, h, r⟩ => ⟨t, h.same s, r⟩
/-- a kind, in order to be looked at -/
def Kin (K : PySem.W.Frag) (H : Hp) (v : V) : Prop := ∃ t : FT, Fm Sg.kw K H t v ∧ t.Ok ∧ t.Kd ∧ t.dep ≤ 12 ∧ t.lvs ≤ 50
theorem Kin.same {K : PySem.W.Frag} {H H' : Hp} {v : V} (s : Same H H') : Kin K H v → Kin K H' v := fun ⟨t, h, r⟩ => ⟨t, h.same s, r⟩
section
variable {P : Program} {w : World} {K : PySem.W.Frag} {mg : Str → Option Value} {base : Heap} {f : Addr} {fd : FuncData}
set_option maxHeartbeats 4000000 in
theorem ok_law {c Pt : Addr} {Tb : List (Addr × Str)} {B : ErrB K mg} (TB : LamX.TabB base mg c Pt) (hin : (Pt, lamQ) ∈ Tb) (hone : ∀ p ∈ Tb, p.1 = Pt → p.2 = lamQ) (T : Txt K mg) (F : FunC K "law" "law" slaw f fd (.ref c))
    (C_law_begin : Cal P w K mg base "_law_begin" 1 ["_law_script"] (spBegin K)) (C_law_pick : Cal P w K mg base "_law_pick" 2 ["_law_pen", "_law_some"] (spPick K)) (C_law_counter : Cal P w K mg base "_law_counter" 21 P_law_form (spCounter K 20))
    (C_law_kind : Cal P w K mg base "_law_kind" 7 P_law_kind (spLKind K 5)) (C_law_form_of : Cal P w K mg base "_law_form_of" 34 P_law_here (spLFormOf K 13)) (C_law_kind_of : Cal P w K mg base "_law_kind_of" 34 P_law_form (spLKindOf K 13)) (C_law_bent : Cal P w K mg base "_law_bent" 34 P_law_bent (spLBent K 13))
    (C_law_deep : Cal P w K mg base "_law_deep" 3 P_law_deep (spDeepK K)) (C_law_why : Cal P w K mg base "_law_why" 43 P_law_why (spWhy P w K mg base B 42)) (C_law_no_kinds : Cal P w K mg base "_law_no_kinds" 4 P_law_no_kinds (spNoKinds K)) (C_law_goods_right : CalX P w K mg base "_law_goods_right" 45 P_law_here (spGoodsRight K))
    (Cis_kind : Cal P w K mg base "is_kind" 16 Nvalue (spIsKind K)) (Cform_of_kind : CalX P w K mg base "form_of_kind" 40 Pkind (spFormOf K B.B)) (Ckind_of_form : CalX P w K mg base "kind_of_form" 40 Nis_leaf (spKindOf K B.B false)) (Ckind_taken : CalX P w K mg base "kind_taken" 40 Nis_leaf (spKindOf K B.B true)) (Cgoods_in : CalX P w K mg base "goods_in" 40 Pkind (spGoodsIn K B.B)) :
    FnOk P w K mg base CX0 50 f fd Plaw (spLaw K Tb) := by
  refine F.ok sclaw (fun vs H Q E h => ?_) (fun A outer s H vs Q E hr h => ?_)
  · obtain ⟨a, ns, rfl, _⟩ := h
    rfl
  obtain ⟨a, ns, rfl, hS, h63, tabs, q⟩ := h
  refine ⟨_, (pss_cons (ps_set (i := 1) sclaw.nd rfl (Or.inr rfl) (pe_callC C_law_begin hr (pa_cons (pv 0) pa_nil)))
  (pss_cons (ps_setLc (i := 2) (own := [("_law_k", 9)]) (g := (gName 9)) (te := tCall (spPick K) [] E0 (tCons (tVar 1) (tCons (nLst (tCons (tC (.str "a")) (tCons (tC (.str "b")) (tCons (tC (.str "c1")) (tCons (tC (.str "let")) (tCons (tC (.str "x")) (tCons (tC (.str "abcdefghijkl")) (tCons (tC (.str "z9")) tNil)))))))) tNil))) rfl sclaw.nd rfl rfl (sw_true rfl rfl rfl (by decide +kernel)) (pi_range1 rfl T.range (pa_cons pe_int pa_nil)) (blkOk_by (own := [("_law_k", 9)]) (N := Nlaw) (sc := defScope slaw) (by decide +kernel)) (fun _ _ _ _ _ => (pg_name (i := 9) sclaw.nd rfl (Or.inl rfl))) (fun _ _ _ _ _ => pts_nil) (fun _ _ _ _ _ => (pe_callC C_law_pick hr (pa_cons (pv 1) (pa_cons (pe_lstN (pa_cons pe_str (pa_cons pe_str (pa_cons pe_str (pa_cons pe_str (pa_cons pe_str (pa_cons pe_str (pa_cons pe_str pa_nil)))))))) pa_nil)))))
  (pss_cons (ps_set (i := 3) sclaw.nd rfl (Or.inl rfl) (pe_callC C_law_kind hr (pa_cons (pv 1) (pa_cons (pv 2) (pa_cons pe_int pa_nil)))))
  (pss_cons (ps_set (i := 4) sclaw.nd rfl (Or.inl rfl) (pe_callC C_law_deep hr (pa_cons (pv 1) (pa_cons (pe_tupN (pa_cons pe_str (pa_cons (pe_ix ix_list (pv 2) pe_int (fun _ _ => rfl)) pa_nil))) (pa_cons pe_int pa_nil)))))
  (pss_cons (ps_for PassesOwn.never rfl (pi_list (pe_lstN (pa_cons (pv 3) (pa_cons (pv 4) pa_nil)))) (pg_name (i := 5) sclaw.nd rfl (Or.inl rfl))
    (pss_cons (ps_set (i := 6) sclaw.nd rfl (Or.inl rfl) (pe_callC C_law_form_of hr (pa_cons (pv 5) pa_nil)))
    (pss_cons (ps_if (PW.pt (pw_or (pt_not (pt_val (pe_callC Cis_kind hr (pa_cons (pv 5) pa_nil)))) (pw_or (pt_cmpR (op_neD hr.units) (Told.pe_callV Cform_of_kind hr (pa_cons (pv 5) pa_nil)) (pv 6) (nomark _)) (pw_or (pt_cmpR (op_neD hr.units) (Told.pe_callV Ckind_of_form hr (pa_cons (pv 6) pa_nil)) (pv 5) (nomark _)) (pw_or1 (pt_cmpR op_notN (Told.pe_callV Ckind_taken hr (pa_cons (pv 6) pa_nil)) pe_non (nomark _)))))))
      (pss_one (ps_ret pe_bl))
      pss_nil)
    (pss_cons (ps_if (PW.pt (pw_or (pt_cmpR op_notN (Told.pe_callV Ckind_of_form hr (pa_cons (pe_callC C_law_counter hr (pa_cons (pv 6) pa_nil)) pa_nil)) pe_non (nomark _)) (pw_or1 (pt_cmpR (op_neD hr.units) (Told.pe_callV Ckind_taken hr (pa_cons (pe_callC C_law_counter hr (pa_cons (pv 6) pa_nil)) pa_nil)) (pv 5) (nomark _)))))
      (pss_one (ps_ret pe_bl))
      pss_nil)
    (pss_one (ps_if (pt_not (pt_val (Told.pe_callV C_law_goods_right hr (pa_cons (pv 5) pa_nil))))
      (pss_one (ps_ret pe_bl))
      pss_nil))))))
  (pss_cons (ps_for PassesOwn.never rfl (pi_list (pe_lstN (pa_cons (pe_callC C_law_bent hr (pa_cons (pv 1) (pa_cons (pe_callC C_law_form_of hr (pa_cons (pv 3) pa_nil)) pa_nil))) (pa_cons (pe_callC C_law_bent hr (pa_cons (pv 1) (pa_cons (pe_callC C_law_counter hr (pa_cons (pe_callC C_law_form_of hr (pa_cons (pv 3) pa_nil)) pa_nil)) pa_nil))) pa_nil)))) (pg_name (i := 6) sclaw.nd rfl (Or.inl rfl))
    (pss_one (ps_if (PW.pt (pw_or (pt_cmpR (op_neD hr.units) (Told.pe_callV Ckind_of_form hr (pa_cons (pv 6) pa_nil)) (pe_callC C_law_kind_of hr (pa_cons (pv 6) pa_nil)) (nomark _)) (pw_or1 (pt_cmpR (op_neD hr.units) (Told.pe_callV Ckind_taken hr (pa_cons (pv 6) pa_nil)) (pe_callC C_law_kind_of hr (pa_cons (pe_callC C_law_counter hr (pa_cons (pv 6) pa_nil)) pa_nil)) (nomark _)))))
      (pss_one (ps_ret pe_bl))
      pss_nil)))
  (pss_cons (ps_set (i := 8) sclaw.nd rfl (Or.inr rfl) (pe_callC C_law_pick hr (pa_cons (pv 1) (pa_cons (pe_callC C_law_no_kinds hr (pa_cons (pv 1) (pa_cons (pv 3) pa_nil))) pa_nil))))
  (pss_cons (ps_if (PW.pt (pw_or (pt_val (pe_callC Cis_kind hr (pa_cons (pv 8) pa_nil))) (pw_or1 (pt_cmpR (op_neD hr.units) (Clo.pe_callT C_law_why.ok (hr.mono (by decide)) rfl C_law_why.m C_law_why.kp C_law_why.b (fun _ => rfl) (pa_cons
        (Clo.pe_lam (k := 41) (t := fun E => tCallS (spFormOf K B.B) (WE fun cls d _ H => E cls d H) (tCons (tVar 8) tNil)) TB rfl hin hone (show LamX.LamS (defScope slaw) _ from LamX.lamS_by (by decide +kernel)) rfl (fun _ _ _ _ _ => rfl)
          (fun A outer s H E f c' hr' => pe_callS Cform_of_kind.ok (hr'.mono (by decide)) rfl Cform_of_kind.m Cform_of_kind.kp Cform_of_kind.b (fun σ => passAt (takes_of rfl rfl rfl rfl) σ) (pa_cons (pv 8) pa_nil)))
        pa_nil)) (pe_lstN (pa_cons (pv 8) pa_nil)) (nomark _)))))
    (pss_one (ps_ret pe_bl))
    pss_nil)
  (pss_cons (ps_if (pt_cmpR (op_neD hr.units) (Clo.pe_callT C_law_why.ok (hr.mono (by decide)) rfl C_law_why.m C_law_why.kp C_law_why.b (fun _ => rfl) (pa_cons
        (Clo.pe_lam (k := 41) (t := fun E => tCallS (spGoodsIn K B.B) (WE fun cls d _ H => E cls d H) (tCons (tVar 8) tNil)) TB rfl hin hone (show LamX.LamS (defScope slaw) _ from LamX.lamS_by (by decide +kernel)) rfl (fun _ _ _ _ _ => rfl)
          (fun A outer s H E f c' hr' => pe_callS Cgoods_in.ok (hr'.mono (by decide)) rfl Cgoods_in.m Cgoods_in.kp Cgoods_in.b (fun σ => passAt (takes_of rfl rfl rfl rfl) σ) (pa_cons (pv 8) pa_nil)))
        pa_nil)) (pe_lstN (pa_cons (pv 8) pa_nil)) (nomark _))
    (pss_one (ps_ret pe_bl))
    pss_nil)
  (pss_cons (ps_set (i := 7) sclaw.nd rfl (Or.inr rfl) (pe_lstN (pa_cons pe_non (pa_cons pe_int (pa_cons pe_str (pa_cons (pe_tupN pa_nil) (pa_cons (pe_op op_catTN (pv 3) (pe_tupN (pa_cons (pv 3) pa_nil))) (pa_cons (pe_tupN (pa_cons pe_str (pa_cons (pe_tupN (pa_cons pe_str (pa_cons pe_str pa_nil))) (pa_cons (pe_tupN (pa_cons pe_str (pa_cons pe_str pa_nil))) pa_nil)))) (pa_cons (pe_callTy call_listN rfl T.list (by decide +kernel) (pa_cons (pe_callC C_law_form_of hr (pa_cons (pv 4) pa_nil)) pa_nil)) pa_nil)))))))))
  (pss_cons (ps_set (i := 7) sclaw.nd rfl (Or.inr rfl) (pe_callC C_law_pick hr (pa_cons (pv 1) (pa_cons (pv 7) pa_nil))))
  (pss_cons (ps_if (pt_cmpR (op_neD hr.units) (Clo.pe_callT C_law_why.ok (hr.mono (by decide)) rfl C_law_why.m C_law_why.kp C_law_why.b (fun _ => rfl) (pa_cons
        (Clo.pe_lam (k := 41) (t := fun E => tCallS (spKindOf K B.B false) (WE fun cls d _ H => E cls d H) (tCons (tVar 7) tNil)) TB rfl hin hone (show LamX.LamS (defScope slaw) _ from LamX.lamS_by (by decide +kernel)) rfl (fun _ _ _ _ _ => rfl)
          (fun A outer s H E f c' hr' => pe_callS Ckind_of_form.ok (hr'.mono (by decide)) rfl Ckind_of_form.m Ckind_of_form.kp Ckind_of_form.b (fun σ => passAt (takes_of rfl rfl rfl rfl) σ) (pa_cons (pv 7) pa_nil)))
        pa_nil)) (pe_lstN (pa_cons (pv 7) pa_nil)) (nomark _))
    (pss_one (ps_ret pe_bl))
    pss_nil)
  (pss_one (ps_ret (pe_cmpR (op_eqD hr.units) (Clo.pe_callT C_law_why.ok (hr.mono (by decide)) rfl C_law_why.m C_law_why.kp C_law_why.b (fun _ => rfl) (pa_cons
        (Clo.pe_lam (k := 41) (t := fun E => tCallS (spKindOf K B.B true) (WE fun cls d _ H => E cls d H) (tCons (tVar 7) tNil)) TB rfl hin hone (show LamX.LamS (defScope slaw) _ from LamX.lamS_by (by decide +kernel)) rfl (fun _ _ _ _ _ => rfl)
          (fun A outer s H E f c' hr' => pe_callS Ckind_taken.ok (hr'.mono (by decide)) rfl Ckind_taken.m Ckind_taken.kp Ckind_taken.b (fun σ => passAt (takes_of rfl rfl rfl rfl) σ) (pa_cons (pv 7) pa_nil)))
        pa_nil)) (pe_lstN (pa_cons (pv 7) pa_nil)) (nomark _)))))))))))))))), ?_⟩
  have hpow : (2 : Nat) ^ 20 < 2 ^ 37 ∧ (2 : Nat) ^ 37 < 2 ^ 38 ∧ (2 : Nat) ^ 38 < 2 ^ 39 ∧ (2 : Nat) ^ 39 < 2 ^ 40 ∧ (2000 : Nat) < 2 ^ 20 := by decide
  refine ⟨_, rfl, a, ns, rfl, hS, h63, fun d L H1 S1 p1 => ?_⟩
  refine ⟨(3 : Int), rfl, by omega, by omega, fun D nD => lc_range (lo := 0) (n := (3 : Int).toNat)
    (fun i H' => Keep d H1 H' ∧ Pen K H' d L ns i ∧ ∃ zs : List Str, zs.length = i ∧ (∀ z ∈ zs, isName z = true) ∧ H' D = some (.lst (zs.map V.str))) ?_ (fun i H2 hi ⟨k2, p2, zs, hzl, hzn, e⟩ => ?_) (fun H2 ⟨k2, p2, zs, hzl, hzn, e⟩ => ?_)⟩
  · exact ⟨Same.toKeep (same_new nD _), p1.fresh (Keep.refl _ _) p1.cells p1.isDk nD, [], rfl, by simp, upd_same⟩
  · have nDd : D ≠ d := by
      obtain ⟨kvs, ed⟩ := p1.isDk
      exact (ne_of_none ed nD).symm
    have hi3 : i < 3 := hi
    refine ⟨rfl, _, rfl, le1k, fun l3 H3 s3 e3 => ⟨d, L, ns, i, .ref l3, rfl, p2.same s3, by omega, .inl ⟨l3, nmsL.map V.str, rfl, SqL.of e3, by simp [nmsL], le1k, fun x H4 hx k4 p4 => ?_⟩⟩⟩
    obtain ⟨z, hz, rfl⟩ := List.mem_map.mp hx
    have kk : Keep d H2 H4 := (Same.toKeep s3).trans k4
    refine ⟨_, kk D _ nDd e, small1000 (by rw [List.length_map]; omega), keep_fresh (k2.trans kk) nD, p4.fresh (k2.trans kk) p1.cells p1.isDk nD, zs ++ [z], by rw [List.length_append, hzl]; rfl, fun y hy => ?_, by rw [upd_same, List.map_append]; rfl⟩
    rcases List.mem_append.mp hy with hy | hy
    · exact hzn y hy
    · rw [List.mem_singleton.mp hy]; exact nmsL_ok z hz
  have e3 : (3 : Int).toNat = 3 := rfl
  rw [e3] at p2 hzl
  have hne : zs ≠ [] := fun h => by rw [h] at hzl; cases hzl
  refine ⟨_, rfl, _, rfl, d, L, ns, 3, D, zs, 4, rfl, by decide, by decide, p2, (by show 3 + 46 < 2 ^ 39; decide), SqL.of e, hne, by omega, hzn, fun kv kt H3 fk3 ok3 kd3 dk3 k3 p3 => ?_⟩
  have nDd : D ≠ d := by
    obtain ⟨kvs, ed⟩ := p1.isDk
    exact (ne_of_none ed nD).symm
  have k13 : Keep d H1 H3 := k2.trans k3
  have lk3 : kt.lvs ≤ 16 := Nat.le_trans (FT.lvs_pow kt) (Nat.le_trans (Nat.pow_le_pow_right (by decide) dk3) (by decide))
  obtain ⟨z0, zr, rfl⟩ : ∃ z0 zr, zs = z0 :: zr := by
    cases zs with
    | nil => exact absurd rfl hne
    | cons z r => exact ⟨z, r, rfl⟩
  have d3 := p2.isDk
  refine ⟨_, rfl, _, rfl, D, _, 0, _, rfl, rfl, SqL.of (k3 _ _ nDd e), atI_nat (j := 0) (v := V.str z0) rfl, le1k, fun t0 H4 s4 e4 => ?_⟩
  refine ⟨d, L, ns, 3 + dk 4, .ref t0, .leaf false z0, 12, rfl, by decide, p3.same s4, (by show 3 + 46 < 2 ^ 38; decide), ⟨t0, rfl, e4⟩, hzn z0 List.mem_cons_self, rfl, fun dv dt H5 fd5 od5 kdd5 dd5 ld5 k5 p5 => ?_⟩
  have k35 : Keep d H3 H5 := (Same.toKeep s4).trans k5
  have fk5 : Fm Sg.kw K H5 kt kv := Fm.keep p3.isDk k35 fk3
  have dd12 : dt.dep = 12 := by rw [dd5]; rfl
  have ld13 : dt.lvs = 13 := by rw [ld5]; rfl
  have p5' : Pen K H5 d L ns 100 := p5.mono (by decide)
  have k15 := k13.trans k35
  have tb5 : LamX.Tabs Tb H5 := tabs_keep p1.isDk k15 (tabs.ext S1)
  refine ⟨_, rfl, _, rfl, le1k, fun l6 H6 s6 e6 => ⟨l6, rfl, ⟨_, SqL.of e6⟩, ?_⟩⟩
  have kin : ∀ x ∈ [kv, dv], Kin K H6 x := by
    intro x hx
    simp only [List.mem_cons, List.not_mem_nil, or_false] at hx
    rcases hx with rfl | rfl
    · exact ⟨kt, fk5.same s6, ok3, kd3, by omega, by omega⟩
    · exact ⟨dt, fd5.same s6, od5, kdd5, by omega, by omega⟩
  refine for_it walk_list (fun i σ H' => Same H6 H' ∧ ∃ o5 o6, σ = [some (.ref a), some (.ref d), some (.ref D), some kv, some dv, o5, o6, none, none, none]) ⟨Same.refl _, none, none, rfl⟩ (fun i σ H' _ pv => (SqL.of (pv.1 _ _ e6))) (fun i x σ H7 H7' hi pv y => ?_) (fun σ H7 pv => ?_)
  · obtain ⟨rfl, hx⟩ := y
    obtain ⟨s7, o5, o6, rfl⟩ := pv
    obtain ⟨t, ft, ok, kd, hd, hl⟩ := (kin x (List.mem_of_getElem? hx)).same s7
    have okf := fOf_ok t ok
    have hdf : (fOf t).dep ≤ 12 := by rw [fOf_dep]; omega
    obtain ⟨g1, g2⟩ := kG_fOf t kd
    have shk := ft_short okStr_kw t ok
    obtain ⟨shO, laO⟩ := o_shaped (o := some t) fun t' e => by cases e; exact ⟨ok, by omega⟩
    obtain ⟨shF, laF⟩ := f_shaped okf (by omega)
    refine ⟨_, rfl, x, t, rfl, ft, kd, by omega, by decide, fun H8 u8 s8 f8 => ?_⟩
    refine ⟨_, rfl, x, _, rfl, (ft.same s8).dp, shk, fun H9 s9 => ⟨_, rfl, ?_⟩⟩
    rw [ft_kind t 12 ok kd hd]
    have s79 := s8.trans s9
    refine iteF ⟨_, rfl, x, rfl, .inl ⟨t, ft.same s79, ok, kd, hd, fun H10 u10 s10 f10 => ?_⟩⟩
    have f810 := f8.same (s9.trans s10)
    refine ⟨_, rfl, _, _, f10.dp, f810.dp, shF, shF, _, rfl, ?_⟩
    rw [SeqAt.eqv_refl _ laF]
    refine iteF ⟨_, rfl, u8, rfl, .inl ⟨fOf t, f810, okf, hdf, fun H11 u11 s11 f11 => ?_⟩⟩
    rw [g1] at f11
    have s711 := (s79.trans s10).trans s11
    refine ⟨_, rfl, _, _, Om.dp (o := some t) f11, (ft.same s711).dp, shO, shO, _, rfl, ?_⟩
    rw [show PyData.eqv (oData Sg.kw (some t)) (t.data Sg.kw) = true from SeqAt.eqv_refl _ laO]
    refine iteF ⟨_, rfl, u8, rfl, .inl ⟨fOf t, f810.same s11, okf, hdf, fun H12 u12 s12 f12 => ?_⟩⟩
    rw [g2] at f12
    cases f12
    refine ⟨rfl, _, rfl, iteF ?_⟩
    have s712 := s711.trans s12
    refine ⟨_, rfl, u8, fOf t, rfl, f810.same (s11.trans s12), by omega, fun H13 u13 s13 f13 => ?_⟩
    refine ⟨u13, rfl, .inl ⟨(fOf t).ctr, f13, FT.ctr_ok _ okf, by rw [FT.ctr_dep]; exact hdf, fun H14 u14 s14 f14 => ?_⟩⟩
    rw [kG_ctr] at f14
    rw [show kG (!false) (fOf t) = none from g2] at f14
    cases f14
    refine ⟨rfl, _, rfl, iteF ?_⟩
    have s714 := (s712.trans s13).trans s14
    have s814 := ((((s9.trans s10).trans s11).trans s12).trans s13).trans s14
    refine ⟨_, rfl, u8, fOf t, rfl, f8.same s814, by omega, fun H15 u15 s15 f15 => ?_⟩
    refine ⟨u15, rfl, .inl ⟨(fOf t).ctr, f15, FT.ctr_ok _ okf, by rw [FT.ctr_dep]; exact hdf, fun H16 u16 s16 f16 => ?_⟩⟩
    rw [kG_ctr] at f16
    rw [show kG (!true) (fOf t) = some t from g1] at f16
    have s716 := (s714.trans s15).trans s16
    refine ⟨_, rfl, _, _, Om.dp (o := some t) f16, (ft.same s716).dp, shO, shO, _, rfl, ?_⟩
    rw [show PyData.eqv (oData Sg.kw (some t)) (t.data Sg.kw) = true from SeqAt.eqv_refl _ laO]
    refine iteF ⟨_, rfl, x, t, rfl, ft.same s716, ok, kd, hd, hl, fun H17 s17 => ⟨_, rfl, iteF ?_⟩⟩
    exact ⟨s7.trans (s716.trans s17), _, _, rfl⟩
  obtain ⟨s7, o5, o6, rfl⟩ := pv
  have fk7 := fk5.same (s6.trans s7)
  have fd7 := fd5.same (s6.trans s7)
  have p7 := (p5'.same s6).same s7
  have tb7 := (tb5.ext s6).ext s7
  have okf := fOf_ok kt ok3
  have hdf : (fOf kt).dep ≤ 4 := by rw [fOf_dep]; exact dk3
  refine ⟨_, rfl, _, rfl, kv, kt, rfl, fk7, kd3, by omega, by decide, fun H8 u8 s8 f8 => ?_⟩
  refine ⟨d, L, ns, 100, u8, fOf kt, rfl, by omega, by decide, p7.same s8, by omega, f8, okf, fun b1 t1 H9 fb1 ob1 db1 k9 p9 => ?_⟩
  have d8 := (p7.same s8).isDk
  have fk9 := Fm.keep d8 k9 (fk7.same s8)
  have fd9 := Fm.keep d8 k9 (fd7.same s8)
  have tb9 := tabs_keep d8 k9 (tb7.ext s8)
  refine ⟨_, rfl, _, rfl, kv, kt, rfl, fk9, kd3, by omega, by decide, fun H10 u10 s10 f10 => ?_⟩
  refine ⟨u10, fOf kt, rfl, f10, by omega, fun H11 u11 s11 f11 => ?_⟩
  refine ⟨d, L, ns, 100 + 2 * (fOf kt).dep, u11, (fOf kt).ctr, rfl, by rw [FT.ctr_dep]; omega, by decide, (p9.same s10).same s11, by rw [FT.ctr_dep]; omega, f11, FT.ctr_ok _ okf, fun b2 t2 H12 fb2 ob2 db2 k12 p12 => ⟨le1k, fun l13 H13 s13 e13 => ⟨l13, rfl, ⟨_, SqL.of e13⟩, ?_⟩⟩⟩
  have kx : Keep d H9 H13 := ((Same.toKeep (s10.trans s11)).trans k12).trans (Same.toKeep s13)
  have d9 := p9.isDk
  have fk13 := Fm.keep d9 kx fk9
  have fd13 := Fm.keep d9 kx fd9
  have tb13 := tabs_keep d9 kx tb9
  have p13 : Pen K H13 d L ns 200 := (p12.same s13).mono (by rw [FT.ctr_dep]; omega)
  rw [FT.ctr_dep] at db2
  have fin : ∀ x ∈ [b1, b2], Fin12 K H13 x := by
    intro x hx
    simp only [List.mem_cons, List.not_mem_nil, or_false] at hx
    rcases hx with rfl | rfl
    · exact ⟨t1, Fm.keep d9 kx fb1, ob1, by omega⟩
    · exact ⟨t2, fb2.same s13, ob2, by omega⟩
  refine for_it walk_list (fun i σ H' => Same H13 H' ∧ ∃ o6, σ = [some (.ref a), some (.ref d), some (.ref D), some kv, some dv, o5, o6, none, none, none]) ⟨Same.refl _, o6, rfl⟩ (fun i σ H' _ pv => (SqL.of (pv.1 _ _ e13))) (fun i x σ H14 H14' hi pv y => ?_) (fun σ H14 pv => ?_)
  · obtain ⟨rfl, hx⟩ := y
    obtain ⟨s14, o6, rfl⟩ := pv
    obtain ⟨t, ft, ok, hd⟩ := (fin x (List.mem_of_getElem? hx)).same s14
    obtain ⟨sh1, la1⟩ := o_shaped (o := kG false t) fun t' e => by
      obtain ⟨a1, a2⟩ := kG_ok _ t t' e ok
      exact ⟨a1, by omega⟩
    obtain ⟨sh2, la2⟩ := o_shaped (o := kG true t) fun t' e => by
      obtain ⟨a1, a2⟩ := kG_ok _ t t' e ok
      exact ⟨a1, by omega⟩
    refine ⟨_, rfl, x, rfl, .inl ⟨t, ft, ok, hd, fun H15 u15 s15 f15 => ?_⟩⟩
    refine ⟨_, rfl, x, t, rfl, ft.same s15, by omega, by decide, fun H16 u16 s16 f16 => ?_⟩
    refine ⟨_, _, (f15.same s16).dp, f16.dp, sh1, sh1, _, rfl, ?_⟩
    rw [SeqAt.eqv_refl _ la1]
    have s1416 := s15.trans s16
    refine iteF ⟨_, rfl, x, rfl, .inl ⟨t, ft.same s1416, ok, hd, fun H17 u17 s17 f17 => ?_⟩⟩
    refine ⟨_, rfl, x, t, rfl, ft.same (s1416.trans s17), by omega, fun H18 u18 s18 f18 => ?_⟩
    refine ⟨u18, t.ctr, rfl, f18, by rw [FT.ctr_dep]; omega, by decide, fun H19 u19 s19 f19 => ?_⟩
    rw [kG_ctr] at f19
    refine ⟨_, _, (f17.same (s18.trans s19)).dp, Om.dp (o := kG true t) f19, sh2, sh2, _, rfl, ?_⟩
    rw [SeqAt.eqv_refl _ la2]
    exact iteF ⟨s14.trans (((s1416.trans s17).trans s18).trans s19), _, rfl⟩
  obtain ⟨s14, o7, rfl⟩ := pv
  have fk14 := fk13.same s14
  have fd14 := fd13.same s14
  have tb14 := tb13.ext s14
  have p14 := p13.same s14
  refine ⟨_, rfl, _, rfl, _, rfl, d, L, ns, 200, kv, kt, rfl, p14, by omega, fk14, ok3, kd3, dk3, fun lo xo H15 eo hno hlo hodd k15o p15 => ?_⟩
  refine ⟨d, L, ns, 230, .ref lo, rfl, p15, by omega, .inl ⟨lo, xo, rfl, SqL.of eo, hno, by omega, fun odd H16 hx16 k16 p16 => ?_⟩⟩
  have d14 := p14.isDk
  have d15 := p15.isDk
  obtain ⟨Dd, hD16, sD, dD, nD⟩ := Odd.keep d15 k16 (hodd odd hx16)
  have kk := k15o.trans k16
  have fk16 := Fm.keep d14 kk fk14
  have fd16 := Fm.keep d14 kk fd14
  have tb16 := tabs_keep d14 kk tb14
  obtain ⟨shp, lay⟩ := one_shaped sD dD
  refine ⟨_, rfl, odd, Dd, rfl, hD16, sD, fun H17 s17 => ⟨_, rfl, ?_⟩⟩
  rw [nD]
  have hD17 := dp_same s17 _ _ hD16
  have fk17 := fk16.same s17
  have fd17 := fd16.same s17
  have tb17 := tb16.ext s17
  have p17 : Pen K H17 d L ns 231 := p16.same s17
  refine iteF ?_
  refine ⟨tb17, fun f1 fo1 c1 HA xA tA nA pA qA oA aA => ?_⟩
  intro C KC hC
  have out_ : ∀ {b : Addr} {o : HO}, HA b = some o → C b = none := fun {b o} e => Clo.out_of e hC
  have hDA : Dp K HA odd Dd := dp_x xA _ _ hD17
  refine ⟨.ref f1, rfl, f1, fo1, _, rfl, oA, by rw [Clo.plus_out (out_ pA)]; exact pA, Clo.Act.mono (aA C KC) (by decide), fun Q' E' i1 i2 => ⟨by rw [Clo.plus_out (out_ pA)]; exact pA, by rw [Clo.plus_out (out_ qA)]; exact qA, fun c o e => Clo.plus_in e, ?_⟩⟩
  rw [minus_plus hC]
  suffices fin : badE B.B "value" odd HA (fun cls d H' => (∀ c o, C c = some o → H' c = none) → E' cls d (Clo.plus C H')) from ⟨_, rfl, odd, rfl, .inr ⟨Dd, hDA, sD, nD, fin⟩⟩
  intro d' HB sB nd' non
  refine i2 _ _ _ ⟨d', odd, rfl, rfl, ?_, fun l HC sC eC => ⟨fun c o e => sC _ _ (Clo.plus_in e), ?_⟩⟩
  · rw [Clo.plus_out (Clo.out_of upd_same non)]
    exact upd_same
  have sM : Same HA (Clo.minus C HC) := fun b o e => by
    have e1 := sB _ _ e
    rw [Clo.minus_out (out_ e)]
    refine sC _ _ ?_
    rw [Clo.plus_out (out_ e), upd_ne (ne_of_none e1 nd')]
    exact e1
  have eM : Clo.minus C HC l = some (.lst [odd]) := by
    rw [Clo.minus_out (lst_no_pin eC fun c o e => sC _ _ (Clo.plus_in e))]
    exact eC
  clear i1 i2
  generalize Clo.minus C HC = HM at *
  have xM := xA.trans (LamX.ExtN.of sM)
  refine ⟨_, rfl, le1k, fun l2 HN sN eN => ?_⟩
  have hN : Dp K HN odd Dd := dp_same (sM.trans sN) _ _ hDA
  refine ⟨.list [Dd], .list [Dd], .lst (SqL.of (sN _ _ eM)) (.cons hN .nil), .lst (SqL.of eN) (.cons hN .nil), shp, shp, _, rfl, ?_⟩
  rw [SeqAt.eqv_refl _ lay]
  refine iteF ?_
  have xN := xM.trans (LamX.ExtN.of sN)
  have tb21 := (tA.ext sM).ext sN
  have hD21 := hN
  have fk21 := fk17.x xN
  have fd21 := fd17.x xN
  have p21 := pen_x xN p17
  refine ⟨tb21, fun f1 fo1 c1 HA xA tA nA pA qA oA aA => ?_⟩
  intro C KC hC
  have out_ : ∀ {b : Addr} {o : HO}, HA b = some o → C b = none := fun {b o} e => Clo.out_of e hC
  have hDA : Dp K HA odd Dd := dp_x xA _ _ hD21
  refine ⟨.ref f1, rfl, f1, fo1, _, rfl, oA, by rw [Clo.plus_out (out_ pA)]; exact pA, Clo.Act.mono (aA C KC) (by decide), fun Q' E' i1 i2 => ⟨by rw [Clo.plus_out (out_ pA)]; exact pA, by rw [Clo.plus_out (out_ qA)]; exact qA, fun c o e => Clo.plus_in e, ?_⟩⟩
  rw [minus_plus hC]
  suffices fin : badE B.B "value" odd HA (fun cls d H' => (∀ c o, C c = some o → H' c = none) → E' cls d (Clo.plus C H')) from ⟨_, rfl, odd, rfl, .inr ⟨Dd, hDA, sD, nD, fin⟩⟩
  intro d' HB sB nd' non
  refine i2 _ _ _ ⟨d', odd, rfl, rfl, ?_, fun l HC sC eC => ⟨fun c o e => sC _ _ (Clo.plus_in e), ?_⟩⟩
  · rw [Clo.plus_out (Clo.out_of upd_same non)]
    exact upd_same
  have sM : Same HA (Clo.minus C HC) := fun b o e => by
    have e1 := sB _ _ e
    rw [Clo.minus_out (out_ e)]
    refine sC _ _ ?_
    rw [Clo.plus_out (out_ e), upd_ne (ne_of_none e1 nd')]
    exact e1
  have eM : Clo.minus C HC l = some (.lst [odd]) := by
    rw [Clo.minus_out (lst_no_pin eC fun c o e => sC _ _ (Clo.plus_in e))]
    exact eC
  clear i1 i2
  generalize Clo.minus C HC = HM at *
  have xM := xA.trans (LamX.ExtN.of sM)
  refine ⟨_, rfl, le1k, fun l2 HN sN eN => ?_⟩
  have hN : Dp K HN odd Dd := dp_same (sM.trans sN) _ _ hDA
  refine ⟨.list [Dd], .list [Dd], .lst (SqL.of (sN _ _ eM)) (.cons hN .nil), .lst (SqL.of eN) (.cons hN .nil), shp, shp, _, rfl, ?_⟩
  rw [SeqAt.eqv_refl _ lay]
  refine iteF ?_
  have xN := xM.trans (LamX.ExtN.of sN)
  have tb22 := (tA.ext sM).ext sN
  have hD22 := hN
  have fk22 := fk21.x xN
  have fd22 := fd21.x xN
  have p22 := pen_x xN p21
  obtain ⟨ka, kys, rfl, hks, kle, kds, ekds, hkds⟩ := ft_vals fk22
  clear p17 p14 p13 p7
  refine ⟨le1k, fun a1 G1 g1 e1 => ⟨_, rfl, _, rfl, le1k, fun a2 G2 g2 e2 => ?_⟩⟩
  refine ⟨ka, a2, kys, [.ref ka], rfl, rfl, seqT_same (g1.trans g2) hks, e2, by simp only [List.length_cons, List.length_nil]; omega, fun a3 G3 g3 e3 => ?_⟩
  refine ⟨le1k, fun a4 G4 g4 e4 => ⟨le1k, fun a5 G5 g5 e5 => ⟨le1k, fun a6 G6 g6 e6 => ?_⟩⟩⟩
  have x16 : Same HN G6 := ((((g1.trans g2).trans g3).trans g4).trans g5).trans g6
  refine ⟨_, rfl, dv, dt, rfl, fd22.same x16, kdd5, by omega, by decide, fun G7 u7 g7 f7 => ?_⟩
  obtain ⟨fa, fys, rfl, hfs, fle, fds, efds, hfds⟩ := ft_vals f7
  refine ⟨fa, fys, rfl, .inr hfs, fun a8 G8 g8 e8 => ⟨le1k, fun l9 G9 g9 e9 => ?_⟩⟩
  have y89 := g9
  have y79 := g8.trans y89
  have y69 := g7.trans y79
  have y59 := g6.trans y69
  have y49 := g5.trans y59
  have y39 := g4.trans y49
  have y29 := g3.trans y39
  have y19 := g2.trans y29
  have y09 := g1.trans y19
  have pn := p22.same y09
  refine ⟨_, rfl, _, rfl, d, L, ns, 231, .ref l9, rfl, pn, by omega, .inl ⟨l9, _, rfl, SqL.of e9, by simp, le1k, fun nn G10 hnn k10 p30 => ?_⟩⟩
  have kdp := (fk22.same y09).dp
  have ksh := ft_short okStr_kw kt ok3
  have kdd : (kt.data Sg.kw).depth ≤ 5 := by rw [ft_depth]; omega
  have fsh := ft_short okStr_fw (fOf dt) (fOf_ok dt od5)
  have fdd : ((fOf dt).data Sg.fw).depth ≤ 13 := by rw [ft_depth, fOf_dep]; omega
  have oddn : ∀ x ∈ [V.non, .int 5, .str "a", .ref a1, .ref a3, .ref a6, .ref a8], Odd K (isForm 12) G9 x := by
    intro x hx
    simp only [List.mem_cons, List.not_mem_nil, or_false] at hx
    rcases hx with rfl | rfl | rfl | rfl | rfl | rfl | rfl
    · exact ⟨.none, .non, rfl, by decide, rfl⟩
    · exact ⟨.int 5, .int 5, rfl, by decide, rfl⟩
    · exact ⟨.str "a", .str _, by decide +kernel, by decide, rfl⟩
    · exact ⟨.tuple [], .tup (seqT_same y19 e1) .nil, rfl, by decide, rfl⟩
    · have kd9 := dpAll_same y09 _ _ hkds
      refine ⟨.tuple (kds ++ [kt.data Sg.kw]), .tup (seqT_same y39 e3) (dpAll_app kd9 (.cons kdp .nil)), ?_, ?_, cat_no_form ekds _⟩
      · rw [ekds] at ksh
        unfold shortD at ksh ⊢
        rw [shortAll_app, ksh]
        simp only [shortAll, ft_short okStr_kw kt ok3, Bool.and_true]
      · rw [ekds] at kdd
        simp only [PyData.depth] at kdd ⊢
        rw [depthAll_app]
        have : (kt.data Sg.kw).depth ≤ 5 := by rw [ft_depth]; omega
        simp only [PyData.depthAll]
        omega
    · exact ⟨.tuple [.str "pair", .tuple [.str "good", .str "a"], .tuple [.str "good", .str "b"]], .tup (seqT_same y69 e6) (.cons (.str _) (.cons (.tup (seqT_same y49 e4) (.cons (.str _) (.cons (.str _) .nil))) (.cons (.tup (seqT_same y59 e5) (.cons (.str _) (.cons (.str _) .nil))) .nil))), by decide +kernel, by simp [PyData.depth, PyData.depthAll], by decide +kernel⟩
    · refine ⟨.list fds, .lst (SqL.of (y89 _ _ e8)) (dpAll_same y79 _ _ hfds), ?_, ?_, rfl⟩
      · rw [efds] at fsh
        unfold shortD at fsh ⊢
        exact fsh
      · rw [efds] at fdd
        simp only [PyData.depth] at fdd ⊢
        omega
  have d9n := pn.isDk
  obtain ⟨Dn, hD30, sDn, dDn, nDn⟩ := Odd.keep d9n k10 (oddn nn hnn)
  obtain ⟨shn, layn⟩ := one_shaped sDn dDn
  have fk30 := Fm.keep d9n k10 (fk22.same y09)
  have fd30 := Fm.keep d9n k10 (fd22.same y09)
  have tb30 := tabs_keep d9n k10 (tb22.ext y09)
  refine ⟨tb30, fun f1 fo1 c1 HA xA tA nA pA qA oA aA => ?_⟩
  intro C KC hC
  have out_ : ∀ {b : Addr} {o : HO}, HA b = some o → C b = none := fun {b o} e => Clo.out_of e hC
  have hDA : Dp K HA nn Dn := dp_x xA _ _ hD30
  refine ⟨.ref f1, rfl, f1, fo1, _, rfl, oA, by rw [Clo.plus_out (out_ pA)]; exact pA, Clo.Act.mono (aA C KC) (by decide), fun Q' E' i1 i2 => ⟨by rw [Clo.plus_out (out_ pA)]; exact pA, by rw [Clo.plus_out (out_ qA)]; exact qA, fun c o e => Clo.plus_in e, ?_⟩⟩
  rw [minus_plus hC]
  suffices fin : badE B.B "value" nn HA (fun cls d H' => (∀ c o, C c = some o → H' c = none) → E' cls d (Clo.plus C H')) from ⟨_, rfl, nn, rfl, .inr ⟨Dn, hDA, sDn, nDn, fin⟩⟩
  intro d' HB sB nd' non
  refine i2 _ _ _ ⟨d', nn, rfl, rfl, ?_, fun l HC sC eC => ⟨fun c o e => sC _ _ (Clo.plus_in e), ?_⟩⟩
  · rw [Clo.plus_out (Clo.out_of upd_same non)]
    exact upd_same
  have sM : Same HA (Clo.minus C HC) := fun b o e => by
    have e1 := sB _ _ e
    rw [Clo.minus_out (out_ e)]
    refine sC _ _ ?_
    rw [Clo.plus_out (out_ e), upd_ne (ne_of_none e1 nd')]
    exact e1
  have eM : Clo.minus C HC l = some (.lst [nn]) := by
    rw [Clo.minus_out (lst_no_pin eC fun c o e => sC _ _ (Clo.plus_in e))]
    exact eC
  clear i1 i2
  generalize Clo.minus C HC = HM at *
  have xM := xA.trans (LamX.ExtN.of sM)
  refine ⟨_, rfl, le1k, fun l2 HN sN eN => ?_⟩
  have hN : Dp K HN nn Dn := dp_same (sM.trans sN) _ _ hDA
  refine ⟨.list [Dn], .list [Dn], .lst (SqL.of (sN _ _ eM)) (.cons hN .nil), .lst (SqL.of eN) (.cons hN .nil), shn, shn, _, rfl, ?_⟩
  rw [SeqAt.eqv_refl _ layn]
  refine iteF ?_
  have xN := xM.trans (LamX.ExtN.of sN)
  have tb31 := (tA.ext sM).ext sN
  have hD31 := hN
  have fk31 := fk30.x xN
  have fd31 := fd30.x xN
  have p31 := pen_x xN p30
  refine ⟨tb31, fun f1 fo1 c1 HA xA tA nA pA qA oA aA => ?_⟩
  intro C KC hC
  have out_ : ∀ {b : Addr} {o : HO}, HA b = some o → C b = none := fun {b o} e => Clo.out_of e hC
  have hDA : Dp K HA nn Dn := dp_x xA _ _ hD31
  refine ⟨.ref f1, rfl, f1, fo1, _, rfl, oA, by rw [Clo.plus_out (out_ pA)]; exact pA, Clo.Act.mono (aA C KC) (by decide), fun Q' E' i1 i2 => ⟨by rw [Clo.plus_out (out_ pA)]; exact pA, by rw [Clo.plus_out (out_ qA)]; exact qA, fun c o e => Clo.plus_in e, ?_⟩⟩
  rw [minus_plus hC]
  suffices fin : badE B.B "value" nn HA (fun cls d H' => (∀ c o, C c = some o → H' c = none) → E' cls d (Clo.plus C H')) from ⟨_, rfl, nn, rfl, .inr ⟨Dn, hDA, sDn, nDn, fin⟩⟩
  intro d' HB sB nd' non
  refine i2 _ _ _ ⟨d', nn, rfl, rfl, ?_, fun l HC sC eC => ⟨fun c o e => sC _ _ (Clo.plus_in e), ?_⟩⟩
  · rw [Clo.plus_out (Clo.out_of upd_same non)]
    exact upd_same
  have sM : Same HA (Clo.minus C HC) := fun b o e => by
    have e1 := sB _ _ e
    rw [Clo.minus_out (out_ e)]
    refine sC _ _ ?_
    rw [Clo.plus_out (out_ e), upd_ne (ne_of_none e1 nd')]
    exact e1
  have eM : Clo.minus C HC l = some (.lst [nn]) := by
    rw [Clo.minus_out (lst_no_pin eC fun c o e => sC _ _ (Clo.plus_in e))]
    exact eC
  clear i1 i2
  generalize Clo.minus C HC = HM at *
  have xM := xA.trans (LamX.ExtN.of sM)
  refine ⟨_, rfl, le1k, fun l2 HN sN eN => ?_⟩
  have hN : Dp K HN nn Dn := dp_same (sM.trans sN) _ _ hDA
  refine ⟨.list [Dn], .list [Dn], .lst (SqL.of (sN _ _ eM)) (.cons hN .nil), .lst (SqL.of eN) (.cons hN .nil), shn, shn, ?_⟩
  rw [SeqAt.eqv_refl _ layn]
  exact q _
end
end My

set_option Elab.async false
set_option linter.all false
set_option maxRecDepth 100000
namespace My
open PySem L2
section
variable {P : Program} {w : World} {K : PySem.W.Frag} {mg : Str → Option Value} {base : Heap} {f : Addr} {fd : FuncData}
theorem vac {C : CXT} {k : Nat} {ps : List Str} {sp : Sp} (no : ∀ vs H Q E, ¬ sp vs H Q E) : FnOk P w K mg base C k f fd ps sp :=
  ⟨fun vs H Q E h => absurd h (no vs H Q E), fun A outer s H args us vs Q E _ _ _ _ h => absurd h (no vs H Q E)⟩
theorem all_fits_form (T : Txt K mg) (F : Fun K "fits_form" "fits_form" sfits_form f fd) (b : Binds K fd Pfits_form []) (m : mg "fits_form" = some (.ref f)) (C : Cal P w K mg base "fits_name" 2 ["value"] (spName K)) : ∀ n : Nat, FnOk P w K mg base CX0 (2 + n) f fd Pfits_form (spForm K n)
  | 0 => vac fun vs H Q E ⟨_, k, _, h, _⟩ => Nat.not_lt_zero k h
  | n + 1 => ok_fits_form T F C ⟨f, fd, all_fits_form T F b m C n, m, F.kp, b⟩
theorem all_fits_kind (T : Txt K mg) (Y : TxtK K mg w) (F : Fun K "fits_kind" "fits_kind" sfits_kind f fd) (b : Binds K fd Nfits_form []) (m : mg "fits_kind" = some (.ref f)) (C : Cal P w K mg base "fits_name" 2 ["value"] (spName K)) : ∀ n : Nat, FnOk P w K mg base CX0 (2 + n) f fd Nfits_form (spKindF K n)
  | 0 => vac fun vs H Q E ⟨_, k, _, _, h, _⟩ => Nat.not_lt_zero k h
  | n + 1 => okfits_kind T Y F C ⟨f, fd, all_fits_kind T Y F b m C n, m, F.kp, b⟩
theorem all_counter_of (Y : TxtK K mg w) (F : Fun K "counter_of" "counter_of" scounter_of f fd) (b : Binds K fd Nis_leaf []) (m : mg "counter_of" = some (.ref f)) (C : Cal P w K mg base "is_leaf" 1 Nis_leaf (spLeafT K)) : ∀ n : Nat, FnOk P w K mg base CX0 (1 + n) f fd Nis_leaf (spCounter K n)
  | 0 => vac fun vs H Q E ⟨_, _, _, _, h, _⟩ => Nat.not_lt_zero _ h
  | n + 1 => okcounter_of Y F C ⟨f, fd, all_counter_of Y F b m C n, m, F.kp, b⟩
theorem all_goods_of (F : Fun K "goods_of" "goods_of" sgoods_of f fd) (b : Binds K fd Nis_leaf []) (m : mg "goods_of" = some (.ref f)) (C : Cal P w K mg base "is_leaf" 1 Nis_leaf (spLeafT K)) : ∀ n : Nat, FnOk P w K mg base CX0 (1 + n) f fd Nis_leaf (spGoods K n)
  | 0 => vac fun vs H Q E ⟨_, _, _, _, _, h, _⟩ => Nat.not_lt_zero _ h
  | n + 1 => okgoods_of F C ⟨f, fd, all_goods_of F b m C n, m, F.kp, b⟩
theorem all_form_told (Y : TxtK K mg w) (F : Fun K "form_told" "form_told" sform_told f fd) (b : Binds K fd Pkind []) (m : mg "form_told" = some (.ref f)) (C : Cal P w K mg base "is_leaf" 1 Nis_leaf (spLeafT K)) (C2 : Cal P w K mg base "counter_of" 21 Nis_leaf (spCounter K 20)) : ∀ n : Nat, FnOk P w K mg base CX0 (21 + n) f fd Pkind (spTold K n)
  | 0 => vac fun vs H Q E ⟨_, _, _, _, h, _⟩ => Nat.not_lt_zero _ h
  | n + 1 => okform_told Y F C C2 ⟨f, fd, all_form_told Y F b m C C2 n, m, F.kp, b⟩
theorem all_kinds {f2 : Addr} {fd2 : FuncData} (Y : TxtK K mg w) (F : Fun K "kind_given" "kind_given" skind_given f fd) (b : Binds K fd Nis_leaf []) (m : mg "kind_given" = some (.ref f)) (F2 : Fun K "kind_counted" "kind_counted" skind_counted f2 fd2) (b2 : Binds K fd2 Nis_leaf []) (m2 : mg "kind_counted" = some (.ref f2))
    (C : Cal P w K mg base "is_leaf" 1 Nis_leaf (spLeafT K)) (C2 : Cal P w K mg base "of_halves" 1 Nof_halves (spHalves K)) : ∀ n : Nat, FnOk P w K mg base CX0 (1 + n) f fd Nis_leaf (spKind K false n) ∧ FnOk P w K mg base CX0 (1 + n) f2 fd2 Nis_leaf (spKind K true n)
  | 0 => ⟨vac fun vs H Q E ⟨_, _, _, _, h, _⟩ => Nat.not_lt_zero _ h, vac fun vs H Q E ⟨_, _, _, _, h, _⟩ => Nat.not_lt_zero _ h⟩
  | n + 1 =>
    have i := all_kinds Y F b m F2 b2 m2 C C2 n
    ⟨okkind_given Y F C C2 ⟨f, fd, i.1, m, F.kp, b⟩ ⟨f2, fd2, i.2, m2, F2.kp, b2⟩, okkind_counted Y F2 C C2 ⟨f, fd, i.1, m, F.kp, b⟩ ⟨f2, fd2, i.2, m2, F2.kp, b2⟩⟩
theorem all_law_counter (F : Fun K "_law_counter" "_law_counter" s_law_counter f fd) (b : Binds K fd P_law_form []) (m : mg "_law_counter" = some (.ref f)) : ∀ n : Nat, FnOk P w K mg base CX0 (1 + n) f fd P_law_form (spCounter K n)
  | 0 => vac fun vs H Q E ⟨_, _, _, _, h, _⟩ => Nat.not_lt_zero _ h
  | n + 1 => ok_law_counter F ⟨f, fd, all_law_counter F b m n, m, F.kp, b⟩
theorem all_law_leaves (T : Txt K mg) (F : Fun K "_law_leaves" "_law_leaves" s_law_leaves f fd) (b : Binds K fd P_law_form []) (m : mg "_law_leaves" = some (.ref f)) : ∀ n : Nat, FnOk P w K mg base CX0 (1 + n) f fd P_law_form (spLeaves K n)
  | 0 => vac fun vs H Q E ⟨_, _, _, _, _, h, _⟩ => Nat.not_lt_zero _ h
  | n + 1 => ok_law_leaves T F ⟨f, fd, all_law_leaves T F b m n, m, F.kp, b⟩
theorem all_law_kind (F : Fun K "_law_kind" "_law_kind" s_law_kind f fd) (b : Binds K fd P_law_kind []) (m : mg "_law_kind" = some (.ref f)) (C1 : Cal P w K mg base "_law_draw" 1 P_law_draw (spDraw K)) (C2 : Cal P w K mg base "_law_pick" 2 P_law_pick (spPick K)) : ∀ n : Nat, FnOk P w K mg base CX0 (2 + n) f fd P_law_kind (spLKind K n)
  | 0 => vac fun vs H Q E ⟨_, _, _, _, _, _, _, _, h, _⟩ => Nat.not_lt_zero _ h
  | n + 1 => ok_law_kind C1 C2 F ⟨f, fd, all_law_kind F b m C1 C2 n, m, F.kp, b⟩
theorem all_law_form_of (F : Fun K "_law_form_of" "_law_form_of" s_law_form_of f fd) (b : Binds K fd P_law_here []) (m : mg "_law_form_of" = some (.ref f)) (C : Cal P w K mg base "_law_counter" 21 P_law_form (spCounter K 20)) : ∀ n : Nat, FnOk P w K mg base CX0 (21 + n) f fd P_law_here (spLFormOf K n)
  | 0 => vac fun vs H Q E ⟨_, _, _, _, _, h, _⟩ => Nat.not_lt_zero _ h
  | n + 1 => ok_law_form_of F C ⟨f, fd, all_law_form_of F b m C n, m, F.kp, b⟩
theorem all_law_kind_of (F : Fun K "_law_kind_of" "_law_kind_of" s_law_kind_of f fd) (b : Binds K fd P_law_form []) (m : mg "_law_kind_of" = some (.ref f)) (C : Cal P w K mg base "_law_counter" 21 P_law_form (spCounter K 20)) : ∀ n : Nat, FnOk P w K mg base CX0 (21 + n) f fd P_law_form (spLKindOf K n)
  | 0 => vac fun vs H Q E ⟨_, _, _, _, h, _⟩ => Nat.not_lt_zero _ h
  | n + 1 => ok_law_kind_of F C ⟨f, fd, all_law_kind_of F b m C n, m, F.kp, b⟩
theorem all_law_bent (T : Txt K mg) (F : Fun K "_law_bent" "_law_bent" s_law_bent f fd) (b : Binds K fd P_law_bent []) (m : mg "_law_bent" = some (.ref f)) (C : Cal P w K mg base "_law_counter" 21 P_law_form (spCounter K 20)) (C1 : Cal P w K mg base "_law_draw" 1 P_law_draw (spDraw K)) (C2 : Cal P w K mg base "_law_pick" 2 P_law_pick (spPick K)) : ∀ n : Nat, FnOk P w K mg base CX0 (21 + n) f fd P_law_bent (spLBent K n)
  | 0 => vac fun vs H Q E ⟨_, _, _, _, _, _, _, h, _⟩ => Nat.not_lt_zero _ h
  | n + 1 => ok_law_bent T C C1 C2 F ⟨f, fd, all_law_bent T F b m C C1 C2 n, m, F.kp, b⟩
abbrev Pis_leaf : List Str := Nis_leaf
abbrev Pcounter_of : List Str := Nis_leaf
abbrev Pgoods_of : List Str := Nis_leaf
abbrev Pcheck_form : List Str := Nis_leaf
abbrev Pfits_kind : List Str := Nfits_form
abbrev Pform_told : List Str := Pkind
abbrev Pof_halves : List Str := Nof_halves
abbrev Pkind_given : List Str := Nis_leaf
abbrev Pkind_counted : List Str := Nis_leaf
abbrev Pis_kind : List Str := Nvalue
abbrev Pcheck_kind : List Str := Pkind
abbrev Pform_of_kind : List Str := Pkind
abbrev Pkind_of_form : List Str := Nis_leaf
abbrev Pkind_taken : List Str := Nis_leaf
abbrev Pgoods_in : List Str := Pkind
abbrev P_law_counter : List Str := P_law_form
abbrev P_law_leaves : List Str := P_law_form
abbrev P_law_form_of : List Str := P_law_here
abbrev P_law_kind_of : List Str := P_law_form
abbrev P_law_goods_right : List Str := P_law_here
end
/-- whether an error of the class at A is what «except B» names -/
theorem exm_two {K : PySem.W.Frag} {A B : Addr} {b : Bool} (h1 : PySem.W.subIn K (.ref B) (.type "BaseException") = some true) (h2 : PySem.W.isClsIn K B = true) (h3 : PySem.W.typeIn K (.ref B) = some (.type "type")) (h4 : PySem.W.subIn K (.ref A) (.ref B) = some b) : PySem.W.exmOne K (.ref A) (.ref B) = some b := by
  have e1 : (PySem.W.subIn K (.ref B) (.type "BaseException") == some true) = true := by rw [h1] <;> rfl
  have e2 : ((PySem.W.clsIn K B).isSome && PySem.W.typeIn K (.ref B) == some (.type "type")) = true := by
    have h2' : (PySem.W.clsIn K B).isSome = true := h2
    rw [h2', h3] <;> rfl
  show (if (PySem.W.subIn K (.ref B) (.type "BaseException") == some true) = true then (if ((PySem.W.clsIn K B).isSome && PySem.W.typeIn K (.ref B) == some (.type "type")) = true then PySem.W.subIn K (.ref A) (.ref B) else none) else none) = some b
  rw [if_pos e1, if_pos e2]
  exact h4
set_option maxHeartbeats 0 in
theorem all_mk {l : PySem.W.OpenLaw} {w : World} {K : PySem.W.Frag} {h : Heap} {mg : Str → Option Value} {fa f1 f2 f3 f4 f5 f6 f7 f8 f9 f10 f11 f12 f13 f14 f15 f16 f17 f18 f19 f20 f21 f22 f23 f24 f25 f26 f27 f28 f29 f30 f31 f32 f33 aL aH aK dC dF dG dT EB cc Pt : Addr} (X : K.In h) (G : h.Ns mainGlobals mg) (hfa : mg "law" = some (.ref fa))
    {od1 an1 od2 an2 od3 an3 od4 an4 od5 an5 od6 an6 od7 an7 od8 an8 od9 an9 od10 an10 od11 an11 od12 an12 od13 an13 od14 an14 od15 an15 od16 an16 od17 an17 od18 an18 od19 an19 od20 an20 od21 an21 od22 an22 od23 an23 od24 an24 od25 an25 od26 an26 od27 an27 od28 an28 od29 an29 od30 an30 od31 an31 od32 an32 od33 an33 odL odH odK : Option Addr} {sl1 sl2 sl3 sl4 sl5 sl6 sl7 sl8 sl9 sl10 sl11 sl12 sl13 sl14 sl15 sl16 sl17 sl18 sl19 sl20 sl21 sl22 sl23 sl24 sl25 sl26 sl27 sl28 sl29 sl30 sl31 sl32 sl33 slL slH slK : Array (Option Value)} {oc1 kV1 dc1 pm1 cd1 ct1 oc2 kV2 dc2 pm2 cd2 ct2 oc3 kV3 dc3 pm3 cd3 ct3 oc4 kV4 dc4 pm4 cd4 ct4 oc5 kV5 dc5 pm5 cd5 ct5 oc6 kV6 dc6 pm6 cd6 ct6 oc7 kV7 dc7 pm7 cd7 ct7 oc8 kV8 dc8 pm8 cd8 ct8 oc9 kV9 dc9 pm9 cd9 ct9 oc10 kV10 dc10 pm10 cd10 ct10 oc11 kV11 dc11 pm11 cd11 ct11 oc12 kV12 dc12 pm12 cd12 ct12 oc13 kV13 dc13 pm13 cd13 ct13 oc14 kV14 dc14 pm14 cd14 ct14 oc15 kV15 dc15 pm15 cd15 ct15 oc16 kV16 dc16 pm16 cd16 ct16 oc17 kV17 dc17 pm17 cd17 ct17 oc18 kV18 dc18 pm18 cd18 ct18 oc19 kV19 dc19 pm19 cd19 ct19 oc20 kV20 dc20 pm20 cd20 ct20 oc21 kV21 dc21 pm21 cd21 ct21 oc22 kV22 dc22 pm22 cd22 ct22 oc23 kV23 dc23 pm23 cd23 ct23 oc24 kV24 dc24 pm24 cd24 ct24 oc25 kV25 dc25 pm25 cd25 ct25 oc26 kV26 dc26 pm26 cd26 ct26 oc27 kV27 dc27 pm27 cd27 ct27 oc28 kV28 dc28 pm28 cd28 ct28 oc29 kV29 dc29 pm29 cd29 ct29 oc30 kV30 dc30 pm30 cd30 ct30 oc31 kV31 dc31 pm31 cd31 ct31 oc32 kV32 dc32 pm32 ct32 oc33 kV33 dc33 pm33 cd33 ct33 : Value} {tl td tn tp u1 u2 u3 u4 u5 u6 u7 u8 u9 u10 vC0 vC1 vC2 vC3 vC4 vC5 vF0 vF1 vF2 vF3 vG0 vG1 vG2 vG3 vT0 vT1 vT2 vT3 : Tok} {nL nH nK mC mF mG mT : Nat} {hC hF hG hT : Array DictEntry}
    {nmB qB : Str} {NB : Addr} {bsB bmB : List Value} {snB : List Str} {subB : List Value} {abB : Bool} {colB : Option Bool} {ddB : Option Addr} {mz0B mz1B mz2B mz3B mz5B : Option Value}
    (tP : h.get? Pt = some { cls := .none, data := .fields #[] })
    (a1 : PySem.W.nsIn K mainGlobals "fits_name" = some (some (.ref f1)))
    (l1 : K.lookup f1 = some ⟨oc1, od1, .func (PySem.W.fnOf "fits_name" "fits_name" (defArgs sfits_name) (defBody sfits_name) (defScope sfits_name) .none kV1 dc1 pm1 an1 cd1 ct1), sl1⟩)
    (c1 : PySem.W.codeIn K cd1 "fits_name" = true)
    (k1 : PySem.W.keepIn K (.ref f1) = true)
    (a2 : PySem.W.nsIn K mainGlobals "fits_form" = some (some (.ref f2)))
    (l2 : K.lookup f2 = some ⟨oc2, od2, .func (PySem.W.fnOf "fits_form" "fits_form" (defArgs sfits_form) (defBody sfits_form) (defScope sfits_form) .none kV2 dc2 pm2 an2 cd2 ct2), sl2⟩)
    (c2 : PySem.W.codeIn K cd2 "fits_form" = true)
    (k2 : PySem.W.keepIn K (.ref f2) = true)
    (a3 : PySem.W.nsIn K mainGlobals "is_leaf" = some (some (.ref f3)))
    (l3 : K.lookup f3 = some ⟨oc3, od3, .func (PySem.W.fnOf "is_leaf" "is_leaf" (defArgs sis_leaf) (defBody sis_leaf) (defScope sis_leaf) .none kV3 dc3 pm3 an3 cd3 ct3), sl3⟩)
    (c3 : PySem.W.codeIn K cd3 "is_leaf" = true)
    (k3 : PySem.W.keepIn K (.ref f3) = true)
    (a4 : PySem.W.nsIn K mainGlobals "counter_of" = some (some (.ref f4)))
    (l4 : K.lookup f4 = some ⟨oc4, od4, .func (PySem.W.fnOf "counter_of" "counter_of" (defArgs scounter_of) (defBody scounter_of) (defScope scounter_of) .none kV4 dc4 pm4 an4 cd4 ct4), sl4⟩)
    (c4 : PySem.W.codeIn K cd4 "counter_of" = true)
    (k4 : PySem.W.keepIn K (.ref f4) = true)
    (a5 : PySem.W.nsIn K mainGlobals "goods_of" = some (some (.ref f5)))
    (l5 : K.lookup f5 = some ⟨oc5, od5, .func (PySem.W.fnOf "goods_of" "goods_of" (defArgs sgoods_of) (defBody sgoods_of) (defScope sgoods_of) .none kV5 dc5 pm5 an5 cd5 ct5), sl5⟩)
    (c5 : PySem.W.codeIn K cd5 "goods_of" = true)
    (k5 : PySem.W.keepIn K (.ref f5) = true)
    (a6 : PySem.W.nsIn K mainGlobals "check_form" = some (some (.ref f6)))
    (l6 : K.lookup f6 = some ⟨oc6, od6, .func (PySem.W.fnOf "check_form" "check_form" (defArgs scheck_form) (defBody scheck_form) (defScope scheck_form) .none kV6 dc6 pm6 an6 cd6 ct6), sl6⟩)
    (c6 : PySem.W.codeIn K cd6 "check_form" = true)
    (k6 : PySem.W.keepIn K (.ref f6) = true)
    (a7 : PySem.W.nsIn K mainGlobals "fits_kind" = some (some (.ref f7)))
    (l7 : K.lookup f7 = some ⟨oc7, od7, .func (PySem.W.fnOf "fits_kind" "fits_kind" (defArgs sfits_kind) (defBody sfits_kind) (defScope sfits_kind) .none kV7 dc7 pm7 an7 cd7 ct7), sl7⟩)
    (c7 : PySem.W.codeIn K cd7 "fits_kind" = true)
    (k7 : PySem.W.keepIn K (.ref f7) = true)
    (a8 : PySem.W.nsIn K mainGlobals "form_told" = some (some (.ref f8)))
    (l8 : K.lookup f8 = some ⟨oc8, od8, .func (PySem.W.fnOf "form_told" "form_told" (defArgs sform_told) (defBody sform_told) (defScope sform_told) .none kV8 dc8 pm8 an8 cd8 ct8), sl8⟩)
    (c8 : PySem.W.codeIn K cd8 "form_told" = true)
    (k8 : PySem.W.keepIn K (.ref f8) = true)
    (a9 : PySem.W.nsIn K mainGlobals "of_halves" = some (some (.ref f9)))
    (l9 : K.lookup f9 = some ⟨oc9, od9, .func (PySem.W.fnOf "of_halves" "of_halves" (defArgs sof_halves) (defBody sof_halves) (defScope sof_halves) .none kV9 dc9 pm9 an9 cd9 ct9), sl9⟩)
    (c9 : PySem.W.codeIn K cd9 "of_halves" = true)
    (k9 : PySem.W.keepIn K (.ref f9) = true)
    (a10 : PySem.W.nsIn K mainGlobals "kind_given" = some (some (.ref f10)))
    (l10 : K.lookup f10 = some ⟨oc10, od10, .func (PySem.W.fnOf "kind_given" "kind_given" (defArgs skind_given) (defBody skind_given) (defScope skind_given) .none kV10 dc10 pm10 an10 cd10 ct10), sl10⟩)
    (c10 : PySem.W.codeIn K cd10 "kind_given" = true)
    (k10 : PySem.W.keepIn K (.ref f10) = true)
    (a11 : PySem.W.nsIn K mainGlobals "kind_counted" = some (some (.ref f11)))
    (l11 : K.lookup f11 = some ⟨oc11, od11, .func (PySem.W.fnOf "kind_counted" "kind_counted" (defArgs skind_counted) (defBody skind_counted) (defScope skind_counted) .none kV11 dc11 pm11 an11 cd11 ct11), sl11⟩)
    (c11 : PySem.W.codeIn K cd11 "kind_counted" = true)
    (k11 : PySem.W.keepIn K (.ref f11) = true)
    (a12 : PySem.W.nsIn K mainGlobals "is_kind" = some (some (.ref f12)))
    (l12 : K.lookup f12 = some ⟨oc12, od12, .func (PySem.W.fnOf "is_kind" "is_kind" (defArgs sis_kind) (defBody sis_kind) (defScope sis_kind) .none kV12 dc12 pm12 an12 cd12 ct12), sl12⟩)
    (c12 : PySem.W.codeIn K cd12 "is_kind" = true)
    (k12 : PySem.W.keepIn K (.ref f12) = true)
    (a13 : PySem.W.nsIn K mainGlobals "check_kind" = some (some (.ref f13)))
    (l13 : K.lookup f13 = some ⟨oc13, od13, .func (PySem.W.fnOf "check_kind" "check_kind" (defArgs scheck_kind) (defBody scheck_kind) (defScope scheck_kind) .none kV13 dc13 pm13 an13 cd13 ct13), sl13⟩)
    (c13 : PySem.W.codeIn K cd13 "check_kind" = true)
    (k13 : PySem.W.keepIn K (.ref f13) = true)
    (a14 : PySem.W.nsIn K mainGlobals "form_of_kind" = some (some (.ref f14)))
    (l14 : K.lookup f14 = some ⟨oc14, od14, .func (PySem.W.fnOf "form_of_kind" "form_of_kind" (defArgs sform_of_kind) (defBody sform_of_kind) (defScope sform_of_kind) .none kV14 dc14 pm14 an14 cd14 ct14), sl14⟩)
    (c14 : PySem.W.codeIn K cd14 "form_of_kind" = true)
    (k14 : PySem.W.keepIn K (.ref f14) = true)
    (a15 : PySem.W.nsIn K mainGlobals "kind_of_form" = some (some (.ref f15)))
    (l15 : K.lookup f15 = some ⟨oc15, od15, .func (PySem.W.fnOf "kind_of_form" "kind_of_form" (defArgs skind_of_form) (defBody skind_of_form) (defScope skind_of_form) .none kV15 dc15 pm15 an15 cd15 ct15), sl15⟩)
    (c15 : PySem.W.codeIn K cd15 "kind_of_form" = true)
    (k15 : PySem.W.keepIn K (.ref f15) = true)
    (a16 : PySem.W.nsIn K mainGlobals "kind_taken" = some (some (.ref f16)))
    (l16 : K.lookup f16 = some ⟨oc16, od16, .func (PySem.W.fnOf "kind_taken" "kind_taken" (defArgs skind_taken) (defBody skind_taken) (defScope skind_taken) .none kV16 dc16 pm16 an16 cd16 ct16), sl16⟩)
    (c16 : PySem.W.codeIn K cd16 "kind_taken" = true)
    (k16 : PySem.W.keepIn K (.ref f16) = true)
    (a17 : PySem.W.nsIn K mainGlobals "goods_in" = some (some (.ref f17)))
    (l17 : K.lookup f17 = some ⟨oc17, od17, .func (PySem.W.fnOf "goods_in" "goods_in" (defArgs sgoods_in) (defBody sgoods_in) (defScope sgoods_in) .none kV17 dc17 pm17 an17 cd17 ct17), sl17⟩)
    (c17 : PySem.W.codeIn K cd17 "goods_in" = true)
    (k17 : PySem.W.keepIn K (.ref f17) = true)
    (a18 : PySem.W.nsIn K mainGlobals "_law_begin" = some (some (.ref f18)))
    (l18 : K.lookup f18 = some ⟨oc18, od18, .func (PySem.W.fnOf "_law_begin" "_law_begin" (defArgs s_law_begin) (defBody s_law_begin) (defScope s_law_begin) .none kV18 dc18 pm18 an18 cd18 ct18), sl18⟩)
    (c18 : PySem.W.codeIn K cd18 "_law_begin" = true)
    (k18 : PySem.W.keepIn K (.ref f18) = true)
    (a19 : PySem.W.nsIn K mainGlobals "_law_draw" = some (some (.ref f19)))
    (l19 : K.lookup f19 = some ⟨oc19, od19, .func (PySem.W.fnOf "_law_draw" "_law_draw" (defArgs s_law_draw) (defBody s_law_draw) (defScope s_law_draw) .none kV19 dc19 pm19 an19 cd19 ct19), sl19⟩)
    (c19 : PySem.W.codeIn K cd19 "_law_draw" = true)
    (k19 : PySem.W.keepIn K (.ref f19) = true)
    (a20 : PySem.W.nsIn K mainGlobals "_law_pick" = some (some (.ref f20)))
    (l20 : K.lookup f20 = some ⟨oc20, od20, .func (PySem.W.fnOf "_law_pick" "_law_pick" (defArgs s_law_pick) (defBody s_law_pick) (defScope s_law_pick) .none kV20 dc20 pm20 an20 cd20 ct20), sl20⟩)
    (c20 : PySem.W.codeIn K cd20 "_law_pick" = true)
    (k20 : PySem.W.keepIn K (.ref f20) = true)
    (a21 : PySem.W.nsIn K mainGlobals "_law_counter" = some (some (.ref f21)))
    (l21 : K.lookup f21 = some ⟨oc21, od21, .func (PySem.W.fnOf "_law_counter" "_law_counter" (defArgs s_law_counter) (defBody s_law_counter) (defScope s_law_counter) .none kV21 dc21 pm21 an21 cd21 ct21), sl21⟩)
    (c21 : PySem.W.codeIn K cd21 "_law_counter" = true)
    (k21 : PySem.W.keepIn K (.ref f21) = true)
    (a22 : PySem.W.nsIn K mainGlobals "_law_leaves" = some (some (.ref f22)))
    (l22 : K.lookup f22 = some ⟨oc22, od22, .func (PySem.W.fnOf "_law_leaves" "_law_leaves" (defArgs s_law_leaves) (defBody s_law_leaves) (defScope s_law_leaves) .none kV22 dc22 pm22 an22 cd22 ct22), sl22⟩)
    (c22 : PySem.W.codeIn K cd22 "_law_leaves" = true)
    (k22 : PySem.W.keepIn K (.ref f22) = true)
    (a23 : PySem.W.nsIn K mainGlobals "_law_kind" = some (some (.ref f23)))
    (l23 : K.lookup f23 = some ⟨oc23, od23, .func (PySem.W.fnOf "_law_kind" "_law_kind" (defArgs s_law_kind) (defBody s_law_kind) (defScope s_law_kind) .none kV23 dc23 pm23 an23 cd23 ct23), sl23⟩)
    (c23 : PySem.W.codeIn K cd23 "_law_kind" = true)
    (k23 : PySem.W.keepIn K (.ref f23) = true)
    (a24 : PySem.W.nsIn K mainGlobals "_law_form_of" = some (some (.ref f24)))
    (l24 : K.lookup f24 = some ⟨oc24, od24, .func (PySem.W.fnOf "_law_form_of" "_law_form_of" (defArgs s_law_form_of) (defBody s_law_form_of) (defScope s_law_form_of) .none kV24 dc24 pm24 an24 cd24 ct24), sl24⟩)
    (c24 : PySem.W.codeIn K cd24 "_law_form_of" = true)
    (k24 : PySem.W.keepIn K (.ref f24) = true)
    (a25 : PySem.W.nsIn K mainGlobals "_law_once" = some (some (.ref f25)))
    (l25 : K.lookup f25 = some ⟨oc25, od25, .func (PySem.W.fnOf "_law_once" "_law_once" (defArgs s_law_once) (defBody s_law_once) (defScope s_law_once) .none kV25 dc25 pm25 an25 cd25 ct25), sl25⟩)
    (c25 : PySem.W.codeIn K cd25 "_law_once" = true)
    (k25 : PySem.W.keepIn K (.ref f25) = true)
    (a26 : PySem.W.nsIn K mainGlobals "_law_kind_of" = some (some (.ref f26)))
    (l26 : K.lookup f26 = some ⟨oc26, od26, .func (PySem.W.fnOf "_law_kind_of" "_law_kind_of" (defArgs s_law_kind_of) (defBody s_law_kind_of) (defScope s_law_kind_of) .none kV26 dc26 pm26 an26 cd26 ct26), sl26⟩)
    (c26 : PySem.W.codeIn K cd26 "_law_kind_of" = true)
    (k26 : PySem.W.keepIn K (.ref f26) = true)
    (a27 : PySem.W.nsIn K mainGlobals "_law_bent" = some (some (.ref f27)))
    (l27 : K.lookup f27 = some ⟨oc27, od27, .func (PySem.W.fnOf "_law_bent" "_law_bent" (defArgs s_law_bent) (defBody s_law_bent) (defScope s_law_bent) .none kV27 dc27 pm27 an27 cd27 ct27), sl27⟩)
    (c27 : PySem.W.codeIn K cd27 "_law_bent" = true)
    (k27 : PySem.W.keepIn K (.ref f27) = true)
    (a28 : PySem.W.nsIn K mainGlobals "_law_deep" = some (some (.ref f28)))
    (l28 : K.lookup f28 = some ⟨oc28, od28, .func (PySem.W.fnOf "_law_deep" "_law_deep" (defArgs s_law_deep) (defBody s_law_deep) (defScope s_law_deep) .none kV28 dc28 pm28 an28 cd28 ct28), sl28⟩)
    (c28 : PySem.W.codeIn K cd28 "_law_deep" = true)
    (k28 : PySem.W.keepIn K (.ref f28) = true)
    (a29 : PySem.W.nsIn K mainGlobals "_law_why" = some (some (.ref f29)))
    (l29 : K.lookup f29 = some ⟨oc29, od29, .func (PySem.W.fnOf "_law_why" "_law_why" (defArgs s_law_why) (defBody s_law_why) (defScope s_law_why) .none kV29 dc29 pm29 an29 cd29 ct29), sl29⟩)
    (c29 : PySem.W.codeIn K cd29 "_law_why" = true)
    (k29 : PySem.W.keepIn K (.ref f29) = true)
    (a30 : PySem.W.nsIn K mainGlobals "_law_no_kinds" = some (some (.ref f30)))
    (l30 : K.lookup f30 = some ⟨oc30, od30, .func (PySem.W.fnOf "_law_no_kinds" "_law_no_kinds" (defArgs s_law_no_kinds) (defBody s_law_no_kinds) (defScope s_law_no_kinds) .none kV30 dc30 pm30 an30 cd30 ct30), sl30⟩)
    (c30 : PySem.W.codeIn K cd30 "_law_no_kinds" = true)
    (k30 : PySem.W.keepIn K (.ref f30) = true)
    (a31 : PySem.W.nsIn K mainGlobals "_law_goods_right" = some (some (.ref f31)))
    (l31 : K.lookup f31 = some ⟨oc31, od31, .func (PySem.W.fnOf "_law_goods_right" "_law_goods_right" (defArgs s_law_goods_right) (defBody s_law_goods_right) (defScope s_law_goods_right) .none kV31 dc31 pm31 an31 cd31 ct31), sl31⟩)
    (c31 : PySem.W.codeIn K cd31 "_law_goods_right" = true)
    (k31 : PySem.W.keepIn K (.ref f31) = true)
    (a32 : PySem.W.nsIn K mainGlobals "law" = some (some (.ref f32)))
    (l32 : K.lookup f32 = some ⟨oc32, od32, .func (PySem.W.fnOf "law" "law" (defArgs slaw) (defBody slaw) (defScope slaw) .none kV32 dc32 pm32 an32 (.ref cc) ct32), sl32⟩)
    (c32 : PySem.W.codeIn K (.ref cc) "law" = true)
    (k32 : PySem.W.keepIn K (.ref f32) = true)
    (tN : K.lookup Pt = none)
    (tC : PySem.W.codeHdIn K cc Pt = true)
    (gEB : PySem.W.nsIn K mainGlobals "BadValue" = some (some (.ref EB)))
    (gaEB : PySem.W.findIn K (.ref EB) "__getattribute__" = some (some (.builtin "BaseException.__getattribute__")))
    (ggEB : PySem.W.findIn K (.ref EB) "__getattr__" = some none)
    (exEB : PySem.W.subIn K (.ref EB) (.type "BaseException") = some true)
    (hdEB : PySem.W.hasDictIn K EB = true)
    (noEB : PySem.W.findIn K (.ref EB) "value" = some none)
    (isEB : PySem.W.isClsIn K EB = true)
    (tyEB : PySem.W.typeIn K (.ref EB) = some (.type "type"))
    (sBB : PySem.W.subIn K (.ref EB) (.ref EB) = some true)
    (xB : K.lookup EB = some (excClassObj nmB qB EB NB bsB bmB true snB subB abB colB ddB mz0B mz1B mz2B mz3B mz5B "ValueError.__new__"))
    (rB : PySem.HandSPX.refsVE bmB = true)
    (saB : PySem.W.findIn K (.ref EB) "__setattr__" = some (some (.builtin "object.__setattr__")))
    (kB : PySem.W.keepIn K (.ref EB) = true)
    (a33 : PySem.W.findIn K (.ref EB) "__init__" = some (some (.ref f33)))
    (i33 : PySem.W.typeIn K (.ref f33) = some (.type "function"))
    (l33 : K.lookup f33 = some ⟨oc33, od33, .func (PySem.W.fnOf "__init__" "BadValue.__init__" (defArgs (meth 2 0)) (defBody (meth 2 0)) (defScope (meth 2 0)) .none kV33 dc33 pm33 an33 cd33 ct33), sl33⟩)
    (c33 : PySem.W.codeIn K cd33 "BadValue.__init__" = true)
    (k33 : PySem.W.keepIn K (.ref f33) = true)
    (z1 : PySem.W.nsIn K mainGlobals "isinstance" = some none)
    (z2 : PySem.W.nsIn K mainGlobals "len" = some none)
    (z3 : PySem.W.nsIn K mainGlobals "all" = some none)
    (z4 : PySem.W.nsIn K mainGlobals "str" = some none)
    (z5 : PySem.W.nsIn K mainGlobals "tuple" = some none)
    (z6 : PySem.W.nsIn K mainGlobals "int" = some none)
    (z7 : PySem.W.nsIn K mainGlobals "list" = some none)
    (z8 : PySem.W.nsIn K mainGlobals "abs" = some none)
    (z9 : PySem.W.nsIn K mainGlobals "range" = some none)
    (z10 : PySem.W.nsIn K mainGlobals "set" = some none)
    (z11 : PySem.W.nsIn K mainGlobals "sorted" = some none)
    (y1 : PySem.W.nsIn K mainGlobals "LETTERS" = some (some (.str zLetters tl)))
    (y2 : PySem.W.nsIn K mainGlobals "DIGITS" = some (some (.str zDigits td)))
    (y3 : PySem.W.nsIn K mainGlobals "LONGEST_NAME" = some (some (.int 12 tn)))
    (y4 : PySem.W.nsIn K mainGlobals "DEEPEST" = some (some (.int 12 tp)))
    (y5 : PySem.W.nsIn K mainGlobals "LEAF_WORDS" = some (some (.ref aL)))
    (y6 : K.lookup aL = some ⟨.type "tuple", odL, .seq #[.str (Str.ofString "good") u1, .str (Str.ofString "counter") u2] nL, slL⟩)
    (y7 : PySem.W.nsIn K mainGlobals "HALVED_WORDS" = some (some (.ref aH)))
    (y8 : K.lookup aH = some ⟨.type "tuple", odH, .seq #[.str (Str.ofString "both") u3, .str (Str.ofString "between") u4, .str (Str.ofString "offered") u5, .str (Str.ofString "chosen") u6] nH, slH⟩)
    (y9 : PySem.W.nsIn K mainGlobals "HALVED_KINDS" = some (some (.ref aK)))
    (y10 : K.lookup aK = some ⟨.type "tuple", odK, .seq #[.str (Str.ofString "pair") u7, .str (Str.ofString "sum") u8, .str (Str.ofString "offer") u9, .str (Str.ofString "to") u10] nK, slK⟩)
    (ydC : PySem.W.nsIn K mainGlobals "COUNTER_WORDS" = some (some (.ref dC)))
    (ylC : K.lookup dC = some ⟨.type "dict", none, .dict hC mC, #[]⟩)
    (ykC : PySem.W.KeysLit w.params hC.toList)
    (eC0 : PySem.W.nsIn K dC "good" = some (some (.str (Str.ofString "counter") vC0)))
    (eC1 : PySem.W.nsIn K dC "counter" = some (some (.str (Str.ofString "good") vC1)))
    (eC2 : PySem.W.nsIn K dC "both" = some (some (.str (Str.ofString "between") vC2)))
    (eC3 : PySem.W.nsIn K dC "between" = some (some (.str (Str.ofString "both") vC3)))
    (eC4 : PySem.W.nsIn K dC "offered" = some (some (.str (Str.ofString "chosen") vC4)))
    (eC5 : PySem.W.nsIn K dC "chosen" = some (some (.str (Str.ofString "offered") vC5)))
    (ydF : PySem.W.nsIn K mainGlobals "FORM_WORDS_OF_KINDS" = some (some (.ref dF)))
    (ylF : K.lookup dF = some ⟨.type "dict", none, .dict hF mF, #[]⟩)
    (ykF : PySem.W.KeysLit w.params hF.toList)
    (eF0 : PySem.W.nsIn K dF "pair" = some (some (.str (Str.ofString "both") vF0)))
    (eF1 : PySem.W.nsIn K dF "sum" = some (some (.str (Str.ofString "chosen") vF1)))
    (eF2 : PySem.W.nsIn K dF "offer" = some (some (.str (Str.ofString "offered") vF2)))
    (eF3 : PySem.W.nsIn K dF "to" = some (some (.str (Str.ofString "between") vF3)))
    (ydG : PySem.W.nsIn K mainGlobals "GIVEN_WORDS" = some (some (.ref dG)))
    (ylG : K.lookup dG = some ⟨.type "dict", none, .dict hG mG, #[]⟩)
    (ykG : PySem.W.KeysLit w.params hG.toList)
    (eG0 : PySem.W.nsIn K dG "both" = some (some (.str (Str.ofString "pair") vG0)))
    (eG1 : PySem.W.nsIn K dG "chosen" = some (some (.str (Str.ofString "sum") vG1)))
    (eG2 : PySem.W.nsIn K dG "offered" = some (some (.str (Str.ofString "offer") vG2)))
    (eG3 : PySem.W.nsIn K dG "between" = some (some (.str (Str.ofString "to") vG3)))
    (ydT : PySem.W.nsIn K mainGlobals "TAKEN_WORDS" = some (some (.ref dT)))
    (ylT : K.lookup dT = some ⟨.type "dict", none, .dict hT mT, #[]⟩)
    (ykT : PySem.W.KeysLit w.params hT.toList)
    (eT0 : PySem.W.nsIn K dT "between" = some (some (.str (Str.ofString "pair") vT0)))
    (eT1 : PySem.W.nsIn K dT "offered" = some (some (.str (Str.ofString "sum") vT1)))
    (eT2 : PySem.W.nsIn K dT "chosen" = some (some (.str (Str.ofString "offer") vT2)))
    (eT3 : PySem.W.nsIn K dT "both" = some (some (.str (Str.ofString "to") vT3))) :
    LamX.LawAtS l w K CX0 50 63 "_law_script" mg fa h := by
  have e := hfa.symm.trans (PySem.W.mg_of X G a32)
  cases e
  have T : Txt K mg := {
    isinstance := PySem.W.mg_none_of X G z1, len := PySem.W.mg_none_of X G z2, all := PySem.W.mg_none_of X G z3, str := PySem.W.mg_none_of X G z4, tuple := PySem.W.mg_none_of X G z5, int := PySem.W.mg_none_of X G z6
    list := PySem.W.mg_none_of X G z7, abs := PySem.W.mg_none_of X G z8, range := PySem.W.mg_none_of X G z9
    LETTERS := ⟨_, PySem.W.mg_of X G y1, ⟨_, rfl⟩⟩, DIGITS := ⟨_, PySem.W.mg_of X G y2, ⟨_, rfl⟩⟩, LONGEST_NAME := ⟨_, PySem.W.mg_of X G y3, ⟨_, rfl⟩⟩, DEEPEST := ⟨_, PySem.W.mg_of X G y4, ⟨_, rfl⟩⟩
    aLeaf := aL, LEAF_WORDS := ⟨_, PySem.W.mg_of X G y5, rfl⟩, sLeaf := fun H => .inr ⟨_, _, _, y6, rfl, rfl, (by show 2 ≤ sizeLine; decide), .cons ⟨_, rfl⟩ (.cons ⟨_, rfl⟩ .nil)⟩
    aHalf := aH, HALVED_WORDS := ⟨_, PySem.W.mg_of X G y7, rfl⟩, sHalf := fun H => .inr ⟨_, _, _, y8, rfl, rfl, (by show 4 ≤ sizeLine; decide), .cons ⟨_, rfl⟩ (.cons ⟨_, rfl⟩ (.cons ⟨_, rfl⟩ (.cons ⟨_, rfl⟩ .nil)))⟩ }
  have TG : TxtG mg := ⟨PySem.W.mg_none_of X G z10, PySem.W.mg_none_of X G z11⟩
  have Y : TxtK K mg w := {
    aCW := dC, COUNTER_WORDS := ⟨_, PySem.W.mg_of X G ydC, rfl⟩
    kCL := fun co => by
      cases co
      · exact ⟨hC, mC, _, ylC, ykC, eC0, ⟨_, rfl⟩⟩
      · exact ⟨hC, mC, _, ylC, ykC, eC1, ⟨_, rfl⟩⟩
    kCN := fun s => by
      cases s
      · exact ⟨hC, mC, _, ylC, ykC, eC2, ⟨_, rfl⟩⟩
      · exact ⟨hC, mC, _, ylC, ykC, eC3, ⟨_, rfl⟩⟩
      · exact ⟨hC, mC, _, ylC, ykC, eC4, ⟨_, rfl⟩⟩
      · exact ⟨hC, mC, _, ylC, ykC, eC5, ⟨_, rfl⟩⟩
    aFK := dF, FORM_WORDS_OF_KINDS := ⟨_, PySem.W.mg_of X G ydF, rfl⟩
    kFK := fun s => by
      cases s
      · exact ⟨hF, mF, _, ylF, ykF, eF0, ⟨_, rfl⟩⟩
      · exact ⟨hF, mF, _, ylF, ykF, eF3, ⟨_, rfl⟩⟩
      · exact ⟨hF, mF, _, ylF, ykF, eF2, ⟨_, rfl⟩⟩
      · exact ⟨hF, mF, _, ylF, ykF, eF1, ⟨_, rfl⟩⟩
    aGW := dG, GIVEN_WORDS := ⟨_, PySem.W.mg_of X G ydG, rfl⟩
    kGW := fun s => by
      cases s
      · exact ⟨hG, mG, _, ylG, ykG, eG0, ⟨_, rfl⟩⟩
      · exact ⟨hG, mG, _, ylG, ykG, eG3, ⟨_, rfl⟩⟩
      · exact ⟨hG, mG, _, ylG, ykG, eG2, ⟨_, rfl⟩⟩
      · exact ⟨hG, mG, _, ylG, ykG, eG1, ⟨_, rfl⟩⟩
    aTW := dT, TAKEN_WORDS := ⟨_, PySem.W.mg_of X G ydT, rfl⟩
    kTW := fun s => by
      cases s
      · exact ⟨hT, mT, _, ylT, ykT, eT3, ⟨_, rfl⟩⟩
      · exact ⟨hT, mT, _, ylT, ykT, eT0, ⟨_, rfl⟩⟩
      · exact ⟨hT, mT, _, ylT, ykT, eT1, ⟨_, rfl⟩⟩
      · exact ⟨hT, mT, _, ylT, ykT, eT2, ⟨_, rfl⟩⟩
    aHK := aK, HALVED_KINDS := ⟨_, PySem.W.mg_of X G y9, rfl⟩, sHK := fun H => .inr ⟨_, _, _, y10, rfl, rfl, (by show 4 ≤ sizeLine; decide), .cons ⟨_, rfl⟩ (.cons ⟨_, rfl⟩ (.cons ⟨_, rfl⟩ (.cons ⟨_, rfl⟩ .nil)))⟩ }
  let TE : ErrB K mg := { B := EB, gB := PySem.W.mg_of X G gEB, xB := ⟨gaEB, ggEB, exEB, hdEB⟩, nB := noEB, BB := exm_two exEB isEB tyEB sBB }
  have F1 := fun_mk (st := sfits_name) l1 c1 k1
  have b1 := F1.binds (ps := Pfits_name) fun _ _ _ _ _ _ us hl => match us, hl with | [_], _ => rfl
  have m1 := PySem.W.mg_of X G a1
  have F2 := fun_mk (st := sfits_form) l2 c2 k2
  have b2 := F2.binds (ps := Pfits_form) fun _ _ _ _ _ _ us hl => match us, hl with | [_, _], _ => rfl
  have m2 := PySem.W.mg_of X G a2
  have F3 := fun_mk (st := sis_leaf) l3 c3 k3
  have b3 := F3.binds (ps := Pis_leaf) fun _ _ _ _ _ _ us hl => match us, hl with | [_], _ => rfl
  have m3 := PySem.W.mg_of X G a3
  have F4 := fun_mk (st := scounter_of) l4 c4 k4
  have b4 := F4.binds (ps := Pcounter_of) fun _ _ _ _ _ _ us hl => match us, hl with | [_], _ => rfl
  have m4 := PySem.W.mg_of X G a4
  have F5 := fun_mk (st := sgoods_of) l5 c5 k5
  have b5 := F5.binds (ps := Pgoods_of) fun _ _ _ _ _ _ us hl => match us, hl with | [_], _ => rfl
  have m5 := PySem.W.mg_of X G a5
  have F6 := fun_mk (st := scheck_form) l6 c6 k6
  have b6 := F6.binds (ps := Pcheck_form) fun _ _ _ _ _ _ us hl => match us, hl with | [_], _ => rfl
  have m6 := PySem.W.mg_of X G a6
  have F7 := fun_mk (st := sfits_kind) l7 c7 k7
  have b7 := F7.binds (ps := Pfits_kind) fun _ _ _ _ _ _ us hl => match us, hl with | [_, _], _ => rfl
  have m7 := PySem.W.mg_of X G a7
  have F8 := fun_mk (st := sform_told) l8 c8 k8
  have b8 := F8.binds (ps := Pform_told) fun _ _ _ _ _ _ us hl => match us, hl with | [_], _ => rfl
  have m8 := PySem.W.mg_of X G a8
  have F9 := fun_mk (st := sof_halves) l9 c9 k9
  have b9 := F9.binds (ps := Pof_halves) fun _ _ _ _ _ _ us hl => match us, hl with | [_, _, _], _ => rfl
  have m9 := PySem.W.mg_of X G a9
  have F10 := fun_mk (st := skind_given) l10 c10 k10
  have b10 := F10.binds (ps := Pkind_given) fun _ _ _ _ _ _ us hl => match us, hl with | [_], _ => rfl
  have m10 := PySem.W.mg_of X G a10
  have F11 := fun_mk (st := skind_counted) l11 c11 k11
  have b11 := F11.binds (ps := Pkind_counted) fun _ _ _ _ _ _ us hl => match us, hl with | [_], _ => rfl
  have m11 := PySem.W.mg_of X G a11
  have F12 := fun_mk (st := sis_kind) l12 c12 k12
  have b12 := F12.binds (ps := Pis_kind) fun _ _ _ _ _ _ us hl => match us, hl with | [_], _ => rfl
  have m12 := PySem.W.mg_of X G a12
  have F13 := fun_mk (st := scheck_kind) l13 c13 k13
  have b13 := F13.binds (ps := Pcheck_kind) fun _ _ _ _ _ _ us hl => match us, hl with | [_], _ => rfl
  have m13 := PySem.W.mg_of X G a13
  have F14 := fun_mk (st := sform_of_kind) l14 c14 k14
  have b14 := F14.binds (ps := Pform_of_kind) fun _ _ _ _ _ _ us hl => match us, hl with | [_], _ => rfl
  have m14 := PySem.W.mg_of X G a14
  have F15 := fun_mk (st := skind_of_form) l15 c15 k15
  have b15 := F15.binds (ps := Pkind_of_form) fun _ _ _ _ _ _ us hl => match us, hl with | [_], _ => rfl
  have m15 := PySem.W.mg_of X G a15
  have F16 := fun_mk (st := skind_taken) l16 c16 k16
  have b16 := F16.binds (ps := Pkind_taken) fun _ _ _ _ _ _ us hl => match us, hl with | [_], _ => rfl
  have m16 := PySem.W.mg_of X G a16
  have F17 := fun_mk (st := sgoods_in) l17 c17 k17
  have b17 := F17.binds (ps := Pgoods_in) fun _ _ _ _ _ _ us hl => match us, hl with | [_], _ => rfl
  have m17 := PySem.W.mg_of X G a17
  have F18 := fun_mk (st := s_law_begin) l18 c18 k18
  have b18 := F18.binds (ps := P_law_begin) fun _ _ _ _ _ _ us hl => match us, hl with | [_], _ => rfl
  have m18 := PySem.W.mg_of X G a18
  have F19 := fun_mk (st := s_law_draw) l19 c19 k19
  have b19 := F19.binds (ps := P_law_draw) fun _ _ _ _ _ _ us hl => match us, hl with | [_, _], _ => rfl
  have m19 := PySem.W.mg_of X G a19
  have F20 := fun_mk (st := s_law_pick) l20 c20 k20
  have b20 := F20.binds (ps := P_law_pick) fun _ _ _ _ _ _ us hl => match us, hl with | [_, _], _ => rfl
  have m20 := PySem.W.mg_of X G a20
  have F21 := fun_mk (st := s_law_counter) l21 c21 k21
  have b21 := F21.binds (ps := P_law_counter) fun _ _ _ _ _ _ us hl => match us, hl with | [_], _ => rfl
  have m21 := PySem.W.mg_of X G a21
  have F22 := fun_mk (st := s_law_leaves) l22 c22 k22
  have b22 := F22.binds (ps := P_law_leaves) fun _ _ _ _ _ _ us hl => match us, hl with | [_], _ => rfl
  have m22 := PySem.W.mg_of X G a22
  have F23 := fun_mk (st := s_law_kind) l23 c23 k23
  have b23 := F23.binds (ps := P_law_kind) fun _ _ _ _ _ _ us hl => match us, hl with | [_, _, _], _ => rfl
  have m23 := PySem.W.mg_of X G a23
  have F24 := fun_mk (st := s_law_form_of) l24 c24 k24
  have b24 := F24.binds (ps := P_law_form_of) fun _ _ _ _ _ _ us hl => match us, hl with | [_], _ => rfl
  have m24 := PySem.W.mg_of X G a24
  have F25 := fun_mk (st := s_law_once) l25 c25 k25
  have b25 := F25.binds (ps := P_law_once) fun _ _ _ _ _ _ us hl => match us, hl with | [_], _ => rfl
  have m25 := PySem.W.mg_of X G a25
  have F26 := fun_mk (st := s_law_kind_of) l26 c26 k26
  have b26 := F26.binds (ps := P_law_kind_of) fun _ _ _ _ _ _ us hl => match us, hl with | [_], _ => rfl
  have m26 := PySem.W.mg_of X G a26
  have F27 := fun_mk (st := s_law_bent) l27 c27 k27
  have b27 := F27.binds (ps := P_law_bent) fun _ _ _ _ _ _ us hl => match us, hl with | [_, _], _ => rfl
  have m27 := PySem.W.mg_of X G a27
  have F28 := fun_mk (st := s_law_deep) l28 c28 k28
  have b28 := F28.binds (ps := P_law_deep) fun _ _ _ _ _ _ us hl => match us, hl with | [_, _, _], _ => rfl
  have m28 := PySem.W.mg_of X G a28
  have F29 := fun_mk (st := s_law_why) l29 c29 k29
  have b29 := F29.binds (ps := P_law_why) fun _ _ _ _ _ _ us hl => match us, hl with | [_], _ => rfl
  have m29 := PySem.W.mg_of X G a29
  have F30 := fun_mk (st := s_law_no_kinds) l30 c30 k30
  have b30 := F30.binds (ps := P_law_no_kinds) fun _ _ _ _ _ _ us hl => match us, hl with | [_, _], _ => rfl
  have m30 := PySem.W.mg_of X G a30
  have F31 := fun_mk (st := s_law_goods_right) l31 c31 k31
  have b31 := F31.binds (ps := P_law_goods_right) fun _ _ _ _ _ _ us hl => match us, hl with | [_], _ => rfl
  have m31 := PySem.W.mg_of X G a31
  have F32 : FunC K "law" "law" slaw fa _ (.ref cc) := ⟨oc32, od32, kV32, dc32, pm32, an32, ct32, sl32, rfl, l32, c32⟩
  have F33 := fun_mk (st := (meth 2 0)) l33 c33 k33
  have b33 := F33.binds (ps := ["self", "value"]) fun _ _ _ _ _ _ us hl => match us, hl with | [_, _], _ => rfl
  refine ⟨PySem.W.fnOf "law" "law" (defArgs slaw) (defBody slaw) (defScope slaw) .none kV32 dc32 pm32 an32 (.ref cc) ct32, [(cc, Pt)], spLaw K [(Pt, lamQ)], fun p hp => ?_, fun p hp => ?_, fun p hp => ?_, fun s v => .of_eq rfl, fun H a ns hl hb hH hS => ?_, fun base _ _ hTB => ?_⟩
  · rw [List.mem_singleton.mp hp]; exact tP
  · rw [List.mem_singleton.mp hp]; exact tN
  · rw [List.mem_singleton.mp hp]; exact PySem.W.codeHd_of_K X tC
  · refine ⟨a, ns, rfl, hS, hl, fun p hp => ?_, fun _ => rfl⟩
    rw [List.mem_singleton.mp hp]; exact LamX.TabS.nil (hH (cc, Pt) List.mem_cons_self)
  have TB1 : LamX.TabB base mg cc Pt := hTB (cc, Pt) List.mem_cons_self
  have one1 : ∀ p ∈ [(Pt, lamQ)], p.1 = Pt → p.2 = lamQ := fun p hp e => by
    rw [List.mem_singleton.mp hp]
  have OB : OneE l.prog w K mg base "BadValue" "value" EB := { oex := ⟨⟨nmB, qB, NB, bsB, bmB, snB, subB, abB, colB, ddB, mz0B, mz1B, mz2B, mz3B, mz5B, xB, rB⟩, saB, exEB, tyEB, kB⟩, xf := TE.xB, no := noEB, g := PySem.W.mg_of X G gEB, fI := f33, fd := _, iC := a33, tI := i33, b := b33, F := ok_i2 EB F33 }
  have Cfits_name : Cal l.prog w K mg base "fits_name" 2 Pfits_name (spName K) := ⟨_, _, ok_fits_name T F1, m1, k1, b1⟩
  have Cfits_form : Cal l.prog w K mg base "fits_form" 15 Pfits_form (spForm K 13) := ⟨_, _, all_fits_form T F2 b2 m2 Cfits_name 13, m2, k2, b2⟩
  have Cis_leaf : Cal l.prog w K mg base "is_leaf" 1 Pis_leaf (spLeafT K) := ⟨_, _, okis_leaf T F3, m3, k3, b3⟩
  have Ccounter_of : Cal l.prog w K mg base "counter_of" 21 Pcounter_of (spCounter K 20) := ⟨_, _, all_counter_of Y F4 b4 m4 Cis_leaf 20, m4, k4, b4⟩
  have Cgoods_of : Cal l.prog w K mg base "goods_of" 14 Pgoods_of (spGoods K 13) := ⟨_, _, all_goods_of F5 b5 m5 Cis_leaf 13, m5, k5, b5⟩
  have Ccheck_form : CalX l.prog w K mg base "check_form" 16 Pcheck_form (spCheck K EB (isForm 12)) := ⟨_, _, okcheck_form T OB F6 Cfits_form, m6, k6, b6⟩
  have Cfits_kind : Cal l.prog w K mg base "fits_kind" 15 Pfits_kind (spKindF K 13) := ⟨_, _, all_fits_kind T Y F7 b7 m7 Cfits_name 13, m7, k7, b7⟩
  have Cform_told : Cal l.prog w K mg base "form_told" 34 Pform_told (spTold K 13) := ⟨_, _, all_form_told Y F8 b8 m8 Cis_leaf Ccounter_of 13, m8, k8, b8⟩
  have Cof_halves : Cal l.prog w K mg base "of_halves" 1 Pof_halves (spHalves K) := ⟨_, _, okof_halves F9, m9, k9, b9⟩
  have KK := all_kinds (P := l.prog) (base := base) Y F10 b10 m10 F11 b11 m11 Cis_leaf Cof_halves 13
  have Ckind_given : Cal l.prog w K mg base "kind_given" 14 Pkind_given (spKind K false 13) := ⟨_, _, KK.1, m10, k10, b10⟩
  have Ckind_counted : Cal l.prog w K mg base "kind_counted" 14 Pkind_counted (spKind K true 13) := ⟨_, _, KK.2, m11, k11, b11⟩
  have Cis_kind : Cal l.prog w K mg base "is_kind" 16 Pis_kind (spIsKind K) := ⟨_, _, okis_kind T F12 Cfits_kind, m12, k12, b12⟩
  have Ccheck_kind : CalX l.prog w K mg base "check_kind" 16 Pcheck_kind (spCheck K EB (isKind 12)) := ⟨_, _, okcheck_kind T OB F13 Cfits_kind, m13, k13, b13⟩
  have Cform_of_kind : CalX l.prog w K mg base "form_of_kind" 40 Pform_of_kind (spFormOf K EB) := ⟨_, _, okform_of_kind Ccheck_kind Cform_told F14, m14, k14, b14⟩
  have Ckind_of_form : CalX l.prog w K mg base "kind_of_form" 40 Pkind_of_form (spKindOf K EB false) := ⟨_, _, okkind_of_form Ccheck_form Ckind_given F15, m15, k15, b15⟩
  have Ckind_taken : CalX l.prog w K mg base "kind_taken" 40 Pkind_taken (spKindOf K EB true) := ⟨_, _, okkind_taken Ccheck_form Ckind_counted F16, m16, k16, b16⟩
  have Cgoods_in : CalX l.prog w K mg base "goods_in" 40 Pgoods_in (spGoodsIn K EB) := ⟨_, _, okgoods_in T TG Ccheck_kind Cgoods_of F17, m17, k17, b17⟩
  have C_law_begin : Cal l.prog w K mg base "_law_begin" 1 P_law_begin (spBegin K) := ⟨_, _, ok_law_begin T F18, m18, k18, b18⟩
  have C_law_draw : Cal l.prog w K mg base "_law_draw" 1 P_law_draw (spDraw K) := ⟨_, _, ok_law_draw T F19, m19, k19, b19⟩
  have C_law_pick : Cal l.prog w K mg base "_law_pick" 2 P_law_pick (spPick K) := ⟨_, _, ok_law_pick T F20 C_law_draw, m20, k20, b20⟩
  have C_law_counter : Cal l.prog w K mg base "_law_counter" 21 P_law_counter (spCounter K 20) := ⟨_, _, all_law_counter F21 b21 m21 20, m21, k21, b21⟩
  have C_law_leaves : Cal l.prog w K mg base "_law_leaves" 14 P_law_leaves (spLeaves K 13) := ⟨_, _, all_law_leaves T F22 b22 m22 13, m22, k22, b22⟩
  have C_law_kind : Cal l.prog w K mg base "_law_kind" 7 P_law_kind (spLKind K 5) := ⟨_, _, all_law_kind F23 b23 m23 C_law_draw C_law_pick 5, m23, k23, b23⟩
  have C_law_form_of : Cal l.prog w K mg base "_law_form_of" 34 P_law_form_of (spLFormOf K 13) := ⟨_, _, all_law_form_of F24 b24 m24 C_law_counter 13, m24, k24, b24⟩
  have C_law_once : Cal l.prog w K mg base "_law_once" 1 P_law_once (spOnce K) := ⟨_, _, ok_law_once TG F25, m25, k25, b25⟩
  have C_law_kind_of : Cal l.prog w K mg base "_law_kind_of" 34 P_law_kind_of (spLKindOf K 13) := ⟨_, _, all_law_kind_of F26 b26 m26 C_law_counter 13, m26, k26, b26⟩
  have C_law_bent : Cal l.prog w K mg base "_law_bent" 34 P_law_bent (spLBent K 13) := ⟨_, _, all_law_bent T F27 b27 m27 C_law_counter C_law_draw C_law_pick 13, m27, k27, b27⟩
  have C_law_deep : Cal l.prog w K mg base "_law_deep" 3 P_law_deep (spDeepK K) := ⟨_, _, ok_law_deep T C_law_draw C_law_pick F28, m28, k28, b28⟩
  have C_law_why : Cal l.prog w K mg base "_law_why" 43 P_law_why (spWhy l.prog w K mg base TE 42) := ⟨_, _, ok_law_why TE F29, m29, k29, b29⟩
  have C_law_no_kinds : Cal l.prog w K mg base "_law_no_kinds" 4 P_law_no_kinds (spNoKinds K) := ⟨_, _, ok_law_no_kinds T C_law_pick C_law_deep F30, m30, k30, b30⟩
  have C_law_goods_right : CalX l.prog w K mg base "_law_goods_right" 45 P_law_goods_right (spGoodsRight K) := ⟨_, _, ok_law_goods_right T C_law_form_of C_law_leaves C_law_once Cgoods_in F31, m31, k31, b31⟩
  exact ok_law (B := TE) TB1 List.mem_cons_self one1 T F32 C_law_begin C_law_pick C_law_counter C_law_kind C_law_form_of C_law_kind_of C_law_bent C_law_deep C_law_why C_law_no_kinds C_law_goods_right Cis_kind Cform_of_kind Ckind_of_form Ckind_taken Cgoods_in
theorem walk {l : PySem.W.OpenLaw} {q : Program} {loose : List Str} {XP : (Str → Option Value) → Heap → Prop} {YP : World → Heap → Prop} {d : DefRec} {K : Params → PySem.W.Frag} (hn : l.most = some 63) (hdf : d.params.defaults = [])
    (hY : ∀ (w : World) (h : Heap), YP w h → (K w.params).In h)
    (F : ∀ (w : World) (mg : Str → Option Value) (fa : Addr) (h : Heap), YP w h → (K w.params).In h → h.Ns mainGlobals mg → mg d.name = some (.ref fa) → LamX.LawAtS l w (K w.params) CX0 50 63 "_law_script" mg fa h) :
    PySem.W.WalkO q loose XP YP l.row.toRowW d [] (fun f vs => PySem.call f vs) :=
  LamX.walk_ofTs (n := 63) (k := 50) (x := "_law_script") (CX := fun _ => CX0) hn (by decide) hdf ⟨rfl, by decide, by decide⟩ hY F fun _ _ _ _ _ z => z
end My

set_option Elab.async false
set_option linter.all false
open PySem PySem.W PyProof.Rows
set_option maxRecDepth 100000 in
set_option maxHeartbeats 0 in
theorem PySem.Challenge.cw_alldeeds_k83_kinds_and_their_forms_holds : PySem.Challenge.rw_alldeeds_k83_kinds_and_their_forms.Holds := by
  w_on; o_law; k_head; (case hw => w_witness2)
  k_fill
  refine My.walk (l := PySem.Challenge.rw_alldeeds_k83_kinds_and_their_forms) rfl rfl (fun w h Y => PySem.W.km_in_of Y) ?F
  case F =>
    intro w mg fa h Y KX G hmg
    have hTab := PySem.W.km_tabs_of Y
    refine' My.all_mk KX G hmg ?tP ?a1 ?l1 ?c1 ?k1 ?a2 ?l2 ?c2 ?k2 ?a3 ?l3 ?c3 ?k3 ?a4 ?l4 ?c4 ?k4 ?a5 ?l5 ?c5 ?k5 ?a6 ?l6 ?c6 ?k6 ?a7 ?l7 ?c7 ?k7 ?a8 ?l8 ?c8 ?k8 ?a9 ?l9 ?c9 ?k9 ?a10 ?l10 ?c10 ?k10 ?a11 ?l11 ?c11 ?k11 ?a12 ?l12 ?c12 ?k12 ?a13 ?l13 ?c13 ?k13 ?a14 ?l14 ?c14 ?k14 ?a15 ?l15 ?c15 ?k15 ?a16 ?l16 ?c16 ?k16 ?a17 ?l17 ?c17 ?k17 ?a18 ?l18 ?c18 ?k18 ?a19 ?l19 ?c19 ?k19 ?a20 ?l20 ?c20 ?k20 ?a21 ?l21 ?c21 ?k21 ?a22 ?l22 ?c22 ?k22 ?a23 ?l23 ?c23 ?k23 ?a24 ?l24 ?c24 ?k24 ?a25 ?l25 ?c25 ?k25 ?a26 ?l26 ?c26 ?k26 ?a27 ?l27 ?c27 ?k27 ?a28 ?l28 ?c28 ?k28 ?a29 ?l29 ?c29 ?k29 ?a30 ?l30 ?c30 ?k30 ?a31 ?l31 ?c31 ?k31 ?a32 ?l32 ?c32 ?k32 ?tN ?tC ?gEB ?gaEB ?ggEB ?exEB ?hdEB ?noEB ?isEB ?tyEB ?sBB ?xB ?rB ?saB ?kB ?a33 ?i33 ?l33 ?c33 ?k33 ?z1 ?z2 ?z3 ?z4 ?z5 ?z6 ?z7 ?z8 ?z9 ?z10 ?z11 ?y1 ?y2 ?y3 ?y4 ?y5 ?y6 ?y7 ?y8 ?y9 ?y10 ?ydC ?ylC ?ykC ?eC0 ?eC1 ?eC2 ?eC3 ?eC4 ?eC5 ?ydF ?ylF ?ykF ?eF0 ?eF1 ?eF2 ?eF3 ?ydG ?ylG ?ykG ?eG0 ?eG1 ?eG2 ?eG3 ?ydT ?ylT ?ykT ?eT0 ?eT1 ?eT2 ?eT3
    (case tP => exact hTab _ List.mem_cons_self)
    (case a1 => k_is)
    (case l1 => k_is)
    (case c1 => k_is)
    (case k1 => k_is)
    (case a2 => k_is)
    (case l2 => k_is)
    (case c2 => k_is)
    (case k2 => k_is)
    (case a3 => k_is)
    (case l3 => k_is)
    (case c3 => k_is)
    (case k3 => k_is)
    (case a4 => k_is)
    (case l4 => k_is)
    (case c4 => k_is)
    (case k4 => k_is)
    (case a5 => k_is)
    (case l5 => k_is)
    (case c5 => k_is)
    (case k5 => k_is)
    (case a6 => k_is)
    (case l6 => k_is)
    (case c6 => k_is)
    (case k6 => k_is)
    (case a7 => k_is)
    (case l7 => k_is)
    (case c7 => k_is)
    (case k7 => k_is)
    (case a8 => k_is)
    (case l8 => k_is)
    (case c8 => k_is)
    (case k8 => k_is)
    (case a9 => k_is)
    (case l9 => k_is)
    (case c9 => k_is)
    (case k9 => k_is)
    (case a10 => k_is)
    (case l10 => k_is)
    (case c10 => k_is)
    (case k10 => k_is)
    (case a11 => k_is)
    (case l11 => k_is)
    (case c11 => k_is)
    (case k11 => k_is)
    (case a12 => k_is)
    (case l12 => k_is)
    (case c12 => k_is)
    (case k12 => k_is)
    (case a13 => k_is)
    (case l13 => k_is)
    (case c13 => k_is)
    (case k13 => k_is)
    (case a14 => k_is)
    (case l14 => k_is)
    (case c14 => k_is)
    (case k14 => k_is)
    (case a15 => k_is)
    (case l15 => k_is)
    (case c15 => k_is)
    (case k15 => k_is)
    (case a16 => k_is)
    (case l16 => k_is)
    (case c16 => k_is)
    (case k16 => k_is)
    (case a17 => k_is)
    (case l17 => k_is)
    (case c17 => k_is)
    (case k17 => k_is)
    (case a18 => k_is)
    (case l18 => k_is)
    (case c18 => k_is)
    (case k18 => k_is)
    (case a19 => k_is)
    (case l19 => k_is)
    (case c19 => k_is)
    (case k19 => k_is)
    (case a20 => k_is)
    (case l20 => k_is)
    (case c20 => k_is)
    (case k20 => k_is)
    (case a21 => k_is)
    (case l21 => k_is)
    (case c21 => k_is)
    (case k21 => k_is)
    (case a22 => k_is)
    (case l22 => k_is)
    (case c22 => k_is)
    (case k22 => k_is)
    (case a23 => k_is)
    (case l23 => k_is)
    (case c23 => k_is)
    (case k23 => k_is)
    (case a24 => k_is)
    (case l24 => k_is)
    (case c24 => k_is)
    (case k24 => k_is)
    (case a25 => k_is)
    (case l25 => k_is)
    (case c25 => k_is)
    (case k25 => k_is)
    (case a26 => k_is)
    (case l26 => k_is)
    (case c26 => k_is)
    (case k26 => k_is)
    (case a27 => k_is)
    (case l27 => k_is)
    (case c27 => k_is)
    (case k27 => k_is)
    (case a28 => k_is)
    (case l28 => k_is)
    (case c28 => k_is)
    (case k28 => k_is)
    (case a29 => k_is)
    (case l29 => k_is)
    (case c29 => k_is)
    (case k29 => k_is)
    (case a30 => k_is)
    (case l30 => k_is)
    (case c30 => k_is)
    (case k30 => k_is)
    (case a31 => k_is)
    (case l31 => k_is)
    (case c31 => k_is)
    (case k31 => k_is)
    (case a32 => k_is)
    (case l32 => k_is)
    (case c32 => k_is)
    (case k32 => k_is)
    (case tN => kernel_rfl)
    (case tC => kernel_rfl)
    (case gEB => k_is)
    (case gaEB => k_is)
    (case ggEB => k_is)
    (case exEB => k_is)
    (case hdEB => k_is)
    (case noEB => k_is)
    (case isEB => k_is)
    (case tyEB => k_is)
    (case sBB => first | rfl | k_is)
    (case xB => k_is)
    (case rB => first | decide +kernel | k_is)
    (case saB => k_is)
    (case kB => k_is)
    (case a33 => k_is)
    (case i33 => k_is)
    (case l33 => k_is)
    (case c33 => k_is)
    (case k33 => k_is)
    (case z1 => k_is)
    (case z2 => k_is)
    (case z3 => k_is)
    (case z4 => k_is)
    (case z5 => k_is)
    (case z6 => k_is)
    (case z7 => k_is)
    (case z8 => k_is)
    (case z9 => k_is)
    (case z10 => k_is)
    (case z11 => k_is)
    (case y1 => k_is)
    (case y2 => k_is)
    (case y3 => k_is)
    (case y4 => k_is)
    (case y5 => k_is)
    (case y6 => k_is)
    (case y7 => k_is)
    (case y8 => k_is)
    (case y9 => k_is)
    (case y10 => k_is)
    (case ydC => k_is)
    (case ylC => k_is)
    (case ykC => exact ⟨⟨_, _, rfl, rfl⟩, ⟨_, _, rfl, rfl⟩, ⟨_, _, rfl, rfl⟩, ⟨_, _, rfl, rfl⟩, ⟨_, _, rfl, rfl⟩, ⟨_, _, rfl, rfl⟩, trivial⟩)
    (case eC0 => k_is)
    (case eC1 => k_is)
    (case eC2 => k_is)
    (case eC3 => k_is)
    (case eC4 => k_is)
    (case eC5 => k_is)
    (case ydF => k_is)
    (case ylF => k_is)
    (case ykF => exact ⟨⟨_, _, rfl, rfl⟩, ⟨_, _, rfl, rfl⟩, ⟨_, _, rfl, rfl⟩, ⟨_, _, rfl, rfl⟩, trivial⟩)
    (case eF0 => k_is)
    (case eF1 => k_is)
    (case eF2 => k_is)
    (case eF3 => k_is)
    (case ydG => k_is)
    (case ylG => k_is)
    (case ykG => exact ⟨⟨_, _, rfl, rfl⟩, ⟨_, _, rfl, rfl⟩, ⟨_, _, rfl, rfl⟩, ⟨_, _, rfl, rfl⟩, trivial⟩)
    (case eG0 => k_is)
    (case eG1 => k_is)
    (case eG2 => k_is)
    (case eG3 => k_is)
    (case ydT => k_is)
    (case ylT => k_is)
    (case ykT => exact ⟨⟨_, _, rfl, rfl⟩, ⟨_, _, rfl, rfl⟩, ⟨_, _, rfl, rfl⟩, ⟨_, _, rfl, rfl⟩, trivial⟩)
    (case eT0 => k_is)
    (case eT1 => k_is)
    (case eT2 => k_is)
    (case eT3 => k_is)

