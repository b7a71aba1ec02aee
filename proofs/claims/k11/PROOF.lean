import PyProof.Rows.All
import Wide.All
import OpenK.AllK
import Wide.FinOn
import HandS.ForMost
import HandS.Wide
import HandS.IsInst
import HandS.TupAny
import HandS.Style
import HandS.Deep
import HandS.Conv
import HandS.Codes
import KE.KRevSl
import HandS.Dict
import HandS.Iter
import KE.KeyNested
import KE.KEqDict
import HandS.Words
import HandS.DictEq
import HandS.ForExc
import HandS.Lambda
import HandS.TryMany
import HandS.ExcInit
import HandS.ExcField
import HandS.Zip
import HandS.Walk
import HandS.More
import HandS.Flow
import HandS.List
import HandS.SortKw
import PyProof.MinMaxWalk
import PyProof.WalkInts
import HandS.TryOnly
import HandS.NoneIn
import HandS.SortInts
import PyProof.EnumMake
import PyProof.Draws
import KE.GoesMore
import HandS.CallLocal
import HandS.Slots
import HandS.WordsExc
import HandS.EndTab
import PyProof.ReprLen
import HandS.Defaults
import KE.DataCmp
import KE.KNestM
import PySem.Challenge.RW_alldeeds_k11_steps_by_number
set_option Elab.async false
set_option linter.all false
set_option maxRecDepth 100000
namespace My
open PySem L2

/-! ### the text by places -/
def top (i : Nat) : Stmt := PySem.Challenge.pw_alldeeds_k11_steps_by_number.main.body.getD i (.Pass ⟨0, 0, 0, 0⟩)

/-! ### a def that may be called -/
structure Cal (P : Program) (w : World) (K : PySem.W.Frag) (mg : Str → Option Value) (base : Heap) (x : Str) (k : Nat) (ps : List Str) (sp : Sp) where
  f : Addr
  fd : FuncData
  ok : FnOk P w K mg base CX0 k f fd ps sp
  m : mg x = some (.ref f)
  kp : PySem.W.keepIn K (.ref f) = true
  b : Binds K fd ps []
section
variable {X : Cx} {k j : Nat} {ps : List Str} {sp : Sp} {x : Str} {p pos : Pos} {e : Expr} {es : List Expr} {t : TA}
theorem pe_callC (C : Cal X.prog X.w X.K X.mg X.base x k ps sp) (hr : Room j X.A) (ha : PA X (e :: es) t) (hk : k ≤ j := by omega) (hg : Gl X x := by rfl) (hdb : (x == ("__debug__" : Str)) = false := by decide)
    (he : starEach (e :: es) X.env = (false, eval e X.env) :: starEach es X.env := by rfl) (hpl : (backTo pos (starEach es X.env)).any (·.1) = false := by rfl) :
    PE X (.Call (.Name x p) (e :: es) [] pos) (tCall sp [] E0 t) := pe_call C.ok (hr.mono hk) hg C.m C.kp C.b .nil pass0 ha hdb he hpl
theorem pe_globE {v : V} (h : ∃ u, X.mg x = some u ∧ RelV v u) (hg : Gl X x := by rfl) (hd : (x == ("__debug__" : Str)) = false := by decide) : PE X (.Name x pos) (tC v) := by
  obtain ⟨u, hm, r⟩ := h
  exact pe_glob hg hm r hd
end

/-! ### heaps: all but the object at d is kept -/
def Keep (d : Addr) (H H' : Hp) : Prop := ∀ b o, b ≠ d → H b = some o → H' b = some o
def IsDk (H : Hp) (d : Addr) : Prop := ∃ kvs : List (Key × V), H d = some (.dK kvs)
theorem Keep.refl (d : Addr) (H : Hp) : Keep d H H := fun _ _ _ h => h
theorem Keep.trans {d : Addr} {H H1 H2 : Hp} (a : Keep d H H1) (b : Keep d H1 H2) : Keep d H H2 := fun c o n h => b c o n (a c o n h)
theorem Same.toKeep {d : Addr} {H H' : Hp} (s : Same H H') : Keep d H H' := fun c o _ h => s c o h
theorem same_new {H : Hp} {p : Addr} (h : H p = none) (o : HO) : Same H (upd H p o) := fun b u q => by rw [upd_ne (ne_of_none q h)]; exact q
theorem keep_put {d : Addr} {H : Hp} (o : HO) : Keep d H (upd H d o) := fun b u n q => by rw [upd_ne n]; exact q
theorem rd_keep {d : Addr} {H H' : Hp} {a : Addr} {o : HO} (hd : IsDk H d) (k : Keep d H H') (ho : ∀ kvs, o ≠ .dK kvs) (r : Rd H a o) : Rd H' a o := by
  obtain ⟨kvs, hd⟩ := hd
  have ne : a ≠ d := by
    rintro rfl
    rcases r with r | ⟨ob, r⟩
    · rw [hd] at r; exact ho _ (Option.some.inj r).symm
    · rw [hd] at r; cases r
  rcases r with r | ⟨ob, r⟩
  · exact .inl (k _ _ ne r)
  · exact .inr ⟨ob, k _ _ ne r⟩
variable {K : PySem.W.Frag}
theorem seqL_keep {d : Addr} {H H' : Hp} {a : Addr} {xs : List V} (hd : IsDk H d) (k : Keep d H H') (r : SqL K H a xs) : SqL K H' a xs := by
  rcases r with r | r
  · exact .inl (rd_keep hd k (fun _ z => by cases z) r)
  · exact .inr r
theorem seqT_keep {d : Addr} {H H' : Hp} {a : Addr} {xs : List V} (hd : IsDk H d) (k : Keep d H H') (r : SqT K H a xs) : SqT K H' a xs := by
  rcases r with r | r
  · exact .inl (rd_keep hd k (fun _ z => by cases z) r)
  · exact .inr r
mutual
theorem dp_keep {d : Addr} {H H' : Hp} (hd : IsDk H d) (k : Keep d H H') : ∀ (D : PyData) (v : V), Dp K H v D → Dp K H' v D
  | .none, _, h => by cases h; exact .non
  | .bool b, _, h => by cases h; exact .bl b
  | .int i, _, h => by cases h; exact .int i
  | .str x, _, h => by cases h; exact .str x
  | .list ds, _, h => by cases h with | lst hs ha => exact .lst (seqL_keep hd k hs) (dpAll_keep hd k ds _ ha)
  | .tuple ds, _, h => by cases h with | tup hs ha => exact .tup (seqT_keep hd k hs) (dpAll_keep hd k ds _ ha)
  | .dict _, _, h => by cases h
theorem dpAll_keep {d : Addr} {H H' : Hp} (hd : IsDk H d) (k : Keep d H H') : ∀ (Ds : List PyData) (vs : List V), DpAll K H vs Ds → DpAll K H' vs Ds
  | [], _, h => by cases h; exact .nil
  | D :: Ds, _, h => by cases h with | cons h1 h2 => exact .cons (dp_keep hd k D _ h1) (dpAll_keep hd k Ds _ h2)
end
/-- .. the same where nothing is changed -/
theorem rd_same {H H' : Hp} {a : Addr} {o : HO} (k : Same H H') (r : Rd H a o) : Rd H' a o := by
  rcases r with r | ⟨ob, r⟩
  · exact .inl (k _ _ r)
  · exact .inr ⟨ob, k _ _ r⟩
theorem seqT_same {H H' : Hp} {a : Addr} {xs : List V} (k : Same H H') (r : SqT K H a xs) : SqT K H' a xs := by
  rcases r with r | r
  · exact .inl (rd_same k r)
  · exact .inr r
mutual
theorem dp_same {H H' : Hp} (k : Same H H') : ∀ (D : PyData) (v : V), Dp K H v D → Dp K H' v D
  | .none, _, h => by cases h; exact .non
  | .bool b, _, h => by cases h; exact .bl b
  | .int i, _, h => by cases h; exact .int i
  | .str x, _, h => by cases h; exact .str x
  | .list ds, _, h => by cases h with | lst hs ha => exact .lst (k.seq hs) (dpAll_same k ds _ ha)
  | .tuple ds, _, h => by cases h with | tup hs ha => exact .tup (seqT_same k hs) (dpAll_same k ds _ ha)
  | .dict _, _, h => by cases h
theorem dpAll_same {H H' : Hp} (k : Same H H') : ∀ (Ds : List PyData) (vs : List V), DpAll K H vs Ds → DpAll K H' vs Ds
  | [], _, h => by cases h; exact .nil
  | D :: Ds, _, h => by cases h with | cons h1 h2 => exact .cons (dp_same k D _ h1) (dpAll_same k Ds _ h2)
end

/-! ### what isinstance says of data -/
def tagOf : PyData → String
  | .none => "NoneType" | .bool _ => "bool" | .int _ => "int" | .str _ => "str" | .list _ => "list" | .tuple _ => "tuple" | .dict _ => "dict"
theorem tyx_of {H : Hp} {v : V} {D : PyData} (h : Dp K H v D) : TyX K H v (.type (tagOf D)) := by
  cases h with
  | non => exact .base .non
  | bl b => exact .base (.bl b)
  | int i => exact .base (.int i)
  | str x => exact .base (.str x)
  | lst hs _ =>
    rcases hs with (hs | ⟨o, hs⟩) | ⟨o, its, n, lk, c, _⟩
    · exact .base (.lst hs)
    · exact .base (.frz hs)
    · exact .kList lk c
  | tup hs _ =>
    rcases hs with (hs | ⟨o, hs⟩) | ⟨o, its, n, lk, c, _⟩
    · exact .base (.tup hs)
    · exact .fTuple hs
    · exact .kTuple lk c
def isStrD : PyData → Bool | .str _ => true | _ => false
def isTupD : PyData → Bool | .tuple _ => true | _ => false
def isBoolD : PyData → Bool | .bool _ => true | _ => false
theorem kit_str (D : PyData) : PySem.W.kitOne K (.type (tagOf D)) (.type "str") = some (isStrD D) := by
  cases D <;> (refine kit_ty ?_; simp only [tagOf, isStrD]; decide +kernel)
theorem kit_tuple (D : PyData) : PySem.W.kitOne K (.type (tagOf D)) (.type "tuple") = some (isTupD D) := by
  cases D <;> (refine kit_ty ?_; simp only [tagOf, isTupD]; decide +kernel)
theorem kit_bool (D : PyData) : PySem.W.kitOne K (.type (tagOf D)) (.type "bool") = some (isBoolD D) := by
  cases D <;> (refine kit_ty ?_; simp only [tagOf, isBoolD]; decide +kernel)
theorem kit_dict_str : PySem.W.kitOne K (.type "dict") (.type "str") = some false := kit_ty (by decide +kernel)
theorem kit_dict_tuple : PySem.W.kitOne K (.type "dict") (.type "tuple") = some false := kit_ty (by decide +kernel)

/-! ### a comprehension over a text -/
theorem lc_str {x : Str} {g : TG} {tt : TT} {te : TE} {vs : List Nat} {σ : St} {H1 : Hp} {D : Addr} {Qd : Hp → Prop} (Pv : Nat → Hp → Prop) (h0 : Pv 0 (upd H1 D (.lst [])))
    (hs : ∀ i c H, x.cps.toList[i]? = some c → Pv i H → g (.str ⟨#[c]⟩) (wipe σ vs) H fun σ2 H2 => wipe σ2 vs = wipe σ vs ∧ tt σ2 H2 fun b H3 =>
      if b = true then te σ2 H3 fun y H4 => ∃ acc, H4 D = some (.lst acc) ∧ acc.length < sizeLine ∧ Pv (i + 1) (upd H4 D (.lst (acc ++ [y]))) else Pv (i + 1) H3) (hd : ∀ H, Pv x.cps.toList.length H → Qd H) :
    ∃ W : Nat → Nat → Hp → Prop, (∃ m, W 0 m (upd H1 D (.lst []))) ∧ ∀ i m H, W i m H →
      ((Its x).stop i H ∧ Qd H) ∨ ((Its x).go i H ∧ ∃ Nx : Hp → Prop, (∀ H', Nx H' → ∃ m', m' < m ∧ W (i + 1) m' H') ∧ ∀ x_1 H', (Its x).yld i H x_1 H' → g x_1 (wipe σ vs) H' fun σ2 H2 => wipe σ2 vs = wipe σ vs ∧ tt σ2 H2 fun b H3 =>
        if b = true then te σ2 H3 fun y H4 => ∃ acc, H4 D = some (.lst acc) ∧ acc.length < sizeLine ∧ Nx (upd H4 D (.lst (acc ++ [y]))) else Nx H3) := by
  refine ⟨fun i m H => m = x.cps.size - i ∧ i ≤ x.cps.size ∧ Pv i H, ⟨x.cps.size, by simp, Nat.zero_le _, h0⟩, ?_⟩
  rintro i m H ⟨rfl, hi, p⟩
  by_cases hlt : i < x.cps.size
  · refine .inr ⟨hlt, Pv (i + 1), fun H' p' => ⟨x.cps.size - (i + 1), by omega, rfl, hlt, p'⟩, fun v H' y => ?_⟩
    obtain ⟨e, c, hc, ev⟩ := y
    subst e ev
    exact hs i c _ (by rw [Array.getElem?_toList]; exact hc) p
  · have e : i = x.cps.size := by omega
    subst e
    exact .inl ⟨Nat.le_refl _, hd H p⟩
theorem same_fresh {H H' : Hp} {D : Addr} {o : HO} (k : Same H H') (n : H D = none) : Same H (upd H' D o) := fun b u q => by rw [upd_ne (ne_of_none q n)]; exact k _ _ q
theorem keep_fresh {d : Addr} {H H' : Hp} {D : Addr} {o : HO} (k : Keep d H H') (n : H D = none) : Keep d H (upd H' D o) := fun b u nd q => by rw [upd_ne (ne_of_none q n)]; exact k _ _ nd q
theorem take_next {α : Type} {xs : List α} {i : Nat} {c : α} (h : xs[i]? = some c) : xs.take (i + 1) = xs.take i ++ [c] := by
  rw [List.take_add_one, h]
  rfl

/-! ### names and forms -/
def zLetters : Str := Str.ofString "abcdefghijklmnopqrstuvwxyz"
def zDigits : Str := Str.ofString "0123456789"
def isL (c : Nat) : Bool := decide (c ∈ zLetters.cps.toList)
def isLD (c : Nat) : Bool := isL c || decide (c ∈ zDigits.cps.toList)
def isName (z : Str) : Bool := decide (1 ≤ z.length ∧ z.length ≤ 12) && ((z.cps.toList.head?.any isL) && z.cps.toList.all isLD)
def isNameD : PyData → Bool | .str z => isName z | _ => false
theorem inV_str (x : Str) : ∀ zs : List Str, inV (.str x) (zs.map V.str) = decide (x ∈ zs)
  | [] => by simp [inV]
  | z :: zs => by
    have ih := inV_str x zs
    unfold inV at ih ⊢
    rw [List.map_cons, List.any_cons, ih]
    by_cases e : z = x
    · subst e
      simp [eqV]
    · have e' : ¬ x = z := fun q => e q.symm
      simp [eqV, e, e']
def leafW : List Str := [Str.ofString "good", Str.ofString "counter"]
def halfW : List Str := [Str.ofString "both", Str.ofString "between", Str.ofString "offered", Str.ofString "chosen"]
def isForm : Nat → PyData → Bool
  | _, .tuple [.str x, n] => decide (x ∈ leafW) && isNameD n
  | 0, _ => false
  | k + 1, .tuple [.str x, a, b] => decide (x ∈ halfW) && (isForm k a && isForm k b)
  | _ + 1, _ => false
theorem isForm_tup2 (k : Nat) (a n : PyData) : isForm k (.tuple [a, n]) = (match a with | .str x => decide (x ∈ leafW) && isNameD n | _ => false) := by
  cases k <;> cases a <;> rfl
theorem isForm_tup3_0 (a b c : PyData) : isForm 0 (.tuple [a, b, c]) = false := by cases a <;> rfl
theorem isForm_tup3 (k : Nat) (a b c : PyData) : isForm (k + 1) (.tuple [a, b, c]) = (match a with | .str x => decide (x ∈ halfW) && (isForm k b && isForm k c) | _ => false) := by
  cases a <;> rfl
theorem isForm_tup_len (k : Nat) (ds : List PyData) (h2 : ds.length ≠ 2) (h3 : ds.length ≠ 3) : isForm k (.tuple ds) = false := by
  match ds, h2, h3 with
  | [], _, _ => cases k <;> rfl
  | [a], _, _ => cases k <;> cases a <;> rfl
  | [a, b], h, _ => exact absurd rfl h
  | [a, b, c], _, h => exact absurd rfl h
  | a :: b :: c :: d :: r, _, _ => cases k <;> cases a <;> rfl
theorem isForm_not_tup (k : Nat) (D : PyData) (h : isTupD D = false) : isForm k D = false := by
  cases D with
  | tuple ds => cases h
  | _ => cases k <;> rfl
def okStr (z : Str) : Bool := decide (z.length ≤ 1000) && z.cps.toList.all fun c => decide (c < 128)
mutual
def shortD : PyData → Bool
  | .str z => okStr z
  | .list xs => shortAll xs
  | .tuple xs => shortAll xs
  | .dict _ => false
  | _ => true
def shortAll : List PyData → Bool
  | [] => true
  | d :: ds => shortD d && shortAll ds
end
theorem shortAll_cons {d : PyData} {ds : List PyData} (h : shortAll (d :: ds) = true) : shortD d = true ∧ shortAll ds = true := by
  unfold shortAll at h
  exact Bool.and_eq_true_iff.mp h
theorem short_str {D : PyData} (h : shortD D = true) : ∀ z, D = .str z → z.length ≤ 1000 := by
  rintro z rfl
  unfold shortD okStr at h
  exact of_decide_eq_true (Bool.and_eq_true_iff.mp h).1
theorem strOk_of {z : Str} (h : okStr z = true) : PyData.strOk z = true := by
  unfold okStr at h
  unfold PyData.strOk
  have h2 := (Bool.and_eq_true_iff.mp h).2
  rw [List.all_eq_true] at h2
  rw [Array.all_eq_true']
  intro c hc
  have := of_decide_eq_true (h2 c (Array.mem_toList_iff.mpr hc))
  exact decide_eq_true (by omega)
mutual
theorem canLay_of : ∀ D : PyData, shortD D = true → D.canLay0 = true
  | .none, _ => by simp only [PyData.canLay0]
  | .bool _, _ => by simp only [PyData.canLay0]
  | .int _, _ => by simp only [PyData.canLay0]
  | .str x, h => by
    unfold shortD at h
    simp only [PyData.canLay0]
    exact strOk_of h
  | .list xs, h => by
    unfold shortD at h
    simp only [PyData.canLay0]
    exact canLayAll_of xs h
  | .tuple xs, h => by
    unfold shortD at h
    simp only [PyData.canLay0]
    exact canLayAll_of xs h
  | .dict _, h => by cases h
theorem canLayAll_of : ∀ xs : List PyData, shortAll xs = true → PyData.canLayAll0 xs = true
  | [], _ => by simp only [PyData.canLayAll0]
  | x :: xs, h => by
    have h' := shortAll_cons h
    simp only [PyData.canLayAll0, canLay_of x h'.1, canLayAll_of xs h'.2, Bool.and_self]
end
theorem shaped_of {D : PyData} (h : shortD D = true) (d : D.depth ≤ 64) : SeqAt.shaped D = true := by
  unfold SeqAt.shaped
  rw [canLay_of D h, decide_eq_true d]
  rfl
theorem depth_in {d : PyData} {ds : List PyData} (h : d ∈ ds) : d.depth + 1 ≤ (PyData.tuple ds).depth := by
  have key : ∀ ds : List PyData, d ∈ ds → d.depth ≤ PyData.depthAll ds := by
    intro ds
    induction ds with
    | nil => intro h; cases h
    | cons x xs ih =>
      intro h
      simp only [PyData.depthAll]
      rcases List.mem_cons.mp h with rfl | h
      · exact Nat.le_max_left _ _
      · exact Nat.le_trans (ih h) (Nat.le_max_right _ _)
  simp only [PyData.depth]
  have := key ds h
  omega
def memD (d : PyData) (zs : List Str) : Bool := match d with | .str x => decide (x ∈ zs) | _ => false
theorem any_eqv (d : PyData) : ∀ zs : List Str, ((zs.map PyData.str).any fun z => PyData.eqv z d) = memD d zs
  | [] => by cases d <;> rfl
  | z :: zs => by
    rw [List.map_cons, List.any_cons, any_eqv d zs]
    cases d with
    | str x =>
      unfold memD PyData.eqv
      by_cases e : z = x
      · subst e; simp
      · have e' : ¬ x = z := fun q => e q.symm
        simp [e, e']
    | _ => simp [memD, PyData.eqv]
theorem dpAll_strs {H : Hp} : ∀ zs : List Str, DpAll K H (zs.map V.str) (zs.map PyData.str)
  | [] => .nil
  | z :: zs => .cons (.str z) (dpAll_strs zs)
theorem dpAll_len {H : Hp} : ∀ {xs : List V} {ds : List PyData}, DpAll K H xs ds → xs.length = ds.length
  | _, _, .nil => rfl
  | _, _, .cons _ t => congrArg (· + 1) (dpAll_len t)
theorem inV_23 (n : Nat) : inV (.int n) [.int 2, .int 3] = (decide (n = 2) || decide (n = 3)) := by
  unfold inV
  simp only [List.any_cons, List.any_nil, Bool.or_false]
  have h2 : eqV (.int 2) (.int (n : Int)) = decide (n = 2) := by
    by_cases e : n = 2
    · subst e; rfl
    · rw [decide_eq_false e]
      show (if _ then _ else _) = _ <;> simp [eqV] <;> omega
  have h3 : eqV (.int 3) (.int (n : Int)) = decide (n = 3) := by
    by_cases e : n = 3
    · subst e; rfl
    · rw [decide_eq_false e]
      simp [eqV]
      omega
  rw [h2, h3]
end My

set_option Elab.async false
set_option linter.all false
set_option maxRecDepth 100000
namespace My
open PySem L2

structure Txt (K : PySem.W.Frag) (mg : Str → Option Value) where
  isinstance : mg "isinstance" = none
  len : mg "len" = none
  all : mg "all" = none
  str : mg "str" = none
  tuple : mg "tuple" = none
  int : mg "int" = none
  list : mg "list" = none
  abs : mg "abs" = none
  max : mg "max" = none
  min : mg "min" = none
  range : mg "range" = none
  bool : mg "bool" = none
  LETTERS : ∃ u, mg "LETTERS" = some u ∧ RelV (.str zLetters) u
  DIGITS : ∃ u, mg "DIGITS" = some u ∧ RelV (.str zDigits) u
  LONGEST_NAME : ∃ u, mg "LONGEST_NAME" = some u ∧ RelV (.int 12) u
  DEEPEST : ∃ u, mg "DEEPEST" = some u ∧ RelV (.int 12) u
  aLeaf : Addr
  LEAF_WORDS : ∃ u, mg "LEAF_WORDS" = some u ∧ RelV (.ref aLeaf) u
  sLeaf : ∀ H, SqT K H aLeaf (leafW.map V.str)
  aHalf : Addr
  HALVED_WORDS : ∃ u, mg "HALVED_WORDS" = some u ∧ RelV (.ref aHalf) u
  sHalf : ∀ H, SqT K H aHalf (halfW.map V.str)

/-- what is said of a name -/
def spName (K : PySem.W.Frag) : Sp := fun vs H Q _ => ∃ v, vs = [v] ∧
  ((∃ D, Dp K H v D ∧ (∀ z, D = .str z → z.length ≤ 1000) ∧ ∀ H', Same H H' → Q (.bl (isNameD D)) H') ∨ ((∃ (a : Addr) (kvs : List (Key × V)), v = .ref a ∧ H a = some (.dK kvs)) ∧ ∀ H', Same H H' → Q (.bl false) H'))

abbrev sfits_name : Stmt := top 17
abbrev Nfits_name : List Str := ["value", "sign"]
abbrev Pfits_name : List Str := ["value"]
theorem scfits_name : FnScope Nfits_name Pfits_name (defScope sfits_name) := ⟨rfl, rfl, rfl, by decide +kernel, rfl, by decide +kernel, by decide +kernel⟩
section
variable {P : Program} {w : World} {K : PySem.W.Frag} {mg : Str → Option Value} {base : Heap} {f : Addr} {fd : FuncData}

theorem ok_fits_name (T : Txt K mg) (F : Fun K "fits_name" "fits_name" sfits_name f fd) : FnOk P w K mg base CX0 2 f fd Pfits_name (spName K) := by
  refine F.ok scfits_name (fun vs H Q E h => ?_) (fun cdv A outer s H vs Q E hr h => ?_)
  · obtain ⟨v, rfl, _⟩ := h
    rfl
  obtain ⟨v, rfl, h⟩ := h
  refine ⟨_, (pss_cons (ps_if (PW.pt (pw_or (pt_not (pt_val (pe_callB call_isi rfl T.isinstance (by decide +kernel) (pa_cons (pv 0) (pa_cons (pe_bltn (v := .ty "str") rfl T.str (by decide +kernel) rfl) pa_nil))))) (pw_or1 (pt_not (pt_chain op_le op_le pe_int (pe_callB call_len rfl T.len (by decide +kernel) (pa_cons (pv 0) pa_nil)) (pe_globE T.LONGEST_NAME))))))
    (pss_one (ps_ret pe_bl))
    pss_nil)
  (pss_one (ps_ret (pe_and (pe_cmpR op_in_sign (pe_ix ix_seq (pv 0) pe_int (fun _ _ => rfl)) (pe_globE T.LETTERS) rfl) (pe_one (pe_callB (cr_all rfl) rfl T.all (by decide +kernel) (pa_cons (pe_lc (own := [("sign", 1)]) (g := (gName 1)) rfl scfits_name.nd (pi_str (pv 0)) (blkOk_by (own := [("sign", 1)]) (N := Nfits_name) (sc := defScope sfits_name) (by decide +kernel)) (fun _ _ _ _ _ => (pg_name (i := 1) scfits_name.nd rfl (Or.inl rfl))) (fun _ _ _ _ _ => pts_nil) (fun _ _ _ _ _ => (pe_or (pe_cmpR op_in_sign (pv 1) (pe_globE T.LETTERS) rfl) (pe_one (pe_cmpR op_in_sign (pv 1) (pe_globE T.DIGITS) rfl))))) pa_nil))))))), ?_⟩
  rcases h with ⟨D, hv, hz, q⟩ | ⟨⟨a, kvs, rfl, ha⟩, q⟩
  · refine ⟨_, rfl, _, _, _, _, _, rfl, .ty "str", tyx_of hv, kit_str D, _, rfl, ?_⟩
    by_cases hs : isStrD D = true
    · cases D with
      | str z =>
        cases hv
        have hz' : z.length ≤ 1000 := hz z rfl
        have hz2 : z.length ≤ sizeLine := Nat.le_of_lt (small1000 hz')
        refine iteF ⟨_, rfl, _, _, rfl, ⟨hz2, rfl⟩, 1, _, rfl, rfl, _, rfl, ?_⟩
        refine ite2 (fun c1 => ?_) (fun c1 => ?_)
        · refine ⟨_, _, rfl, rfl, _, rfl, ?_⟩
          by_cases c2 : (z.length : Int) ≤ 12
          · rw [decide_eq_true c2]
            have c1' : (1 : Int) ≤ z.length := of_decide_eq_true c1
            refine iteF ?_
            obtain ⟨c, hc⟩ : ∃ c, z.cps.toList[0]? = some c := ⟨_, List.getElem?_eq_getElem (by rw [Array.length_toList]; show 0 < z.length; omega)⟩
            refine ⟨_, rfl, .inr (.inr ⟨z, 0, c, rfl, rfl, hz2, atI_nat hc, c, zLetters, rfl, rfl, _, rfl, ?_⟩)⟩
            have hh : z.cps.toList.head? = some c := by rw [List.head?_eq_getElem?]; exact hc
            have en : isNameD (.str z) = (isL c && z.cps.toList.all isLD) := by
              show isName z = _
              unfold isName
              rw [hh, decide_eq_true (by omega : 1 ≤ z.length ∧ z.length ≤ 12)]
              rfl
            rw [en] at q
            refine ite2 (fun c3 => ?_) (fun c3 => ?_)
            · have c3' : isL c = true := c3
              rw [c3'] at q
              refine ⟨_, rfl, z, rfl, fun D nD => lc_str (x := z) (fun i H' => Same H H' ∧ H' D = some (.lst (((z.cps.toList.take i).map isLD).map V.bl))) ⟨same_new nD _, upd_same⟩ (fun i c H' hc ⟨k, e⟩ => ?_) (fun H' ⟨k, e⟩ => ?_)⟩
              · refine ⟨rfl, _, rfl, c, zLetters, rfl, rfl, _, rfl, ?_⟩
                have fin : ∀ b : Bool, b = isLD c → ∃ acc, H' D = some (HO.lst acc) ∧ acc.length < sizeLine ∧ Same H (upd H' D (.lst (acc ++ [.bl b]))) ∧
                    upd H' D (.lst (acc ++ [.bl b])) D = some (HO.lst (((z.cps.toList.take (i + 1)).map isLD).map V.bl)) := fun b eb => by
                  refine ⟨_, e, small1000 ?_, same_fresh k nD, ?_⟩
                  · rw [List.length_map, List.length_map, List.length_take]
                    have : z.cps.toList.length = z.length := Array.length_toList
                    omega
                  · rw [upd_same, take_next hc, List.map_append, List.map_append, eb]
                    rfl
                refine ite2 (fun c4 => ?_) (fun c4 => ?_)
                · refine fin true ?_
                  have : isL c = true := c4
                  unfold isLD
                  rw [this]
                  rfl
                · refine ⟨_, rfl, c, zDigits, rfl, rfl, ?_⟩
                  have : isL c = false := Bool.eq_false_iff.mpr c4
                  refine fin _ ?_
                  unfold isLD
                  rw [this]
                  rfl
              · rw [List.take_length] at e
                have g := q H' k
                refine ⟨D, z.cps.toList.map isLD, rfl, SqL.of e, ?_⟩
                have e2 : (z.cps.toList.map isLD).all id = z.cps.toList.all isLD := by rw [List.all_map]; rfl
                rw [e2]
                exact g
            · have c3' : isL c = false := Bool.eq_false_iff.mpr c3
              rw [c3'] at q
              exact q H (Same.refl H)
          · rw [decide_eq_false c2]
            refine iteT ?_
            have en : isNameD (.str z) = false := by
              show isName z = _
              unfold isName
              rw [decide_eq_false (by omega)]
              rfl
            rw [en] at q
            exact q H (Same.refl H)
        · have c1' : ¬ (1 : Int) ≤ z.length := fun c => c1 (decide_eq_true c)
          refine ⟨_, rfl, iteT ?_⟩
          have en : isNameD (.str z) = false := by
            show isName z = _
            unfold isName
            rw [decide_eq_false (by omega)]
            rfl
          rw [en] at q
          exact q H (Same.refl H)
      | _ => cases hs
    · have e : isNameD D = false := by cases D <;> first | rfl | exact absurd rfl hs
      rw [Bool.not_eq_true] at hs
      rw [hs]
      refine iteT (iteT ?_)
      have q' := q H (Same.refl H)
      rw [e] at q'
      exact q'
  · exact ⟨_, rfl, _, _, _, _, _, rfl, .ty "str", .base (.dK ha), kit_dict_str, _, rfl, iteT (iteT (q H (Same.refl H)))⟩
end
end My

set_option Elab.async false
set_option linter.all false
set_option maxRecDepth 100000
namespace My
open PySem L2
abbrev sfits_form : Stmt := top 18
abbrev Nfits_form : List Str := ["value", "room"]
abbrev Pfits_form : List Str := ["value", "room"]
theorem scfits_form : FnScope Nfits_form Pfits_form (defScope sfits_form) := ⟨rfl, rfl, rfl, by decide +kernel, rfl, by decide +kernel, by decide +kernel⟩

def spForm (K : PySem.W.Frag) (n : Nat) : Sp := fun vs H Q _ => ∃ (v : V) (k : Nat), vs = [v, .int k] ∧ k < n ∧
  ((∃ D, Dp K H v D ∧ shortD D = true ∧ ∀ H', Same H H' → Q (.bl (isForm k D)) H') ∨ ((∃ (a : Addr) (kvs : List (Key × V)), v = .ref a ∧ H a = some (.dK kvs)) ∧ ∀ H', Same H H' → Q (.bl false) H'))
section
variable {P : Program} {w : World} {K : PySem.W.Frag} {mg : Str → Option Value} {base : Heap} {f : Addr} {fd : FuncData}

theorem ok_fits_form {n : Nat} (T : Txt K mg) (F : Fun K "fits_form" "fits_form" sfits_form f fd) (Cfits_name : Cal P w K mg base "fits_name" 2 ["value"] (spName K)) (Cfits_form : Cal P w K mg base "fits_form" (2 + n) ["value", "room"] (spForm K n)) :
    FnOk P w K mg base CX0 (2 + n + 1) f fd Pfits_form (spForm K (n + 1)) := by
  refine F.ok scfits_form (fun vs H Q E h => ?_) (fun cdv A outer s H vs Q E hr h => ?_)
  · obtain ⟨v, k, rfl, _⟩ := h
    rfl
  obtain ⟨v, k, rfl, hk, h⟩ := h
  refine ⟨_, (pss_cons (ps_if (PW.pt (pw_or (pt_not (pt_val (pe_callB call_isi rfl T.isinstance (by decide +kernel) (pa_cons (pv 0) (pa_cons (pe_bltn (v := .ty "tuple") rfl T.tuple (by decide +kernel) rfl) pa_nil))))) (pw_or (pt_cmpR op_notIn_seq (pe_callB call_len rfl T.len (by decide +kernel) (pa_cons (pv 0) pa_nil)) (pe_tup (pa_cons pe_int (pa_cons pe_int pa_nil))) rfl) (pw_or1 (pt_not (pt_val (pe_callB call_isi rfl T.isinstance (by decide +kernel) (pa_cons (pe_ix ix_tup (pv 0) pe_int (fun _ _ => rfl)) (pa_cons (pe_bltn (v := .ty "str") rfl T.str (by decide +kernel) rfl) pa_nil)))))))))
    (pss_one (ps_ret pe_bl))
    pss_nil)
  (pss_cons (ps_if (pt_cmpR op_eq (pe_callB call_len rfl T.len (by decide +kernel) (pa_cons (pv 0) pa_nil)) pe_int (nomark _))
    (pss_one (ps_ret (pe_and (pe_cmpR op_in_seq (pe_ix ix_tup (pv 0) pe_int (fun _ _ => rfl)) (pe_globE T.LEAF_WORDS) rfl) (pe_one (pe_callC Cfits_name hr (pa_cons (pe_ix ix_tup (pv 0) pe_int (fun _ _ => rfl)) pa_nil))))))
    pss_nil)
  (pss_cons (ps_if (PW.pt (pw_or (pt_cmpR op_notIn_seq (pe_ix ix_tup (pv 0) pe_int (fun _ _ => rfl)) (pe_globE T.HALVED_WORDS) rfl) (pw_or1 (pt_cmpR op_eq (pv 1) pe_int (nomark _)))))
    (pss_one (ps_ret pe_bl))
    pss_nil)
  (pss_one (ps_ret (pe_and (pe_callC Cfits_form hr (pa_cons (pe_ix ix_tup (pv 0) pe_int (fun _ _ => rfl)) (pa_cons (pe_op op_sub (pv 1) pe_int) pa_nil))) (pe_one (pe_callC Cfits_form hr (pa_cons (pe_ix ix_tup (pv 0) pe_int (fun _ _ => rfl)) (pa_cons (pe_op op_sub (pv 1) pe_int) pa_nil)))))))))), ?_⟩
  rcases h with ⟨D, hv, hz, q⟩ | ⟨⟨a, kvs, rfl, ha⟩, q⟩
  · refine ⟨_, rfl, _, _, _, _, _, rfl, .ty "tuple", tyx_of hv, kit_tuple D, _, rfl, ?_⟩
    by_cases hs : isTupD D = true
    · cases D with
      | tuple ds =>
        cases hv with
        | @tup a xs _ hT hA =>
        have hl := dpAll_len hA
        refine iteF ⟨_, rfl, _, _, rfl, .inr ⟨xs, hT, rfl⟩, by show 2 ≤ sizeLine; decide, fun p np => ?_⟩
        have S1 : Same H (upd H p (.tup [.int 2, .int 3])) := same_new np _
        refine ⟨p, _, rfl, .inr (SqT.of upd_same), rfl, rfl, _, rfl, ?_⟩
        show (if (!inV (.int (xs.length : Nat)) [.int 2, .int 3]) = true then _ else _)
        rw [inV_23]
        match ds, xs, hA, hl with
        | [], [], hA, _ =>
          rw [isForm_tup_len _ _ (by simp) (by simp)] at q
          exact iteT (iteT (q _ S1))
        | [d], [x], hA, _ =>
          rw [isForm_tup_len _ _ (by simp) (by simp)] at q
          exact iteT (iteT (q _ S1))
        | [d, e], [x, y], hA, _ =>
          cases hA with | cons hx hA => cases hA with | cons hy _ =>
          have hzx := shortAll_cons (show shortAll [d, e] = true from by unfold shortD at hz; exact hz)
          have hzy := (shortAll_cons hzx.2).1
          refine ⟨_, rfl, a, _, _, x, rfl, rfl, seqT_same S1 hT, rfl, _, _, _, _, _, rfl, .ty "str", tyx_of (dp_same S1 _ _ hx), kit_str d, _, rfl, ?_⟩
          rw [isForm_tup2] at q
          by_cases hd : isStrD d = true
          · cases d with
            | str z =>
              cases hx
              refine iteF ⟨_, rfl, _, _, rfl, .inr ⟨_, seqT_same S1 hT, rfl⟩, rfl, _, rfl, ?_⟩
              refine iteT ⟨_, rfl, a, _, _, _, rfl, rfl, seqT_same S1 hT, rfl, T.aLeaf, _, rfl, .inr (T.sLeaf _), rfl, rfl, _, rfl, ?_⟩
              show (if inV (.str z) (leafW.map V.str) = true then _ else _)
              rw [inV_str]
              by_cases hm : z ∈ leafW
              · rw [decide_eq_true hm]
                refine iteT ⟨_, rfl, a, _, _, y, rfl, rfl, seqT_same S1 hT, rfl, y, rfl, .inl ⟨e, dp_same S1 _ _ hy, short_str hzy, fun H' S2 => ?_⟩⟩
                have g := q H' (S1.trans S2)
                simp only [decide_eq_true hm, Bool.true_and] at g
                exact g
              · rw [decide_eq_false hm]
                have g := q _ S1
                simp only [decide_eq_false hm, Bool.false_and] at g
                exact iteF g
            | _ => cases hd
          · rw [Bool.not_eq_true] at hd
            rw [hd]
            have g := q _ S1
            have g2 : Q (.bl false) (upd H p (.tup [.int 2, .int 3])) := by
              cases d <;> first | exact g | cases hd
            exact g2
        | [d, e, g], [x, y, z], hA, _ =>
          cases hA with | cons hx hA => cases hA with | cons hy hA => cases hA with | cons hw _ =>
          have hzx := shortAll_cons (show shortAll [d, e, g] = true from by unfold shortD at hz; exact hz)
          have hzy := shortAll_cons hzx.2
          have hzw := (shortAll_cons hzy.2).1
          refine ⟨_, rfl, a, _, _, x, rfl, rfl, seqT_same S1 hT, rfl, _, _, _, _, _, rfl, .ty "str", tyx_of (dp_same S1 _ _ hx), kit_str d, _, rfl, ?_⟩
          by_cases hd : isStrD d = true
          · cases d with
            | str t =>
              cases hx
              refine iteF ⟨_, rfl, _, _, rfl, .inr ⟨_, seqT_same S1 hT, rfl⟩, rfl, _, rfl, ?_⟩
              refine iteF ⟨_, rfl, a, _, _, _, rfl, rfl, seqT_same S1 hT, rfl, T.aHalf, _, rfl, .inr (T.sHalf _), rfl, rfl, _, rfl, ?_⟩
              show (if (!inV (.str t) (halfW.map V.str)) = true then _ else _)
              rw [inV_str]
              cases k with
              | zero =>
                rw [isForm_tup3_0] at q
                by_cases hm : t ∈ halfW
                · rw [decide_eq_true hm]
                  exact iteF ⟨_, rfl, rfl, _, rfl, iteT (q _ S1)⟩
                · rw [decide_eq_false hm]
                  exact iteT (iteT (q _ S1))
              | succ k =>
                rw [isForm_tup3] at q
                by_cases hm : t ∈ halfW
                · rw [decide_eq_true hm]
                  refine iteF ⟨_, rfl, rfl, _, rfl, ?_⟩
                  have ek : ¬ V.int ((k + 1 : Nat) : Int) = V.int 0 := fun z => by
                    have := V.int.inj z
                    omega
                  rw [decide_eq_false ek]
                  have e1 : ((k + 1 : Nat) : Int) - 1 = (k : Int) := by omega
                  refine iteF ⟨_, rfl, a, _, _, y, rfl, rfl, seqT_same S1 hT, rfl, _, rfl, _, _, rfl, rfl, ?_⟩
                  refine ⟨y, k, congrArg (fun i => [y, V.int i]) e1, by omega, .inl ⟨e, dp_same S1 _ _ hy, hzy.1, fun H2 S2 => ?_⟩⟩
                  have S3 := S1.trans S2
                  refine ⟨_, rfl, ?_⟩
                  by_cases hb : isForm k e = true
                  · rw [hb]
                    refine iteT ⟨_, rfl, a, _, _, z, rfl, rfl, seqT_same S3 hT, rfl, _, rfl, _, _, rfl, rfl, ?_⟩
                    refine ⟨z, k, congrArg (fun i => [z, V.int i]) e1, by omega, .inl ⟨g, dp_same S3 _ _ hw, hzw, fun H4 S4 => ?_⟩⟩
                    have g := q H4 (S3.trans S4)
                    simp only [decide_eq_true hm, Bool.true_and, hb] at g
                    exact g
                  · rw [Bool.not_eq_true] at hb
                    rw [hb]
                    have g := q H2 S3
                    simp only [hb, Bool.false_and, Bool.and_false] at g
                    exact iteF g
                · rw [decide_eq_false hm]
                  have g := q _ S1
                  simp only [decide_eq_false hm, Bool.false_and] at g
                  exact iteT (iteT g)
            | _ => cases hd
          · rw [Bool.not_eq_true] at hd
            rw [hd]
            have g := q _ S1
            have g2 : Q (.bl false) (upd H p (.tup [.int 2, .int 3])) := by
              cases k with
              | zero => rw [isForm_tup3_0] at g; exact g
              | succ k => rw [isForm_tup3] at g; cases d <;> first | exact g | cases hd
            exact g2
        | d :: e :: g :: i :: ds, x, hA, hl =>
          have e2 : x.length ≠ 2 := by rw [hl]; simp
          have e3 : x.length ≠ 3 := by rw [hl]; simp
          rw [decide_eq_false e2, decide_eq_false e3]
          have g := q _ S1
          rw [isForm_tup_len _ _ (by simp) (by simp)] at g
          exact iteT (iteT g)
      | _ => cases hs
    · rw [Bool.not_eq_true] at hs
      rw [hs]
      have q' := q H (Same.refl H)
      rw [isForm_not_tup k D hs] at q'
      exact iteT (iteT q')
  · exact ⟨_, rfl, _, _, _, _, _, rfl, .ty "tuple", .base (.dK ha), kit_dict_tuple, _, rfl, iteT (iteT (q H (Same.refl H)))⟩
end
end My

set_option Elab.async false
set_option linter.all false
set_option maxRecDepth 100000
namespace My
open PySem L2
abbrev N_law_is_name : List Str := ["_law_value", "_law_sign"]
abbrev P_law_is_name : List Str := ["_law_value"]
abbrev N_law_is_form : List Str := ["_law_value", "_law_tall"]
abbrev P_law_is_form : List Str := ["_law_value", "_law_tall"]
abbrev Nis_name : List Str := ["value"]
abbrev Pis_name : List Str := ["value"]
abbrev Nis_form : List Str := ["value"]
abbrev Pis_form : List Str := ["value"]
abbrev N_law_says : List Str := ["_law_told", "_law_due"]
abbrev P_law_says : List Str := ["_law_told", "_law_due"]
def zBoth : Str := Str.ofString "abcdefghijklmnopqrstuvwxyz0123456789"
theorem isLD_both (c : Nat) : decide (c ∈ zBoth.cps.toList) = isLD c := by
  have e : zBoth.cps.toList = zLetters.cps.toList ++ zDigits.cps.toList := by decide +kernel
  unfold isLD isL
  rw [e, ← Bool.decide_or]
  exact decide_eq_decide.mpr List.mem_append
theorem head_some {z : Str} (h : 1 ≤ z.length) : ∃ c, z.cps.toList[0]? = some c := ⟨_, List.getElem?_eq_getElem (by rw [Array.length_toList]; show 0 < z.length; omega)⟩
theorem isName_eq {z : Str} {c : Nat} (h1 : 1 ≤ z.length) (h2 : z.length ≤ 12) (hc : z.cps.toList[0]? = some c) : isName z = (isL c && z.cps.toList.all isLD) := by
  have hh : z.cps.toList.head? = some c := by rw [List.head?_eq_getElem?]; exact hc
  unfold isName
  rw [hh, decide_eq_true ⟨h1, h2⟩]
  rfl
theorem isName_out {z : Str} (h : ¬ (1 ≤ z.length ∧ z.length ≤ 12)) : isName z = false := by
  unfold isName
  rw [decide_eq_false h]
  rfl
theorem isForm_m2 (k : Nat) (a n : PyData) : isForm k (.tuple [a, n]) = (memD a leafW && isNameD n) := by rw [isForm_tup2]; cases a <;> rfl
theorem isForm_m3 (k : Nat) (a b c : PyData) : isForm (k + 1) (.tuple [a, b, c]) = (memD a halfW && (isForm k b && isForm k c)) := by rw [isForm_tup3]; cases a <;> rfl
/-- what is said of a form, all of which may be compared -/
def spFormL (K : PySem.W.Frag) (n : Nat) : Sp := fun vs H Q _ => ∃ (v : V) (k : Nat) (D : PyData), vs = [v, .int k] ∧ k < n ∧ Dp K H v D ∧ shortD D = true ∧ D.depth ≤ 60 ∧ ∀ H', Same H H' → Q (.bl (isForm k D)) H'
def spIsForm (K : PySem.W.Frag) : Sp := fun vs H Q _ => ∃ (v : V), vs = [v] ∧
  ((∃ D, Dp K H v D ∧ shortD D = true ∧ ∀ H', Same H H' → Q (.bl (isForm 12 D)) H') ∨ ((∃ (a : Addr) (kvs : List (Key × V)), v = .ref a ∧ H a = some (.dK kvs)) ∧ ∀ H', Same H H' → Q (.bl false) H'))
def spSays : Sp := fun vs H Q _ => ∃ a b : Bool, vs = [.bl a, .bl b] ∧ Q (.bl (a == b)) H
section
variable {P : Program} {w : World} {K : PySem.W.Frag} {mg : Str → Option Value} {base : Heap} {f : Addr} {fd : FuncData}
end
end My

set_option Elab.async false
set_option linter.all false
set_option maxRecDepth 100000
namespace My
open PySem L2
/-! ### the source of draws -/
def penK (L : Addr) (b l : Int) : List (Key × V) := [(.inr (Str.ofString "cells"), .ref L), (.inr (Str.ofString "begun"), .int b), (.inr (Str.ofString "left"), .int l)]
structure Pen (K : PySem.W.Frag) (H : Hp) (d L : Addr) (ns : List Int) (n : Nat) : Prop where
  ex : ∃ b l : Int, H d = some (.dK (penK L b l)) ∧ 0 ≤ b ∧ b ≤ n
  cells : SqL K H L (ns.map V.int)
  few : ns.length ≤ 63
section
variable {K : PySem.W.Frag} {H H' : Hp} {d L : Addr} {ns : List Int} {n m : Nat}
theorem Pen.isDk (p : Pen K H d L ns n) : IsDk H d := by
  obtain ⟨b, l, h, _⟩ := p.ex
  exact ⟨_, h⟩
theorem Pen.same (p : Pen K H d L ns n) (k : Same H H') : Pen K H' d L ns n := by
  obtain ⟨b, l, h, h0⟩ := p.ex
  exact ⟨⟨b, l, k _ _ h, h0⟩, k.seq p.cells, p.few⟩
theorem Pen.mono (p : Pen K H d L ns n) (h : n ≤ m) : Pen K H d L ns m := by
  obtain ⟨b, l, e, h0, h1⟩ := p.ex
  exact ⟨⟨b, l, e, h0, by omega⟩, p.cells, p.few⟩
/-- .. behind a change elsewhere: D is new since H -/
theorem Pen.fresh {D : Addr} {o : HO} {H0 : Hp} (p : Pen K H d L ns n) (k : Keep d H0 H) (c0 : SqL K H0 L (ns.map V.int)) (hd : IsDk H0 d) (nD : H0 D = none) : Pen K (upd H D o) d L ns n := by
  obtain ⟨b, l, h, h0⟩ := p.ex
  have ne : d ≠ D := by
    obtain ⟨kvs, e⟩ := hd
    exact ne_of_none e nD
  exact ⟨⟨b, l, by rw [upd_ne ne]; exact h, h0⟩, seqL_keep hd (keep_fresh k nD) c0, p.few⟩
theorem Pen.put {b l : Int} (p : Pen K H d L ns n) (h0 : 0 ≤ b) (h1 : b ≤ m) : Pen K (upd H d (.dK (penK L b l))) d L ns m :=
  ⟨⟨b, l, upd_same, h0, h1⟩, seqL_keep p.isDk (keep_put _) p.cells, p.few⟩
theorem get_cells {b l : Int} (h : H d = some (.dK (penK L b l))) : DGet H d (.str (Str.ofString "cells")) (some (.ref L)) := DGet.k (k := .inr (Str.ofString "cells")) h
theorem get_begun {b l : Int} (h : H d = some (.dK (penK L b l))) : DGet H d (.str (Str.ofString "begun")) (some (.int b)) := DGet.k (k := .inr (Str.ofString "begun")) h
theorem get_left {b l : Int} (h : H d = some (.dK (penK L b l))) : DGet H d (.str (Str.ofString "left")) (some (.int l)) := DGet.k (k := .inr (Str.ofString "left")) h
theorem put_begun {b l b' : Int} (h : H d = some (.dK (penK L b l))) : DPut H d (.str (Str.ofString "begun")) (.int b') (upd H d (.dK (penK L b' l))) := DPut.k (k := .inr (Str.ofString "begun")) h (by show 3 < sizeLine; decide)
theorem put_left {b l l' : Int} (h : H d = some (.dK (penK L b l))) : DPut H d (.str (Str.ofString "left")) (.int l') (upd H d (.dK (penK L b l'))) := DPut.k (k := .inr (Str.ofString "left")) h (by show 3 < sizeLine; decide)
theorem dpAll_ints : ∀ ns : List Int, DpAll K H (ns.map V.int) (ns.map PyData.int)
  | [] => .nil
  | n :: ns => .cons (.int n) (dpAll_ints ns)
theorem shaped_ints (ns : List Int) : SeqAt.shaped (.list (ns.map PyData.int)) = true := by
  have h1 : ∀ ns : List Int, PyData.canLayAll0 (ns.map PyData.int) = true := by
    intro ns
    induction ns with
    | nil => simp only [List.map_nil, PyData.canLayAll0]
    | cons n ns ih => simp only [List.map_cons, PyData.canLayAll0, PyData.canLay0, ih, Bool.and_self]
  have h2 : ∀ ns : List Int, PyData.depthAll (ns.map PyData.int) = 0 := by
    intro ns
    induction ns with
    | nil => simp only [List.map_nil, PyData.depthAll]
    | cons n ns ih => simp only [List.map_cons, PyData.depthAll, PyData.depth, ih, Nat.max_self]
  unfold SeqAt.shaped
  simp only [PyData.canLay0, PyData.depth, h1, h2]
  decide
theorem eqv_nil (ns : List Int) : PyData.eqv (.list (ns.map PyData.int)) (.list []) = ns.isEmpty := by
  cases ns <;> simp [PyData.eqv, PyData.eqvAll]
end
abbrev s_law_begin : Stmt := top 72
abbrev N_law_begin : List Str := ["_law_script"]
abbrev P_law_begin : List Str := ["_law_script"]
theorem sc_law_begin : FnScope N_law_begin P_law_begin (defScope s_law_begin) := ⟨rfl, rfl, rfl, by decide +kernel, rfl, by decide +kernel, by decide +kernel⟩
abbrev s_law_draw : Stmt := top 73
abbrev N_law_draw : List Str := ["_law_pen", "_law_span", "_law_digit", "_law_at", "_law_cell", "_law_n"]
abbrev P_law_draw : List Str := ["_law_pen", "_law_span"]
theorem sc_law_draw : FnScope N_law_draw P_law_draw (defScope s_law_draw) := ⟨rfl, rfl, rfl, by decide +kernel, rfl, by decide +kernel, by decide +kernel⟩
abbrev s_law_pick : Stmt := top 74
abbrev N_law_pick : List Str := ["_law_pen", "_law_some"]
abbrev P_law_pick : List Str := ["_law_pen", "_law_some"]
theorem sc_law_pick : FnScope N_law_pick P_law_pick (defScope s_law_pick) := ⟨rfl, rfl, rfl, by decide +kernel, rfl, by decide +kernel, by decide +kernel⟩
def spBegin (K : PySem.W.Frag) : Sp := fun vs H Q _ => ∃ (a : Addr) (ns : List Int), vs = [.ref a] ∧ SqL K H a (ns.map V.int) ∧ ns.length ≤ 63 ∧ ∀ d L H', Same H H' → Pen K H' d L ns 0 → Q (.ref d) H'
def spDraw (K : PySem.W.Frag) : Sp := fun vs H Q _ => ∃ (d L : Addr) (ns : List Int) (n : Nat) (m : Int), vs = [.ref d, .int m] ∧ Pen K H d L ns n ∧ n < 2 ^ 40 ∧ 0 < m ∧ m ≤ 2 ^ 20 ∧
  ∀ (r : Int) H', 0 ≤ r → r < m → Keep d H H' → Pen K H' d L ns (n + 1) → Q (.int r) H'
def spPick (K : PySem.W.Frag) : Sp := fun vs H Q _ => ∃ (d L : Addr) (ns : List Int) (n : Nat) (v : V), vs = [.ref d, v] ∧ Pen K H d L ns n ∧ n < 2 ^ 40 ∧
  ((∃ (a : Addr) (xs : List V), v = .ref a ∧ SqL K H a xs ∧ xs ≠ [] ∧ xs.length ≤ 1000 ∧ ∀ x H', x ∈ xs → Keep d H H' → Pen K H' d L ns (n + 1) → Q x H') ∨
   (∃ z : Str, v = .str z ∧ 1 ≤ z.length ∧ z.length ≤ 1000 ∧ ∀ c H', c ∈ z.cps.toList → Keep d H H' → Pen K H' d L ns (n + 1) → Q (.str ⟨#[c]⟩) H'))
section
variable {P : Program} {w : World} {K : PySem.W.Frag} {mg : Str → Option Value} {base : Heap} {f : Addr} {fd : FuncData}
theorem ok_law_begin (T : Txt K mg) (F : Fun K "_law_begin" "_law_begin" s_law_begin f fd) : FnOk P w K mg base CX0 1 f fd P_law_begin (spBegin K) := by
  refine F.ok sc_law_begin (fun vs H Q E h => ?_) (fun cdv A outer s H vs Q E hr h => ?_)
  · obtain ⟨a, ns, rfl, _⟩ := h
    rfl
  obtain ⟨a, ns, rfl, hS, h63, q⟩ := h
  refine ⟨_, (pss_one (ps_ret (pe_disp (pps_cons pe_str (pe_callTy call_list_of rfl T.list (by decide +kernel) (pa_cons (pe_slice sl_list (pv 0) po_none (po_some pe_int)) pa_nil)) (pps_cons pe_str pe_int (pps_cons pe_str pe_int pps_nil))) (by rfl) (by rfl) (fun z => by cases z) (by decide)))), ?_⟩
  refine fun d nd => ⟨_, rfl, _, rfl, a, _, rfl, (same_new nd _).seq hS, fun p1 n1 => ⟨p1, _, rfl, .inl (SqL.of upd_same), fun p2 n2 => ⟨?_, penK p2 0 0, rfl, by show 3 ≤ 15; decide, ?_⟩⟩⟩
  · have e1 : upd (upd H d (.dK [])) p1 (.lst (cutV (ns.map V.int) none (some 63))) d = some (.dK []) := same_new n1 _ _ _ upd_same
    exact same_new n2 _ _ _ e1
  · have e1 : upd (upd H d (.dK [])) p1 (.lst (cutV (ns.map V.int) none (some 63))) d = some (.dK []) := same_new n1 _ _ _ upd_same
    have ne : p2 ≠ d := fun z => (ne_of_none e1 n2) z.symm
    have c : cutV (ns.map V.int) none (some 63) = ns.map V.int := by
      have el : (ns.map V.int).length = ns.length := List.length_map _
      show (ns.map V.int).take (min 63 (ns.map V.int).length - 0) = _
      rw [Nat.min_eq_right (by omega), Nat.sub_zero, List.take_length]
    refine q d p2 _ ?_ ⟨⟨0, 0, upd_same, by omega, by omega⟩, ?_, h63⟩
    · exact fun b o hb => by
        have nb : b ≠ d := ne_of_none hb nd
        rw [upd_ne nb]
        exact same_new n2 _ _ _ (same_new n1 _ _ _ (same_new nd _ _ _ hb))
    · refine SqL.of ?_
      rw [upd_ne ne, upd_same, c]
theorem ok_law_draw (T : Txt K mg) (F : Fun K "_law_draw" "_law_draw" s_law_draw f fd) : FnOk P w K mg base CX0 1 f fd P_law_draw (spDraw K) := by
  refine F.ok sc_law_draw (fun vs H Q E h => ?_) (fun cdv A outer s H vs Q E hr h => ?_)
  · obtain ⟨d, L, ns, n, m, rfl, _⟩ := h
    rfl
  obtain ⟨d, L, ns, n, m, rfl, p, hn, hm, hm2, q⟩ := h
  refine ⟨_, (pss_cons (ps_if (pt_cmpR op_gt (pe_dget (hu_of hr) (pv 0) pe_str (fun _ _ => rfl)) pe_int (nomark _))
    (pss_cons (ps_set (i := 2) sc_law_draw.nd rfl (Or.inl rfl) (pe_op op_mod (pe_callTy call_int1 rfl T.int (by decide +kernel) (pa_cons (pe_dget (hu_of hr) (pv 0) pe_str (fun _ _ => rfl)) pa_nil)) (pv 1)))
    (pss_cons (ps_dput (hu_of hr) (pv 0) pe_str (pe_op op_fdivW (pe_dget (hu_of hr) (pv 0) pe_str (fun _ _ => rfl)) (pv 1)) rfl)
    (pss_one (ps_ret (pv 2)))))
    pss_nil)
  (pss_cons (ps_set (i := 3) sc_law_draw.nd rfl (Or.inl rfl) (pe_dget (hu_of hr) (pv 0) pe_str (fun _ _ => rfl)))
  (pss_cons (ps_dput (hu_of hr) (pv 0) pe_str (pe_op op_add (pv 3) pe_int) rfl)
  (pss_cons (ps_set (i := 4) sc_law_draw.nd rfl (Or.inl rfl) (pe_op op_add (pe_op op_mul pe_int (pv 3)) pe_int))
  (pss_cons (ps_if (pt_cmpR (op_neD hr.units) (pe_dget (hu_of hr) (pv 0) pe_str (fun _ _ => rfl)) (pe_lst pa_nil) (nomark _))
    (pss_one (ps_set (i := 4) sc_law_draw.nd rfl (Or.inl rfl) (pe_ix ix_list (pe_dget (hu_of hr) (pv 0) pe_str (fun _ _ => rfl)) (pe_op op_mod (pe_callTy call_int1 rfl T.int (by decide +kernel) (pa_cons (pv 3) pa_nil)) (pe_callB call_len rfl T.len (by decide +kernel) (pa_cons (pe_dget (hu_of hr) (pv 0) pe_str (fun _ _ => rfl)) pa_nil))) (fun _ _ => rfl))))
    pss_nil)
  (pss_cons (ps_if (PW.pt (pw_and (pt_cmpR op_lt (pv 3) (pe_callB call_len rfl T.len (by decide +kernel) (pa_cons (pe_dget (hu_of hr) (pv 0) pe_str (fun _ _ => rfl)) pa_nil)) (nomark _)) (pw_and1 (pt_cmpR op_ge (pe_callB call_abs rfl T.abs (by decide +kernel) (pa_cons (pv 4) pa_nil)) (pe_op op_pow pe_int pe_int) (nomark _)))))
    (pss_cons (ps_dput (hu_of hr) (pv 0) pe_str (pe_op op_fdivW (pe_op op_sub (pe_callB call_abs rfl T.abs (by decide +kernel) (pa_cons (pv 4) pa_nil)) (pe_op op_pow pe_int pe_int)) (pv 1)) rfl)
    (pss_one (ps_ret (pe_op op_mod (pe_callTy call_int1 rfl T.int (by decide +kernel) (pa_cons (pe_op op_sub (pe_callB call_abs rfl T.abs (by decide +kernel) (pa_cons (pv 4) pa_nil)) (pe_op op_pow pe_int pe_int)) pa_nil)) (pv 1)))))
    pss_nil)
  (pss_cons (ps_set (i := 5) sc_law_draw.nd rfl (Or.inl rfl) (pe_op op_add (pe_op op_mul (pe_op op_mod (pe_callTy call_int1 rfl T.int (by decide +kernel) (pa_cons (pv 4) pa_nil)) pe_int) pe_int) (pe_op op_mul (pe_op op_mul pe_int (pv 3)) (pv 3))))
  (pss_cons (ps_set (i := 5) sc_law_draw.nd rfl (Or.inl rfl) (pe_op op_mod (pe_callTy call_int1 rfl T.int (by decide +kernel) (pa_cons (pe_op op_add (pe_op op_add (pv 5) (pe_op op_mul pe_int (pv 3))) pe_int) pa_nil)) pe_int))
  (pss_cons (ps_set (i := 5) sc_law_draw.nd rfl (Or.inl rfl) (pe_op op_mod (pe_callTy call_int1 rfl T.int (by decide +kernel) (pa_cons (pe_op op_add (pe_op op_add (pe_op op_add (pe_op op_mul (pv 5) (pv 5)) (pe_op op_mul pe_int (pv 5))) (pe_op op_mul pe_int (pv 3))) pe_int) pa_nil)) pe_int))
  (pss_cons (ps_set (i := 5) sc_law_draw.nd rfl (Or.inl rfl) (pe_op op_mod (pe_callTy call_int1 rfl T.int (by decide +kernel) (pa_cons (pe_op op_add (pe_op op_add (pe_op op_mul (pv 5) (pv 5)) (pe_op op_mul pe_int (pv 5))) (pv 3)) pa_nil)) pe_int))
  (pss_one (ps_ret (pe_op op_mod (pe_callTy call_int1 rfl T.int (by decide +kernel) (pa_cons (pe_op op_fdivW (pe_op op_mod (pe_callTy call_int1 rfl T.int (by decide +kernel) (pa_cons (pe_op op_mul (pv 5) (pe_op op_add (pv 5) pe_int)) pa_nil)) pe_int) pe_int) pa_nil)) (pv 1)))))))))))))), ?_⟩
  obtain ⟨b, l, hd, hb0, hbn⟩ := p.ex
  have hb : -(2 ^ 64) < b ∧ b < 2 ^ 64 := by omega
  have hdiv : L2.CDivW 0 m := wide_div hm (b := 21) (by omega) (by decide) (by decide)
  have kd : IsDk H d := p.isDk
  refine ⟨_, rfl, d, _, rfl, get_left hd, _, _, rfl, rfl, _, rfl, ?_⟩
  refine ite2 (fun c => ?_) (fun c => ?_)
  · refine ⟨_, rfl, d, _, rfl, get_left hd, .inl ⟨_, rfl, _, rfl, _, _, rfl, rfl, hm, ?_⟩⟩
    refine ⟨_, rfl, d, _, rfl, get_left hd, _, rfl, _, _, rfl, rfl, hdiv, _, rfl, d, _, rfl, put_left hd, _, rfl, ?_⟩
    exact q _ _ (Int.emod_nonneg _ (by omega)) (Int.emod_lt_of_pos _ hm) (keep_put _) (p.put hb0 (by omega))
  · refine ⟨_, rfl, d, _, rfl, get_begun hd, ?_⟩
    refine ⟨_, rfl, _, _, rfl, rfl, _, rfl, d, _, rfl, put_begun hd, ?_⟩
    have h1 : upd H d (.dK (penK L (b + 1) l)) d = some (.dK (penK L (b + 1) l)) := upd_same
    have p1 : Pen K (upd H d (.dK (penK L (b + 1) l))) d L ns (n + 1) := p.put (by omega) (by omega)
    have k1 : Keep d H (upd H d (.dK (penK L (b + 1) l))) := keep_put _
    generalize upd H d (.dK (penK L (b + 1) l)) = H1 at h1 p1 k1 ⊢
    refine ⟨_, rfl, _, _, rfl, rfl, .inl ⟨by decide, by decide⟩, _, _, rfl, rfl, ?_⟩
    refine ⟨_, rfl, d, _, rfl, get_cells h1, by show 0 ≤ sizeLine; decide, fun p0 np0 => ⟨.list (ns.map PyData.int), .list [], .lst ((same_new np0 _).seq p1.cells) (dpAll_ints ns), .lst (SqL.of upd_same) .nil, shaped_ints ns, by decide, _, rfl, ?_⟩⟩
    have h2 := same_new np0 (.lst []) _ _ h1
    have p2 := p1.same (same_new np0 (.lst []))
    have k2 : Keep d H (upd H1 p0 (.lst [])) := k1.trans (Same.toKeep (same_new np0 (.lst [])))
    generalize upd H1 p0 (.lst []) = H2 at h2 p2 k2 ⊢
    rw [eqv_nil]
    have hlen : ∀ x, (ns.map V.int).length = x → ns.length = x := fun x e => by rw [List.length_map] at e; exact e
    generalize hcv : (101 * b + 47 : Int) = c0
    refine ite2 (fun c1 => ?a) (fun c1 => ?b)
    case' a =>
      have hne : 0 < ns.length := by
        cases ns with
        | nil => cases c1
        | cons _ _ => exact Nat.succ_pos _
      have hpos : (0 : Int) < ((ns.map V.int).length : Nat) := by rw [List.length_map]; omega
      have hlt : (b % ((ns.map V.int).length : Nat)).toNat < ns.length := by
        have h3 := Int.emod_nonneg b (b := (((ns.map V.int).length : Nat) : Int)) (by omega)
        have h4 := Int.emod_lt_of_pos b hpos
        rw [List.length_map] at *
        omega
      have hat : atI (ns.map V.int) (b % ((ns.map V.int).length : Nat)) = some (V.int ns[(b % ((ns.map V.int).length : Nat)).toNat]) := by
        have h3 := Int.emod_nonneg b (b := (((ns.map V.int).length : Nat) : Int)) (by omega)
        have e := Int.toNat_of_nonneg h3
        have g := atI_nat (xs := ns.map V.int) (j := (b % ((ns.map V.int).length : Nat)).toNat) (v := V.int ns[(b % ((ns.map V.int).length : Nat)).toNat]) (by rw [List.getElem?_map, List.getElem?_eq_getElem hlt]; rfl)
        rw [e] at g
        exact g
      generalize ns[(b % ((ns.map V.int).length : Nat)).toNat] = c2 at hat
      refine ⟨_, rfl, d, _, rfl, get_cells h2, _, rfl, .inl ⟨_, rfl, _, rfl, d, _, rfl, get_cells h2, _, _, rfl, .inl ⟨_, p2.cells, rfl⟩, _, _, rfl, rfl, hpos, L, _, _, _, rfl, rfl, p2.cells, hat, ?_⟩⟩
    all_goals
      refine ⟨_, rfl, _, rfl, d, _, rfl, get_cells h2, _, _, rfl, .inl ⟨_, p2.cells, rfl⟩, _, _, rfl, rfl, _, rfl, ?_⟩
      refine ite2 (fun c4 => ?_) (fun c4 => ?_)
      refine ⟨_, rfl, _, rfl, _, _, rfl, rfl, ⟨by decide, by decide, by decide⟩, _, _, rfl, rfl, _, rfl, ?_⟩
      refine ite2 (fun c5 => ?_) (fun c5 => ?_)
      refine ⟨_, rfl, _, rfl, _, _, rfl, rfl, ⟨by decide, by decide, by decide⟩, _, _, rfl, rfl, _, rfl, _, _, rfl, rfl, hdiv, _, rfl, d, _, rfl, put_left h2, ?_⟩
      refine ⟨_, rfl, _, rfl, _, _, rfl, rfl, ⟨by decide, by decide, by decide⟩, _, _, rfl, rfl, .inl ⟨_, rfl, _, rfl, _, _, rfl, rfl, hm, ?_⟩⟩
      exact q _ _ (Int.emod_nonneg _ (by omega)) (Int.emod_lt_of_pos _ hm) (k2.trans (keep_put _)) (p2.put (by omega) (by omega))
      all_goals
        refine ⟨_, rfl, .inl ⟨_, rfl, _, _, rfl, rfl, (by show (0 : Int) < 2147483423; decide), _, _, rfl, rfl, .inr ⟨by decide, by decide⟩, _, rfl, _, _, rfl, rfl, .inl ⟨by decide, by decide⟩, _, rfl, _, _, rfl, rfl, .inr hb, _, _, rfl, rfl, ?_⟩⟩
        refine ⟨_, rfl, _, rfl, _, _, rfl, rfl, .inl ⟨by decide, by decide⟩, _, _, rfl, rfl, _, _, rfl, rfl, .inl ⟨_, rfl, _, _, rfl, rfl, (by show (0 : Int) < 2147483399; decide), ?_⟩⟩
        refine ⟨_, rfl, _, rfl, _, _, rfl, rfl, .inl ⟨by omega, by omega⟩, _, rfl, _, _, rfl, rfl, .inl ⟨by decide, by decide⟩, _, _, rfl, rfl, _, rfl, _, _, rfl, rfl, .inl ⟨by decide, by decide⟩, _, _, rfl, rfl, _, _, rfl, rfl, .inl ⟨_, rfl, _, _, rfl, rfl, (by show (0 : Int) < 2147483353; decide), ?_⟩⟩
        refine ⟨_, rfl, _, rfl, _, _, rfl, rfl, .inl ⟨by omega, by omega⟩, _, rfl, _, _, rfl, rfl, .inl ⟨by decide, by decide⟩, _, _, rfl, rfl, _, rfl, _, _, rfl, rfl, .inl ⟨_, rfl, _, _, rfl, rfl, (by show (0 : Int) < 2147483323; decide), ?_⟩⟩
        refine ⟨_, rfl, _, rfl, _, _, rfl, rfl, _, _, rfl, rfl, .inl ⟨by omega, by omega⟩, .inl ⟨_, rfl, _, _, rfl, rfl, (by show (0 : Int) < 2147483269; decide), _, _, rfl, rfl, ⟨by decide, by decide⟩, .inl ⟨_, rfl, _, rfl, _, _, rfl, rfl, hm, ?_⟩⟩⟩
        exact q _ _ (Int.emod_nonneg _ (by omega)) (Int.emod_lt_of_pos _ hm) k2 p2
end
end My

set_option Elab.async false
set_option linter.all false
set_option maxRecDepth 100000
namespace My
open PySem L2 SX
theorem atI_int {α : Type} {xs : List α} {r : Int} (h0 : 0 ≤ r) (h1 : r < (xs.length : Int)) : ∃ x, atI xs r = some x ∧ x ∈ xs := by
  have h : r.toNat < xs.length := by omega
  refine ⟨xs[r.toNat], ?_, List.getElem_mem h⟩
  have e := atI_nat (xs := xs) (j := r.toNat) (v := xs[r.toNat]) (List.getElem?_eq_getElem h)
  rw [Int.toNat_of_nonneg h0] at e
  exact e
theorem joinL_signs : ∀ cs : List Nat, TL.joinL [] (cs.map fun c => [c]) = cs
  | [] => rfl
  | [c] => rfl
  | c :: e :: r => by
    have ih := joinL_signs (e :: r)
    simp only [List.map_cons] at ih ⊢
    unfold TL.joinL
    rw [ih]
    rfl
theorem join_signs (cs : List Nat) : Txt.join (Str.ofString "") (cs.map fun c => (⟨#[c]⟩ : Str)) = S cs := by
  have e := join_S [] (cs.map fun c => [c])
  rw [joinL_signs, List.map_map] at e
  exact e
theorem sum_signs : ∀ cs : List Nat, ((cs.map fun c => (⟨#[c]⟩ : Str)).map (·.length)).sum = cs.length
  | [] => rfl
  | c :: cs => by
    have ih := sum_signs cs
    rw [List.map_cons, List.map_cons, List.sum_cons, ih, List.length_cons]
    show 1 + cs.length = cs.length + 1
    omega
theorem isName_cs {c : Nat} {cs : List Nat} (h : isL c = true) (hs : ∀ x ∈ cs, isLD x = true) (hl : cs.length ≤ 11) : isName (S (c :: cs)) = true := by
  have e := isName_eq (z := S (c :: cs)) (c := c) (by rw [S_len]; exact Nat.succ_pos _) (by rw [S_len, List.length_cons]; omega) rfl
  rw [e, h]
  show (true && (c :: cs).all isLD) = true
  rw [Bool.true_and, List.all_eq_true]
  intro x hx
  rcases List.mem_cons.mp hx with rfl | hx
  · unfold isLD
    rw [h]
    rfl
  · exact hs x hx
theorem isLD_asc {c : Nat} (h : isLD c = true) : c < 128 := by
  rw [← isLD_both] at h
  have h2 := of_decide_eq_true h
  have e : ∀ x ∈ zBoth.cps.toList, x < 128 := by decide +kernel
  exact e c h2
theorem okStr_of_name {z : Str} (h : isName z = true) : okStr z = true := by
  have h12 : 1 ≤ z.length ∧ z.length ≤ 12 := by
    by_cases c : 1 ≤ z.length ∧ z.length ≤ 12
    · exact c
    · rw [isName_out c] at h
      cases h
  obtain ⟨c, hc⟩ := head_some h12.1
  rw [isName_eq h12.1 h12.2 hc] at h
  have h2 := (Bool.and_eq_true_iff.mp h).2
  rw [List.all_eq_true] at h2
  unfold okStr
  rw [decide_eq_true (by omega), Bool.true_and, List.all_eq_true]
  intro x hx
  exact decide_eq_true (isLD_asc (h2 x hx))
theorem name_len {z : Str} (h : isName z = true) : 1 ≤ z.length ∧ z.length ≤ 12 := by
  by_cases c : 1 ≤ z.length ∧ z.length ≤ 12
  · exact c
  · rw [isName_out c] at h
    cases h
abbrev N_law_name : List Str := ["_law_pen", "_law_letters", "_law_many", "_law_rest", "_law_k"]
abbrev P_law_name : List Str := ["_law_pen"]
abbrev N_law_names : List Str := ["_law_pen", "_law_most", "_law_k"]
abbrev P_law_names : List Str := ["_law_pen", "_law_most"]
def spNameOf (K : PySem.W.Frag) : Sp := fun vs H Q _ => ∃ (d L : Addr) (ns : List Int) (n : Nat), vs = [.ref d] ∧ Pen K H d L ns n ∧ n < 2 ^ 39 ∧
  ∀ z H', isName z = true → Keep d H H' → Pen K H' d L ns (n + 13) → Q (.str z) H'
def spNames (K : PySem.W.Frag) : Sp := fun vs H Q _ => ∃ (d L : Addr) (ns : List Int) (n m : Nat), vs = [.ref d, .int m] ∧ Pen K H d L ns n ∧ n < 2 ^ 38 ∧ 0 < m ∧ m ≤ 100 ∧
  ∀ a zs H', (∀ z ∈ zs, isName z = true) → zs ≠ [] → zs.length ≤ 100 → SqL K H' a (zs.map V.str) → Keep d H H' → Pen K H' d L ns (n + 1 + 13 * m) → Q (.ref a) H'
section
variable {P : Program} {w : World} {K : PySem.W.Frag} {mg : Str → Option Value} {base : Heap} {f : Addr} {fd : FuncData}
theorem ok_law_pick (T : Txt K mg) (F : Fun K "_law_pick" "_law_pick" s_law_pick f fd) (C_law_draw : Cal P w K mg base "_law_draw" 1 ["_law_pen", "_law_span"] (spDraw K)) : FnOk P w K mg base CX0 2 f fd P_law_pick (spPick K) := by
  refine F.ok sc_law_pick (fun vs H Q E h => ?_) (fun cdv A outer s H vs Q E hr h => ?_)
  · obtain ⟨d, L, ns, n, v, rfl, _⟩ := h
    rfl
  obtain ⟨d, L, ns, n, v, rfl, p, hn, h⟩ := h
  refine ⟨_, (pss_one (ps_ret (pe_ix ix_seq (pv 1) (pe_callC C_law_draw hr (pa_cons (pv 0) (pa_cons (pe_callB call_len rfl T.len (by decide +kernel) (pa_cons (pv 1) pa_nil)) pa_nil))) (fun _ _ => rfl)))), ?_⟩
  rcases h with ⟨a, xs, rfl, hS, hne, hl, q⟩ | ⟨z, rfl, h1, h2, q⟩
  · have hpos : 0 < xs.length := by
      cases xs with
      | nil => exact absurd rfl hne
      | cons _ _ => exact Nat.succ_pos _
    refine ⟨_, rfl, _, rfl, _, rfl, _, _, rfl, .inl ⟨xs, hS, rfl⟩, d, L, ns, n, (xs.length : Int), rfl, p, hn, by omega, by omega, fun r H' r0 r1 k p' => ?_⟩
    obtain ⟨x, hx, hm⟩ := atI_int (xs := xs) r0 r1
    exact .inl ⟨a, xs, r, x, rfl, rfl, seqL_keep p.isDk k hS, hx, q x H' hm k p'⟩
  · have hz : z.length ≤ sizeLine := Nat.le_of_lt (small1000 h2)
    refine ⟨_, rfl, _, rfl, _, rfl, _, _, rfl, ⟨hz, rfl⟩, d, L, ns, n, (z.length : Int), rfl, p, hn, by omega, by omega, fun r H' r0 r1 k p' => ?_⟩
    have el : z.cps.toList.length = z.length := Array.length_toList
    obtain ⟨x, hx, hm⟩ := atI_int (xs := z.cps.toList) (r := r) r0 (by rw [el]; exact r1)
    exact .inr (.inr ⟨z, r, x, rfl, rfl, hz, hx, q x H' hm k p'⟩)
end
end My

set_option Elab.async false
set_option linter.all false
set_option maxRecDepth 100000
namespace My
open PySem L2 SX
theorem memD_inv {d : PyData} {zs : List Str} (h : memD d zs = true) : ∃ x, d = .str x ∧ x ∈ zs := by
  cases d with
  | str x => exact ⟨x, rfl, of_decide_eq_true h⟩
  | _ => cases h
theorem isNameD_inv {d : PyData} (h : isNameD d = true) : ∃ x, d = .str x ∧ isName x = true := by
  cases d with
  | str x => exact ⟨x, rfl, h⟩
  | _ => cases h
theorem isForm_inv {k : Nat} {D : PyData} (h : isForm k D = true) :
    (∃ w n, D = .tuple [.str w, .str n] ∧ w ∈ leafW ∧ isName n = true) ∨ ∃ j w a b, k = j + 1 ∧ D = .tuple [.str w, a, b] ∧ w ∈ halfW ∧ isForm j a = true ∧ isForm j b = true := by
  by_cases ht : isTupD D = true
  · cases D with
    | tuple ds =>
      match ds with
      | [a, n] =>
        rw [isForm_m2, Bool.and_eq_true] at h
        obtain ⟨w, rfl, hw⟩ := memD_inv h.1
        obtain ⟨x, rfl, hx⟩ := isNameD_inv h.2
        exact .inl ⟨w, x, rfl, hw, hx⟩
      | [a, b, c] =>
        cases k with
        | zero => rw [isForm_tup3_0] at h; cases h
        | succ j =>
          rw [isForm_m3, Bool.and_eq_true, Bool.and_eq_true] at h
          obtain ⟨w, rfl, hw⟩ := memD_inv h.1
          exact .inr ⟨j, w, b, c, rfl, rfl, hw, h.2.1, h.2.2⟩
      | [] => rw [isForm_tup_len _ _ (by simp) (by simp)] at h; cases h
      | [_] => rw [isForm_tup_len _ _ (by simp) (by simp)] at h; cases h
      | _ :: _ :: _ :: _ :: _ => rw [isForm_tup_len _ _ (by simp) (by simp)] at h; cases h
    | _ => cases ht
  · rw [Bool.not_eq_true] at ht
    rw [isForm_not_tup k D ht] at h
    cases h
theorem isForm_leaf (k : Nat) {w n : Str} (hw : w ∈ leafW) (hn : isName n = true) : isForm k (.tuple [.str w, .str n]) = true := by
  rw [isForm_m2]
  show (decide (w ∈ leafW) && isName n) = true
  rw [decide_eq_true hw, hn]
  rfl
theorem isForm_node {k : Nat} {w : Str} {a b : PyData} (hw : w ∈ halfW) (ha : isForm k a = true) (hb : isForm k b = true) : isForm (k + 1) (.tuple [.str w, a, b]) = true := by
  rw [isForm_m3, ha, hb]
  show (decide (w ∈ halfW) && _) = true
  rw [decide_eq_true hw]
  rfl
theorem isForm_up : ∀ {k : Nat} {D : PyData}, isForm k D = true → isForm (k + 1) D = true := by
  intro k
  induction k with
  | zero =>
    intro D h
    rcases isForm_inv h with ⟨w, n, rfl, hw, hn⟩ | ⟨j, w, a, b, e, _⟩
    · exact isForm_leaf _ hw hn
    · cases e
  | succ k ih =>
    intro D h
    rcases isForm_inv h with ⟨w, n, rfl, hw, hn⟩ | ⟨j, w, a, b, e, rfl, hw, ha, hb⟩
    · exact isForm_leaf _ hw hn
    · obtain rfl : k = j := by omega
      exact isForm_node hw (ih ha) (ih hb)
theorem isForm_le {k m : Nat} {D : PyData} (h : isForm k D = true) (l : k ≤ m) : isForm m D = true := by
  induction l with
  | refl => exact h
  | step _ ih => exact isForm_up ih
theorem okStr_leaf : ∀ w ∈ leafW, okStr w = true := by decide +kernel
theorem okStr_half : ∀ w ∈ halfW, okStr w = true := by decide +kernel
theorem short_form : ∀ {k : Nat} {D : PyData}, isForm k D = true → shortD D = true := by
  intro k
  induction k with
  | zero =>
    intro D h
    rcases isForm_inv h with ⟨w, n, rfl, hw, hn⟩ | ⟨j, w, a, b, e, _⟩
    · simp only [shortD, shortAll, okStr_leaf w hw, okStr_of_name hn, Bool.and_self]
    · cases e
  | succ k ih =>
    intro D h
    rcases isForm_inv h with ⟨w, n, rfl, hw, hn⟩ | ⟨j, w, a, b, e, rfl, hw, ha, hb⟩
    · simp only [shortD, shortAll, okStr_leaf w hw, okStr_of_name hn, Bool.and_self]
    · obtain rfl : k = j := by omega
      have h1 := ih ha
      have h2 := ih hb
      unfold shortD
      simp only [shortAll, h1, h2, Bool.and_true]
      unfold shortD
      exact okStr_half w hw
theorem depth_form : ∀ {k : Nat} {D : PyData}, isForm k D = true → D.depth ≤ k + 1 := by
  intro k
  induction k with
  | zero =>
    intro D h
    rcases isForm_inv h with ⟨w, n, rfl, hw, hn⟩ | ⟨j, w, a, b, e, _⟩
    · simp [PyData.depth, PyData.depthAll]
    · cases e
  | succ k ih =>
    intro D h
    rcases isForm_inv h with ⟨w, n, rfl, hw, hn⟩ | ⟨j, w, a, b, e, rfl, hw, ha, hb⟩
    · simp [PyData.depth, PyData.depthAll]
    · obtain rfl : k = j := by omega
      have h1 := ih ha
      have h2 := ih hb
      simp only [PyData.depth, PyData.depthAll]
      omega
theorem arg_eq {x y : V} {G : V → Hp → Prop} {H : Hp} (e : x = y) (h : G y H) : G x H := by
  rw [e]
  exact h
/-- the least depth of a form -/
def Deep (j : Nat) (D : PyData) : Prop := isForm j D = true ∧ ∀ i, i < j → isForm i D = false
theorem deep_node {x y : Nat} {w : Str} {a b : PyData} (hw : w ∈ halfW) (ha : Deep x a) (hb : Deep y b) {m : Nat} (hm : m = x ∨ m = y) (hx : x ≤ m) (hy : y ≤ m) : Deep (m + 1) (.tuple [.str w, a, b]) := by
  refine ⟨isForm_node hw (isForm_le ha.1 hx) (isForm_le hb.1 hy), fun i hi => ?_⟩
  cases i with
  | zero => exact isForm_tup3_0 _ _ _
  | succ i =>
    rw [isForm_m3]
    rcases hm with rfl | rfl
    · rw [ha.2 i (by omega), Bool.false_and, Bool.and_false]
    · rw [hb.2 i (by omega), Bool.and_false, Bool.and_false]
theorem deep_leaf {w n : Str} (hw : w ∈ leafW) (hn : isName n = true) : Deep 0 (.tuple [.str w, .str n]) := ⟨isForm_leaf 0 hw hn, fun i hi => by omega⟩
abbrev N_law_depth : List Str := ["_law_form"]
abbrev P_law_depth : List Str := ["_law_form"]
abbrev N_law_shape : List Str := ["_law_pen", "_law_names_here", "_law_many", "_law_tall", "_law_room", "_law_low", "_law_high", "_law_way", "_law_left", "_law_word", "_law_one"]
abbrev P_law_shape : List Str := ["_law_pen", "_law_names_here", "_law_many", "_law_tall"]
abbrev N_law_deeper : List Str := ["_law_form", "_law_tall", "_law_k"]
abbrev P_law_deeper : List Str := ["_law_form", "_law_tall"]
def spDepth (K : PySem.W.Frag) (k : Nat) : Sp := fun vs H Q _ => ∃ (v : V) (D : PyData) (k' : Nat), vs = [v] ∧ k' < k ∧ Dp K H v D ∧ isForm k' D = true ∧ ∀ (j : Nat) H', j ≤ k' → Deep j D → Same H H' → Q (.int j) H'
def spDeeper (K : PySem.W.Frag) : Sp := fun vs H Q _ => ∃ (v : V) (D : PyData) (t : Nat), vs = [v, .int t] ∧ 12 ≤ t ∧ t ≤ 2000 ∧ Dp K H v D ∧ isForm 12 D = true ∧ ∀ v' D' H', Dp K H' v' D' → Deep t D' ∨ (t = 12 ∧ isForm 12 D' = true) → Same H H' → Q v' H'
def spShape (K : PySem.W.Frag) (k : Nat) : Sp := fun vs H Q _ => ∃ (d L : Addr) (ns : List Int) (n : Nat) (a : Addr) (zs : List Str) (m t : Nat), vs = [.ref d, .ref a, .int m, .int t] ∧ t < k ∧ Pen K H d L ns n ∧ n + 5 * m < 2 ^ 39 ∧
  SqL K H a (zs.map V.str) ∧ zs ≠ [] ∧ zs.length ≤ 1000 ∧ (∀ z ∈ zs, isName z = true) ∧ 1 ≤ m ∧ m ≤ 1000 ∧ m ≤ 2 ^ t ∧ t ≤ 60 ∧
  ∀ v D H', Dp K H' v D → isForm t D = true → Keep d H H' → Pen K H' d L ns (n + (5 * m - 3)) → Q v H'
section
variable {P : Program} {w : World} {K : PySem.W.Frag} {mg : Str → Option Value} {base : Heap} {f : Addr} {fd : FuncData}
set_option maxHeartbeats 2000000 in
end
end My

set_option Elab.async false
set_option linter.all false
set_option maxRecDepth 100000
namespace My
open PySem PySem.Spec PyProof.Rows L2 SX HT
/-! ### t[::-1] -/
section
variable {prog : Program} {w : World} {A : Around} {E : Value → Shared → Prop} {s : Shared}
theorem back_applied {sl : Addr} {vk : Value} {n : Nat} {Q : Int × Int × Nat → Shared → Prop} (hs : s.heap.IsSliceOf sl .none .none vk) (pk : IsPart vk (some (-1)))
    (h : Q ((n : Int) - 1, -1, n) s) : wpAny (model prog w) A (Builtin.Slice.sliceApplied (.ref sl) (pure (n : Int))) Q E s := by
  obtain ⟨o, ho, hc, hd⟩ := id hs
  unfold Builtin.Slice.sliceApplied Builtin.Slice.sliceFields
  refine wpAny_bind (wpAny_bind (wpAny_field ho hd (x := .none) rfl (wpAny_bind (wpAny_field ho hd (x := .none) rfl (wpAny_bind (wpAny_field ho hd (x := vk) rfl (wpAny_pure ?_)))))))
  refine wpAny_bind (slicePart_ pk ?_)
  show wpAny _ _ (if ((-1 : Int) == 0) = true then _ else _) _ _ s
  rw [if_neg (by decide)]
  refine wpAny_bind (slicePart_none (wpAny_bind (slicePart_none (wpAny_bind (wpAny_pure ?_)))))
  have e : Builtin.Slice.sliceAdjust none none (-1) (n : Int) = ((n : Int) - 1, -1) := rfl
  show wpAny _ _ (match Builtin.Slice.sliceAdjust none none (-1) (n : Int) with | (lo, hi) => pure (lo, (-1 : Int), Builtin.Slice.slicePlaces lo hi (-1))) _ _ s
  rw [e]
  have e2 : Builtin.Slice.slicePlaces ((n : Int) - 1) (-1) (-1) = n := by
    unfold Builtin.Slice.slicePlaces
    rw [if_neg (by decide)]
    by_cases hn : n = 0
    · subst hn; rfl
    · rw [if_pos (by omega)]
      have : ((n : Int) - 1 - -1 - 1) / (- -1) + 1 = (n : Int) := by
        show ((n : Int) - 1 - -1 - 1) / 1 + 1 = (n : Int)
        rw [Int.ediv_one]
        omega
      rw [this, Int.toNat_natCast]
  show wpAny _ _ (pure ((n : Int) - 1, (-1 : Int), Builtin.Slice.slicePlaces ((n : Int) - 1) (-1) (-1))) _ _ s
  rw [e2]
  exact wpAny_pure h
theorem back_picked (xs : Array Value) : ((List.range xs.size).filterMap fun (k : Nat) => xs[(((xs.size : Int) - 1) + (k : Int) * (-1)).toNat]?).toArray = xs.toList.reverse.toArray := by
  have e : (List.range xs.size).filterMap (fun (k : Nat) => xs[(((xs.size : Int) - 1) + (k : Int) * (-1)).toNat]?) = ((List.range xs.size).map fun k => xs.size - 1 - k).filterMap (xs[·]?) := by
    rw [List.filterMap_map]
    congr 1
    funext k
    have : (((xs.size : Int) - 1) + (k : Int) * (-1)).toNat = xs.size - 1 - k := by omega
    rw [this]
    rfl
  rw [e, PySem.W.krv_range, List.filterMap_reverse, PySem.W.krv_all]
theorem back_item {t sl : Addr} {items : Array Value} {vk : Value} {Q : Value → Shared → Prop} (ht : IsTup s.heap t items) (hs : s.heap.IsSliceOf sl .none .none vk) (pk : IsPart vk (some (-1)))
    (h : Q (.ref s.heap.objs.size) { s with heap := s.heap.push { cls := .type "tuple", data := .seq items.toList.reverse.toArray } }) (hz : items.size ≤ sizeLine) : wpAny (model prog w) A (getItem (.ref t) (.ref sl)) Q E s := by
  have hsz : sizeOk (.seq items.toList.reverse.toArray) := by
    show items.toList.reverse.toArray.size ≤ sizeLine
    rw [List.size_toArray, List.length_reverse, Array.length_toList]
    exact hz
  obtain ⟨o, ho, hc, hd⟩ := id hs
  have hT : s.TypeIs (.ref sl) "slice" := ⟨o, ho, hc⟩
  unfold getItem
  try with_reducible refine wpAny_holding ?_
  first | refine wpAny_bind (wpAny_pure ?_) | skip
  refine wpAny_bind (wpAny_sequenceKey ht.typeIs (by decide) (wpAny_bind (wpAny_callSpecial?_slot (name := Str.ofString "__getitem__") ht.typeIs slot_tuple_getitem (wpAny_call_entry slot_tuple_getitem ht.typeIs entry_tuple_getitem ?_ (args_tuple_getitem _ _)))))
  show wpAny _ _ (Builtin.Tuple.tupleItemsOf (.ref t) >>= _) _ _ s
  refine wpAny_bind (tupleItemsOf_ ht (wpAny_bind (wpAny_typeOf hT ?_)))
  rw [if_pos (by decide)]
  refine wpAny_bind (back_applied hs pk ?_)
  have hno : ¬ ((((items.size : Int) - 1) == 0 && (-1 : Int) == 1 && items.size == items.size) = true) := by
    rw [Bool.and_eq_true, Bool.and_eq_true]
    rintro ⟨⟨_, q⟩, _⟩
    exact absurd q (by decide)
  show wpAny _ _ (if (((items.size : Int) - 1) == 0 && (-1 : Int) == 1 && items.size == items.size) = true then _ else _) _ _ s
  rw [if_neg hno, back_picked]
  first
    | exact wpAny_bind (m := Builtin.Tuple.tupleExact _) (wpAny_newObj_type (wpAny_pure ⟨_, rfl, wpAny_pure h⟩) hsz)
    | exact wpAny_bind (m := Builtin.Tuple.tupleExact _) (wpAny_newObj_type (wpAny_bind (wpAny_pure (wpAny_pure ⟨_, rfl, wpAny_pure h⟩))) hsz)
    | exact wpAny_bind (wpAny_bind (m := Builtin.Tuple.tupleExact _) (wpAny_newObj_type (wpAny_pure (wpAny_pure ⟨_, rfl, wpAny_pure h⟩)) hsz))
    | exact wpAny_bind (wpAny_bind (m := Builtin.Tuple.tupleExact _) (wpAny_newObj_type (wpAny_pure ⟨_, rfl, wpAny_pure h⟩) hsz))
end
section
variable {X : Cx}
def tRevT (K : PySem.W.Frag) (te : TE) : TE := fun σ H Q => te σ H fun x H1 => ∃ a xs, x = .ref a ∧ SqT K H1 a xs ∧ ∀ p, H1 p = none → Q (.ref p) (upd H1 p (.tup xs.reverse))
theorem pe_revT {e : Expr} {te : TE} {k : Nat} {p1 p2 p3 pos : Pos} (he : PE X e te) : PE X (.Subscript e (.Slice none none (some (.UnaryOp .USub (.Constant (.int 1) k p1) p2)) p3) pos) (tRevT X.K te) := by
  refine ⟨fun pins s σ H Q I h => Subscript_ (thn (he.run pins s σ H _ I h) fun v s1 ⟨x, H1, I1, r1, a, xs, ex, hx, q⟩ => ?_)⟩
  subst ex
  cases r1
  have hst : PO X (some (.UnaryOp .USub (.Constant (.int 1) k p1) p2)) (tPart (tUn (rU fun i => .int (-i)) (tC (.int 1)))) := po_some (pe_un un_neg pe_int)
  refine wpAny_Slice (thn (po_none.run pins s1 σ H1 (fun o H2 => o = none ∧ H2 = H1) I1 ⟨rfl, rfl⟩) fun vl s2 ⟨l, H2, I2, pl, el, e2⟩ => ?_)
  subst el e2
  refine thn (po_none.run pins s2 σ H2 (fun o H3 => o = none ∧ H3 = H2) I2 ⟨rfl, rfl⟩) fun vu s3 ⟨u, H3, I3, pu, eu, e3⟩ => ?_
  subst eu e3
  refine thn (hst.run pins s3 σ H3 (fun o H4 => o = some (-1) ∧ H4 = H3) I3 ⟨1, rfl, -1, rfl, rfl, rfl⟩) fun vs s4 ⟨o, H4, I4, ps, eo, e4⟩ => ?_
  subst eo e4
  cases pl
  cases pu
  have I5 : Inv X pins σ H4 { s4 with heap := s4.heap.push { cls := .type "slice", data := .fields #[.none, .none, vs] } } := I4.kept (t' := s4.toks) fun b ob q => Heap.get?_push_of_some _ q
  obtain ⟨its, r, ht, hz⟩ := I5.tuple hx
  have hlen := r.length
  show wpAny (model X.prog X.w) X.A (subscriptTail e (.Slice none none (some (.UnaryOp .USub (.Constant (.int 1) k p1) p2)) p3) (.ref a) (.ref s4.heap.objs.size)) (EP X pins σ Q) X.xe { s4 with heap := s4.heap.push { cls := .type "slice", data := .fields #[.none, .none, vs] } }
  refine tail_any (ops := [.ref a, .ref s4.heap.objs.size]) ht.typeIs (slot_tuple_getitem.lookup) ?_ (by with_unfolding_all rfl)
  refine back_item ht (Heap.IsSliceOf.new _ .none .none vs) ps ?_ (by rw [List.size_toArray]; omega)
  refine ⟨.ref _, _, I5.laid (t' := s4.toks) (o := .tup xs.reverse) (fun b ob q => Heap.get?_push_of_some _ q) (Nat.le_refl _) ?_, rfl, q _ (I5.hok.fresh (Nat.le_refl _))⟩
  exact ⟨by rw [List.length_reverse]; exact hz, its.reverse, r.reverse, _, Heap.get?_push_size _ rfl, rfl, _, rfl⟩
end
/-! ### texts that are short and of plain signs -/
theorem okS {z : Str} : okStr z = true ↔ z.length ≤ 1000 ∧ ∀ c ∈ z.cps.toList, c < 128 := by
  unfold okStr
  rw [Bool.and_eq_true, List.all_eq_true]
  constructor
  · exact fun h => ⟨of_decide_eq_true h.1, fun c hc => of_decide_eq_true (h.2 c hc)⟩
  · exact fun h => ⟨decide_eq_true h.1, fun c hc => decide_eq_true (h.2 c hc)⟩
theorem tl_len (z : Str) : z.cps.toList.length = z.length := Array.length_toList
theorem cut_tl (z : Str) (lo hi : Option Int) : (cutS z lo hi).cps.toList = (z.cps.toList.drop (HT.sIx z.length 0 lo)).take (HT.sIx z.length z.length hi - HT.sIx z.length 0 lo) := rfl
theorem cut_len (z : Str) (lo hi : Option Int) : (cutS z lo hi).length ≤ z.length := by
  rw [← tl_len, cut_tl, List.length_take, List.length_drop, tl_len]
  omega
theorem cut_asc {z : Str} (lo hi : Option Int) (h : ∀ c ∈ z.cps.toList, c < 128) : ∀ c ∈ (cutS z lo hi).cps.toList, c < 128 := fun c hc => by
  rw [cut_tl] at hc
  exact h c (List.mem_of_mem_drop (List.mem_of_mem_take hc))
theorem cat_tl (a b : Str) : (a ++ b).cps.toList = a.cps.toList ++ b.cps.toList := TL.tl_append a b
theorem cat_len (a b : Str) : (a ++ b).length = a.length + b.length := by
  rw [← tl_len, cat_tl, List.length_append, tl_len, tl_len]
theorem cat_asc {a b : Str} (ha : ∀ c ∈ a.cps.toList, c < 128) (hb : ∀ c ∈ b.cps.toList, c < 128) : ∀ c ∈ (a ++ b).cps.toList, c < 128 := fun c hc => by
  rw [cat_tl] at hc
  rcases List.mem_append.mp hc with hc | hc
  · exact ha c hc
  · exact hb c hc
theorem one_asc {c : Nat} (h : c < 128) : ∀ x ∈ (⟨#[c]⟩ : Str).cps.toList, x < 128 := fun x hx => by
  rw [List.mem_singleton.mp hx]
  exact h
theorem upper_ok {z : Str} (h : ∀ c ∈ z.cps.toList, c < 128) : (Txt.upper z).length = z.length ∧ ∀ c ∈ (Txt.upper z).cps.toList, c < 128 := by
  have e := upper_S (a := z.cps.toList) (by rw [List.all_eq_true]; exact fun c hc => decide_eq_true (h c hc))
  rw [S_tl] at e
  rw [e]
  refine ⟨by rw [S_len, List.length_map, tl_len], fun c hc => ?_⟩
  obtain ⟨x, hx, rfl⟩ := List.mem_map.mp (show c ∈ z.cps.toList.map up1 from hc)
  have := h x hx
  unfold up1
  split <;> omega
end My

set_option Elab.async false
set_option linter.all false
set_option maxRecDepth 100000
namespace My
open PySem L2 SX
abbrev N_law_bent_name : List Str := ["_law_pen", "_law_name_here", "_law_at", "_law_sign", "_law_way"]
abbrev P_law_bent_name : List Str := ["_law_pen", "_law_name_here"]
def spBentName (K : PySem.W.Frag) : Sp := fun vs H Q _ => ∃ (d L : Addr) (ns : List Int) (n : Nat) (z : Str), vs = [.ref d, .str z] ∧ Pen K H d L ns n ∧ n < 2 ^ 39 ∧ isName z = true ∧
  ∀ v D H', Dp K H' v D → shortD D = true → D.depth ≤ 1 → Keep d H H' → Pen K H' d L ns (n + 4) → Q v H'
def zSigns : Str := Str.ofString "AZ_-~ .,()*|&+09az\n\t"
theorem signs_asc : ∀ c ∈ zSigns.cps.toList, c < 128 := by decide +kernel
theorem add_fit {a b : Str} (ha : a.length ≤ 400) (hb : b.length ≤ 400) : a.length + b.length ≤ sizeLine := Nat.le_of_lt (small1000 (by omega))
section
variable {P : Program} {w : World} {K : PySem.W.Frag} {mg : Str → Option Value} {base : Heap} {f : Addr} {fd : FuncData}
end
mutual
def widD : PyData → Bool
  | .list xs => decide (xs.length ≤ 1000) && widAll xs
  | .tuple xs => decide (xs.length ≤ 1000) && widAll xs
  | .dict _ => false
  | _ => true
def widAll : List PyData → Bool
  | [] => true
  | d :: ds => widD d && widAll ds
end
theorem wid_form : ∀ {k : Nat} {D : PyData}, isForm k D = true → widD D = true := by
  intro k
  induction k with
  | zero =>
    intro D h
    rcases isForm_inv h with ⟨w, n, rfl, hw, hn⟩ | ⟨j, w, a, b, e, _⟩
    · rfl
    · cases e
  | succ k ih =>
    intro D h
    rcases isForm_inv h with ⟨w, n, rfl, hw, hn⟩ | ⟨j, w, a, b, e, rfl, hw, ha, hb⟩
    · rfl
    · obtain rfl : k = j := by omega
      show (true && (true && (widD a && (widD b && true)))) = true
      rw [ih ha, ih hb]
      rfl
end My

set_option Elab.async false
set_option linter.all false
set_option maxRecDepth 100000
namespace My
open PySem PySem.Spec PyProof.Rows L2 SX
/-! ### the same rules, the heap behind them left open -/
/-- a new object -/
def New (o : HO) (Q : VK) (H : Hp) : Prop := ∀ p H', Same H H' → H' p = some o → Q (.ref p) H'
/-- a tuple, new or not -/
def NewT (K : PySem.W.Frag) (xs : List V) (Q : VK) (H : Hp) : Prop := ∀ p H', Same H H' → SqT K H' p xs → Q (.ref p) H'
theorem New.go {o : HO} {Q : VK} {H : Hp} (h : New o Q H) : ∀ p, H p = none → Q (.ref p) (upd H p o) := fun p np => h p _ (same_new np o) upd_same
theorem NewT.go {K : PySem.W.Frag} {xs : List V} {Q : VK} {H : Hp} (h : NewT K xs Q H) : ∀ p, H p = none → Q (.ref p) (upd H p (.tup xs)) := fun p np => h p _ (same_new np _) (SqT.of upd_same)
theorem le1k {n : Nat} (h : Nat.ble n 1000 = true := by rfl) : n ≤ 1000 := Nat.le_of_ble_eq_true h
theorem fit1000 {n : Nat} (h : n ≤ 1000) : n ≤ sizeLine := Nat.le_of_lt (small1000 h)
def nTup (K : PySem.W.Frag) (t : TA) : TE := fun σ H Q => t σ H fun xs H1 => xs.length ≤ 1000 ∧ NewT K xs Q H1
def nLst (t : TA) : TE := fun σ H Q => t σ H fun xs H1 => xs.length ≤ 1000 ∧ New (.lst xs) Q H1
def nCatT (K : PySem.W.Frag) : R2 := fun x y H Q => ∃ a b xs ys, x = .ref a ∧ y = .ref b ∧ SqT K H a xs ∧ SqT K H b ys ∧ xs.length + ys.length ≤ 1000 ∧ NewT K (xs ++ ys) Q H
def nCatL : R2 := fun x y H Q => ∃ l b xs zs, x = .ref l ∧ y = .ref b ∧ H l = some (.lst xs) ∧ H b = some (.lst zs) ∧ xs.length + zs.length ≤ 1000 ∧ New (.lst (xs ++ zs)) Q H
def nSlT (K : PySem.W.Frag) : V → Option Int → Option Int → Hp → VK → Prop := fun x lo hi H Q => ∃ a xs, x = .ref a ∧ SqT K H a xs ∧ NewT K (cutV xs lo hi) Q H
def nListOf (K : PySem.W.Frag) : List V → Hp → VK → Prop := fun xs H Q => ∃ p ys, xs = [.ref p] ∧ (SqL K H p ys ∨ SqT K H p ys) ∧ New (.lst ys) Q H
section
variable {X : Cx} {es : List Expr} {t : TA} {pos : Pos}
theorem pe_tupN {x1} (h : PA X es t) : PE X (.Tuple es x1 pos) (nTup X.K t) := by
  refine ⟨fun pins s σ H Q I hq => wpAny_Tuple_spliced (thn (h.run pos pins s σ H _ I hq) fun us s1 ⟨xs, H1, I1, r, z, q⟩ => ⟨by rw [← r.length]; exact fit1000 z, ?_⟩)⟩
  have hf := I1.hok.fresh (Nat.le_refl s1.heap.objs.size)
  exact ⟨.ref s1.heap.objs.size, upd H1 s1.heap.objs.size (.tup xs), I1.laid (t' := s1.toks) (fun b u e => Heap.get?_push_of_some _ e) (Nat.le_refl _) ⟨fit1000 z, us, r, ⟨_, Heap.get?_push_size _ rfl, rfl, _, rfl⟩⟩, rfl, q.go _ hf⟩
theorem pe_lstN (h : PA X es t) : PE X (.List es pos) (nLst t) := by
  refine ⟨fun pins s σ H Q I hq => wpAny_List_spliced (thn (h.run pos pins s σ H _ I hq) fun us s1 ⟨xs, H1, I1, r, z, q⟩ => ⟨by rw [← r.length]; exact fit1000 z, ?_⟩)⟩
  have hf := I1.hok.fresh (Nat.le_refl s1.heap.objs.size)
  exact ⟨.ref s1.heap.objs.size, upd H1 s1.heap.objs.size (.lst xs), I1.laid (t' := s1.toks) (fun b u e => Heap.get?_push_of_some _ e) (Nat.le_refl _) ⟨fit1000 z, us, 0, r, Heap.get?_push_size _ rfl⟩, rfl, q.go _ hf⟩
theorem op_catTN : OpR X (binaryOp .Add) (nCatT X.K) := by
  intro pins s σ H x y v u Q I rx ry ⟨a, b, xs, ys, ex, ey, hx, hy, hl, q⟩
  refine op_catA pins s σ H x y v u Q I rx ry ⟨a, b, xs, ys, ex, ey, hx, hy, fit1000 hl, fun e => ?_, fun _ e => ?_, fun _ _ => q.go⟩
  · subst e
    exact q b H (Same.refl H) hy
  · subst e
    exact q a H (Same.refl H) (by rw [List.append_nil]; exact hx)
theorem op_catLN : OpR X (binaryOp .Add) nCatL := by
  intro pins s σ H x y v u Q I rx ry ⟨l, b, xs, zs, ex, ey, hx, hy, hl, q⟩
  exact op_cat pins s σ H x y v u Q I rx ry ⟨l, b, xs, zs, ex, ey, hx, hy, fit1000 hl, q.go⟩
theorem sl_tupN : SlR X (nSlT X.K) := by
  intro pins s σ H x v vl vu lo hi sl Q I rx hs pl pu ⟨a, xs, ex, hx, q⟩
  refine sl_tupA pins s σ H x v vl vu lo hi sl Q I rx hs pl pu ⟨a, xs, ex, hx, fun ⟨e1, e2⟩ => ?_, fun _ => q.go⟩
  refine q a H (Same.refl H) ?_
  have e : cutV xs lo hi = xs := by
    unfold cutV
    rw [e1, e2, List.drop_zero, Nat.sub_zero, List.take_length]
  rw [e]
  exact hx
theorem call_listN : CallR X (.type "list") (nListOf X.K) := by
  intro pins s σ H xs us Q I r ⟨p, ys, ex, hy, q⟩
  exact call_list_of pins s σ H xs us Q I r ⟨p, ys, ex, hy, q.go⟩
end
abbrev N_law_bent : List Str := ["_law_pen", "_law_form", "_law_at", "_law_rest", "_law_odd"]
abbrev P_law_bent : List Str := ["_law_pen", "_law_form"]
def spBent (K : PySem.W.Frag) (k : Nat) : Sp := fun vs H Q _ => ∃ (d L : Addr) (ns : List Int) (n : Nat) (v : V) (D : PyData) (k' : Nat), vs = [.ref d, v] ∧ k' < k ∧ k' ≤ 40 ∧ Pen K H d L ns n ∧ n + 3 * k' < 2 ^ 38 ∧ Dp K H v D ∧ isForm k' D = true ∧
  ∀ v' D' H', Dp K H' v' D' → shortD D' = true → D'.depth ≤ k' + 4 → Keep d H H' → Pen K H' d L ns (n + (2 * k' + 5)) → Q v' H'
theorem okStr_s : ∀ w ∈ leafW ++ halfW, okStr (w ++ Str.ofString "s") = true := by decide +kernel
theorem word_len : ∀ w ∈ leafW ++ halfW, w.length ≤ 100 := by decide +kernel
section
variable {P : Program} {w : World} {K : PySem.W.Frag} {mg : Str → Option Value} {base : Heap} {f : Addr} {fd : FuncData}
set_option maxHeartbeats 4000000 in
end
end My

set_option Elab.async false
set_option linter.all false
set_option maxRecDepth 100000
namespace Odd
open PySem
/-- the entries have these keys, in their order -/
def Ks (w : World) (h : Heap) (es : Array DictEntry) (ks : List NestedKey) : Prop := es.size = ks.length ∧ ∀ (i : Nat) (e : DictEntry) (k : NestedKey), es[i]? = some e → ks[i]? = some k → e.hash = k.hash w ∧ NestedIs h k e.key ∧ k.depth ≤ 8
section
variable {prog : Program} {w : World} {A : Around} {E : Value → Shared → Prop} {s : Shared}
theorem eqB {x y : NestedKey} {a b : Value} {Q : Bool → Shared → Prop} (hu : A.units + 8 < cLine) (ha : NestedIs s.heap x a) (hb : NestedIs s.heap y b) (h8 : x.depth ≤ 8) (h : Q (decide (x = y)) s) : wpAny (model prog w) A (PySem.eqBool a b) Q E s :=
  eqAt_key x y A s _ _ ha hb (by omega) _ _ _ _ (by rw [← NestedKey.decide_eq]; exact h)
theorem Ks.at {h : Heap} {es : Array DictEntry} {ks : List NestedKey} (K : Ks w h es ks) {i : Nat} {e : DictEntry} (he : es[i]? = some e) : ∃ k, ks[i]? = some k ∧ e.hash = k.hash w ∧ NestedIs h k e.key ∧ k.depth ≤ 8 := by
  have hi : i < es.size := by
    rcases Nat.lt_or_ge i es.size with c | c
    · exact c
    · rw [Array.getElem?_eq_none c] at he
      cases he
  have hk : ks[i]? = some (ks[i]'(by rw [← K.1]; exact hi)) := List.getElem?_eq_getElem _
  exact ⟨_, hk, K.2 i e _ he hk⟩
theorem Ks.to {h : Heap} {es : Array DictEntry} {ks : List NestedKey} (K : Ks w h es ks) {i : Nat} {k : NestedKey} (hk : ks[i]? = some k) : ∃ e, es[i]? = some e ∧ e.hash = k.hash w ∧ NestedIs h k e.key ∧ k.depth ≤ 8 := by
  have hi : i < ks.length := by
    rcases Nat.lt_or_ge i ks.length with c | c
    · exact c
    · rw [List.getElem?_eq_none c] at hk
      cases hk
  have he : es[i]? = some (es[i]'(by rw [K.1]; exact hi)) := Array.getElem?_eq_getElem _
  exact ⟨_, he, K.2 i _ _ he hk⟩
theorem tells_quiet {key : Value} {k : NestedKey} {stored : List Value} {Q : Bool → Shared → Prop} (hkey : NestedIs s.heap k key) (h8 : k.depth ≤ 8)
    (hst : ∀ v ∈ stored, ∃ k', NestedIs s.heap k' v ∧ k'.depth ≤ 8) (h : Q false s) : wpAny (model prog w) A (tableMayTell key stored) Q E s := by
  unfold tableMayTell
  split
  · exact wpAny_pure h
  · refine wpAny_bind (quiet_key k key 8 s hkey h8 A E _ ?_)
    simp only [Bool.not_true, Bool.false_eq_true, if_false]
    refine wpAny_bind ?_
    refine wpAny_forIn_list _ (fun rest r s' => s' = s ∧ r = (none, ()) ∧ ∀ v ∈ rest, ∃ k', NestedIs s.heap k' v ∧ k'.depth ≤ 8) _ ?_ ?_ _ _ ⟨rfl, rfl, hst⟩
    · rintro x rest r s' ⟨rfl, rfl, hr⟩
      obtain ⟨k', hb, hb8⟩ := hr x List.mem_cons_self
      refine wpAny_bind (quiet_key k' x 8 s' hb hb8 A E _ ?_)
      simp only [Bool.not_true, Bool.false_eq_true, if_false]
      exact wpAny_pure ⟨rfl, rfl, fun v hv => hr v (List.mem_cons_of_mem _ hv)⟩
    · rintro r s' ⟨rfl, rfl, _⟩
      exact wpAny_pure h
theorem idx_unique {ks : List NestedKey} (hn : ks.Nodup) {i j : Nat} {k : NestedKey} (hi : ks[i]? = some k) (hj : ks[j]? = some k) : i = j := by
  have h1 : i < ks.length := by
    rcases Nat.lt_or_ge i ks.length with c | c
    · exact c
    · rw [List.getElem?_eq_none c] at hi
      cases hi
  exact (List.getElem?_inj h1 hn).mp (hi.trans hj.symm)
theorem find {d : Addr} {o : Obj} {es : Array DictEntry} {ep : Nat} {ks : List NestedKey} {k : NestedKey} {key : Value} {Q : Option Nat → Shared → Prop} (hu : A.units + 8 < cLine) (hkey : NestedIs s.heap k key) (h8 : k.depth ≤ 8)
    (ho : s.heap.get? d = some o) (hd : o.data = .dict es ep) (hE : Ks w s.heap es ks) (hn : ks.Nodup)
    (hnone : (∀ j : Nat, ks[j]? ≠ some k) → Q none s) (hsome : ∀ j : Nat, ks[j]? = some k → Q (some j) s) :
    wpAny (model prog w) A (dictFind d key (k.hash w)) Q E s := by
  have hsz : es.size = ks.length := hE.1
  have haskey : ∀ (j : Nat), ks[j]? = some k → ((es[j]?.map (·.hash)) == some (k.hash w)) = true := by
    intro j hj
    obtain ⟨e, he, hh, _⟩ := hE.to hj
    rw [he, Option.map_some, hh]
    simp
  have hst : ∀ v ∈ (placesWithHash es.size (fun i => es[i]?.map (·.hash)) (k.hash w)).filterMap (fun i => es[i]?.map (·.key)), ∃ k', NestedIs s.heap k' v ∧ k'.depth ≤ 8 := by
    intro v hv
    obtain ⟨i, _, hi⟩ := List.mem_filterMap.mp hv
    cases hei : es[i]? with
    | none => rw [hei] at hi; cases hi
    | some e =>
      rw [hei] at hi
      obtain rfl : e.key = v := by simpa using hi
      obtain ⟨k', _, _, h1, h2⟩ := hE.at hei
      exact ⟨k', h1, h2⟩
  unfold dictFind
  try with_reducible refine wpAny_holding ?_
  refine wpAny_bind (wpAny_dictEntries ho hd ?_)
  dsimp only
  have old : wpAny (model prog w) A (dictWalkPlain d key (k.hash w) es (placesWithHash es.size (fun i => es[i]?.map (·.hash)) (k.hash w))) Q E s := by
    refine wpAny_bind ?_
    refine wpAny_forIn_list _
      (fun rest b s' => s' = s ∧ b = (none, ()) ∧ ∃ i, rest = (List.range' i (es.size - i)).filter (fun i => (es[i]?.map (·.hash)) == some (k.hash w)) ∧ i ≤ es.size ∧
        ∀ j : Nat, j < i → ks[j]? ≠ some k) _ ?_ ?_ _ _
      ⟨rfl, rfl, 0, by rw [placesWithHash, List.range_eq_range', Nat.sub_zero], Nat.zero_le _, fun _ h => absurd h (Nat.not_lt_zero _)⟩
    · rintro x rest b s' ⟨rfl, rfl, i, hr, hi, hno⟩
      obtain ⟨hix, hxn, hpx, hskip, hrest⟩ := filter_range'_cons _ _ _ _ _ hr.symm
      have hlt : x < es.size := by omega
      have hex : es[x]? = some es[x] := Array.getElem?_eq_getElem hlt
      obtain ⟨k', hk', hhash, hib, hib8⟩ := hE.at hex
      have hnext : ¬ k' = k → ∃ i, rest = (List.range' i (es.size - i)).filter (fun i => (es[i]?.map (·.hash)) == some (k.hash w)) ∧ i ≤ es.size ∧
          ∀ j : Nat, j < i → ks[j]? ≠ some k := fun hne =>
        ⟨x + 1, by rw [hrest]; congr 2; omega, hlt, fun j hji hj => by
          rcases Nat.lt_or_ge j i with h | h
          · exact hno j h hj
          · rcases Nat.lt_or_ge j x with h' | h'
            · have := hskip j h h'
              rw [haskey j hj] at this
              exact absurd this (by decide)
            · have : j = x := by omega
              subst this
              rw [hk'] at hj
              exact hne (Option.some.inj hj)⟩
      simp only [hex]
      by_cases hh : (es[x].hash == k.hash w) = true
      · rw [if_pos hh]
        refine wpAny_bind (wpAny_dictEpoch ho hd (wpAny_bind (eqB hu hib hkey hib8 (wpAny_bind (wpAny_dictEpoch ho hd ?_)))))
        show wpAny _ _ (if (ep != ep) = true then _ else _) _ E _
        rw [if_neg (by simp)]
        by_cases hkk : k' = k
        · rw [decide_eq_true hkk]
          subst hkk
          exact wpAny_bind (wpAny_rule (wpAny_pure (wpAny_pure (hsome x hk'))))
        · rw [decide_eq_false hkk]
          exact wpAny_bind (wpAny_rule (wpAny_pure ⟨rfl, rfl, hnext hkk⟩))
      · rw [if_neg hh]
        refine wpAny_pure ⟨rfl, rfl, hnext ?_⟩
        intro hkk
        rw [hhash, hkk] at hh; simp at hh
    · rintro b s' ⟨rfl, rfl, i, hr, hi, hno⟩
      refine wpAny_pure (hnone fun j hj => ?_)
      rcases Nat.lt_or_ge j i with h | h
      · exact hno j h hj
      · obtain ⟨e, he, _⟩ := hE.to hj
        have hjl : j < es.size := by
          rcases Nat.lt_or_ge j es.size with h' | h'
          · exact h'
          · rw [Array.getElem?_eq_none h'] at he; cases he
        have := List.filter_eq_nil_iff.mp hr.symm j (List.mem_range'_1.mpr ⟨h, by omega⟩)
        exact this (haskey j hj)
  cases hkey
  case tup a o' vs n ks' ha hb hc hd' =>
    have hkey : NestedIs s.heap (.tup ks') (.ref a) := .tup ha hb hc hd'
    clear old
    generalize NestedKey.tup ks' = k at *
    have hany : ¬ (es.any fun e => e.key == Value.ref a && e.hash != k.hash w) = true := by
      rw [Array.any_eq_true]
      rintro ⟨i, hi, hc⟩
      obtain ⟨k', _, hh, hib, _⟩ := hE.at (Array.getElem?_eq_getElem hi)
      simp only [Bool.and_eq_true, beq_iff_eq, bne_iff_ne, ne_eq] at hc
      obtain ⟨hxa, hne⟩ := hc
      rw [hxa] at hib
      rw [hh, NestedIs.inj _ _ _ hib hkey] at hne
      exact hne rfl
    try dsimp only
    rw [if_neg (show ¬ ((Value.ref a :: (placesWithHash es.size (fun i => es[i]?.map (·.hash)) (k.hash w)).filterMap (fun i => es[i]?.map (·.key))).all carriedByValue) = true by simp [carriedByValue])]
    rw [if_neg hany]
    generalize Value.ref a = key at *
    by_cases hone : (((placesWithHash es.size (fun i => es[i]?.map (·.hash)) (k.hash w)).filterMap (fun i => es[i]?.map (·.key))) == [key]) = true <;>
    (first | rw [if_pos hone] | rw [if_neg hone]) <;> (first | refine wpAny_bind (wpAny_pure ?_) | refine wpAny_bind (tells_quiet hkey h8 hst ?_)) <;> (
      rw [if_neg (by simp)]
      refine wpAny_bind ?_
      refine wpAny_forIn_list _
        (fun rest b s' => s' = s ∧ ∃ i hit, b = (none, hit) ∧ rest = (List.range' i (es.size - i)).filter (fun i => (es[i]?.map (·.hash)) == some (k.hash w)) ∧ i ≤ es.size ∧
          ((hit = none ∧ ∀ j : Nat, j < i → ks[j]? ≠ some k) ∨ ∃ j : Nat, hit = some j ∧ j < i ∧ ks[j]? = some k)) _ ?_ ?_ _ _
        ⟨rfl, 0, none, rfl, by rw [placesWithHash, List.range_eq_range', Nat.sub_zero], Nat.zero_le _, .inl ⟨rfl, fun _ h => absurd h (Nat.not_lt_zero _)⟩⟩
      · rintro x rest b s' ⟨rfl, i, hit, rfl, hr, hi, hH⟩
        obtain ⟨hix, hxn, hpx, hskip, hrest⟩ := filter_range'_cons _ _ _ _ _ hr.symm
        have hlt : x < es.size := by omega
        have hrest' : rest = (List.range' (x + 1) (es.size - (x + 1))).filter (fun i => (es[i]?.map (·.hash)) == some (k.hash w)) := by rw [hrest]; congr 2; omega
        have hex : es[x]? = some es[x] := Array.getElem?_eq_getElem hlt
        obtain ⟨k', hkv, hhash, hib, hib8⟩ := hE.at hex
        have hHx : (hit = none ∧ ∀ j : Nat, j < x → ks[j]? ≠ some k) ∨ ∃ j : Nat, hit = some j ∧ j < x ∧ ks[j]? = some k := by
          rcases hH with ⟨h0, hno⟩ | ⟨j, h1, hji, hj⟩
          · refine .inl ⟨h0, fun j hjx hj => ?_⟩
            rcases Nat.lt_or_ge j i with h | h
            · exact hno j h hj
            · have := hskip j h hjx
              rw [haskey j hj] at this
              exact absurd this (by decide)
          · exact .inr ⟨j, h1, by omega, hj⟩
        have hstay : ¬ k' = k → ((hit = none ∧ ∀ j : Nat, j < x + 1 → ks[j]? ≠ some k) ∨ ∃ j : Nat, hit = some j ∧ j < x + 1 ∧ ks[j]? = some k) := by
          intro hne
          rcases hHx with ⟨h0, hno⟩ | ⟨j, h1, hjx, hj⟩
          · refine .inl ⟨h0, fun j hjx hj => ?_⟩
            rcases Nat.lt_or_ge j x with h | h
            · exact hno j h hj
            · have hjx' : j = x := by omega
              subst hjx'
              rw [hkv] at hj
              exact hne (Option.some.inj hj)
          · exact .inr ⟨j, h1, by omega, hj⟩
        rw [hex]
        dsimp only
        by_cases hh : (es[x].hash == k.hash w) = true
        · rw [if_pos hh]
          refine wpAny_bind (wpAny_dictEpoch ho hd (wpAny_bind (eqB hu hib hkey hib8 (wpAny_bind (wpAny_dictEpoch ho hd ?_)))))
          show wpAny _ _ (if (ep != ep) = true then _ else _) _ E _
          rw [if_neg (by simp)]
          by_cases hkk : k' = k
          · rw [decide_eq_true hkk]
            subst hkk
            rcases hHx with ⟨rfl, _⟩ | ⟨j, _, hjx, hj⟩
            · first | rw [if_pos rfl] | skip
              simp only [Option.isSome_none, Bool.false_eq_true, if_false]
              first | refine wpAny_bind (wpAny_pure ?_) | skip
              refine wpAny_bind (wpAny_rule ?_)
              split
              · exact wpAny_pure (wpAny_pure (hsome x hkv))
              · exact wpAny_pure ⟨rfl, x + 1, some x, rfl, hrest', hlt, .inr ⟨x, rfl, Nat.lt_succ_self x, hkv⟩⟩
            · exact absurd (idx_unique hn hj hkv) (by omega)
          · rw [decide_eq_false hkk]
            simp only [Bool.false_eq_true, if_false]
            refine wpAny_bind (wpAny_rule ?_)
            first | rw [if_neg (by simp)] | skip
            first
              | exact wpAny_pure ⟨rfl, x + 1, hit, rfl, hrest', hlt, hstay hkk⟩
              | exact wpAny_bind (wpAny_pure (wpAny_pure ⟨rfl, x + 1, hit, rfl, hrest', hlt, hstay hkk⟩))
        · rw [if_neg hh]
          refine wpAny_pure ⟨rfl, x + 1, hit, rfl, hrest', hlt, hstay ?_⟩
          intro hkk
          rw [hhash, hkk] at hh; simp at hh
      · rintro b s' ⟨rfl, i, hit, rfl, hr, hi, hH⟩
        rcases hH with ⟨rfl, hno⟩ | ⟨j, rfl, _, hj⟩
        · refine wpAny_pure (hnone fun j hj => ?_)
          rcases Nat.lt_or_ge j i with h | h
          · exact hno j h hj
          · obtain ⟨e, he, _⟩ := hE.to hj
            have hjl : j < es.size := by
              rcases Nat.lt_or_ge j es.size with h' | h'
              · exact h'
              · rw [Array.getElem?_eq_none h'] at he; cases he
            have := List.filter_eq_nil_iff.mp hr.symm j (List.mem_range'_1.mpr ⟨h, by omega⟩)
            exact this (haskey j hj)
        · exact wpAny_pure (hsome j hj))
  case none =>
    have hkey : NestedIs s.heap .none .none := .none
    generalize NestedKey.none = k at *
    try dsimp only
    by_cases hall : ((Value.none :: (placesWithHash es.size (fun i => es[i]?.map (·.hash)) (k.hash w)).filterMap (fun i => es[i]?.map (·.key))).all carriedByValue) = true
    · rw [if_pos hall]
      exact old
    rw [if_neg hall]
    generalize Value.none = key at *
    by_cases hone : (((placesWithHash es.size (fun i => es[i]?.map (·.hash)) (k.hash w)).filterMap (fun i => es[i]?.map (·.key))) == [key]) = true <;>
    (first | rw [if_pos hone] | rw [if_neg hone]) <;> (first | refine wpAny_bind (wpAny_pure ?_) | refine wpAny_bind (tells_quiet hkey h8 hst ?_)) <;> (
      rw [if_neg (by simp)]
      refine wpAny_bind ?_
      refine wpAny_forIn_list _
        (fun rest b s' => s' = s ∧ ∃ i hit, b = (none, hit) ∧ rest = (List.range' i (es.size - i)).filter (fun i => (es[i]?.map (·.hash)) == some (k.hash w)) ∧ i ≤ es.size ∧
          ((hit = none ∧ ∀ j : Nat, j < i → ks[j]? ≠ some k) ∨ ∃ j : Nat, hit = some j ∧ j < i ∧ ks[j]? = some k)) _ ?_ ?_ _ _
        ⟨rfl, 0, none, rfl, by rw [placesWithHash, List.range_eq_range', Nat.sub_zero], Nat.zero_le _, .inl ⟨rfl, fun _ h => absurd h (Nat.not_lt_zero _)⟩⟩
      · rintro x rest b s' ⟨rfl, i, hit, rfl, hr, hi, hH⟩
        obtain ⟨hix, hxn, hpx, hskip, hrest⟩ := filter_range'_cons _ _ _ _ _ hr.symm
        have hlt : x < es.size := by omega
        have hrest' : rest = (List.range' (x + 1) (es.size - (x + 1))).filter (fun i => (es[i]?.map (·.hash)) == some (k.hash w)) := by rw [hrest]; congr 2; omega
        have hex : es[x]? = some es[x] := Array.getElem?_eq_getElem hlt
        obtain ⟨k', hkv, hhash, hib, hib8⟩ := hE.at hex
        have hHx : (hit = none ∧ ∀ j : Nat, j < x → ks[j]? ≠ some k) ∨ ∃ j : Nat, hit = some j ∧ j < x ∧ ks[j]? = some k := by
          rcases hH with ⟨h0, hno⟩ | ⟨j, h1, hji, hj⟩
          · refine .inl ⟨h0, fun j hjx hj => ?_⟩
            rcases Nat.lt_or_ge j i with h | h
            · exact hno j h hj
            · have := hskip j h hjx
              rw [haskey j hj] at this
              exact absurd this (by decide)
          · exact .inr ⟨j, h1, by omega, hj⟩
        have hstay : ¬ k' = k → ((hit = none ∧ ∀ j : Nat, j < x + 1 → ks[j]? ≠ some k) ∨ ∃ j : Nat, hit = some j ∧ j < x + 1 ∧ ks[j]? = some k) := by
          intro hne
          rcases hHx with ⟨h0, hno⟩ | ⟨j, h1, hjx, hj⟩
          · refine .inl ⟨h0, fun j hjx hj => ?_⟩
            rcases Nat.lt_or_ge j x with h | h
            · exact hno j h hj
            · have hjx' : j = x := by omega
              subst hjx'
              rw [hkv] at hj
              exact hne (Option.some.inj hj)
          · exact .inr ⟨j, h1, by omega, hj⟩
        rw [hex]
        dsimp only
        by_cases hh : (es[x].hash == k.hash w) = true
        · rw [if_pos hh]
          refine wpAny_bind (wpAny_dictEpoch ho hd (wpAny_bind (eqB hu hib hkey hib8 (wpAny_bind (wpAny_dictEpoch ho hd ?_)))))
          show wpAny _ _ (if (ep != ep) = true then _ else _) _ E _
          rw [if_neg (by simp)]
          by_cases hkk : k' = k
          · rw [decide_eq_true hkk]
            subst hkk
            rcases hHx with ⟨rfl, _⟩ | ⟨j, _, hjx, hj⟩
            · first | rw [if_pos rfl] | skip
              simp only [Option.isSome_none, Bool.false_eq_true, if_false]
              first | refine wpAny_bind (wpAny_pure ?_) | skip
              refine wpAny_bind (wpAny_rule ?_)
              split
              · exact wpAny_pure (wpAny_pure (hsome x hkv))
              · exact wpAny_pure ⟨rfl, x + 1, some x, rfl, hrest', hlt, .inr ⟨x, rfl, Nat.lt_succ_self x, hkv⟩⟩
            · exact absurd (idx_unique hn hj hkv) (by omega)
          · rw [decide_eq_false hkk]
            simp only [Bool.false_eq_true, if_false]
            refine wpAny_bind (wpAny_rule ?_)
            first | rw [if_neg (by simp)] | skip
            first
              | exact wpAny_pure ⟨rfl, x + 1, hit, rfl, hrest', hlt, hstay hkk⟩
              | exact wpAny_bind (wpAny_pure (wpAny_pure ⟨rfl, x + 1, hit, rfl, hrest', hlt, hstay hkk⟩))
        · rw [if_neg hh]
          refine wpAny_pure ⟨rfl, x + 1, hit, rfl, hrest', hlt, hstay ?_⟩
          intro hkk
          rw [hhash, hkk] at hh; simp at hh
      · rintro b s' ⟨rfl, i, hit, rfl, hr, hi, hH⟩
        rcases hH with ⟨rfl, hno⟩ | ⟨j, rfl, _, hj⟩
        · refine wpAny_pure (hnone fun j hj => ?_)
          rcases Nat.lt_or_ge j i with h | h
          · exact hno j h hj
          · obtain ⟨e, he, _⟩ := hE.to hj
            have hjl : j < es.size := by
              rcases Nat.lt_or_ge j es.size with h' | h'
              · exact h'
              · rw [Array.getElem?_eq_none h'] at he; cases he
            have := List.filter_eq_nil_iff.mp hr.symm j (List.mem_range'_1.mpr ⟨h, by omega⟩)
            exact this (haskey j hj)
        · exact wpAny_pure (hsome j hj))
  case bool =>
    rename_i b i e
    have hkey : NestedIs s.heap (.num i) (.bool b) := .bool e
    generalize NestedKey.num i = k at *
    try dsimp only
    by_cases hall : ((Value.bool b :: (placesWithHash es.size (fun i => es[i]?.map (·.hash)) (k.hash w)).filterMap (fun i => es[i]?.map (·.key))).all carriedByValue) = true
    · rw [if_pos hall]
      exact old
    rw [if_neg hall]
    generalize Value.bool b = key at *
    by_cases hone : (((placesWithHash es.size (fun i => es[i]?.map (·.hash)) (k.hash w)).filterMap (fun i => es[i]?.map (·.key))) == [key]) = true <;>
    (first | rw [if_pos hone] | rw [if_neg hone]) <;> (first | refine wpAny_bind (wpAny_pure ?_) | refine wpAny_bind (tells_quiet hkey h8 hst ?_)) <;> (
      rw [if_neg (by simp)]
      refine wpAny_bind ?_
      refine wpAny_forIn_list _
        (fun rest b s' => s' = s ∧ ∃ i hit, b = (none, hit) ∧ rest = (List.range' i (es.size - i)).filter (fun i => (es[i]?.map (·.hash)) == some (k.hash w)) ∧ i ≤ es.size ∧
          ((hit = none ∧ ∀ j : Nat, j < i → ks[j]? ≠ some k) ∨ ∃ j : Nat, hit = some j ∧ j < i ∧ ks[j]? = some k)) _ ?_ ?_ _ _
        ⟨rfl, 0, none, rfl, by rw [placesWithHash, List.range_eq_range', Nat.sub_zero], Nat.zero_le _, .inl ⟨rfl, fun _ h => absurd h (Nat.not_lt_zero _)⟩⟩
      · rintro x rest b s' ⟨rfl, i, hit, rfl, hr, hi, hH⟩
        obtain ⟨hix, hxn, hpx, hskip, hrest⟩ := filter_range'_cons _ _ _ _ _ hr.symm
        have hlt : x < es.size := by omega
        have hrest' : rest = (List.range' (x + 1) (es.size - (x + 1))).filter (fun i => (es[i]?.map (·.hash)) == some (k.hash w)) := by rw [hrest]; congr 2; omega
        have hex : es[x]? = some es[x] := Array.getElem?_eq_getElem hlt
        obtain ⟨k', hkv, hhash, hib, hib8⟩ := hE.at hex
        have hHx : (hit = none ∧ ∀ j : Nat, j < x → ks[j]? ≠ some k) ∨ ∃ j : Nat, hit = some j ∧ j < x ∧ ks[j]? = some k := by
          rcases hH with ⟨h0, hno⟩ | ⟨j, h1, hji, hj⟩
          · refine .inl ⟨h0, fun j hjx hj => ?_⟩
            rcases Nat.lt_or_ge j i with h | h
            · exact hno j h hj
            · have := hskip j h hjx
              rw [haskey j hj] at this
              exact absurd this (by decide)
          · exact .inr ⟨j, h1, by omega, hj⟩
        have hstay : ¬ k' = k → ((hit = none ∧ ∀ j : Nat, j < x + 1 → ks[j]? ≠ some k) ∨ ∃ j : Nat, hit = some j ∧ j < x + 1 ∧ ks[j]? = some k) := by
          intro hne
          rcases hHx with ⟨h0, hno⟩ | ⟨j, h1, hjx, hj⟩
          · refine .inl ⟨h0, fun j hjx hj => ?_⟩
            rcases Nat.lt_or_ge j x with h | h
            · exact hno j h hj
            · have hjx' : j = x := by omega
              subst hjx'
              rw [hkv] at hj
              exact hne (Option.some.inj hj)
          · exact .inr ⟨j, h1, by omega, hj⟩
        rw [hex]
        dsimp only
        by_cases hh : (es[x].hash == k.hash w) = true
        · rw [if_pos hh]
          refine wpAny_bind (wpAny_dictEpoch ho hd (wpAny_bind (eqB hu hib hkey hib8 (wpAny_bind (wpAny_dictEpoch ho hd ?_)))))
          show wpAny _ _ (if (ep != ep) = true then _ else _) _ E _
          rw [if_neg (by simp)]
          by_cases hkk : k' = k
          · rw [decide_eq_true hkk]
            subst hkk
            rcases hHx with ⟨rfl, _⟩ | ⟨j, _, hjx, hj⟩
            · first | rw [if_pos rfl] | skip
              simp only [Option.isSome_none, Bool.false_eq_true, if_false]
              first | refine wpAny_bind (wpAny_pure ?_) | skip
              refine wpAny_bind (wpAny_rule ?_)
              split
              · exact wpAny_pure (wpAny_pure (hsome x hkv))
              · exact wpAny_pure ⟨rfl, x + 1, some x, rfl, hrest', hlt, .inr ⟨x, rfl, Nat.lt_succ_self x, hkv⟩⟩
            · exact absurd (idx_unique hn hj hkv) (by omega)
          · rw [decide_eq_false hkk]
            simp only [Bool.false_eq_true, if_false]
            refine wpAny_bind (wpAny_rule ?_)
            first | rw [if_neg (by simp)] | skip
            first
              | exact wpAny_pure ⟨rfl, x + 1, hit, rfl, hrest', hlt, hstay hkk⟩
              | exact wpAny_bind (wpAny_pure (wpAny_pure ⟨rfl, x + 1, hit, rfl, hrest', hlt, hstay hkk⟩))
        · rw [if_neg hh]
          refine wpAny_pure ⟨rfl, x + 1, hit, rfl, hrest', hlt, hstay ?_⟩
          intro hkk
          rw [hhash, hkk] at hh; simp at hh
      · rintro b s' ⟨rfl, i, hit, rfl, hr, hi, hH⟩
        rcases hH with ⟨rfl, hno⟩ | ⟨j, rfl, _, hj⟩
        · refine wpAny_pure (hnone fun j hj => ?_)
          rcases Nat.lt_or_ge j i with h | h
          · exact hno j h hj
          · obtain ⟨e, he, _⟩ := hE.to hj
            have hjl : j < es.size := by
              rcases Nat.lt_or_ge j es.size with h' | h'
              · exact h'
              · rw [Array.getElem?_eq_none h'] at he; cases he
            have := List.filter_eq_nil_iff.mp hr.symm j (List.mem_range'_1.mpr ⟨h, by omega⟩)
            exact this (haskey j hj)
        · exact wpAny_pure (hsome j hj))
  case int =>
    rename_i i t
    have hkey : NestedIs s.heap (.num i) (.int i t) := .int i t
    generalize NestedKey.num i = k at *
    try dsimp only
    by_cases hall : ((Value.int i t :: (placesWithHash es.size (fun i => es[i]?.map (·.hash)) (k.hash w)).filterMap (fun i => es[i]?.map (·.key))).all carriedByValue) = true
    · rw [if_pos hall]
      exact old
    rw [if_neg hall]
    generalize Value.int i t = key at *
    by_cases hone : (((placesWithHash es.size (fun i => es[i]?.map (·.hash)) (k.hash w)).filterMap (fun i => es[i]?.map (·.key))) == [key]) = true <;>
    (first | rw [if_pos hone] | rw [if_neg hone]) <;> (first | refine wpAny_bind (wpAny_pure ?_) | refine wpAny_bind (tells_quiet hkey h8 hst ?_)) <;> (
      rw [if_neg (by simp)]
      refine wpAny_bind ?_
      refine wpAny_forIn_list _
        (fun rest b s' => s' = s ∧ ∃ i hit, b = (none, hit) ∧ rest = (List.range' i (es.size - i)).filter (fun i => (es[i]?.map (·.hash)) == some (k.hash w)) ∧ i ≤ es.size ∧
          ((hit = none ∧ ∀ j : Nat, j < i → ks[j]? ≠ some k) ∨ ∃ j : Nat, hit = some j ∧ j < i ∧ ks[j]? = some k)) _ ?_ ?_ _ _
        ⟨rfl, 0, none, rfl, by rw [placesWithHash, List.range_eq_range', Nat.sub_zero], Nat.zero_le _, .inl ⟨rfl, fun _ h => absurd h (Nat.not_lt_zero _)⟩⟩
      · rintro x rest b s' ⟨rfl, i, hit, rfl, hr, hi, hH⟩
        obtain ⟨hix, hxn, hpx, hskip, hrest⟩ := filter_range'_cons _ _ _ _ _ hr.symm
        have hlt : x < es.size := by omega
        have hrest' : rest = (List.range' (x + 1) (es.size - (x + 1))).filter (fun i => (es[i]?.map (·.hash)) == some (k.hash w)) := by rw [hrest]; congr 2; omega
        have hex : es[x]? = some es[x] := Array.getElem?_eq_getElem hlt
        obtain ⟨k', hkv, hhash, hib, hib8⟩ := hE.at hex
        have hHx : (hit = none ∧ ∀ j : Nat, j < x → ks[j]? ≠ some k) ∨ ∃ j : Nat, hit = some j ∧ j < x ∧ ks[j]? = some k := by
          rcases hH with ⟨h0, hno⟩ | ⟨j, h1, hji, hj⟩
          · refine .inl ⟨h0, fun j hjx hj => ?_⟩
            rcases Nat.lt_or_ge j i with h | h
            · exact hno j h hj
            · have := hskip j h hjx
              rw [haskey j hj] at this
              exact absurd this (by decide)
          · exact .inr ⟨j, h1, by omega, hj⟩
        have hstay : ¬ k' = k → ((hit = none ∧ ∀ j : Nat, j < x + 1 → ks[j]? ≠ some k) ∨ ∃ j : Nat, hit = some j ∧ j < x + 1 ∧ ks[j]? = some k) := by
          intro hne
          rcases hHx with ⟨h0, hno⟩ | ⟨j, h1, hjx, hj⟩
          · refine .inl ⟨h0, fun j hjx hj => ?_⟩
            rcases Nat.lt_or_ge j x with h | h
            · exact hno j h hj
            · have hjx' : j = x := by omega
              subst hjx'
              rw [hkv] at hj
              exact hne (Option.some.inj hj)
          · exact .inr ⟨j, h1, by omega, hj⟩
        rw [hex]
        dsimp only
        by_cases hh : (es[x].hash == k.hash w) = true
        · rw [if_pos hh]
          refine wpAny_bind (wpAny_dictEpoch ho hd (wpAny_bind (eqB hu hib hkey hib8 (wpAny_bind (wpAny_dictEpoch ho hd ?_)))))
          show wpAny _ _ (if (ep != ep) = true then _ else _) _ E _
          rw [if_neg (by simp)]
          by_cases hkk : k' = k
          · rw [decide_eq_true hkk]
            subst hkk
            rcases hHx with ⟨rfl, _⟩ | ⟨j, _, hjx, hj⟩
            · first | rw [if_pos rfl] | skip
              simp only [Option.isSome_none, Bool.false_eq_true, if_false]
              first | refine wpAny_bind (wpAny_pure ?_) | skip
              refine wpAny_bind (wpAny_rule ?_)
              split
              · exact wpAny_pure (wpAny_pure (hsome x hkv))
              · exact wpAny_pure ⟨rfl, x + 1, some x, rfl, hrest', hlt, .inr ⟨x, rfl, Nat.lt_succ_self x, hkv⟩⟩
            · exact absurd (idx_unique hn hj hkv) (by omega)
          · rw [decide_eq_false hkk]
            simp only [Bool.false_eq_true, if_false]
            refine wpAny_bind (wpAny_rule ?_)
            first | rw [if_neg (by simp)] | skip
            first
              | exact wpAny_pure ⟨rfl, x + 1, hit, rfl, hrest', hlt, hstay hkk⟩
              | exact wpAny_bind (wpAny_pure (wpAny_pure ⟨rfl, x + 1, hit, rfl, hrest', hlt, hstay hkk⟩))
        · rw [if_neg hh]
          refine wpAny_pure ⟨rfl, x + 1, hit, rfl, hrest', hlt, hstay ?_⟩
          intro hkk
          rw [hhash, hkk] at hh; simp at hh
      · rintro b s' ⟨rfl, i, hit, rfl, hr, hi, hH⟩
        rcases hH with ⟨rfl, hno⟩ | ⟨j, rfl, _, hj⟩
        · refine wpAny_pure (hnone fun j hj => ?_)
          rcases Nat.lt_or_ge j i with h | h
          · exact hno j h hj
          · obtain ⟨e, he, _⟩ := hE.to hj
            have hjl : j < es.size := by
              rcases Nat.lt_or_ge j es.size with h' | h'
              · exact h'
              · rw [Array.getElem?_eq_none h'] at he; cases he
            have := List.filter_eq_nil_iff.mp hr.symm j (List.mem_range'_1.mpr ⟨h, by omega⟩)
            exact this (haskey j hj)
        · exact wpAny_pure (hsome j hj))
  case text =>
    rename_i x t
    have hkey : NestedIs s.heap (.text x) (.str x t) := .text x t
    generalize hgk : NestedKey.text x = k at *
    dsimp only
    by_cases hstr : (es.all fun e => isExactStrKey e.key) = true
    · rw [if_pos hstr]
      unfold foundByValue
      have his : ∀ (j : Nat) (e : DictEntry), es[j]? = some e → (e.key.isStr x = true ↔ ks[j]? = some k) := fun j e he => by
        obtain ⟨k', hk', hh, hi, _⟩ := hE.at he
        have h0 : isExactStrKey e.key = true := by
          rw [Array.all_eq_true] at hstr
          rcases Nat.lt_or_ge j es.size with c | c
          · rw [Array.getElem?_eq_getElem c] at he
            obtain rfl := Option.some.inj he
            exact hstr j c
          · rw [Array.getElem?_eq_none c] at he; cases he
        rw [hk']
        revert h0 hi
        generalize e.key = q
        intro hi h0
        cases hi with
        | text y u =>
          rw [← hgk]
          constructor
          · intro h
            have : y = x := by simpa [Value.isStr] using h
            rw [this]
          · intro h
            injection Option.some.inj h with h
            rw [h]
            simp [Value.isStr]
        | _ => cases h0
      cases hf : es.findIdx? (fun e => e.key.isStr x) with
      | none =>
        refine wpAny_pure (hnone fun j hj => ?_)
        obtain ⟨e, he, _⟩ := hE.to hj
        have := (his j e he).mpr hj
        have h2 := Array.findIdx?_eq_none_iff.mp hf e (Array.mem_of_getElem? he)
        rw [this] at h2
        cases h2
      | some i =>
        obtain ⟨hlt, hi, _⟩ := Array.findIdx?_eq_some_iff_getElem.mp hf
        have hex : es[i]? = some es[i] := Array.getElem?_eq_getElem hlt
        have hki := (his i _ hex).mp hi
        obtain ⟨k', hk', hh, hib, hib8⟩ := hE.at hex
        obtain rfl : k' = k := Option.some.inj (hk'.symm.trans hki)
        simp only [hex]
        refine wpAny_bind (wpAny_dictEpoch ho hd (wpAny_bind (eqB hu hib hkey hib8 (wpAny_bind (wpAny_dictEpoch ho hd ?_)))))
        show wpAny _ _ (if (ep != ep) = true then _ else _) _ E _
        rw [if_neg (by simp), decide_eq_true rfl]
        exact wpAny_bind (wpAny_rule (wpAny_pure (hsome i hki)))
    rw [if_neg hstr]
    by_cases hall : ((Value.str x t :: (placesWithHash es.size (fun i => es[i]?.map (·.hash)) (k.hash w)).filterMap (fun i => es[i]?.map (·.key))).all carriedByValue) = true
    · rw [if_pos hall]
      exact old
    rw [if_neg hall]
    generalize Value.str x t = key at *
    by_cases hone : (((placesWithHash es.size (fun i => es[i]?.map (·.hash)) (k.hash w)).filterMap (fun i => es[i]?.map (·.key))) == [key]) = true <;>
    (first | rw [if_pos hone] | rw [if_neg hone]) <;> (first | refine wpAny_bind (wpAny_pure ?_) | refine wpAny_bind (tells_quiet hkey h8 hst ?_)) <;> (
      rw [if_neg (by simp)]
      refine wpAny_bind ?_
      refine wpAny_forIn_list _
        (fun rest b s' => s' = s ∧ ∃ i hit, b = (none, hit) ∧ rest = (List.range' i (es.size - i)).filter (fun i => (es[i]?.map (·.hash)) == some (k.hash w)) ∧ i ≤ es.size ∧
          ((hit = none ∧ ∀ j : Nat, j < i → ks[j]? ≠ some k) ∨ ∃ j : Nat, hit = some j ∧ j < i ∧ ks[j]? = some k)) _ ?_ ?_ _ _
        ⟨rfl, 0, none, rfl, by rw [placesWithHash, List.range_eq_range', Nat.sub_zero], Nat.zero_le _, .inl ⟨rfl, fun _ h => absurd h (Nat.not_lt_zero _)⟩⟩
      · rintro x rest b s' ⟨rfl, i, hit, rfl, hr, hi, hH⟩
        obtain ⟨hix, hxn, hpx, hskip, hrest⟩ := filter_range'_cons _ _ _ _ _ hr.symm
        have hlt : x < es.size := by omega
        have hrest' : rest = (List.range' (x + 1) (es.size - (x + 1))).filter (fun i => (es[i]?.map (·.hash)) == some (k.hash w)) := by rw [hrest]; congr 2; omega
        have hex : es[x]? = some es[x] := Array.getElem?_eq_getElem hlt
        obtain ⟨k', hkv, hhash, hib, hib8⟩ := hE.at hex
        have hHx : (hit = none ∧ ∀ j : Nat, j < x → ks[j]? ≠ some k) ∨ ∃ j : Nat, hit = some j ∧ j < x ∧ ks[j]? = some k := by
          rcases hH with ⟨h0, hno⟩ | ⟨j, h1, hji, hj⟩
          · refine .inl ⟨h0, fun j hjx hj => ?_⟩
            rcases Nat.lt_or_ge j i with h | h
            · exact hno j h hj
            · have := hskip j h hjx
              rw [haskey j hj] at this
              exact absurd this (by decide)
          · exact .inr ⟨j, h1, by omega, hj⟩
        have hstay : ¬ k' = k → ((hit = none ∧ ∀ j : Nat, j < x + 1 → ks[j]? ≠ some k) ∨ ∃ j : Nat, hit = some j ∧ j < x + 1 ∧ ks[j]? = some k) := by
          intro hne
          rcases hHx with ⟨h0, hno⟩ | ⟨j, h1, hjx, hj⟩
          · refine .inl ⟨h0, fun j hjx hj => ?_⟩
            rcases Nat.lt_or_ge j x with h | h
            · exact hno j h hj
            · have hjx' : j = x := by omega
              subst hjx'
              rw [hkv] at hj
              exact hne (Option.some.inj hj)
          · exact .inr ⟨j, h1, by omega, hj⟩
        rw [hex]
        dsimp only
        by_cases hh : (es[x].hash == k.hash w) = true
        · rw [if_pos hh]
          refine wpAny_bind (wpAny_dictEpoch ho hd (wpAny_bind (eqB hu hib hkey hib8 (wpAny_bind (wpAny_dictEpoch ho hd ?_)))))
          show wpAny _ _ (if (ep != ep) = true then _ else _) _ E _
          rw [if_neg (by simp)]
          by_cases hkk : k' = k
          · rw [decide_eq_true hkk]
            subst hkk
            rcases hHx with ⟨rfl, _⟩ | ⟨j, _, hjx, hj⟩
            · first | rw [if_pos rfl] | skip
              simp only [Option.isSome_none, Bool.false_eq_true, if_false]
              first | refine wpAny_bind (wpAny_pure ?_) | skip
              refine wpAny_bind (wpAny_rule ?_)
              split
              · exact wpAny_pure (wpAny_pure (hsome x hkv))
              · exact wpAny_pure ⟨rfl, x + 1, some x, rfl, hrest', hlt, .inr ⟨x, rfl, Nat.lt_succ_self x, hkv⟩⟩
            · exact absurd (idx_unique hn hj hkv) (by omega)
          · rw [decide_eq_false hkk]
            simp only [Bool.false_eq_true, if_false]
            refine wpAny_bind (wpAny_rule ?_)
            first | rw [if_neg (by simp)] | skip
            first
              | exact wpAny_pure ⟨rfl, x + 1, hit, rfl, hrest', hlt, hstay hkk⟩
              | exact wpAny_bind (wpAny_pure (wpAny_pure ⟨rfl, x + 1, hit, rfl, hrest', hlt, hstay hkk⟩))
        · rw [if_neg hh]
          refine wpAny_pure ⟨rfl, x + 1, hit, rfl, hrest', hlt, hstay ?_⟩
          intro hkk
          rw [hhash, hkk] at hh; simp at hh
      · rintro b s' ⟨rfl, i, hit, rfl, hr, hi, hH⟩
        rcases hH with ⟨rfl, hno⟩ | ⟨j, rfl, _, hj⟩
        · refine wpAny_pure (hnone fun j hj => ?_)
          rcases Nat.lt_or_ge j i with h | h
          · exact hno j h hj
          · obtain ⟨e, he, _⟩ := hE.to hj
            have hjl : j < es.size := by
              rcases Nat.lt_or_ge j es.size with h' | h'
              · exact h'
              · rw [Array.getElem?_eq_none h'] at he; cases he
            have := List.filter_eq_nil_iff.mp hr.symm j (List.mem_range'_1.mpr ⟨h, by omega⟩)
            exact this (haskey j hj)
        · exact wpAny_pure (hsome j hj))
end
end Odd

set_option Elab.async false
set_option linter.all false
set_option maxRecDepth 100000
namespace Odd
open PySem L2
/-- keys of a dict here: texts, None, a tuple of one text -/
inductive OK where
  | txt (z : Str)
  | non
  | tpl (b : Addr) (z : Str)
def OK.nk : OK → NestedKey | .txt z => .text z | .non => .none | .tpl _ z => .tup [.text z]
def OK.v : OK → V | .txt z => .str z | .non => .non | .tpl b _ => .ref b
def rent (w : World) (kv : OK × V) (e : DictEntry) : Prop := RelV kv.1.v e.key ∧ e.hash = kv.1.nk.hash w ∧ RelV kv.2 e.val
def odP (w : World) (a : Addr) (kvs : List (OK × V)) (h : Heap) : Prop := (a == sysModules) = false ∧ kvs.length ≤ sizeLine ∧ ∃ o es ep, h.get? a = some o ∧ o.ExactDict ∧ o.data = .dict es ep ∧ Paired (rent w) kvs es.toList
def OD (w : World) (a : Addr) (kvs : List (OK × V)) : HO := .ext (odP w a kvs)
def tk (p : Str × V) : OK × V := (.txt p.1, p.2)
def kk (p : Str × V) : Key × V := (.inr p.1, p.2)
/-- the dict at a holds these, in this order -/
def OR (w : World) (H : Hp) (a : Addr) (kvs : List (OK × V)) : Prop := (∃ zs : List (Str × V), kvs = zs.map tk ∧ Rd H a (.dK (zs.map kk))) ∨ Rd H a (OD w a kvs)
def Tpl (H : Hp) (kvs : List (OK × V)) : Prop := ∀ b z v, ((.tpl b z : OK), v) ∈ kvs → H b = some (.tup [.str z])
section
variable {P : Program} {w : World} {H : Hp} {h : Heap} {a : Addr} {kvs : List (OK × V)}
theorem odP.ok (x : odP w a kvs h) : ObjOk P w H h a (OD w a kvs) :=
  ⟨x, by obtain ⟨_, _, o, _, _, ho, _⟩ := x; exact ⟨o, ho⟩, fun h1 h2 ⟨a1, a2, o, es, ep, e, r⟩ k => ⟨a1, a2, o, es, ep, k _ e, r⟩⟩
theorem rent_of : ∀ (zs : List (Str × V)) (vs : List (Key × Value)) (l : List DictEntry), PySem.Pairs (mixKind P w) l vs → KV (zs.map kk) vs → (∀ e ∈ l, ∃ k, (mixKind P w).is k e.key = true ∧ e.hash = (mixKind P w).hash k) → Paired (rent w) (zs.map tk) l
  | [], vs, l, p, r, _ => by
    cases r
    cases p
    exact .nil
  | z :: zs, vs, l, p, r, hk => by
    cases r with | cons r1 r =>
    cases p with | cons p1 p2 p =>
    rename_i q qs e es
    refine .cons ⟨?_, ?_, ?_⟩ (rent_of zs qs es p r fun x hx => hk x (List.mem_cons_of_mem _ hx))
    · have : (kk z).1 = q.1 := r1.1
      rw [← this] at p1
      exact relV_key (show keyIs (.inr z.1) e.key = true from p1)
    · obtain ⟨k, h1, h2⟩ := hk e List.mem_cons_self
      have e1 : k = q.1 := (mixKind P w).inj _ _ _ h1 p1
      have e2 : (kk z).1 = q.1 := r1.1
      rw [h2, e1, ← e2]
      rfl
    · rw [p2]
      exact r1.2
theorem OR.view (ok : HOk P w H h) (r : OR w H a kvs) : odP w a kvs h := by
  rcases r with ⟨zs, rfl, r⟩ | r
  · obtain ⟨z, hd, vs, rel, o, es, ep, ho, hx, hdt, hk, hp, _⟩ := dk_rd ok r
    refine ⟨hd, by rw [List.length_map] at z ⊢; exact z, o, es, ep, ho, hx, hdt, rent_of zs vs _ hp rel fun e he => hk e (Array.mem_toList_iff.mp he)⟩
  · exact (r.ok ok).1
theorem OK.is {k : OK} {u : Value} (ok : HOk P w H h) (hb : ∀ b z, k = .tpl b z → H b = some (.tup [.str z])) (r : RelV k.v u) : NestedIs h k.nk u ∧ k.nk.depth ≤ 8 := by
  cases k with
  | txt z =>
    obtain ⟨t, rfl⟩ := (show ∃ t, u = Value.str z t from r)
    exact ⟨.text z t, by simp [OK.nk, NestedKey.depth]⟩
  | non =>
    obtain rfl := (show u = Value.none from r)
    exact ⟨.none, by simp [OK.nk, NestedKey.depth]⟩
  | tpl b z =>
    obtain rfl := (show u = Value.ref b from r)
    obtain ⟨_, its, rr, o, h1, h2, n, h3⟩ := (show ObjOk P w H h b (.tup [.str z]) from ok b _ (hb b z rfl))
    refine ⟨.tup h1 h2 h3 ?_, by simp [OK.nk, NestedKey.depth, NestedKey.depthAll]⟩
    cases rr with | cons r1 rr =>
    cases rr
    obtain ⟨t, rfl⟩ := r1
    exact .cons (.text z t) .nil
theorem paired_at2 {α β : Type} {r : α → β → Prop} : ∀ {xs : List α} {ys : List β} {i : Nat} {x : α} {y : β}, Paired r xs ys → xs[i]? = some x → ys[i]? = some y → r x y
  | _, _, 0, _, _, .cons h _, e1, e2 => by cases e1; cases e2; exact h
  | _, _, i + 1, _, _, .cons _ t, e1, e2 => paired_at2 t e1 e2
theorem ks_of {es : Array DictEntry} (ok : HOk P w H h) (tp : Tpl H kvs) (p : Paired (rent w) kvs es.toList) : Ks w h es (kvs.map fun q => q.1.nk) := by
  have l := Paired.length p
  refine ⟨by rw [List.length_map, l, Array.length_toList], fun i e k he hk => ?_⟩
  rw [List.getElem?_map] at hk
  obtain ⟨q, hq, rfl⟩ := Option.map_eq_some_iff.mp hk
  have r := paired_at2 p hq (by rw [Array.getElem?_toList]; exact he)
  have n := OK.is (k := q.1) ok (fun b z e => tp b z q.2 (by rw [← e]; exact List.mem_of_getElem? hq)) r.1
  exact ⟨r.2.1, n.1, n.2⟩
end
section
variable {X : Cx} {pins : List (Addr × Obj)} {σ : St} {H : Hp} {s : Shared} {a : Addr} {kvs : List (OK × V)} {A : Around} {E : Value → Shared → Prop}
/-- a key that is there: its value -/
theorem dictGet_there {k : OK} {u : Value} {i : Nat} {v : V} {Q : Option Value → Shared → Prop} (hu : A.units + 8 < cLine) (I : Inv X pins σ H s) (o : OR X.w H a kvs) (tp : Tpl H kvs) (hn : (kvs.map fun q => q.1.nk).Nodup) (hi : kvs[i]? = some (k, v)) (ru : RelV k.v u)
    (h : ∀ w' s', Inv X pins σ H s' → RelV v w' → Q (some w') s') : wpAny (model X.prog X.w) A (dictGet a u) Q E s := by
  obtain ⟨hd, hz, ob, es, ep, ho, hx, hdt, hp⟩ := o.view I.hok
  have K := ks_of I.hok tp hp
  have n := OK.is (k := k) I.hok (fun b z e => tp b z v (by rw [← e]; exact List.mem_of_getElem? hi)) ru
  have hki : (kvs.map fun q => q.1.nk)[i]? = some k.nk := by rw [List.getElem?_map, hi]; rfl
  obtain ⟨e, he, _⟩ := K.to hki
  have r := paired_at2 hp hi (by rw [Array.getElem?_toList]; exact he)
  unfold dictGet
  try with_reducible refine wpAny_holding ?_
  refine wpAny_bind (pyHash_key _ _ _ _ _ n.1 (by omega) (wpAny_bind (find (s := { s with toks := s.toks + k.nk.draws }) hu n.1 n.2 ho hdt K hn ?_ ?_)))
  · intro no
    exact absurd hki (no i)
  · intro j hj
    obtain rfl := idx_unique hn hki hj
    refine wpAny_bind (wpAny_dictEntries (s := { s with toks := s.toks + k.nk.draws }) ho hdt ?_)
    rw [he]
    exact wpAny_pure (h _ _ (I.tok _) r.2.2)
theorem getItem_there {k : OK} {u : Value} {i : Nat} {v : V} {Q : Value → Shared → Prop} (hu : A.units + 9 < cLine) (I : Inv X pins σ H s) (o : OR X.w H a kvs) (tp : Tpl H kvs) (hn : (kvs.map fun q => q.1.nk).Nodup) (hi : kvs[i]? = some (k, v)) (ru : RelV k.v u)
    (h : ∀ w' s', Inv X pins σ H s' → RelV v w' → Q w' s') : wpAny (model X.prog X.w) A (getItem (.ref a) u) Q E s := by
  obtain ⟨hd, hz, ob, es, ep, ho, hx, hdt, hp⟩ := o.view I.hok
  have hT : s.TypeIs (.ref a) "dict" := ⟨ob, ho, hx.1⟩
  unfold getItem
  try with_reducible refine wpAny_holding ?_
  refine wpAny_bind (wpAny_sequenceKey hT (by decide) ?_)
  refine wpAny_bind (wpAny_callSpecial?_slot (name := Str.ofString "__getitem__") hT slot_dict_getitem
    (wpAny_call_entry slot_dict_getitem hT entry_dict_getitem ?_ (args_dict_getitem _ _)))
  show wpAny _ _ (dictGet a u >>= _) _ _ s
  exact wpAny_bind (dictGet_there (by show A.units + 1 + 8 < cLine; omega) I o tp hn hi ru fun w' s' I' r' => wpAny_pure ⟨w', rfl, wpAny_pure (h w' s' I' r')⟩)
/-- a key that is not there: set at the end -/
theorem setItem_new {k : OK} {u r : Value} {v : V} {Q : Unit → Shared → Prop} (hu : A.units + 9 < cLine) (I : Inv X pins σ H s) (o : OR X.w H a kvs) (mu : Mut (H a)) (tp : Tpl H kvs) (hk : ∀ b z, k = .tpl b z → H b = some (.tup [.str z])) (hn : (kvs.map fun q => q.1.nk).Nodup) (hl : kvs.length < sizeLine)
    (hi : k.nk ∉ kvs.map fun q => q.1.nk) (ru : RelV k.v u) (rv : RelV v r) (h : ∀ s', Inv X pins σ (upd H a (OD X.w a (kvs ++ [(k, v)]))) s' → Q () s') : wpAny (model X.prog X.w) A (setItem (.ref a) u r) Q E s := by
  obtain ⟨hd, hz, ob, es, ep, ho, hx, hdt, hp⟩ := o.view I.hok
  have K := ks_of I.hok tp hp
  have n := OK.is (k := k) I.hok hk ru
  have hT : s.TypeIs (.ref a) "dict" := ⟨ob, ho, hx.1⟩
  have hsz : es.size ≤ sizeLine := by rw [← Array.length_toList, ← Paired.length hp]; exact hz
  unfold setItem
  try with_reducible refine wpAny_holding ?_
  refine wpAny_bind (wpAny_sequenceKey hT (by decide) ?_)
  refine wpAny_bind (wpAny_callSpecial?_slot (name := Str.ofString "__setitem__") hT slot_dict_setitem
    (wpAny_call_entry slot_dict_setitem hT entry_dict_setitem ?_ (args_dict_setitem _ _ _)))
  show wpAny _ _ (Builtin.Dict.notOrdered "__setitem__" ⟨[.ref a, u, r], []⟩ >>= _) _ _ s
  refine wpAny_bind (wpAny_notOrdered_dict hT ?_)
  show wpAny _ _ (dictSet a u r >>= _) _ _ s
  refine wpAny_bind ?_
  unfold dictSet
  try with_reducible refine wpAny_holding ?_
  refine wpAny_bind (pyHash_key _ _ _ _ _ n.1 (by show A.units + 1 + _ < cLine; omega) ?_)
  unfold dictSetHashed
  try with_reducible refine wpAny_holding ?_
  refine wpAny_bind (find (s := { s with toks := s.toks + k.nk.draws }) (by show A.units + 1 + 8 < cLine; omega) n.1 n.2 ho hdt K hn ?_ ?_)
  · intro no
    refine wpAny_bind (wpAny_rule (wpAny_updateDictKeys (hz := hsz) (s := { s with toks := s.toks + k.nk.draws }) ho hdt (wpAny_pure ⟨.none, rfl, wpAny_pure (h _ ?_)⟩)))
    have hg := Heap.get?_update_self (h := s.heap) (Obj.mapDictKeys fun x => x.push ⟨k.nk.hash X.w, u, r⟩) ho (Obj.isFreed_of_dict (Obj.data_mapDictKeys hdt _))
    refine d_write (t' := s.toks + k.nk.draws) (I.tok _) mu (Heap.SameBut.update ..) ⟨_, hg⟩ (odP.ok ⟨hd, by rw [List.length_append]; exact hl, _, _, ep + 1, hg, hx.mapDictKeys _, Obj.data_mapDictKeys hdt _, ?_⟩)
    rw [Array.toList_push]
    exact Paired.snoc hp ⟨ru, rfl, rv⟩
  · intro j hj
    exact absurd (List.mem_of_getElem? hj) hi
end
end Odd

set_option Elab.async false
set_option linter.all false
set_option maxRecDepth 100000
namespace Odd
open PySem L2
abbrev NdK (kvs : List (OK × V)) : Prop := (kvs.map fun q => q.1.nk).Nodup
/-! ### isinstance -/
def TyO (w : World) (K : PySem.W.Frag) (H : Hp) (x : V) (t : Value) : Prop := TyX K H x t ∨ ∃ a kvs, x = .ref a ∧ OR w H a kvs ∧ t = .type "dict"
theorem kit_ofO {X : Cx} {pins : List (Addr × Obj)} {σ : St} {H : Hp} {s : Shared} {x : V} {u t : Value} (I : Inv X pins σ H s) (rx : RelV x u) (ty : TyO X.w X.K H x t) : ∃ P : Heap → Prop, PySem.W.KitX X.K u t P ∧ P s.heap ∧ u ≠ .builtin "__main__.__loader__#opaque" := by
  rcases ty with ty | ⟨a, kvs, rfl, o, rfl⟩
  · exact kit_of I rx ty
  · cases (show u = Value.ref a from rx)
    obtain ⟨hd, hz, ob, es, ep, ho, hx, _⟩ := o.view I.hok
    exact ⟨_, PySem.W.kitx_dict, ⟨ob, ho, hx.1⟩, fun z => nomatch z⟩
def rIsiO (w : World) (K : PySem.W.Frag) : List V → Hp → VK → Prop := fun xs H Q => ∃ (x c : V) (t u : Value) (b : Bool), xs = [x, c] ∧ ClsV c u ∧ TyO w K H x t ∧ PySem.W.kitOne K t u = some b ∧ Q (.bl b) H
def rIsiTO (w : World) (K : PySem.W.Frag) : List V → Hp → VK → Prop := fun xs H Q => ∃ (x : V) (tp : Addr) (cs : List V) (t : Value) (us : List Value) (b : Bool), xs = [x, .ref tp] ∧ H tp = some (.tup cs) ∧ Paired ClsV cs us ∧ TyO w K H x t ∧ PySem.W.kitAny K t us = some b ∧ Q (.bl b) H
section
variable {X : Cx}
theorem call_isiO : CallR X (.builtin "isinstance") (rIsiO X.w X.K) := by
  intro pins s σ H xs us Q I r h
  obtain ⟨x, c, t, u, b, rfl, k, ty, e, q⟩ := h
  obtain ⟨u1, u2, rfl, r1, r2⟩ := vals2 r
  have e2 := k.eq r2
  subst e2
  obtain ⟨P, Z, p, hx⟩ := kit_ofO I r1 ty
  exact PySem.W.kia_one Z I.kIn p e hx fun tk => ⟨.bl b, H, I.tok tk, rfl, q⟩
theorem call_isiTO : CallR X (.builtin "isinstance") (rIsiTO X.w X.K) := by
  intro pins s σ H xs us Q I r h
  obtain ⟨x, tp, cs, t, ws, b, rfl, hT, k, ty, e, q⟩ := h
  obtain ⟨u1, u2, rfl, r1, r2⟩ := vals2 r
  cases (show u2 = Value.ref tp from r2)
  obtain ⟨P, Z, p, hx⟩ := kit_ofO I r1 ty
  obtain ⟨_, its, rv, o, h1, h2, n, h3⟩ := (show ObjOk X.prog X.w H s.heap tp (.tup cs) from I.hok tp _ hT)
  have e3 := ClsV.all k rv
  subst e3
  obtain ⟨oc, od, dt, sl⟩ := o
  simp only at h2 h3
  subst h2 h3
  exact PySem.W.kia_tup Z I.kIn p h1 e hx fun tk => ⟨.bl b, H, I.tok tk, rfl, q⟩
end
/-! ### d[k], d[k] = v -/
def tOGet (w : World) (td ty : TE) : TE := fun σ H Q => td σ H fun x H1 => ty σ H1 fun y H2 => ∃ (a : Addr) (kvs : List (OK × V)) (k : OK) (i : Nat) (v : V), x = .ref a ∧ y = k.v ∧ OR w H2 a kvs ∧ Tpl H2 kvs ∧ NdK kvs ∧ kvs[i]? = some (k, v) ∧ Q v H2
def sOPut (w : World) (td ty tv : TE) : TS := fun D σ H => tv σ H fun v H1 => td σ H1 fun x H2 => ty σ H2 fun y H3 => ∃ (a : Addr) (kvs : List (OK × V)) (k : OK), x = .ref a ∧ y = k.v ∧ OR w H3 a kvs ∧ Mut (H3 a) ∧ Tpl H3 kvs ∧ (∀ b z, k = .tpl b z → H3 b = some (.tup [.str z])) ∧
  NdK kvs ∧ kvs.length < sizeLine ∧ (k.nk ∉ kvs.map fun q => q.1.nk) ∧ D.nx σ (upd H3 a (OD w a (kvs ++ [(k, v)])))
section
variable {X : Cx} {o i e value tg : Expr} {pos pos' apos cpos : Pos} {td ty tv : TE}
theorem pe_oget (hu : X.A.units + 64 < cLine) (ho : PE X o td) (hi : PE X i ty) (hs : NoSl i) : PE X (.Subscript o i pos) (tOGet X.w td ty) := by
  refine ⟨fun pins s σ H Q I h => ?_⟩
  refine subD_of PySem.F.slot_dict_getitem.lookup hs (thn (ho.run pins s σ H _ I h) fun u s1 ⟨x, H1, I1, rx, q1⟩ => thn (hi.run pins s1 σ H1 _ I1 q1) fun iv s2 ⟨y, H2, I2, ry, a, kvs, k, j, v, ex, ey, g, tp, nd, hj, q2⟩ => ?_)
  subst ex
  subst ey
  obtain rfl : u = Value.ref a := rx
  obtain ⟨hd, hz, ob, es, ep, hob, hx, _⟩ := g.view I2.hok
  exact ⟨⟨ob, hob, hx.1⟩, getItem_there (by omega) I2 g tp nd hj ry fun w' s3 I3 rw' => ⟨v, H2, I3, rw', q2⟩⟩
theorem ps_oput (hu : X.A.units + 64 < cLine) (ho : PE X o td) (hi : PE X i ty) (hv : PE X value tv) (hs : swapsWith value (some (.Subscript o i pos')) pos.line X.env = pure false) :
    PS X (.Assign [.Subscript o i pos'] value pos) (sOPut X.w td ty tv) := by
  refine ⟨fun pins s σ H D I h => ?_⟩
  refine wpAny_Assign_Subscript (thn (hv.run pins s σ H _ I h) fun r s1 ⟨v, H1, I1, rv, q1⟩ => thn (ho.run pins s1 σ H1 _ I1 q1) fun u s2 ⟨x, H2, I2, rx, q2⟩ => thn (hi.run pins s2 σ H2 _ I2 q2) fun iv s3 ⟨y, H3, I3, ry, a, kvs, k, ex, ey, g, mu, tp, hk, nd, hl, hn, q3⟩ => ?_) hs
  subst ex
  subst ey
  obtain rfl : u = Value.ref a := rx
  exact setItem_new (by omega) I3 g mu tp hk nd hl hn ry rv fun s4 I4 => ⟨σ, _, I4, q3⟩
end
/-! ### for k in d -/
def FrzR (w : World) (H : Hp) (d : Addr) (o : Obj) (kvs : List (OK × V)) : Prop := (∃ zs : List (Str × V), kvs = zs.map tk ∧ H d = some (.frz o (.dK (zs.map kk)))) ∨ H d = some (.frz o (OD w d kvs))
theorem FrzR.or {w : World} {H : Hp} {d : Addr} {o : Obj} {kvs : List (OK × V)} (h : FrzR w H d o kvs) : OR w H d kvs := h.elim (fun ⟨zs, e, h⟩ => .inl ⟨zs, e, .inr ⟨o, h⟩⟩) fun h => .inr (.inr ⟨o, h⟩)
def Ito (w : World) (d : Addr) (o : Obj) (kvs : List (OK × V)) : It :=
  ⟨fun i H => FrzR w H d o kvs ∧ i < kvs.length, fun i H x H' => H' = H ∧ ∃ k v, kvs[i]? = some (k, v) ∧ x = k.v, fun i H => FrzR w H d o kvs ∧ kvs.length ≤ i⟩
section
variable {X : Cx} {pins : List (Addr × Obj)} {σ : St} {H : Hp} {s : Shared} {d : Addr} {o : Obj} {kvs : List (OK × V)}
theorem frzO (I : Inv X pins σ H s) (h : FrzR X.w H d o kvs) :
    (d == sysModules) = false ∧ s.heap.get? d = some o ∧ o.ExactDict ∧ ∃ (es : Array DictEntry) (ep : Nat), o.data = .dict es ep ∧ es.size = kvs.length ∧ Paired (rent X.w) kvs es.toList := by
  have e : s.heap.get? d = some o := by
    rcases h with ⟨zs, _, h⟩ | h
    · obtain ⟨hd, _⟩ := I.hok d _ h
      exact hd
    · obtain ⟨hd, _⟩ := I.hok d _ h
      exact hd
  obtain ⟨hd, hz, ob, es, ep, ho, hx, hdt, hp⟩ := h.or.view I.hok
  rw [e] at ho
  obtain rfl := Option.some.inj ho
  exact ⟨hd, e, hx, es, ep, hdt, by rw [← Array.length_toList, Paired.length hp], hp⟩
end
section
variable {P : Program} {w : World} {K : PySem.W.Frag} {tg : Expr} {d : Addr} {o : Obj} {es : Array DictEntry} {ep : Nat}
theorem turn_okeys {kvs : List (OK × V)} (it : Addr) (hod : o.data = .dict es ep) : Turn P w K tg (Ito w d o kvs) [it] it (fun i h => h.IsKeyIter it d i kvs.length ep) where
  mem := by simp
  obj := fun i h st b hb => by
    have e : b = it := by simpa using hb
    subst e
    obtain ⟨oi, e, c, dd⟩ := st
    exact ⟨oi, e, fun v z => by rw [dd] at z; cases z⟩
  keep := fun i h h' st k => st.at fun oi e => k it (by simp) oi e
  item := by
    intro X hP hw hK hc i pins s σ H E I hf st hg
    subst hP hw hK
    obtain ⟨hd, hi⟩ := hg
    obtain ⟨f0, f1, f2, f3, f4, f5⟩ := hf it (by simp)
    obtain ⟨hs, hgd, hx, es', ep', hdt, hsz, hp⟩ := frzO I hd
    obtain ⟨rfl, rfl⟩ := dict_ep hod hdt
    obtain ⟨⟨k, v⟩, hkv⟩ : ∃ p, kvs[i]? = some p := ⟨kvs[i], List.getElem?_eq_getElem hi⟩
    have hen : es'[i]? = some es'[i] := Array.getElem?_eq_getElem (by omega)
    have r := paired_at2 hp hkv (by rw [Array.getElem?_toList]; exact hen)
    refine next_key_item st hgd hdt hsz hen fun h' st' sb => ?_
    have I1 : Inv X pins σ H { s with heap := h' } := I.turned (t' := s.toks) (fun b ob hb e => (sb.2 b hb).trans e) f0 f1 f3 f4 f5
    obtain ⟨oi, e, c, dd⟩ := id st'
    exact ⟨_, rfl, go_of (s := { s with heap := h' }) e c dd (by decide) ⟨k.v, H, I1, r.1, ⟨rfl, k, v, hkv, rfl⟩, st', fun b hb => (hf b hb).1⟩⟩
  done := by
    intro X hP hw hK hc i pins s σ H E I hf st hg
    subst hP hw hK
    obtain ⟨hd, hi⟩ := hg
    obtain ⟨f0, f1, f2, f3, f4, f5⟩ := hf it (by simp)
    obtain ⟨hs, hgd, hx, es', ep', hdt, hsz, hp⟩ := frzO I hd
    obtain ⟨rfl, rfl⟩ := dict_ep hod hdt
    exact next_key_end (I.ok.hd hc) st hgd hdt hsz hi fun h' eb => ⟨rfl, I.turned (t' := s.toks) (fun b ob hb e => eb b ob hb e) f0 f1 f3 f4 f5⟩
  self := fun A i s Q E st h => by
    refine wpAny_pyIter_slot st.typeIs PySem.F.slot_dict_keyiterator_iter (wpAny_call_entry PySem.F.slot_dict_keyiterator_iter st.typeIs PySem.F.entry_dict_keyiterator_iter ?_ (PySem.F.args_dict_keyiterator_iter_1 _))
    show wpAny _ _ (ret (.ref it)) _ _ s
    exact wpAny_pure ⟨_, rfl, "dict_keyiterator", _, st.typeIs, PySem.F.slot_dict_keyiterator_next.lookup, h⟩
end
def iOKeys (w : World) (td : TE) : TI := fun σ H R => td σ H fun x H1 => ∃ d o kvs, x = .ref d ∧ FrzR w H1 d o kvs ∧ R (Ito w d o kvs) H1
theorem pi_okeys {X : Cx} {tg e : Expr} {td : TE} (he : PE X e td) : PI X tg e (iOKeys X.w td) := by
  refine ⟨fun pins s σ H R I h => ?_⟩
  refine thn (he.run pins s σ H _ I h) fun u s1 ⟨x, H1, I1, rx, d, o, kvs, ex, hd, q⟩ => ?_
  subst ex
  obtain rfl : u = Value.ref d := rx
  obtain ⟨hs, hgd, hx, es, ep, hdt, hsz, hp⟩ := frzO I1 hd
  refine iter_keys hs hgd hx hdt (pi_one (tk := s1.toks) I1 _ (turn_okeys _ hdt) ⟨_, Heap.get?_push_size _ rfl, rfl, ?_⟩ q)
  rw [hsz] <;> rfl
end Odd

set_option Elab.async false
set_option linter.all false
set_option maxRecDepth 100000
namespace Odd
open PySem L2
section
variable {X : Cx} {pins : List (Addr × Obj)} {σ : St} {H : Hp} {s : Shared} {a : Addr} {kvs : List (OK × V)} {A : Around} {E : Value → Shared → Prop}
theorem samePairs_self {nm : String} {Q : Bool → Shared → Prop} (hu : A.units + 8 < cLine) (I : Inv X pins σ H s) (o : OR X.w H a kvs) (tp : Tpl H kvs) (hn : NdK kvs) (h : Q true s) :
    wpAny (model X.prog X.w) A (Builtin.Dict.samePairs nm a a) Q E s := by
  obtain ⟨hd, hz, ob, es, ep, ho, hx, hdt, hp⟩ := o.view I.hok
  have K := ks_of I.hok tp hp
  unfold Builtin.Dict.samePairs Builtin.Dict.showsAll
  rw [if_neg (show ¬ (a == sysModules) = true by rw [hd]; exact Bool.false_ne_true)]
  refine wpAny_bind (wpAny_pure (wpAny_bind (wpAny_pure ?_)))
  refine wpAny_bind (wpAny_dictEntries ho hdt ?_)
  dsimp only
  refine wpAny_bind (wpAny_dictEntries ho hdt ?_)
  rw [if_neg (by simp)]
  refine wpAny_bind (wpAny_dictEpoch ho hdt ?_)
  refine wpAny_bind ?_
  rw [Std.Legacy.Range.forIn_eq_forIn_range']
  simp only [Std.Legacy.Range.size, Nat.sub_zero, Nat.add_sub_cancel, Nat.div_one]
  refine wpAny_forIn_list _
    (fun rest q s' => s' = s ∧ q = (none, ()) ∧ ∃ i, rest = List.range' i (es.size - i) ∧ i ≤ es.size)
    _ ?_ ?_ _ _ ⟨rfl, rfl, 0, by simp, Nat.zero_le _⟩
  · rintro x rest q s' ⟨rfl, rfl, i, hr, hi⟩
    have hlt : i < es.size := by
      rcases Nat.lt_or_ge i es.size with h | h
      · exact h
      · rw [Nat.sub_eq_zero_of_le h] at hr; simp at hr
    obtain ⟨rfl, hrest⟩ : x = i ∧ rest = List.range' (i + 1) (es.size - (i + 1)) := by
      have e : es.size - i = (es.size - (i + 1)) + 1 := by omega
      rw [e, List.range'_succ] at hr
      injection hr with h1 h2
      exact ⟨h1, h2⟩
    refine wpAny_bind (wpAny_dictEntries ho hdt ?_)
    have hex : es[x]? = some es[x] := Array.getElem?_eq_getElem hlt
    rw [hex]
    obtain ⟨k, hk, hh, hik, h8⟩ := K.at hex
    show wpAny _ _ (holding [es[x].key, es[x].val] _ >>= _) _ _ _
    rw [hh]
    refine wpAny_bind (wpAny_holding (wpAny_bind (find hu hik h8 ho hdt K hn (fun no => absurd hk (no x)) fun j hj => ?_)))
    obtain rfl := idx_unique hn hk hj
    refine wpAny_bind (wpAny_dictEntries ho hdt ?_)
    rw [hex]
    refine wpAny_holding (SeqAt.EqAt.same _ _ _ _ _ ?_)
    show wpAny _ _ (if (!true) = true then _ else _) _ _ _
    rw [if_neg (by decide)]
    refine wpAny_bind (wpAny_dictEpoch ho hdt ?_)
    rw [if_neg (by simp)]
    exact wpAny_pure ⟨rfl, rfl, x + 1, hrest, hlt⟩
  · rintro q s' ⟨rfl, rfl, i, hr, hi⟩
    exact wpAny_pure h
theorem eq_self {Q : Value → Shared → Prop} (hu : A.units + 9 < cLine) (I : Inv X pins σ H s) (o : OR X.w H a kvs) (tp : Tpl H kvs) (hn : NdK kvs) (h : Q (.bool true) s) :
    wpAny (model X.prog X.w) A (compareOp .Eq (.ref a) (.ref a)) Q E s := by
  obtain ⟨hd, hz, ob, es, ep, ho, hx, hdt, hp⟩ := o.view I.hok
  have hT : s.TypeIs (.ref a) "dict" := ⟨ob, ho, hx.1⟩
  refine wpAny_richCompare_same_room (op := .Eq) hT hT PySem.F.slot_dict_eq (wpAny_call_entry PySem.F.slot_dict_eq hT PySem.F.entry_dict_eq ?_ (PySem.F.args_dict_eq_2 _ _)) (by omega)
  show wpAny _ _ (Builtin.Dict.dictSlotArgs "__eq__" ⟨[.ref a, .ref a], []⟩ >>= _) _ _ s
  refine wpAny_bind ?_
  unfold Builtin.Dict.dictSlotArgs
  refine wpAny_bind (wpAny_notOrdered_dict hT ?_)
  show wpAny _ _ (pure (Value.ref a, Value.ref a)) _ _ s
  refine wpAny_pure ?_
  refine wpAny_bind (wpAny_isInstance (T := "dict") hT PySem.F.sub_dict_dict ?_)
  simp only [Bool.not_true, Bool.false_eq_true, if_false]
  refine wpAny_bind (wpAny_pure (wpAny_bind (wpAny_pure ?_)))
  refine wpAny_bind (samePairs_self (by show A.units + 1 + 8 < cLine; omega) I o tp hn ?_)
  refine wpAny_pure ⟨_, rfl, ?_, ?_⟩
  · exact fun x => nomatch x
  · simpa using h
end
/-- a dict is equal to itself -/
def rSelf (w : World) : R2 := fun x y H Q => ∃ a kvs, x = .ref a ∧ y = .ref a ∧ OR w H a kvs ∧ Tpl H kvs ∧ NdK kvs ∧ Q (.bl true) H
theorem op_self {X : Cx} (hu : X.A.units + 64 < cLine) : OpR X (compareOp .Eq) (rSelf X.w) := by
  intro pins s σ H x y v u Q I rx ry h
  obtain ⟨a, kvs, rfl, rfl, o, tp, nd, q⟩ := h
  obtain rfl : v = Value.ref a := rx
  obtain rfl : u = Value.ref a := ry
  exact eq_self (by omega) I o tp nd ⟨.bl true, H, I, rfl, q⟩
theorem OR.same {w : World} {H H' : Hp} {a : Addr} {kvs : List (OK × V)} (s : ∀ b o, H b = some o → H' b = some o) (h : OR w H a kvs) : OR w H' a kvs := by
  rcases h with ⟨zs, e, h⟩ | h
  · exact .inl ⟨zs, e, h.elim (fun h => .inl (s _ _ h)) fun ⟨o, h⟩ => .inr ⟨o, s _ _ h⟩⟩
  · exact .inr (h.elim (fun h => .inl (s _ _ h)) fun ⟨o, h⟩ => .inr ⟨o, s _ _ h⟩)
theorem Tpl.same {H H' : Hp} {kvs : List (OK × V)} (s : ∀ b o, H b = some o → H' b = some o) (h : Tpl H kvs) : Tpl H' kvs := fun b z v m => s _ _ (h b z v m)
end Odd

set_option Elab.async false
set_option linter.all false
set_option maxRecDepth 100000
/-! closures as values: a lambda without parameters that is handed on to defs, and called there -/
namespace Clo
open PySem PySem.Spec PyProof.Rows L2 LamX
/-- the object at c is just o -/
def Pin (c : Addr) (o : Obj) : HO := .ext fun h => h.get? c = some o
theorem pin_ok {P : Program} {w : World} {H : Hp} {h : Heap} {c : Addr} {o : Obj} (e : h.get? c = some o) : ObjOk P w H h c (Pin c o) :=
  ⟨e, ⟨o, e⟩, fun h1 h2 q st => st _ q⟩
theorem pin_get {P : Program} {w : World} {H : Hp} {h : Heap} {c : Addr} {o : Obj} (hok : HOk P w H h) (e : H c = some (Pin c o)) : h.get? c = some o := (hok c _ e).1
/-- the cells at C known to the object; .. forgotten -/
def plus (C : Addr → Option Obj) (H : Hp) : Hp := fun b => match C b with | some o => some (Pin b o) | none => H b
def minus (C : Addr → Option Obj) (H : Hp) : Hp := fun b => match C b with | some _ => none | none => H b
section
variable {C : Addr → Option Obj} {H H' : Hp} {b : Addr} {o : Obj} {u : HO}
theorem plus_in (e : C b = some o) : plus C H b = some (Pin b o) := by unfold plus; rw [e]
theorem plus_out (e : C b = none) : plus C H b = H b := by unfold plus; rw [e]
theorem minus_in (e : C b = some o) : minus C H b = none := by unfold minus; rw [e]
theorem minus_out (e : C b = none) : minus C H b = H b := by unfold minus; rw [e]
theorem out_of (e : H b = some u) (f : ∀ c o, C c = some o → H c = none) : C b = none := by
  cases q : C b with
  | none => rfl
  | some o =>
    rw [f b o q] at e
    cases e
theorem pin_own {c x : Addr} : Pin c o ≠ .own x := fun z => by
  have z' : HO.ext _ = HO.own x := z
  cases z'
theorem pin_tup {c : Addr} {xs : List V} : Pin c o ≠ .tup xs := fun z => by
  have z' : HO.ext _ = HO.tup xs := z
  cases z'
theorem pin_frz {c : Addr} {p : Obj} : Pin c o ≠ .frz p u := fun z => by
  have z' : HO.ext _ = HO.frz p u := z
  cases z'
theorem pin_tbl {c : Addr} {ps : Array Value} : Pin c o ≠ .tbl ps := fun z => by
  have z' : HO.ext _ = HO.tbl ps := z
  cases z'
/-- Hm is H without the cells -/
structure Less (C : Addr → Option Obj) (Hm H : Hp) (h : Heap) : Prop where
  inn : ∀ c o, C c = some o → Hm c = none ∧ H c = some (Pin c o) ∧ h.get? c = some o
  out : ∀ b, C b = none → Hm b = H b
theorem less_plus {h : Heap} (f : ∀ c o, C c = some o → H c = none ∧ h.get? c = some o) : Less C H (plus C H) h :=
  ⟨fun c o e => ⟨(f c o e).1, plus_in e, (f c o e).2⟩, fun b e => (plus_out e).symm⟩
theorem less_minus {P : Program} {w : World} {h : Heap} (hok : HOk P w H h) (f : ∀ c o, C c = some o → H c = some (Pin c o)) : Less C (minus C H) H h :=
  ⟨fun c o e => ⟨minus_in e, f c o e, (hok c _ (f c o e)).1⟩, fun b e => minus_out e⟩
end
section
variable {P : Program} {w : World} {C : Addr → Option Obj} {H Hm H' : Hp} {h h' : Heap} {fs : List Addr}
theorem Less.cells (L : Less C Hm H h) {b : Addr} {u : HO} (e : H b = some u) (n : ∀ o, u ≠ Pin b o) : C b = none := by
  cases q : C b with
  | none => rfl
  | some o =>
    rw [(L.inn b o q).2.1] at e
    exact absurd (Option.some.inj e).symm (n o)
theorem Less.hok (L : Less C Hm H h) (k : HOk P w Hm h) : HOk P w H h := fun b u e => by
  cases q : C b with
  | some o =>
    rw [(L.inn b o q).2.1] at e
    cases e
    exact pin_ok (L.inn b o q).2.2
  | none =>
    rw [← L.out b q] at e
    refine (k b u e).stay (fun _ _ _ z => z) (fun c z => ?_) fun c xs z => ?_
    · cases qc : C c with
      | none => rw [← L.out c qc]; exact z
      | some o => rw [(L.inn c o qc).1] at z; cases z
    · cases qc : C c with
      | none => rw [← L.out c qc]; exact z
      | some o => rw [(L.inn c o qc).1] at z; cases z
theorem Less.hokm (L : Less C Hm H h) (k : HOk P w H h) : HOk P w Hm h := fun b u e => by
  have qb : C b = none := by
    cases q : C b with
    | none => rfl
    | some o => rw [(L.inn b o q).1] at e; cases e
  rw [L.out b qb] at e
  refine (k b u e).stay (fun _ _ _ z => z) (fun c z => ?_) fun c xs z => ?_
  · rw [L.out c (L.cells z fun o => Ne.symm pin_own)]; exact z
  · rw [L.out c (L.cells z fun o => Ne.symm pin_tup)]; exact z
/-- what is kept over Hm is kept over H, the cells told again -/
theorem un_plus (L : Less C Hm H h) (u : Un fs [] Hm H' h h') (nf : ∀ c o, C c = some o → c ∉ fs) : Un fs [] H (plus C H') h h' ∧ (∀ c o, C c = some o → h'.get? c = some o ∧ H' c = none) := by
  have cell : ∀ c o, C c = some o → h'.get? c = some o ∧ H' c = none := fun c o e => by
    have i := L.inn c o e
    exact ⟨u.keep c o i.2.2 i.1 (nf c o e) (by simp), u.free c o i.2.2 i.1 (by simp)⟩
  have nn : ∀ {b}, H b = none → C b = none := fun {b} n => by
    cases q : C b with
    | none => rfl
    | some o => rw [(L.inn b o q).2.1] at n; cases n
  refine ⟨⟨fun b o e n hb hx => ?_, fun b o e n hb hx => ?_, fun b o e n hx => ?_, u.there, fun b xs e => ?_, fun b o v e => ?_, fun b ps e => ?_⟩, cell⟩
  · exact u.keep b o e (by rw [L.out b (nn n)]; exact n) hb hx
  · exact u.slot b o e (by rw [L.out b (nn n)]; exact n) hb hx
  · rw [plus_out (nn n)]
    exact u.free b o e (by rw [L.out b (nn n)]; exact n) hx
  · have q := L.cells e fun o => Ne.symm pin_tup
    rw [plus_out q]
    exact u.tups b xs (by rw [L.out b q]; exact e)
  · have q := L.cells e fun o' => Ne.symm pin_frz
    rw [plus_out q]
    exact u.frzs b o v (by rw [L.out b q]; exact e)
  · have q := L.cells e fun o => Ne.symm pin_tbl
    rw [plus_out q]
    exact u.tbls b ps (by rw [L.out b q]; exact e)
/-- what is kept over H, the cells known behind it too, is kept over Hm -/
theorem un_minus (L : Less C Hm H h) (u : Un fs [] H H' h h') (hok : HOk P w H' h') (st : ∀ c o, C c = some o → H' c = some (Pin c o)) : Un fs [] Hm (minus C H') h h' := by
  have cell : ∀ c o, C c = some o → h'.get? c = some o := fun c o e => (hok c _ (st c o e)).1
  refine ⟨fun b o e n hb hx => ?_, fun b o e n hb hx => ?_, fun b o e n hx => ?_, u.there, fun b xs e => ?_, fun b o v e => ?_, fun b ps e => ?_⟩
  · cases q : C b with
    | some o' =>
      have := (L.inn b o' q).2.2
      rw [e] at this
      cases this
      exact cell b o q
    | none => exact u.keep b o e (by rw [← L.out b q]; exact n) hb hx
  · cases q : C b with
    | some o' =>
      have := (L.inn b o' q).2.2
      rw [e] at this
      cases this
      exact ⟨o.slots, cell b o q⟩
    | none => exact u.slot b o e (by rw [← L.out b q]; exact n) hb hx
  · cases q : C b with
    | some o' => exact minus_in q
    | none =>
      rw [minus_out q]
      exact u.free b o e (by rw [← L.out b q]; exact n) hx
  · have q : C b = none := by
      cases q : C b with
      | none => rfl
      | some o => rw [(L.inn b o q).1] at e; cases e
    rw [minus_out q]
    exact u.tups b xs (by rw [← L.out b q]; exact e)
  · have q : C b = none := by
      cases q : C b with
      | none => rfl
      | some o => rw [(L.inn b o q).1] at e; cases e
    rw [minus_out q]
    exact u.frzs b o v (by rw [← L.out b q]; exact e)
  · have q : C b = none := by
      cases q : C b with
      | none => rfl
      | some o => rw [(L.inn b o q).1] at e; cases e
    rw [minus_out q]
    exact u.tbls b ps (by rw [← L.out b q]; exact e)
end
section
variable {P : Program} {w : World} {C : Addr → Option Obj} {H Hm : Hp} {s s' : Shared} {outer : List Env}
theorem ce_plus {Q : VK} {u : Value} (L : Less C Hm H s.heap) (nf : ∀ c o, C c = some o → c ∉ frs outer) (h : CE outer P w Hm s (fun v H' => (∀ c o, C c = some o → H' c = none) → Q v (plus C H')) u s') : CE outer P w H s Q u s' := by
  obtain ⟨v, H', os, bare, un, hok, r, q⟩ := h
  obtain ⟨un', cell⟩ := un_plus L un nf
  exact ⟨v, plus C H', os, bare, un', (less_plus fun c o e => ⟨(cell c o e).2, (cell c o e).1⟩).hok hok, r, q fun c o e => (cell c o e).2⟩
theorem ce_minus {Q : VK} {u : Value} (L : Less C Hm H s.heap) (h : CE outer P w H s (fun v H' => (∀ c o, C c = some o → H' c = some (Pin c o)) ∧ Q v (minus C H')) u s') : CE outer P w Hm s Q u s' := by
  obtain ⟨v, H', os, bare, un, hok, r, st, q⟩ := h
  exact ⟨v, minus C H', os, bare, un_minus L un hok st, (less_minus hok st).hokm hok, r, q⟩
theorem cx_plus {E : XK} {u : Value} (L : Less C Hm H s.heap) (nf : ∀ c o, C c = some o → c ∉ frs outer) (h : L2.CX P w outer Hm s (fun cls d H' => (∀ c o, C c = some o → H' c = none) → E cls d (plus C H')) u s') : L2.CX P w outer H s E u s' := by
  obtain ⟨a, B, H', cls, d, eu, fl, hok, ub, na, os, ag, q⟩ := h
  have nn : ∀ {b}, H b = none → C b = none := fun {b} n => by
    cases q : C b with
    | none => rfl
    | some o => rw [(L.inn b o q).2.1] at n; cases n
  have cell : ∀ c o, C c = some o → B.get? c = some o ∧ H' c = none := fun c o e => by
    have i := L.inn c o e
    exact ⟨ub.keep c o i.2.2 i.1 (nf c o e), ub.free c o i.2.2 i.1⟩
  refine ⟨a, B, plus C H', cls, d, eu, fl, (less_plus fun c o e => ⟨(cell c o e).2, (cell c o e).1⟩).hok hok, ⟨fun b o e n hb => ?_, ub.slot, fun b o e n => ?_, ub.there, fun b xs e => ?_, fun b o v e => ?_, fun b ps e => ?_⟩, ?_, os, ag, q fun c o e => (cell c o e).2⟩
  · exact ub.keep b o e (by rw [L.out b (nn n)]; exact n) hb
  · rw [plus_out (nn n)]
    exact ub.free b o e (by rw [L.out b (nn n)]; exact n)
  · have q := L.cells e fun o => Ne.symm pin_tup
    rw [plus_out q]
    exact ub.tups b xs (by rw [L.out b q]; exact e)
  · have q := L.cells e fun o' => Ne.symm pin_frz
    rw [plus_out q]
    exact ub.frzs b o v (by rw [L.out b q]; exact e)
  · have q := L.cells e fun o => Ne.symm pin_tbl
    rw [plus_out q]
    exact ub.tbls b ps (by rw [L.out b q]; exact e)
  · have qa : C a = none := by
      cases q : C a with
      | none => rfl
      | some o =>
        have h1 := (cell a o q).1
        rw [fl.2.1] at h1
        cases h1
    rw [plus_out qa]
    exact na
end

/-! ### the cells of a frame -/
/-- C: the objects of the cells that env knows, with the values of the names -/
structure CellsAt (env : Env) (N : List Str) (σ : L2.St) (C : Addr → Option Obj) : Prop where
  all : ∀ x c, env.cells.lookup x = some c → ∃ o v, C c = some o ∧ o.data = .cell v
  val : ∀ (i : Nat) (x : Str) (v : V) (c : Addr), N[i]? = some x → σ[i]? = some (some v) → (env.kindOf x = some .cell ∨ env.kindOf x = some .free) → env.cells.lookup x = some c → ∃ o u, C c = some o ∧ o.data = .cell (some u) ∧ RelV v u
section
variable {X : Cx} {pins : List (Addr × Obj)} {σ : L2.St} {H : Hp} {s : Shared}
open Classical in
theorem cells_of (I : Inv X pins σ H s) : ∃ C : Addr → Option Obj, CellsAt X.env X.N σ C ∧ (∀ c o, C c = some o → s.heap.get? c = some o ∧ H c = none ∧ ∃ x, X.env.cells.lookup x = some c) := by
  refine ⟨fun c => if ∃ x, X.env.cells.lookup x = some c then s.heap.get? c else none, ⟨fun x c e => ?_, fun i x v c hn hs hk e => ?_⟩, fun c o e => ?_⟩
  · obtain ⟨v, o, ho, hd⟩ := I.cell x c e
    exact ⟨o, v, by rw [if_pos ⟨x, e⟩]; exact ho, hd⟩
  · obtain ⟨m, hm, hl⟩ := I.loc
    have vis : Vis X.env.scope x := hk.elim (fun k => .inr (.inl k)) (fun k => .inr (.inr k))
    obtain ⟨u, ru, q⟩ := hl i x v hn hs vis
    rcases q with ⟨k', _⟩ | ⟨_, c', e', o, ho, hd⟩
    · rcases hk with k | k <;> rw [k] at k' <;> cases k'
    · rw [e] at e'
      cases e'
      exact ⟨o, u, by rw [if_pos ⟨x, e⟩]; exact ho, hd, ru⟩
  · have e : (if ∃ x, X.env.cells.lookup x = some c then s.heap.get? c else none) = some o := e
    by_cases hx : ∃ x, X.env.cells.lookup x = some c
    · rw [if_pos hx] at e
      obtain ⟨x, ex⟩ := hx
      exact ⟨e, I.freeC x c ex, x, ex⟩
    · rw [if_neg hx] at e
      cases e
end
section
variable {X : Cx} {σ : L2.St} {C : Addr → Option Obj} {HZ : Hp} {s1 : Shared}
/-- the lambda's body, entered anywhere while the cells lie as C tells -/
theorem lam_start3 {A : Around} {outer : List Env} {E : XK} {scope : Scope} {f c' : Addr} {h₁ : Heap} {tk : Nat} (ok : X.Ok) (len : σ.length = X.N.length) (L : LamS X.env.scope scope) (KC : CellsAt X.env X.N σ C) (lie : ∀ c o, C c = some o → s1.heap.get? c = some o) (off : ∀ c o, C c = some o → HZ c = none)
    (e0 : Env0 X.prog X.w X.K X.mg X.base A outer s1 HZ) (hd : A.handled = none) (hns : h₁.Ns s1.heap.objs.size fun y => ([] : List (Str × Value)).reverse.lookup y) (kp : ∀ b o, s1.heap.get? b = some o → h₁.get? b = some o) :
    Inv (lamCx X A outer s1 HZ E scope f c') [] σ HZ { s1 with heap := h₁, toks := tk } := by
  have old : ∀ {x c}, (cloFrom X.env.cells scope.names []).lookup x = some c → X.env.cells.lookup x = some c := fun {x c} lk => by
    rcases cloFrom_mem (PySem.mem_of_lookup lk) with z | ⟨nm, at_⟩
    · exact absurd z (by simp)
    · obtain ⟨d, hl⟩ := L.has ok _ nm rfl
      have hl : X.env.cells.lookup x = some d := hl
      rw [at_, hl]
      rfl
  have seek : ∀ {x}, scope.names.lookup x = some .free → ∃ c, (cloFrom X.env.cells scope.names []).lookup x = some c := fun {x} lk =>
    mem_lookup (cloFrom_has (cells := X.env.cells) (acc := []) (PySem.mem_of_lookup lk))
  have noE : ∀ b : Addr, b ∉ (lamCx X A outer s1 HZ E scope f c').ex := fun b z => nomatch (show b ∈ ([] : List Addr) from z)
  refine ⟨⟨e0.mod, L.kind, rfl, rfl, Nat.le_refl _, fun x y c l1 l2 => ok.inj x y c (old l1) (old l2), fun x kx => ?_, fun x c z => ?_, fun _ => hd, Around.frames_deeper e0.frames, .inr ⟨rfl, rfl⟩, fun b z => (noE b z).elim, e0.bs, e0.bsz, fun b _ _ => noE b, fun b z => (noE b z).elim, e0.funs, e0.frf⟩,
    rfl, e0.bare, Un.kept kp, ⟨_, hns, fun i x v l1 l2 vs => ?_⟩, fun x c lk => ?_, e0.hok.fresh (Nat.le_refl _), fun x c lk => ?_, fun p z => (nomatch (show p ∈ ([] : List (Addr × Obj)) ++ [] from z)), e0.hok.kept kp, len⟩
  · have kx : scope.names.lookup x = some .cell ∨ scope.names.lookup x = some .free := kx
    rcases kx with k | k
    · exact ((L.own _ (PySem.mem_of_lookup k)).2 rfl).elim
    · exact seek k
  · exact nomatch (show false = true from z)
  · have vs : Vis scope x := vs
    rcases vs with k | k | k
    · exact ((L.own _ (PySem.mem_of_lookup k)).1 rfl).elim
    · exact ((L.own _ (PySem.mem_of_lookup k)).2 rfl).elim
    · have kk : X.env.kindOf x = some .cell ∨ X.env.kindOf x = some .free := L.free _ (PySem.mem_of_lookup k) rfl
      obtain ⟨c, lk⟩ := seek k
      obtain ⟨o, u, co, od, ru⟩ := KC.val i x v c l1 l2 kk (old lk)
      exact ⟨u, ru, .inr ⟨.inr k, c, lk, o, kp _ _ (lie c o co), od⟩⟩
  · obtain ⟨o, v, co, od⟩ := KC.all x c (old lk)
    exact ⟨v, o, kp _ _ (lie c o co), od⟩
  · obtain ⟨o, v, co, od⟩ := KC.all x c (old lk)
    exact off c o co
end

/-! ### a closure -/
/-- what a call of the object at f, without arguments, does -/
def Act (P : Program) (w : World) (K : PySem.W.Frag) (mg : Str → Option Value) (base : Heap) (k : Nat) (f : Addr) (tl : Hp → VK → XK → Prop) : Prop :=
  ∀ (A : Around) (outer : List Env) (s : Shared) (H : Hp) (Q : VK) (E : XK), Room k A → Env0 P w K mg base A outer s H → tl H Q E →
    codeAny (model P w) A (.call (.ref f) ⟨[], []⟩) (CR (L2.CX P w) outer P w H s Q E) s
theorem Act.mono {P : Program} {w : World} {K : PySem.W.Frag} {mg : Str → Option Value} {base : Heap} {j k : Nat} {f : Addr} {tl : Hp → VK → XK → Prop} (a : Act P w K mg base j f tl) (h : j ≤ k) : Act P w K mg base k f tl :=
  fun A outer s H Q E r => a A outer s H Q E (r.mono h)
/-- the reading of a lambda's call, wherever it comes: its object and the cells are known, the body's reading holds without them -/
def tlX (f c' : Addr) (fo : Obj) (q : Str) (C : Addr → Option Obj) (σ : L2.St) (t : XK → TE) : Hp → VK → XK → Prop := fun H Q E =>
  H f = some (Pin f fo) ∧ H c' = some (CodeO c' q) ∧ (∀ c o, C c = some o → H c = some (Pin c o)) ∧ t (fun cls d H' => (∀ c o, C c = some o → H' c = none) → E cls d (plus C H')) σ (minus C H) (fun v H' => (∀ c o, C c = some o → H' c = none) → Q v (plus C H'))
section
variable {X : Cx} {σ : L2.St} {C : Addr → Option Obj}
theorem act_ok {f c' : Addr} {pm ctv : Value} {params : Arguments} {body : Expr} {scope : Scope} {k : Nat} {t : XK → TE} (ok : X.Ok) (len : σ.length = X.N.length) (L : LamS X.env.scope scope) (KC : CellsAt X.env X.N σ C)
    (hbind : bindArgs (PySem.W.kla_fn "<lambda>" (X.env.qual ++ "<lambda>") params body scope (cloFrom X.env.cells scope.names []) pm (.ref c') ctv) ⟨[], []⟩ = pure [])
    (hbody : ∀ (A : Around) (outer : List Env) (s : Shared) (H : Hp) (E : XK), Room k (A.deeper (lamEnv X scope s.heap.objs.size f c')) → PE (lamCx X A outer s H E scope f c') body (t E)) :
    Act X.prog X.w X.K X.mg X.base (k + 1) f (tlX f c' (PySem.W.kla_obj "<lambda>" (X.env.qual ++ "<lambda>") params body scope (cloFrom X.env.cells scope.names []) pm c' ctv) (X.env.qual ++ "<lambda>") C σ t) := by
  intro A outer s H Q E hr e0 h
  obtain ⟨hf, hc, hC, ht⟩ := h
  have gf := pin_get e0.hok hf
  obtain ⟨⟨oc, vs, tq, g1, g2, g3⟩, _, _⟩ := e0.hok c' _ hc
  have LS : Less C (minus C H) H s.heap := less_minus e0.hok hC
  have nf : ∀ c o, C c = some o → c ∉ frs outer := fun c o e z => by
    have := e0.frf c z
    rw [hC c o e] at this
    cases this
  have e1 : Env0 X.prog X.w X.K X.mg X.base A outer s (minus C H) := ⟨e0.frames, e0.mod, fun b o e => ⟨(e0.bs b o e).1, by
      cases q : C b with
      | some o' => exact minus_in q
      | none => rw [minus_out q]; exact (e0.bs b o e).2⟩, e0.bsz, e0.funs, fun b hb => by
      cases q : C b with
      | some o' => exact minus_in q
      | none => rw [minus_out q]; exact e0.frf b hb, LS.hokm e0.hok, e0.bare⟩
  have lim : s.heap.NoLimit := e0.mod.nolimit.keeps fun b o e => (e0.bs b o e).1
  refine PySem.W.kla_callFunE hr.depth gf rfl L.co L.gen rfl ⟨c', oc, vs, tq, rfl, g1, g2, g3⟩ ?_
  rw [hbind]
  refine wpAny_pure (wpAny_newFunctionEnv (fun y hy => (L.own y hy).2) (fun y hy => nomatch hy) (fun h₁ hns hsb => ⟨lim.fresh _ hsb, ?_⟩) L.kind)
  show codeAny _ _ (.expr body (lamEnv X scope s.heap.objs.size f c')) _ _
  have kp : ∀ b o, s.heap.get? b = some o → h₁.get? b = some o := fun b o g => hsb.extBut b o (Nat.ne_of_lt (Heap.lt_size g)) (Heap.get?_push_of_some _ g)
  have J : Inv (lamCx X A outer s (minus C H) (fun cls d H' => (∀ c o, C c = some o → H' c = none) → E cls d (plus C H')) scope f c') [] σ (minus C H) { s with heap := h₁, toks := s.toks + ([] : List (Str × Value)).length } :=
    lam_start3 ok len L KC (fun c o e => (LS.inn c o e).2.2) (fun c o e => (LS.inn c o e).1) e1 hr.hd hns kp
  refine PySem.W.kla_codeExpr (wpAny_mono ((hbody A outer s (minus C H) _ (hr.deeper _)).run [] _ _ _ _ J ht) (fun v s' hq => ?_) fun e s' hq => ?_)
  · obtain ⟨v', H', J', rv, q⟩ := hq
    exact ce_plus LS nf ⟨v', H', J'.os, J'.bare, J'.base, J'.hok, rv, q⟩
  · exact wpAny_mono hq (fun _ s2 z => cx_plus LS nf z) fun e2 s2 z => cx_plus LS nf z
end

/-! ### a lambda is made -/
section
variable {X : Cx} {pins : List (Addr × Obj)} {σ : L2.St} {H : Hp} {s : Shared}
theorem pin_lay {h' : Heap} {o : Obj} {tk : Nat} (nf : o.isFreed = false) (I : Inv X pins σ H { s with heap := h', toks := tk }) : Inv X pins σ (upd H h'.objs.size (Pin h'.objs.size o)) { s with heap := h'.push o, toks := tk } :=
  I.laid (t' := tk) (fun b u g => Heap.get?_push_of_some _ g) (Nat.le_refl _) (pin_ok (Heap.get?_push_size _ nf))
theorem new_same {p : Addr} {o : HO} (n : H p = none) : ∀ b u, H b = some u → upd H p o b = some u := fun b u g => by
  rw [upd_ne (ne_of_none g n)]
  exact g
/-- a lambda is made, and known from then on -/
theorem lam_make3 {T : List (Addr × Str)} {c P : Addr} {params : Arguments} {body : Expr} {scope : Scope} {pos : Pos} {E : Value → Shared → Prop} {Q : Value → Shared → Prop} (I : Inv X pins σ H s) (TB : TabB X.base X.mg c P) (hcode : X.env.code = .ref c)
    (inT : (P, X.env.qual ++ "<lambda>") ∈ T) (one : ∀ p ∈ T, p.1 = P → p.2 = X.env.qual ++ "<lambda>") (tabs : Tabs T H) (nodef : defaultsOf params X.env = ([], [])) (free : ∀ y ∈ scope.names, y.2 = .free → ∃ c, X.env.cells.lookup y.1 = some c)
    (h : ∀ (f c' : Addr) (pm ctv : Value) (H1 : Hp) (s' : Shared), Inv X pins σ H1 s' → ExtN H H1 → Tabs T H1 → H f = none →
      H1 f = some (Pin f (PySem.W.kla_obj "<lambda>" (X.env.qual ++ "<lambda>") params body scope (cloFrom X.env.cells scope.names []) pm c' ctv)) → H1 c' = some (CodeO c' (X.env.qual ++ "<lambda>")) → Q (.ref f) s') :
    wpAny (model X.prog X.w) X.A (eval (.Lambda params body scope pos) X.env) Q E s := by
  obtain ⟨ps, tP, tOk, tAll⟩ := tabs _ inT
  have bP : s.heap.BuiltinsAt X.mg P := TB.bm.keeps I.bk
  have gP : s.heap.get? P = some { cls := .none, data := .fields ps } := I.hok P _ tP
  refine PySem.W.kla_eval nodef ?_
  cases among : codeAmong pos ps.toList with
  | some cv =>
    obtain ⟨c', rfl, known⟩ := tAll pos cv among
    refine PySem.W.kla_makeFunctionHit (mg := X.mg) (c := c) (P := P) (ps := ps) (closure_ok free) I.ok.glob (I.mod.glob.keeps I.bk) hcode (TB.code.keeps I.bk) gP tOk among bP fun ctv h' tk kept bigger => ?_
    have J : Inv X pins σ H { s with heap := h', toks := tk } := I.kept kept
    have n := J.hok.fresh (Nat.le_refl h'.objs.size)
    exact h _ c' _ ctv _ _ (pin_lay rfl J) (ExtN.of (new_same n)) (tabs.ext (new_same n)) n upd_same (new_same n _ _ known)
  | none =>
    refine PySem.W.kla_makeFunction (mg := X.mg) (c := c) (P := P) (ps := ps) (closure_ok free) I.ok.glob (I.mod.glob.keeps I.bk) hcode (TB.code.keeps I.bk) gP tOk among TB.gP bP fun c' ctv h' tk but ge lt rc tab => ?_
    obtain ⟨c2, oc, vs, tq, ec, g1, g2, g3⟩ := rc
    cases ec
    have J := inv_table (q := X.env.qual ++ "<lambda>") (t' := tk) (more := #[rawInt pos.line, rawInt pos.col, .ref c']) (h' := h') I tP (fun b o nb g => but b o nb g) tab ge ⟨oc, vs, tq, g1, g2, g3⟩
    have nc : H c' = none := I.hok.fresh ge
    have n := J.hok.fresh (Nat.le_refl h'.objs.size)
    have nH : H h'.objs.size = none := I.hok.fresh (Nat.le_trans ge (Nat.le_of_lt lt))
    have E1 : ExtN H (upd (upd H P (.tbl (ps ++ #[rawInt pos.line, rawInt pos.col, .ref c']))) c' (CodeO c' (X.env.qual ++ "<lambda>"))) := fun b u g no => by
      have nP : b ≠ P := fun z => no ps (Option.some.inj (g.symm.trans (z ▸ tP)))
      rw [upd_ne (ne_of_none g nc), upd_ne nP]
      exact g
    have T1 : Tabs T (upd (upd H P (.tbl (ps ++ #[rawInt pos.line, rawInt pos.col, .ref c']))) c' (CodeO c' (X.env.qual ++ "<lambda>"))) := fun p hp => by
      by_cases eP : p.1 = P
      · rw [one p hp eP, eP]
        refine ⟨ps ++ #[rawInt pos.line, rawInt pos.col, .ref c'], by rw [upd_ne (ne_of_none tP nc), upd_same], ?_, fun pos' cv hcv => ?_⟩
        · rw [Array.toList_append]
          exact PySem.TriplesOk_snoc _ _ _ _ tOk
        · rw [Array.toList_append] at hcv
          rcases among_app _ tOk hcv with z | z
          · obtain ⟨d, ed, kd⟩ := tAll pos' cv z
            exact ⟨d, ed, E1 _ _ kd codeO_ne⟩
          · exact ⟨c', z, upd_same⟩
      · obtain ⟨qs, b1, b2, b3⟩ := tabs p hp
        refine ⟨qs, by rw [upd_ne (ne_of_none b1 nc), upd_ne eP]; exact b1, b2, fun pos' cv hcv => ?_⟩
        obtain ⟨d, ed, kd⟩ := b3 pos' cv hcv
        exact ⟨d, ed, E1 _ _ kd codeO_ne⟩
    refine h _ c' _ ctv _ _ (pin_lay rfl J) (fun b u g no => new_same n _ _ (E1 b u g no)) (T1.ext (new_same n)) nH upd_same (new_same n _ _ upd_same)
end

/-- a def's object -/
def FnObj (o : Obj) : Prop := ∃ (oc : Value) (od : Option Addr) (fd : FuncData) (osl : Array (Option Value)), o = ⟨oc, od, .func fd, osl⟩
/-- the expression lambda: body -/
def tLam3 (X : Cx) (T : List (Addr × Str)) (k : Nat) (t : XK → TE) : TE := fun σ H Q => Tabs T H ∧ ∀ (f : Addr) (fo : Obj) (c' : Addr) (H1 : Hp), ExtN H H1 → Tabs T H1 → H f = none → H1 f = some (Pin f fo) → H1 c' = some (CodeO c' (X.env.qual ++ "<lambda>")) →
  FnObj fo → (∀ C, CellsAt X.env X.N σ C → Act X.prog X.w X.K X.mg X.base (k + 1) f (tlX f c' fo (X.env.qual ++ "<lambda>") C σ t)) → Q (.ref f) H1
/-- a call of v, without arguments, from here -/
def Does (P : Program) (w : World) (K : PySem.W.Frag) (mg : Str → Option Value) (base : Heap) (k : Nat) (v : V) (H : Hp) (Q : VK) (E : XK) : Prop :=
  ∃ (f : Addr) (fo : Obj) (tl : Hp → VK → XK → Prop), v = .ref f ∧ FnObj fo ∧ H f = some (Pin f fo) ∧ Act P w K mg base k f tl ∧ tl H Q E
theorem Does.mono {P : Program} {w : World} {K : PySem.W.Frag} {mg : Str → Option Value} {base : Heap} {j k : Nat} {v : V} {H : Hp} {Q : VK} {E : XK} (d : Does P w K mg base j v H Q E) (h : j ≤ k) : Does P w K mg base k v H Q E := by
  obtain ⟨f, fo, tl, e, n, p, a, t⟩ := d
  exact ⟨f, fo, tl, e, n, p, a.mono h, t⟩
/-- x(), x the slot i -/
def tAct (P : Program) (w : World) (K : PySem.W.Frag) (mg : Str → Option Value) (base : Heap) (i k : Nat) (E : L2.St → XK) : TE := fun σ H Q => ∃ v, σ[i]? = some (some v) ∧ Does P w K mg base k v H Q (E σ)
/-- a def's call, the caller's cells known while it runs -/
def tCallT (X : Cx) (sp : Sp) (t : TA) : TE := fun σ H Q => t σ H fun vs H1 => ∀ C, CellsAt X.env X.N σ C → (∀ c o, C c = some o → H1 c = none) →
  sp vs (plus C H1) (fun v H' => (∀ c o, C c = some o → H' c = some (Pin c o)) ∧ Q v (minus C H')) C8.E0
section
variable {X : Cx}
theorem pe_lam {T : List (Addr × Str)} {c P : Addr} {k : Nat} {params : Arguments} {body : Expr} {scope : Scope} {t : XK → TE} {pos : Pos} (TB : TabB X.base X.mg c P) (hcode : X.env.code = .ref c)
    (inT : (P, X.env.qual ++ "<lambda>") ∈ T) (one : ∀ p ∈ T, p.1 = P → p.2 = X.env.qual ++ "<lambda>") (L : LamS X.env.scope scope) (nodef : defaultsOf params X.env = ([], []))
    (hbind : ∀ (q : Str) (cl : List (Str × Addr)) (pm cv ctv : Value), bindArgs (PySem.W.kla_fn "<lambda>" q params body scope cl pm cv ctv) ⟨[], []⟩ = pure [])
    (hbody : ∀ (A : Around) (outer : List Env) (s : Shared) (H : Hp) (E : XK) (f c' : Addr), Room k (A.deeper (lamEnv X scope s.heap.objs.size f c')) → PE (lamCx X A outer s H E scope f c') body (t E)) :
    PE X (.Lambda params body scope pos) (tLam3 X T k t) := by
  refine ⟨fun pins s σ H Q I h => ?_⟩
  obtain ⟨tabs, h⟩ := h
  refine lam_make3 I TB hcode inT one tabs nodef (L.has I.ok) fun f c' pm ctv H1 s1 I1 x1 t1 n1 k1 k2 => ?_
  exact ⟨.ref f, H1, I1, rfl, h f _ c' H1 x1 t1 n1 k1 k2 ⟨_, _, _, _, rfl⟩ fun C KC => act_ok I1.ok I1.len L KC (hbind _ _ _ _ _) fun A outer s H E r => hbody A outer s H E f c' r⟩
theorem pe_act3 {i k : Nat} {a : Str} {E : L2.St → XK} {p1 p2 : Pos} (hr : Room k X.A) (hx : ∀ σ, PassesAt (L2.CX X.prog X.w) X σ (E σ)) (hN : X.N[i]? = some a) (hv : Vis X.env.scope a)
    (hd : (a == ("__debug__" : Str)) = false := by decide) (hcd : (a == ("__classdict__" : Str)) = false := by decide) : PE X (.Call (.Name a p1) [] [] p2) (tAct X.prog X.w X.K X.mg X.base i k E) := by
  refine ⟨fun pins s σ H Q I h => ?_⟩
  obtain ⟨w, hs, f, fo, tl, ew, ⟨oc, od, fd, osl, efo⟩, hf, act, ht⟩ := h
  subst ew
  refine wpAny_Call_Name_kw (thn ((pe_var (pos := p1) (i := i) hN hv hd hcd).run pins s σ H (fun v H1 => v = .ref f ∧ H1 = H) I ⟨.ref f, hs, rfl, rfl⟩) fun u s1 hu => ?_)
  obtain ⟨v, H1, I1, rv, ev, eH⟩ := hu
  subst ev
  rw [eH] at I1
  obtain rfl : u = Value.ref f := rv
  have gf := pin_get I1.hok hf
  refine PySem.W.callWith_F0 ⟨oc, od, fd, osl, by rw [gf, efo]⟩ ?_
  refine wpAny_call (codeAny_mono (act X.A X.stack s1 H Q (E σ) hr I1.env0 ht) fun r s2 hq => ?_)
  cases r with
  | error e => exact hx σ pins H s1 e s2 I1 hq
  | ok fl =>
    cases fl with
    | ret u => exact I1.after hq
    | next => exact False.elim hq
    | brk => exact False.elim hq
    | cont => exact False.elim hq
/-- f(..), the caller's cells known while it runs -/
theorem pe_callT {k : Nat} {f : Addr} {fd : FuncData} {ps : List Str} {sp : Sp} {x : Str} {p pos : Pos} {e : Expr} {es : List Expr} {t : TA} (F : FnOk X.prog X.w X.K X.mg X.base C8.CX0 k f fd ps sp) (hr : Room k X.A) (hg : Gl X x) (hm : X.mg x = some (.ref f)) (hk : PySem.W.keepIn X.K (.ref f) = true)
    (hb : Binds X.K fd ps []) (hfn : ∀ x, X.fn x = true) (ha : PA X (e :: es) t) (hdb : (x == ("__debug__" : Str)) = false := by decide) (he : starEach (e :: es) X.env = (false, eval e X.env) :: starEach es X.env := by rfl)
    (hpl : (backTo pos (starEach es X.env)).any (·.1) = false := by rfl) : PE X (.Call (.Name x p) (e :: es) [] pos) (tCallT X sp t) := by
  refine ⟨fun pins s σ H Q I h => ?_⟩
  refine wpAny_Call_Name_kw (ld_glob I hg hm ?_ hdb)
  refine PySem.W.callWith_K (h₀ := X.base) I.ok.mod.kin hk (thn (ha.run pos pins s σ H _ I h) fun us s1 ⟨vs, H1, I1, r, q⟩ => ⟨I1.kIn, ?_⟩) he hpl
  obtain ⟨C, KC, hC⟩ := cells_of I1
  have q := q C KC fun c o e => (hC c o e).2.1
  have LS : Less C H1 (plus C H1) s1.heap := less_plus fun c o e => ⟨(hC c o e).2.1, (hC c o e).1⟩
  have big : ∀ c o, C c = some o → X.s_0.heap.objs.size ≤ c := fun c o e => by
    obtain ⟨y, ey⟩ := (hC c o e).2.2
    exact I1.ok.cab y c (hfn y) ey
  have none_of : ∀ b, b < X.s_0.heap.objs.size → C b = none := fun b lt => by
    cases z : C b with
    | none => rfl
    | some o => exact absurd (Nat.lt_of_lt_of_le lt (big b o z)) (Nat.lt_irrefl _)
  have e0 := I1.env0
  have e1 : Env0 X.prog X.w X.K X.mg X.base X.A X.stack s1 (plus C H1) := ⟨e0.frames, e0.mod, fun b o g => ⟨(e0.bs b o g).1, by
      rw [plus_out (none_of b (Nat.lt_of_lt_of_le (Heap.lt_size g) I1.ok.bsz))]
      exact (e0.bs b o g).2⟩, e0.bsz, e0.funs, fun b hb => by
      have nb : C b = none := by
        rcases List.mem_cons.mp (I1.stkSub b hb) with z | z
        · rw [z]
          cases w : C X.env.locals with
          | none => rfl
          | some o =>
            obtain ⟨y, ey⟩ := (hC _ o w).2.2
            exact absurd rfl (I1.cne y _ ey)
        · obtain ⟨_, o, ho, _⟩ := I1.ok.funs.mem z
          exact none_of b (Heap.lt_size ho)
      rw [plus_out nb]
      exact e0.frf b hb, LS.hok e0.hok, e0.bare⟩
  have hl : us.length = ps.length := by rw [← r.length]; exact F.len _ _ _ _ q
  have b := hb s1 us I1.kIn (by rw [List.append_nil]; exact hl)
  rw [List.append_nil] at b
  refine wpAny_call (codeAny_mono (F.run X.A X.stack s1 (plus C H1) ⟨us, []⟩ us vs _ C8.E0 hr e1 b r q) fun rr s2 hq => ?_)
  cases rr with
  | error e => exact (show False from hq).elim
  | ok fl =>
    cases fl with
    | ret u => exact I1.after (ce_minus LS hq)
    | next => exact False.elim hq
    | brk => exact False.elim hq
    | cont => exact False.elim hq
end
end Clo

set_option Elab.async false
set_option linter.all false
set_option maxRecDepth 100000
/-! several except clauses, each with a name (the same one) -/
namespace Clo
open PySem PySem.Spec PyProof.Rows L2 LamX
/-- the ends of a suite behind which its name is gone -/
def goneD (i : Nat) (D : Ends) : Ends where
  nx := fun τ G => D.nx (τ.set i none) G
  rt := D.rt
  bk := fun τ G => D.bk (τ.set i none) G
  ct := fun τ G => D.ct (τ.set i none) G
/-- what the clauses wish, one behind the other; the caught one stands in slot i -/
def wNam (K : PySem.W.Frag) (i : Nat) (Wout : WX) (D : Ends) : List (Value × (Addr → Value → Option Addr → TS)) → WX
  | [] => Wout
  | (k, ts) :: more => fun cls d τ G => ∃ b, PySem.W.exmOne K cls k = some b ∧ (b = true → ∀ a, G a = none → ts a cls d (goneD i D) (τ.set i (some (.ref a))) G) ∧ (b = false → wNam K i Wout D more cls d τ G)
inductive HdsN (X : Cx) (n : Str) : List ExceptHandler → List (Value × (Addr → Value → Option Addr → TS)) → Prop
  | nil : HdsN X n [] []
  /-- clauses that are not reached -/
  | rest {hs : List ExceptHandler} {k : Value} {ts : Addr → Value → Option Addr → TS} (no : ∀ cls, PySem.W.exmOne X.K cls k = none) : HdsN X n hs [(k, ts)]
  | cons {x : Str} {k : Value} {ts : Addr → Value → Option Addr → TS} {st : Stmt} {sts : List Stmt} {p1 p2 : Pos} {more : List ExceptHandler} {l : List (Value × (Addr → Value → Option Addr → TS))} (nm : Names X x k)
      (su : ∀ (a : Addr) (oe : Obj) (cls : Value) (d : Option Addr) (pn : List (Addr × Obj)), Zc cls d oe → (∃ vs, oe.data = .fields vs) → PSs (X.suite a ((a, oe) :: pn)) (st :: sts) (ts a cls d)) (r : HdsN X n more l) :
      HdsN X n (.ExceptHandler (some (.Name x p1)) (some n) (st :: sts) p2 :: more) ((k, ts) :: l)
section
variable {X : Cx} {body : List Stmt} {h₀ : ExceptHandler} {hds : List ExceptHandler} {l : List (Value × (Addr → Value → Option Addr → TS))} {pos : Pos} {tb : WX → TS} {Wout : WX} {n : Str} {i : Nat}
theorem ps_try_nam (st : X.stack = X.env :: X.outer) (fr : X.env.frame = some X.env.locals) (nd : X.N.Nodup) (at_ : X.N[i]? = some n) (lc : X.env.kindOf n = some .local) (tk : Takes X Wout)
    (hb : ∀ (W : WX) (pn : List (Addr × Obj)) (xe : Value → Shared → Prop), Takes (X.tr pn xe) W → PassesOwn (model X.prog X.w) X.A X.env xe → PSs (X.tr pn xe) body (tb W)) (hh : HdsN X n (h₀ :: hds) l) :
    PS X (.Try body (h₀ :: hds) [] [] pos) (fun D τ G => tb (wNam X.K i Wout D l) D τ G) := by
  refine ⟨fun pins s τ G D I hyp => ?_⟩
  have ok := I.ok
  have frames : X.A.frames = some (X.env :: X.outer) := by
    rw [ok.frames, st]
  refine wpAny_Try_except (wpAny_mono ((hb (wNam X.K i Wout D l) (X.pn ++ pins)
    (fun e s₁ => wpAny (model X.prog X.w) X.A (noteFrame e X.env) (fun _ s₂ => wpAny (model X.prog X.w) X.A (setFlight e none)
      (fun _ s₃ => wpAny (model X.prog X.w) X.A (handleBy e X.env (h₀ :: hds)) (SP X pins D) X.xe s₃) X.xe s₂) X.xe s₁)
    (fun u s' air => ?_) PassesOwn.looking).run [] s τ G D (I.toTry _) hyp) (fun f s1 z => ?_) (fun e s1 z => z))
  · obtain ⟨a, B, sI, pins', τ', G', cls, d, rfl, J', below, up, sky, new, os, bare, wish⟩ := air
    have J : Inv X pins τ' G' sI := J'.ofTry ok
    have sky1 : Sky B (X.env :: X.outer) a (Zc cls d) X.env.locals s'.heap := by
      rw [← st]
      exact sky
    show wpAny (model X.prog X.w) X.A (noteFrame (.ref a) X.env) _ _ _
    refine Sky.land Zc.steady frames fr sky1 fun h3 fly up3 => ?_
    have J3 : Inv X pins τ' G' { s' with heap := h3 } := J.landed below fly.1 (up.trans up3) os bare
    obtain ⟨oe, vs, ge, ze, de⟩ := fly.there
    have noFrame : a ∉ frs (X.env :: X.outer) := fun m => by
      obtain ⟨_, o', g', other⟩ := fly.2.2.1.mem m
      rw [ge] at g'
      cases g'
      exact other _ de
    have noLoc : a ≠ X.env.locals := fun z => noFrame (List.mem_filterMap.mpr ⟨X.env, List.mem_cons_self, by rw [fr, z]⟩)
    have noOut : a ∉ X.fs := fun m => by
      obtain ⟨e, me, q⟩ := List.mem_filterMap.mp m
      exact noFrame (List.mem_filterMap.mpr ⟨e, List.mem_cons_of_mem _ me, q⟩)
    have S3 := J3.suite ge de new noLoc noOut
    have go : ∀ {hs : List ExceptHandler} {ll : List (Value × (Addr → Value → Option Addr → TS))}, HdsN X n hs ll → wNam X.K i Wout D ll cls d τ' G' → wpAny (model X.prog X.w) X.A (handleBy (.ref a) X.env hs) (SP X pins D) X.xe { s' with heap := h3 } := by
      intro hs ll hk
      induction hk with
      | nil =>
        intro wish
        refine wpAny_handleBy_nil ?_
        obtain ⟨_, _, _, oe', vs', T, oT, tt, ge', _, de', g1, _⟩ := id fly
        have out : wpAny (model X.prog X.w) X.A (setFlight (.ref a) X.env.frame) (fun _ s4 => wpAny (model X.prog X.w) X.A (throw (.ref a) : Sem Flow) (SP X pins D) X.xe s4) X.xe { s' with heap := h3 } := by
          rw [fr]
          exact HandSPX.setFlight_upZ fly fun h4 hh4 up4 => wpAny_throw (tk _ _ ⟨a, B, sI, pins, τ', G', cls, d, rfl, J, below, (up.trans up3).trans up4, .inr (.inr (by rw [st]; exact hh4)), new, os, bare, wish⟩)
        unfold PySem.passOn
        refine wpAny_bind (wpAny_field ge' de' g1 ?_)
        rw [if_neg (show ¬ (Value.ref T == Value.none) = true from by simp)]
        first
          | exact wpAny_bind (wpAny_pure (wpAny_bind out))
          | exact wpAny_bind out
      | rest no =>
        intro wish
        obtain ⟨b, decided, _⟩ := wish
        rw [no] at decided
        cases decided
      | @cons x k ts st0 sts p1 p2 more ll nm su r ih =>
        intro wish
        obtain ⟨b, decided, yes, no⟩ := wish
        refine wpAny_handleBy_cons (codeAny_handlers_test ?_) (by intro q; cases q)
        have tyOf : PySem.W.Looks (model X.prog X.w) h3 (typeOf (.ref a)) cls := fun A Q E s k q => wpAny_typeOf_ref (k _ _ ge) (by rw [ze.1]; exact q)
        have named : ∀ {Q : Value → Shared → Prop} {E : Value → Shared → Prop}, Q k { s' with heap := h3 } → wpAny (model X.prog X.w) (X.A.mark (some (.ref a))) (eval (.Name x p1) X.env) Q E { s' with heap := h3 } := fun {Q E} q => by
          obtain ⟨g, dbg, m | ⟨m, v, nn⟩⟩ := nm
          · exact ld_glob (X := X.suite a ((a, oe) :: (X.pn ++ pins))) S3 g m q dbg
          · exact ld_blt (X := X.suite a ((a, oe) :: (X.pn ++ pins))) S3 g m v q nn dbg
        refine named ((PySem.W.exm_one (M := model X.prog X.w) (J3.kIn) tyOf decided).here ?_)
        cases b with
        | false =>
          show wpAny _ X.A (handleBy (.ref a) X.env more) _ _ _
          exact ih (no rfl)
        | true =>
          refine codeAny_handlers_suite_as (HandSPX.lands_againZ fly fun h4 fly4 up4 => ?_)
          have J4 : Inv X pins τ' G' { s' with heap := h4 } := J.landed below fly4.1 ((up.trans up3).trans up4) os bare
          obtain ⟨oe4, vs4, ge4, ze4, de4⟩ := fly4.there
          refine store_ok (X := X.suite a ((a, oe4) :: (X.pn ++ pins))) (v := .ref a) (J4.suite ge4 de4 new noLoc noOut) nd at_ (.inl lc) rfl (fun s5 S5 => ?_) (.inr lc)
          refine wpAny_mono ((su a oe4 cls d (X.pn ++ pins) ze4 ⟨_, de4⟩).run [] s5 _ G' _ S5 (yes rfl a new)) (fun f s6 z => ?_) (fun _ _ z => z.elim)
          have away : ∀ {τ6 : L2.St} {G6 : Hp} {Q : Shared → Prop}, Inv (X.suite a ((a, oe4) :: (X.pn ++ pins))) [] τ6 G6 s6 → (∀ s7, Inv X pins (τ6.set i none) G6 s7 → Q s7) →
              wpAny (model X.prog X.w) X.A (do bindName X.env n .none; unbindBehindTheSuite X.env n p2) (fun _ s7 => Q s7) X.xe s6 := fun S6 hq => gone_ok (S6.unsuite ok) nd at_ lc hq
          cases f with
          | next =>
            obtain ⟨τ6, G6, S6, q6⟩ := z
            exact away S6 fun s7 J7 => ⟨_, _, J7, q6⟩
          | brk =>
            obtain ⟨τ6, G6, S6, q6⟩ := z
            exact away S6 fun s7 J7 => ⟨_, _, J7, q6⟩
          | cont =>
            obtain ⟨τ6, G6, S6, q6⟩ := z
            exact away S6 fun s7 J7 => ⟨_, _, J7, q6⟩
          | ret u =>
            obtain ⟨v6, τ6, G6, S6, r6, q6⟩ := z
            exact away S6 fun s7 J7 => ⟨_, _, _, J7, r6, q6⟩
    exact go hh wish
  · cases f with
    | next =>
      obtain ⟨τ', G', J', q⟩ := z
      exact wpAny_execs_nil ⟨τ', G', J'.ofTry ok, q⟩
    | brk =>
      obtain ⟨τ', G', J', q⟩ := z
      exact ⟨τ', G', J'.ofTry ok, q⟩
    | cont =>
      obtain ⟨τ', G', J', q⟩ := z
      exact ⟨τ', G', J'.ofTry ok, q⟩
    | ret u =>
      obtain ⟨v, τ', G', J', r, q⟩ := z
      exact ⟨v, τ', G', J'.ofTry ok, r, q⟩
end
end Clo

set_option Elab.async false
set_option linter.all false
set_option maxRecDepth 100000
namespace My
open PySem L2
/-! ### two values that are the same in all their parts -/
def flatv : V → Bool
  | .non => true
  | .bl _ => true
  | .int _ => true
  | .str _ => true
  | _ => false
def Tw (w : World) (K : PySem.W.Frag) (H : Hp) : Nat → V → V → Prop
  | 0, _, _ => False
  | n + 1, v, u => (v = u ∧ flatv v = true) ∨ (∃ (a : Addr) (kvs : List (Odd.OK × V)), v = .ref a ∧ u = .ref a ∧ Odd.OR w H a kvs ∧ Odd.Tpl H kvs ∧ Odd.NdK kvs) ∨
    (∃ (a b : Addr) (xs ys : List V), v = .ref a ∧ u = .ref b ∧ SqT K H a xs ∧ SqT K H b ys ∧ xs.length ≤ 1000 ∧ Paired (Tw w K H n) xs ys) ∨
    (∃ (a b : Addr) (xs ys : List V), v = .ref a ∧ u = .ref b ∧ SqL K H a xs ∧ SqL K H b ys ∧ xs.length ≤ 1000 ∧ Paired (Tw w K H n) xs ys)
theorem paired_imp {α β : Type} {r s : α → β → Prop} (h : ∀ x y, r x y → s x y) : ∀ {xs : List α} {ys : List β}, Paired r xs ys → Paired s xs ys
  | _, _, .nil => .nil
  | _, _, .cons a b => .cons (h _ _ a) (paired_imp h b)
theorem paired_at {α β : Type} {r : α → β → Prop} : ∀ {xs : List α} {ys : List β} {i : Nat} {x : α} {y : β}, Paired r xs ys → xs[i]? = some x → ys[i]? = some y → r x y
  | _, _, _, _, _, .nil, e, _ => by simp at e
  | _, _, 0, _, _, .cons a _, e1, e2 => by
    simp at e1 e2
    rw [← e1, ← e2]
    exact a
  | _, _, i + 1, _, _, .cons _ b, e1, e2 => paired_at (i := i) b (by simpa using e1) (by simpa using e2)
variable {w : World} {K : PySem.W.Frag}
theorem tw_same {H H' : Hp} (s : Same H H') : ∀ {n : Nat} {v u : V}, Tw w K H n v u → Tw w K H' n v u
  | 0, _, _, h => h
  | n + 1, v, u, h => by
    rcases h with h | ⟨a, kvs, e1, e2, ha, h1, h2⟩ | ⟨a, b, xs, ys, e1, e2, sa, sb, hl, hp⟩ | ⟨a, b, xs, ys, e1, e2, sa, sb, hl, hp⟩
    · exact .inl h
    · exact .inr (.inl ⟨a, kvs, e1, e2, ha.same s, h1.same s, h2⟩)
    · exact .inr (.inr (.inl ⟨a, b, xs, ys, e1, e2, seqT_same s sa, seqT_same s sb, hl, paired_imp (fun _ _ => tw_same s) hp⟩))
    · exact .inr (.inr (.inr ⟨a, b, xs, ys, e1, e2, s.seq sa, s.seq sb, hl, paired_imp (fun _ _ => tw_same s) hp⟩))
theorem tw_mono {H : Hp} : ∀ {n m : Nat} {v u : V}, n ≤ m → Tw w K H n v u → Tw w K H m v u
  | 0, _, _, _, _, h => h.elim
  | n + 1, 0, _, _, hm, _ => absurd hm (by omega)
  | n + 1, m + 1, v, u, hm, h => by
    have le : n ≤ m := by omega
    rcases h with h | h | ⟨a, b, xs, ys, e1, e2, sa, sb, hl, hp⟩ | ⟨a, b, xs, ys, e1, e2, sa, sb, hl, hp⟩
    · exact .inl h
    · exact .inr (.inl h)
    · exact .inr (.inr (.inl ⟨a, b, xs, ys, e1, e2, sa, sb, hl, paired_imp (fun _ _ => tw_mono le) hp⟩))
    · exact .inr (.inr (.inr ⟨a, b, xs, ys, e1, e2, sa, sb, hl, paired_imp (fun _ _ => tw_mono le) hp⟩))
theorem widAll_cons {d : PyData} {ds : List PyData} (h : widAll (d :: ds) = true) : widD d = true ∧ widAll ds = true := by
  unfold widAll at h
  exact Bool.and_eq_true_iff.mp h
mutual
theorem tw_dp {H : Hp} : ∀ (D : PyData) (v u : V), widD D = true → Dp K H v D → Dp K H u D → Tw w K H (D.depth + 1) v u
  | .none, _, _, _, h, g => by cases h; cases g; exact .inl ⟨rfl, rfl⟩
  | .bool b, _, _, _, h, g => by cases h; cases g; exact .inl ⟨rfl, rfl⟩
  | .int i, _, _, _, h, g => by cases h; cases g; exact .inl ⟨rfl, rfl⟩
  | .str x, _, _, _, h, g => by cases h; cases g; exact .inl ⟨rfl, rfl⟩
  | .list ds, _, _, s, h, g => by
    unfold widD at s
    obtain ⟨s1, s2⟩ := Bool.and_eq_true_iff.mp s
    cases h with
    | lst hs ha =>
    cases g with
    | lst gs ga =>
      simp only [PyData.depth]
      exact .inr (.inr (.inr ⟨_, _, _, _, rfl, rfl, hs, gs, by rw [dpAll_len ha]; exact of_decide_eq_true s1, tw_dpAll ds _ _ s2 ha ga⟩))
  | .tuple ds, _, _, s, h, g => by
    unfold widD at s
    obtain ⟨s1, s2⟩ := Bool.and_eq_true_iff.mp s
    cases h with
    | tup hs ha =>
    cases g with
    | tup gs ga =>
      simp only [PyData.depth]
      exact .inr (.inr (.inl ⟨_, _, _, _, rfl, rfl, hs, gs, by rw [dpAll_len ha]; exact of_decide_eq_true s1, tw_dpAll ds _ _ s2 ha ga⟩))
  | .dict _, _, _, _, h, _ => by cases h
theorem tw_dpAll {H : Hp} : ∀ (ds : List PyData) (xs ys : List V), widAll ds = true → DpAll K H xs ds → DpAll K H ys ds → Paired (Tw w K H (PyData.depthAll ds + 1)) xs ys
  | [], _, _, _, h, g => by cases h; cases g; exact .nil
  | d :: ds, _, _, s, h, g => by
    obtain ⟨s1, s2⟩ := widAll_cons s
    cases h with
    | cons h1 h2 =>
    cases g with
    | cons g1 g2 =>
      have a := tw_dp d _ _ s1 h1 g1
      have b := tw_dpAll ds _ _ s2 h2 g2
      simp only [PyData.depthAll]
      exact .cons (tw_mono (by omega) a) (paired_imp (fun _ _ => tw_mono (by omega)) b)
end

/-! ### rules -/
/-- of a kind, wherever all stays -/
structure TyS (K : PySem.W.Frag) (H : Hp) (v : V) (g : String) : Prop where
  same : ∀ {H'}, Same H H' → TyX K H' v (.type g)
theorem tyT {H : Hp} {a : Addr} {xs : List V} (h : SqT K H a xs) : TyS K H (.ref a) "tuple" := ⟨fun s => by
  rcases seqT_same s h with (hs | ⟨o, hs⟩) | ⟨o, its, n, lk, c, _⟩
  · exact .base (.tup hs)
  · exact .fTuple hs
  · exact .kTuple lk c⟩
theorem tyL {H : Hp} {a : Addr} {xs : List V} (h : SqL K H a xs) : TyS K H (.ref a) "list" := ⟨fun s => by
  rcases s.seq h with (hs | ⟨o, hs⟩) | ⟨o, its, n, lk, c, _⟩
  · exact .base (.lst hs)
  · exact .base (.frz hs)
  · exact .kList lk c⟩
theorem op_orR {X : Cx} {f : Value → Value → Sem Value} {r1 r2 : R2} (a : OpR X f r1) (b : OpR X f r2) : OpR X f (fun x y H Q => r1 x y H Q ∨ r2 x y H Q) := fun pins s σ H x y v u Q I rx ry h =>
  h.elim (a pins s σ H x y v u Q I rx ry) (b pins s σ H x y v u Q I rx ry)
theorem kit2 {g : String} {b1 b2 : Bool} (h1 : kitB g "tuple" = some b1) (h2 : kitB g "list" = some b2) : PySem.W.kitAny K (.type g) [.type "tuple", .type "list"] = some (b1 || b2) := by
  cases b1 with
  | true => exact kitAny_cons (kit_ty h1) (fun z => nomatch z) fun _ => rfl
  | false =>
    refine kitAny_cons (kit_ty h1) (fun _ => ?_) fun z => nomatch z
    cases b2 with
    | true => exact kitAny_cons (kit_ty h2) (fun z => nomatch z) fun _ => rfl
    | false => exact kitAny_cons (kit_ty h2) (fun _ => kitAny_nil) fun z => nomatch z
theorem all_tt (n : Nat) : (List.replicate n true).all id = true := by
  rw [List.all_eq_true]
  intro x h
  rw [List.eq_of_mem_replicate h]
  rfl
theorem same_at {H H' : Hp} {D : Addr} {o : HO} (s : Same H H') (n : H D = none) : Same H (upd H' D o) := fun c u e => by
  rw [upd_ne (ne_of_none e n)]
  exact s c u e
theorem kTs : PySem.W.kitAny K (.type "tuple") [.type "tuple", .type "list"] = some true := kit2 (g := "tuple") (b1 := true) (b2 := false) (by decide +kernel) (by decide +kernel)
theorem kLs : PySem.W.kitAny K (.type "list") [.type "tuple", .type "list"] = some true := kit2 (g := "list") (b1 := false) (b2 := true) (by decide +kernel) (by decide +kernel)
theorem kTT : PySem.W.kitOne K (.type "tuple") (.type "tuple") = some true := kit_ty (by decide +kernel)
theorem kTL : PySem.W.kitOne K (.type "tuple") (.type "list") = some false := kit_ty (by decide +kernel)
theorem kLT : PySem.W.kitOne K (.type "list") (.type "tuple") = some false := kit_ty (by decide +kernel)
theorem kLL : PySem.W.kitOne K (.type "list") (.type "list") = some true := kit_ty (by decide +kernel)
/-- the tuples that zip goes over, their items in new pairs -/
theorem walk_zipT {a b : Addr} {xs ys : List V} (hl : xs.length = ys.length) : Walk (RZ.ItzT K a b) xs.length (fun H => SqT K H a xs ∧ SqT K H b ys) (YPair (fun i => xs[i]?) (fun i => ys[i]?)) := by
  refine ⟨fun i H hi q => ?_, fun H q => ⟨xs, ys, q.1, q.2, .inl (Nat.le_refl _)⟩, fun i H v H' _ q y => ?_⟩
  · exact ⟨xs, ys, xs[i], ys[i]'(by omega), q.1, q.2, List.getElem?_eq_getElem hi, List.getElem?_eq_getElem (by omega)⟩
  · obtain ⟨T, x, z, e1, n, e2, f1, f2⟩ := y
    exact ⟨T, x, z, e1, n, e2, f1 xs q.1, f2 ys q.2⟩
abbrev N_law_same : List Str := ["_law_told", "_law_due", "_law_one", "_law_other"]
abbrev P_law_same : List Str := ["_law_told", "_law_due"]
def spSame (w : World) (K : PySem.W.Frag) (n : Nat) : Sp := fun vs H Q _ => ∃ v u : V, vs = [v, u] ∧ Tw w K H n v u ∧ ∀ H', Same H H' → Q (.bl true) H'
section
variable {P : Program} {w : World} {mg : Str → Option Value} {base : Heap} {f : Addr} {fd : FuncData}
end
end My

set_option Elab.async false
set_option linter.all false
set_option maxRecDepth 100000
namespace My
open PySem L2
/-! ### own errors with one field -/
def meth (i j : Nat) : Stmt := (C8.clsBody (top i)).getD j (.Pass ⟨0, 0, 0, 0⟩)
def spInit (K : PySem.W.Frag) (C : Addr) (fld : Str) : Sp := fun vs H Q _ => ∃ (a : Addr) (v : V), vs = [.ref a, v] ∧ H a = some (exo a C none) ∧ OexC K C ∧ PySem.W.findIn K (.ref C) fld = some none ∧
  ∀ dx, H dx = none → dx ≠ a → Q .non (upd (upd H dx (exd dx [(fld, v)])) a (exo a C (some dx)))
structure OneE (P : Program) (w : World) (K : PySem.W.Frag) (mg : Str → Option Value) (base : Heap) (x fld : Str) (C : Addr) where
  oex : OexC K C
  xf : XfC K C
  no : PySem.W.findIn K (.ref C) fld = some none
  g : mg x = some (.ref C)
  fI : Addr
  fd : FuncData
  iC : PySem.W.findIn K (.ref C) "__init__" = some (some (.ref fI))
  tI : PySem.W.typeIn K (.ref fI) = some (.type "function")
  b : Binds K fd ["self", fld] []
  F : FnOk P w K mg base CX0 1 fI fd ["self", fld] (spInit K C fld)
section
variable {P : Program} {w : World} {K : PySem.W.Frag} {mg : Str → Option Value} {base : Heap} {f : Addr} {fd : FuncData}
theorem sc_i2 : FnScope ["self", "value"] ["self", "value"] (defScope (meth 2 0)) := ⟨rfl, rfl, rfl, by decide +kernel, rfl, by decide +kernel, by decide +kernel⟩
theorem ok_i2 (C : Addr) (F : Fun K "__init__" "BadValue.__init__" (meth 2 0) f fd) : FnOk P w K mg base CX0 1 f fd ["self", "value"] (spInit K C "value") := by
  refine F.ok sc_i2 (fun vs H Q E h => ?_) (fun cdv A outer s H vs Q E hr h => ?_)
  · obtain ⟨a, v, rfl, _⟩ := h
    rfl
  obtain ⟨a, v, rfl, ea, T, no, q⟩ := h
  refine ⟨_, pss_one (ps_ost (pv 0) (pv 1)), ?_⟩
  exact ⟨v, rfl, _, rfl, a, C, rfl, T, no, .inl ⟨ea, fun dx n ne => q dx n ne⟩⟩
end
section
variable {X : Cx} {x fld : Str} {C : Addr}
theorem exo_exd_ne {e C' : Addr} {d : Option Addr} : True := trivial
/-- C(v): the error's dict d is new, all else is as it was -/
theorem mk_one {K : PySem.W.Frag} {H1 : Hp} {v : V} {Q : XK} (T : OexC K C) (no : PySem.W.findIn K (.ref C) fld = some none) (q : ∀ d, H1 d = none → Q (.ref C) (some d) (upd H1 d (.xd [(fld, v)]))) :
    [v].length ≤ 1000 ∧ ∀ a, H1 a = none → spInit K C fld (.ref a :: ([v] ++ [])) (upd H1 a (exo a C none))
      (fun r H2 => r = .non ∧ ∃ (d : Addr) (fs : List (Str × V)), H2 a = some (exo a C (some d)) ∧ H2 d = some (exd d fs) ∧ H1 d = none ∧ Q (.ref C) (some d) (upd (L2.del H2 a) d (.xd fs))) (fun _ _ _ => False) := by
  refine ⟨by show 1 ≤ 1000; decide, fun a na => ⟨a, v, rfl, upd_same, T, no, fun dx nx ne => ⟨rfl, dx, [(fld, v)], upd_same, by rw [upd_ne ne, upd_same], by rw [upd_ne ne] at nx; exact nx, ?_⟩⟩⟩
  have n1 : H1 dx = none := by
    rw [upd_ne ne] at nx
    exact nx
  have e : upd (L2.del (upd (upd (upd H1 a (exo a C none)) dx (exd dx [(fld, v)])) a (exo a C (some dx))) a) dx (.xd [(fld, v)]) = upd H1 dx (.xd [(fld, v)]) := by
    funext b
    by_cases h1 : b = dx
    · rw [h1, upd_same, upd_same]
    · rw [upd_ne h1, upd_ne h1]
      by_cases h2 : b = a
      · rw [h2, L2.del_same, na]
      · rw [L2.del_ne h2, upd_ne h2, upd_ne h1, upd_ne h2]
  rw [e]
  exact q dx n1
theorem pass00 {X : Cx} : Passes CX0 X (fun _ _ _ => False) := fun _ _ _ _ _ _ _ h => h.elim
/-- raise x(e) -/
theorem ps_raise1 {W : WX} {e : Expr} {te : TE} {p pos pos2 : Pos} {k : Nat} (O : OneE X.prog X.w X.K X.mg X.base x fld C) (hc : X.calm = true) (hr : Room (k + 2) X.A) (tk : Takes X W) (he : PE X e te) (hg : Gl X x := by rfl)
    (hdb : (x == ("__debug__" : Str)) = false := by decide) (h1 : starEach (e :: []) X.env = (false, eval e X.env) :: starEach [] X.env := by rfl) (h2 : (backTo pos (starEach [] X.env)).any (·.1) = false := by rfl) :
    PS X (.Raise (some (.Call (.Name x p) [e] [] pos)) none pos2) (fun _ σ H => tMkO C (spInit X.K C fld) [] (tCons te tNil) σ H fun cls d H' => W cls d σ H') :=
  ps_raise hc tk (pmk_oex O.oex O.iC O.tI O.F (hr.mono (by omega)) O.b .nil pass00 hg O.g (pa_cons he pa_nil h1) hdb h1 h2)
end

/-! ### what is raised, told -/
structure ErrT (K : PySem.W.Frag) (mg : Str → Option Value) where
  B : Addr
  N : Addr
  D : Addr
  M : Addr
  gB : mg "BadValue" = some (.ref B)
  gN : mg "NotAText" = some (.ref N)
  gD : mg "TooDeep" = some (.ref D)
  gM : mg "TooMany" = some (.ref M)
  xB : XfC K B
  xN : XfC K N
  xD : XfC K D
  xM : XfC K M
  nB : PySem.W.findIn K (.ref B) "value" = some none
  nN : PySem.W.findIn K (.ref N) "at" = some none
  nD : PySem.W.findIn K (.ref D) "most" = some none
  nM : PySem.W.findIn K (.ref M) "most" = some none
  BB : PySem.W.exmOne K (.ref B) (.ref B) = some true
  NB : PySem.W.exmOne K (.ref N) (.ref B) = some false
  NN : PySem.W.exmOne K (.ref N) (.ref N) = some true
  DB : PySem.W.exmOne K (.ref D) (.ref B) = some false
  DN : PySem.W.exmOne K (.ref D) (.ref N) = some false
  DD : PySem.W.exmOne K (.ref D) (.ref D) = some true
  MB : PySem.W.exmOne K (.ref M) (.ref B) = some false
  MN : PySem.W.exmOne K (.ref M) (.ref N) = some false
  MD : PySem.W.exmOne K (.ref M) (.ref D) = some false
  MM : PySem.W.exmOne K (.ref M) (.ref M) = some true
/-- of which class, in which field, told with which word -/
def ErrW {K : PySem.W.Frag} {mg : Str → Option Value} (T : ErrT K mg) (C : Addr) (fld word : Str) : Prop :=
  (C = T.B ∧ fld = "value" ∧ word = "value") ∨ (C = T.N ∧ fld = "at" ∧ word = "text") ∨ (C = T.D ∧ fld = "most" ∧ word = "deep") ∨ (C = T.M ∧ fld = "most" ∧ word = "many")
/-- as Does, whatever is wished beyond -/
def DoesM (P : Program) (w : World) (K : PySem.W.Frag) (mg : Str → Option Value) (base : Heap) (k : Nat) (v : V) (H : Hp) (Q : VK) (E : XK) : Prop :=
  ∃ (f : Addr) (fo : Obj) (tl : Hp → VK → XK → Prop), v = .ref f ∧ Clo.FnObj fo ∧ H f = some (Clo.Pin f fo) ∧ Clo.Act P w K mg base k f tl ∧
    ∀ (Q' : VK) (E' : XK), (∀ v H', Q v H' → Q' v H') → (∀ c d H', E c d H' → E' c d H') → tl H Q' E'
theorem DoesM.does {P : Program} {w : World} {K : PySem.W.Frag} {mg : Str → Option Value} {base : Heap} {j k : Nat} {v : V} {H : Hp} {Q Q' : VK} {E E' : XK} (d : DoesM P w K mg base j v H Q E) (le : j ≤ k) (h1 : ∀ v H', Q v H' → Q' v H') (h2 : ∀ c d H', E c d H' → E' c d H') :
    Clo.Does P w K mg base k v H Q' E' := by
  obtain ⟨f, fo, tl, e, n, p, a, t⟩ := d
  exact ⟨f, fo, tl, e, n, p, a.mono le, t Q' E' h1 h2⟩
def wishE {K : PySem.W.Frag} {mg : Str → Option Value} (T : ErrT K mg) (Q : VK) : XK := fun cls d H' => ∃ (C dd : Addr) (fld word : Str) (x : V), cls = .ref C ∧ d = some dd ∧ ErrW T C fld word ∧ H' dd = some (.xd [(fld, x)]) ∧ ∀ p, H' p = none → Q (.ref p) (upd H' p (.tup [.str word, x]))
theorem lookup1 (f : Str) (v : V) : List.lookup f [(f, v)] = some v := by simp [List.lookup]
def spFault (P : Program) (w : World) (K : PySem.W.Frag) (mg : Str → Option Value) (base : Heap) (T : ErrT K mg) (k : Nat) : Sp := fun vs H Q _ => ∃ v, vs = [v] ∧ DoesM P w K mg base k v H (fun _ H' => Q .non H') (wishE T Q)
abbrev N_law_fault : List Str := ["_law_deed", "_law_told", "e"]
abbrev P_law_fault : List Str := ["_law_deed"]
section
variable {P : Program} {w : World} {K : PySem.W.Frag} {mg : Str → Option Value} {base : Heap} {f : Addr} {fd : FuncData}
end

theorem DoesM.imp {P : Program} {w : World} {K : PySem.W.Frag} {mg : Str → Option Value} {base : Heap} {k : Nat} {v : V} {H : Hp} {Q Q' : VK} {E E' : XK} (d : DoesM P w K mg base k v H Q E) (h1 : ∀ v H', Q v H' → Q' v H') (h2 : ∀ c d H', E c d H' → E' c d H') :
    DoesM P w K mg base k v H Q' E' := by
  obtain ⟨f, fo, tl, e, n, p, a, t⟩ := d
  exact ⟨f, fo, tl, e, n, p, a, fun Q2 E2 i1 i2 => t Q2 E2 (fun v H' q => i1 v H' (h1 v H' q)) fun c d H' q => i2 c d H' (h2 c d H' q)⟩
/-- raises just what is due -/
def dueE (w : World) {K : PySem.W.Frag} {mg : Str → Option Value} (T : ErrT K mg) (n : Nat) (u : V) (Q : VK) : XK := fun cls d H' => ∃ (C dd : Addr) (fld word : Str) (x : V), cls = .ref C ∧ d = some dd ∧ ErrW T C fld word ∧ H' dd = some (.xd [(fld, x)]) ∧
  ∀ p, H' p = none → Tw w K (upd H' p (.tup [.str word, x])) n (.ref p) u ∧ ∀ H2, Same (upd H' p (.tup [.str word, x])) H2 → Q (.bl true) H2
def spFaults (P : Program) (w : World) (K : PySem.W.Frag) (mg : Str → Option Value) (base : Heap) (T : ErrT K mg) (k n : Nat) : Sp := fun vs H Q _ => ∃ v u, vs = [v, u] ∧ DoesM P w K mg base k v H (fun _ _ => False) (dueE w T n u Q)
abbrev N_law_faults : List Str := ["_law_deed", "_law_due", "_law_told"]
abbrev P_law_faults : List Str := ["_law_deed", "_law_due"]
section
variable {P : Program} {w : World} {K : PySem.W.Frag} {mg : Str → Option Value} {base : Heap} {f : Addr} {fd : FuncData}
end
end My

set_option Elab.async false
set_option linter.all false
set_option maxRecDepth 100000
namespace My
open PySem L2
abbrev Z (l : List Nat) : Str := ⟨l.toArray⟩
theorem Z_len (l : List Nat) : (Z l).length = l.length := by simp [Z, Str.length]
inductive Sg where
  | mul | bar | amp | plus
def Sg.word : Sg → Str | .mul => Str.ofString "both" | .bar => Str.ofString "between" | .amp => Str.ofString "offered" | .plus => Str.ofString "chosen"
def leafZ (co : Bool) : Str := if co then Str.ofString "counter" else Str.ofString "good"
inductive FT where
  | leaf (co : Bool) (n : List Nat)
  | node (s : Sg) (l r : FT)
def FT.dep : FT → Nat | .leaf _ _ => 0 | .node _ l r => 1 + max l.dep r.dep
def FT.lvs : FT → Nat | .leaf _ _ => 1 | .node _ l r => l.lvs + r.lvs
def FT.data : FT → PyData | .leaf co n => .tuple [.str (leafZ co), .str (Z n)] | .node s l r => .tuple [.str s.word, l.data, r.data]
def FT.Ok : FT → Prop | .leaf _ n => isName (Z n) = true | .node _ l r => l.Ok ∧ r.Ok
def Fm (K : PySem.W.Frag) (H : Hp) : FT → V → Prop
  | .leaf co n, v => ∃ a, v = .ref a ∧ SqT K H a [.str (leafZ co), .str (Z n)]
  | .node s l r, v => ∃ a x y, v = .ref a ∧ SqT K H a [.str s.word, x, y] ∧ Fm K H l x ∧ Fm K H r y
def Hard (o : HO) : Prop := (∃ xs, o = .tup xs) ∨ ∃ ob u, o = .frz ob u
def KT (H H' : Hp) : Prop := ∀ a o, Hard o → H a = some o → H' a = some o
theorem KT.refl (H : Hp) : KT H H := fun _ _ _ h => h
theorem KT.trans {H H1 H2 : Hp} (a : KT H H1) (b : KT H1 H2) : KT H H2 := fun c o n h => b c o n (a c o n h)
theorem Same.kt {H H' : Hp} (s : Same H H') : KT H H' := fun a o _ h => s a o h
theorem KT.seq {K : PySem.W.Frag} {H H' : Hp} {a : Addr} {xs : List V} (k : KT H H') (h : SqT K H a xs) : SqT K H' a xs := by
  rcases h with (h | ⟨u, h⟩) | h
  · exact .inl (.inl (k _ _ (.inl ⟨_, rfl⟩) h))
  · exact .inl (.inr ⟨u, k _ _ (.inr ⟨_, _, rfl⟩) h⟩)
  · exact .inr h
theorem KT.fm {K : PySem.W.Frag} {H H' : Hp} (k : KT H H') : ∀ (t : FT) {v : V}, Fm K H t v → Fm K H' t v
  | .leaf _ _, _, ⟨a, e, h⟩ => ⟨a, e, k.seq h⟩
  | .node _ l r, _, ⟨a, x, y, e, h, hl, hr⟩ => ⟨a, x, y, e, k.seq h, k.fm l hl, k.fm r hr⟩
theorem Keep.kt {p : Addr} {H H' : Hp} {C dx : Addr} {fs : List (Str × V)} (hp : H p = some (.ins C dx fs)) (k : Keep p H H') : KT H H' := fun a o n h => by
  refine k a o (fun e => ?_) h
  subst e
  rw [hp] at h
  cases h
  rcases n with ⟨_, e⟩ | ⟨_, _, e⟩ <;> cases e
theorem FT.of_fm {K : PySem.W.Frag} {H : Hp} : ∀ (t : FT) {v : V}, Fm K H t v → Dp K H v t.data
  | .leaf _ _, _, ⟨a, e, h⟩ => by subst e; exact .tup h (.cons (.str _) (.cons (.str _) .nil))
  | .node _ l r, _, ⟨a, x, y, e, h, hl, hr⟩ => by subst e; exact .tup h (.cons (.str _) (.cons (FT.of_fm l hl) (.cons (FT.of_fm r hr) .nil)))
theorem same_make {H : Hp} {x dx C : Addr} (nx : H x = none) (nd : H dx = none) (ne : dx ≠ x) : Same H (upd (upd H dx (.own x)) x (.ins C dx [])) := fun b o e => by
  rw [upd_ne (ne_of_none e nx), upd_ne (ne_of_none e nd)]
  exact e
theorem sg_of {w : Str} (h : w ∈ halfW) : ∃ s : Sg, w = s.word := by
  unfold halfW at h
  simp only [List.mem_cons, List.not_mem_nil, or_false] at h
  rcases h with rfl | rfl | rfl | rfl
  · exact ⟨.mul, rfl⟩
  · exact ⟨.bar, rfl⟩
  · exact ⟨.amp, rfl⟩
  · exact ⟨.plus, rfl⟩
theorem leaf_of {w : Str} (h : w ∈ leafW) : ∃ co, w = leafZ co := by
  unfold leafW at h
  simp only [List.mem_cons, List.not_mem_nil, or_false] at h
  rcases h with rfl | rfl
  · exact ⟨false, rfl⟩
  · exact ⟨true, rfl⟩
theorem ft_of : ∀ {k : Nat} {D : PyData}, isForm k D = true → ∃ t : FT, D = t.data ∧ t.Ok ∧ t.dep ≤ k := by
  intro k
  induction k with
  | zero =>
    intro D h
    rcases isForm_inv h with ⟨w, n, rfl, hw, hn⟩ | ⟨j, w, a, b, e, _⟩
    · obtain ⟨co, rfl⟩ := leaf_of hw
      exact ⟨.leaf co n.cps.toList, rfl, hn, Nat.le_refl _⟩
    · cases e
  | succ k ih =>
    intro D h
    rcases isForm_inv h with ⟨w, n, rfl, hw, hn⟩ | ⟨j, w, a, b, e, rfl, hw, ha, hb⟩
    · obtain ⟨co, rfl⟩ := leaf_of hw
      exact ⟨.leaf co n.cps.toList, rfl, hn, Nat.zero_le _⟩
    · cases e
      obtain ⟨s, rfl⟩ := sg_of hw
      obtain ⟨l, rfl, ol, dl⟩ := ih ha
      obtain ⟨r, rfl, or', dr⟩ := ih hb
      exact ⟨.node s l r, rfl, ⟨ol, or'⟩, by show 1 + max l.dep r.dep ≤ k + 1; omega⟩
theorem fm_of_dp {K : PySem.W.Frag} {H : Hp} : ∀ (t : FT) {v : V}, Dp K H v t.data → Fm K H t v
  | .leaf co n, v, h => by
    cases h with | tup hT hA => cases hA with | cons h1 hA => cases hA with | cons h2 hN =>
    cases hN
    cases h1
    cases h2
    exact ⟨_, rfl, hT⟩
  | .node s l r, v, h => by
    cases h with | tup hT hA => cases hA with | cons h1 hA => cases hA with | cons h2 hA => cases hA with | cons h3 hN =>
    cases hN
    cases h1
    exact ⟨_, _, _, rfl, hT, fm_of_dp l h2, fm_of_dp r h3⟩
theorem ft_isForm : ∀ (t : FT) {k : Nat}, t.Ok → t.dep ≤ k → isForm k t.data = true
  | .leaf co n, k, h, _ => by
    show isForm k (.tuple [.str (leafZ co), .str (Z n)]) = true
    rw [isForm_m2, Bool.and_eq_true]
    exact ⟨by cases co <;> decide +kernel, h⟩
  | .node s l r, k, h, hk => by
    have hk' : 1 + max l.dep r.dep ≤ k := hk
    obtain ⟨j, rfl⟩ : ∃ j, k = j + 1 := ⟨k - 1, by omega⟩
    show isForm (j + 1) (.tuple [.str s.word, l.data, r.data]) = true
    rw [isForm_m3, Bool.and_eq_true, Bool.and_eq_true]
    exact ⟨by cases s <;> decide +kernel, ft_isForm l h.1 (by omega), ft_isForm r h.2 (by omega)⟩
def lvsL (ts : List FT) : Nat := (ts.map FT.lvs).sum
theorem dp_of_fm {K : PySem.W.Frag} {H : Hp} {xs : List V} {ts : List FT} (h : Paired (fun v t => Fm K H t v) xs ts) : DpAll K H xs (ts.map FT.data) := by
  induction h with
  | nil => exact .nil
  | cons h _ ih => exact .cons (FT.of_fm _ h) ih
theorem tw_fm {w : World} {K : PySem.W.Frag} {H : Hp} : ∀ (t : FT) (n : Nat) {v u : V}, t.dep + 2 ≤ n → Fm K H t v → Fm K H t u → Tw w K H n v u := by
  intro t
  induction t with
  | leaf co m =>
    intro n v u h hv hu
    obtain ⟨a, ea, ha⟩ := hv
    obtain ⟨b, eb, hb⟩ := hu
    obtain ⟨k, rfl⟩ : ∃ k, n = k + 2 := ⟨n - 2, by omega⟩
    have w1 : ∀ z : Str, Tw w K H (k + 1) (.str z) (.str z) := fun z => .inl ⟨rfl, rfl⟩
    exact .inr (.inr (.inl ⟨a, b, _, _, ea, eb, ha, hb, le1k, .cons (w1 _) (.cons (w1 _) .nil)⟩))
  | node s l r ihl ihr =>
    intro n v u h hv hu
    obtain ⟨a, x, y, ea, ha, hx, hy⟩ := hv
    obtain ⟨b, x', y', eb, hb, hx', hy'⟩ := hu
    have hd : 1 + max l.dep r.dep + 2 ≤ n := h
    obtain ⟨k, rfl⟩ : ∃ k, n = k + 1 := ⟨n - 1, by omega⟩
    obtain ⟨k, rfl⟩ : ∃ j, k = j + 1 := ⟨k - 1, by omega⟩
    have w1 : ∀ z : Str, Tw w K H (k + 1) (.str z) (.str z) := fun z => .inl ⟨rfl, rfl⟩
    exact .inr (.inr (.inl ⟨a, b, _, _, ea, eb, ha, hb, le1k, .cons (w1 _) (.cons (ihl (k + 1) (by omega) hx hx') (.cons (ihr (k + 1) (by omega) hy hy') .nil))⟩))
theorem kt_pen {d L : Addr} {ns : List Int} {n : Nat} {H H' : Hp} (p : Pen K H d L ns n) (k : Keep d H H') : KT H H' := fun a o h e => by
  obtain ⟨kvs, hd⟩ := p.isDk
  refine k a o (fun z => ?_) e
  subst z
  rw [hd] at e
  have e := Option.some.inj e
  subst e
  rcases h with ⟨_, e⟩ | ⟨_, _, e⟩ <;> cases e
theorem paired_len {α β : Type} {r : α → β → Prop} {xs : List α} {ys : List β} (h : Paired r xs ys) : xs.length = ys.length := by
  induction h with
  | nil => rfl
  | cons _ _ ih => rw [List.length_cons, List.length_cons, ih]
theorem paired_take {α β : Type} {r : α → β → Prop} : ∀ {xs : List α} {ys : List β} {i : Nat} {x : α}, Paired r xs ys → xs[i]? = some x → ∃ y, ys[i]? = some y ∧ r x y
  | _, _, i, x, .nil, e => by simp at e
  | _, _, 0, x, .cons h _, e => by
    simp at e
    subst e
    exact ⟨_, rfl, h⟩
  | _, _, i + 1, x, .cons _ h, e => by
    obtain ⟨y, h1, h2⟩ := paired_take (i := i) h (by simpa using e)
    exact ⟨y, by simpa using h1, h2⟩
theorem paired_app {α β : Type} {r : α → β → Prop} : ∀ {xs : List α} {ys : List β} {xs' : List α} {ys' : List β}, Paired r xs ys → Paired r xs' ys' → Paired r (xs ++ xs') (ys ++ ys')
  | _, _, _, _, .nil, h => h
  | _, _, _, _, .cons a b, h => .cons a (paired_app b h)
end My

set_option Elab.async false
set_option linter.all false
set_option maxRecDepth 100000
namespace My
open PySem L2
abbrev sis_leaf : Stmt := top 20
abbrev Nis_leaf : List Str := ["form"]
theorem scis_leaf : FnScope Nis_leaf Nis_leaf (defScope sis_leaf) := ⟨rfl, rfl, rfl, by decide +kernel, rfl, by decide +kernel, by decide +kernel⟩
structure CalX (P : Program) (w : World) (K : PySem.W.Frag) (mg : Str → Option Value) (base : Heap) (x : Str) (k : Nat) (ps : List Str) (sp : Sp) where
  f : Addr
  fd : FuncData
  ok : FnOk P w K mg base (L2.CX P w) k f fd ps sp
  m : mg x = some (.ref f)
  kp : PySem.W.keepIn K (.ref f) = true
  b : Binds K fd ps []
def FT.isLeaf : FT → Bool | .leaf _ _ => true | .node _ _ _ => false
def isDictV (H : Hp) (v : V) : Prop := ∃ (a : Addr) (kvs : List (Key × V)), v = .ref a ∧ H a = some (.dK kvs)
def badE (C : Addr) (fld : Str) (v : V) (H : Hp) (E : XK) : Prop := ∀ (d : Addr) (H' : Hp), Same H H' → H' d = none → E (.ref C) (some d) (upd H' d (.xd [(fld, v)]))
def spLeafT (K : PySem.W.Frag) : Sp := fun vs H Q _ => ∃ v t, vs = [v] ∧ Fm K H t v ∧ Q (.bl t.isLeaf) H
def spCheckForm (K : PySem.W.Frag) (CB : Addr) : Sp := fun vs H Q E => ∃ v, vs = [v] ∧ ((∃ D, Dp K H v D ∧ (∀ z, D = .str z → z.length ≤ 1000) ∧ shortD D = true ∧ D.depth ≤ 60 ∧ (isForm 12 D = true → ∀ H', Same H H' → Q .non H') ∧ (isForm 12 D = false → badE CB "value" v H E)) ∨ (isDictV H v ∧ badE CB "value" v H E))
section
variable {P : Program} {w : World} {K : PySem.W.Frag} {mg : Str → Option Value} {base : Heap} {f : Addr} {fd : FuncData}
theorem okis_leaf (T : Txt K mg) (F : Fun K "is_leaf" "is_leaf" sis_leaf f fd) : FnOk P w K mg base CX0 1 f fd Nis_leaf (spLeafT K) := by
  refine F.ok scis_leaf (fun vs H Q E h => ?_) (fun cdv A outer s H vs Q E hr h => ?_)
  · obtain ⟨v, t, rfl, _⟩ := h
    rfl
  obtain ⟨v, t, rfl, hf, q⟩ := h
  refine ⟨_, (pss_one (ps_ret (pe_cmpR op_eq (pe_callB call_len rfl T.len (by decide +kernel) (pa_cons (pv 0) pa_nil)) pe_int (nomark _)))), ?_⟩
  cases t with
  | leaf co n =>
    obtain ⟨a, rfl, hs⟩ := hf
    exact ⟨_, rfl, _, _, rfl, .inr ⟨_, hs, rfl⟩, rfl, q⟩
  | node s l r =>
    obtain ⟨a, x, y, rfl, hs, _⟩ := hf
    exact ⟨_, rfl, _, _, rfl, .inr ⟨_, hs, rfl⟩, rfl, q⟩
theorem badE.same {C : Addr} {fld : Str} {v : V} {H H1 : Hp} {E : XK} (b : badE C fld v H E) (s : Same H H1) : badE C fld v H1 E := fun d H' s' n => b d H' (s.trans s') n
end
end My

set_option Elab.async false
set_option linter.all false
set_option maxRecDepth 100000
namespace My
open PySem L2
abbrev scounter_of : Stmt := top 21
abbrev Ncounter_of : List Str := ["form", "word"]
abbrev Pcounter_of : List Str := ["form"]
theorem sccounter_of : FnScope Ncounter_of Pcounter_of (defScope scounter_of) := ⟨rfl, rfl, rfl, by decide +kernel, rfl, by decide +kernel, by decide +kernel⟩
abbrev Ndepth_of : List Str := ["form"]
abbrev Pdepth_of : List Str := ["form"]
abbrev Ngoods_of : List Str := ["form"]
abbrev Pgoods_of : List Str := ["form"]
abbrev N_law_counter : List Str := ["_law_form", "_law_turned"]
abbrev P_law_counter : List Str := ["_law_form"]
/-! ### the counter of a form -/
def Sg.flip : Sg → Sg | .mul => .bar | .bar => .mul | .amp => .plus | .plus => .amp
def cnt : FT → FT
  | .leaf co n => .leaf (!co) n
  | .node s l r => .node s.flip (cnt l) (cnt r)
theorem cnt_dep : ∀ t : FT, (cnt t).dep = t.dep
  | .leaf _ _ => rfl
  | .node s l r => by
    show 1 + max (cnt l).dep (cnt r).dep = 1 + max l.dep r.dep
    rw [cnt_dep l, cnt_dep r]
theorem cnt_lvs : ∀ t : FT, (cnt t).lvs = t.lvs
  | .leaf _ _ => rfl
  | .node s l r => by
    show (cnt l).lvs + (cnt r).lvs = l.lvs + r.lvs
    rw [cnt_lvs l, cnt_lvs r]
theorem cnt_cnt : ∀ t : FT, cnt (cnt t) = t
  | .leaf co n => by show FT.leaf (!!co) n = _; rw [Bool.not_not]
  | .node s l r => by
    show FT.node s.flip.flip (cnt (cnt l)) (cnt (cnt r)) = _
    rw [cnt_cnt l, cnt_cnt r]
    cases s <;> rfl
theorem cnt_ok : ∀ t : FT, t.Ok → (cnt t).Ok
  | .leaf _ _, h => h
  | .node _ l r, h => ⟨cnt_ok l h.1, cnt_ok r h.2⟩
/-- the names of the leaves, from left to right -/
def nms : FT → List Str
  | .leaf _ n => [Z n]
  | .node _ l r => nms l ++ nms r
theorem nms_len : ∀ t : FT, (nms t).length = t.lvs
  | .leaf _ _ => rfl
  | .node _ l r => by
    show (nms l ++ nms r).length = l.lvs + r.lvs
    rw [List.length_append, nms_len l, nms_len r]
theorem nms_cnt : ∀ t : FT, nms (cnt t) = nms t
  | .leaf _ _ => rfl
  | .node _ l r => by
    show nms (cnt l) ++ nms (cnt r) = nms l ++ nms r
    rw [nms_cnt l, nms_cnt r]
def turnedR : List (Key × V) := [(.inr "both", .str "between"), (.inr "between", .str "both"), (.inr "offered", .str "chosen"), (.inr "chosen", .str "offered")]
theorem same_disp {H : Hp} {p : Addr} {o o' : HO} (n : H p = none) : Same H (upd (upd H p o) p o') := fun b u e => by
  rw [upd_ne (ne_of_none e n), upd_ne (ne_of_none e n)]
  exact e
structure TxtC (K : PySem.W.Frag) (mg : Str → Option Value) (w : World) where
  aCW : Addr
  COUNTER_WORDS : ∃ u, mg "COUNTER_WORDS" = some u ∧ RelV (.ref aCW) u
  kL : ∀ co : Bool, KDct K w aCW (leafZ co) (.str (leafZ !co))
  kN : ∀ s : Sg, KDct K w aCW s.word (.str s.flip.word)
def spCounterOf (K : PySem.W.Frag) (n : Nat) : Sp := fun vs H Q _ => ∃ v t, vs = [v] ∧ Fm K H t v ∧ t.dep < n ∧ ∀ H' u, Same H H' → Fm K H' (cnt t) u → Q u H'
def spDepthOf (K : PySem.W.Frag) (n : Nat) : Sp := fun vs H Q _ => ∃ v t, vs = [v] ∧ Fm K H t v ∧ t.dep < n ∧ Q (.int (t.dep : Nat)) H
def spGoodsOf (K : PySem.W.Frag) (n : Nat) : Sp := fun vs H Q _ => ∃ v t, vs = [v] ∧ Fm K H t v ∧ t.dep < n ∧ t.lvs ≤ 1000 ∧ ∀ H' p, Same H H' → H' p = some (.lst ((nms t).map V.str)) → Q (.ref p) H'
section
variable {P : Program} {w : World} {K : PySem.W.Frag} {mg : Str → Option Value} {base : Heap} {f : Addr} {fd : FuncData}
theorem okcounter_of {n : Nat} (Y : TxtC K mg w) (Cis_leaf : Cal P w K mg base "is_leaf" 1 Nis_leaf (spLeafT K)) (F : Fun K "counter_of" "counter_of" scounter_of f fd) (Ccounter_of : Cal P w K mg base "counter_of" (1 + n) Pcounter_of (spCounterOf K n)) : FnOk P w K mg base CX0 (1 + n + 1) f fd Pcounter_of (spCounterOf K (n + 1)) := by
  refine F.ok sccounter_of (fun vs H Q E h => ?_) (fun cdv A outer s H vs Q E hr h => ?_)
  · obtain ⟨v, t, rfl, _⟩ := h
    rfl
  obtain ⟨v, t, rfl, hf, hd, q⟩ := h
  refine ⟨_, (pss_cons (ps_set (i := 1) sccounter_of.nd rfl (Or.inl rfl) (pe_ix ix_kdict (pe_globE Y.COUNTER_WORDS) (pe_ix ix_tup (pv 0) pe_int (fun _ _ => rfl)) (fun _ _ => rfl)))
  (pss_cons (ps_if (pt_val (pe_callC Cis_leaf hr (pa_cons (pv 0) pa_nil)))
    (pss_one (ps_ret (pe_tupN (pa_cons (pv 1) (pa_cons (pe_ix ix_tup (pv 0) pe_int (fun _ _ => rfl)) pa_nil)))))
    pss_nil)
  (pss_one (ps_ret (pe_tupN (pa_cons (pv 1) (pa_cons (pe_callC Ccounter_of hr (pa_cons (pe_ix ix_tup (pv 0) pe_int (fun _ _ => rfl)) pa_nil)) (pa_cons (pe_callC Ccounter_of hr (pa_cons (pe_ix ix_tup (pv 0) pe_int (fun _ _ => rfl)) pa_nil)) pa_nil)))))))), ?_⟩
  cases t with
  | leaf co m =>
    obtain ⟨a, rfl, ha⟩ := hf
    refine ⟨_, rfl, a, _, 0, _, rfl, rfl, ha, rfl, Y.aCW, leafZ co, _, rfl, rfl, Y.kL co, ?_⟩
    refine ⟨_, rfl, .ref a, .leaf co m, rfl, ⟨a, rfl, ha⟩, true, rfl, iteT ?_⟩
    exact ⟨_, rfl, _, rfl, a, _, 1, _, rfl, rfl, ha, rfl, le1k, fun p H1 s1 e1 => q H1 _ s1 ⟨p, rfl, e1⟩⟩
  | node s l r =>
    obtain ⟨a, x, y, rfl, ha, hx, hy⟩ := hf
    have hd' : 1 + max l.dep r.dep < n + 1 := hd
    refine ⟨_, rfl, a, _, 0, _, rfl, rfl, ha, rfl, Y.aCW, s.word, _, rfl, rfl, Y.kN s, ?_⟩
    refine ⟨_, rfl, .ref a, .node s l r, rfl, ⟨a, x, y, rfl, ha, hx, hy⟩, false, rfl, iteF ?_⟩
    refine ⟨_, rfl, _, rfl, a, _, 1, _, rfl, rfl, ha, rfl, x, l, rfl, hx, by omega, fun H1 u1 s1 w1 => ?_⟩
    refine ⟨_, rfl, a, _, 2, _, rfl, rfl, (Same.kt s1).seq ha, rfl, y, r, rfl, (Same.kt s1).fm _ hy, by omega, fun H2 u2 s2 w2 => ?_⟩
    exact ⟨le1k, fun p H3 s3 e3 => q H3 _ ((s1.trans s2).trans s3) ⟨p, u1, u2, rfl, e3, (Same.kt (s2.trans s3)).fm _ w1, (Same.kt s3).fm _ w2⟩⟩
end
end My

set_option Elab.async false
set_option linter.all false
set_option maxRecDepth 100000
namespace L2
open PySem PySem.Spec
/-- what d.get(z) gives, d a dict of the module with text keys -/
def KGt (K : PySem.W.Frag) (w : World) (p : Addr) (z : Str) (v : V) : Prop :=
  ∃ es n r, K.lookup p = some ⟨.type "dict", none, .dict es n, #[]⟩ ∧ PySem.W.KeysLit w.params es.toList ∧ PySem.W.nsIn K p z = some r ∧ RelV v (r.getD .none)
theorem KGt.of {K : PySem.W.Frag} {w : World} {p : Addr} {z : Str} {v : V} (h : KDct K w p z v) : KGt K w p z v := by
  obtain ⟨es, n, u, a, b, c, d⟩ := h
  exact ⟨es, n, some u, a, b, c, d⟩
def KDcG (K : PySem.W.Frag) (w : World) (p : Addr) : Prop := (p == sysModules) = false ∧ ∃ es n, K.lookup p = some ⟨.type "dict", none, .dict es n, #[]⟩ ∧ PySem.W.KeysLit w.params es.toList
def tKGet (K : PySem.W.Frag) (w : World) (td ty : TE) : TE := fun σ H Q => td σ H fun x H1 => ∃ p, x = .ref p ∧ KDcG K w p ∧ ty σ H1 fun y H2 => ∃ z v, y = .str z ∧ KGt K w p z v ∧ Q v H2
section
variable {X : Cx} {o e f : Expr} {apos cpos : Pos} {td ty tx : TE}
theorem pe_kget (ho : PE X o td) (he : PE X e ty) (m : M1 X o "get" apos e cpos) : PE X (.Call (.Attribute o "get" apos) [e] [] cpos) (tKGet X.K X.w td ty) := by
  refine ⟨fun pins s σ H Q I h => ?_⟩
  refine wpAny_Call_method m.base m.few m.line PySem.F.plainAttrs_dict PySem.F.slot_dict_get PySem.F.type_dict_get (thn (ho.run pins s σ H _ I h) fun u s1 ⟨x, H1, I1, rx, p, ex, ⟨hm, es0, n0, hl0, hk0⟩, q1⟩ => ?_)
  subst ex
  obtain rfl : u = Value.ref p := rx
  have d1 := PySem.W.mapOf_K (prog := X.prog) (w := X.w) I1.kIn hl0 hk0
  refine ⟨d1.typeIs, fun b q => ?_, ?_⟩
  · cases q
    obtain ⟨ob, _, _, h1, h2, _⟩ := d1
    exact ⟨ob, h1, h2.2.1⟩
  rw [m.trees]
  refine Calls.callWith_builtin rfl (Calls.evalArgs_plain (Calls.spliced_cons (thn (he.run pins s1 σ H1 _ I1 q1) fun iv s2 ⟨y, H2, I2, ry, z, v, ey, ⟨es, n, r, hl, hk, hn, rv⟩, q2⟩ => Calls.spliced_nil ?_)))
  subst ey
  obtain ⟨t, rfl⟩ := ry
  have d2 := PySem.W.mapOf_K (prog := X.prog) (w := X.w) I2.kIn hl hk
  refine call_meetsIn PySem.F.slot_dict_get d2.typeIs PySem.F.entry_dict_get (PySem.F.args_dict_get_2 _ _) (meets_dict_get (strKind X.prog X.w) p (strKind_is X.prog X.w z t) hm) ⟨_, d2, ?_⟩
  rw [PySem.W.find_K hl hn]
  exact ⟨v, H2, I2.tok _, rv, q2⟩
end
end L2

set_option Elab.async false
set_option linter.all false
set_option maxRecDepth 100000
namespace My
open PySem L2
/-! ### numbers -/
abbrev sis_integer : Stmt := top 26
abbrev Nis_integer : List Str := ["value"]
theorem scis_integer : FnScope Nis_integer Nis_integer (defScope sis_integer) := ⟨rfl, rfl, rfl, by decide +kernel, rfl, by decide +kernel, by decide +kernel⟩
abbrev sis_number_below : Stmt := top 27
abbrev Nis_number_below : List Str := ["value", "many"]
theorem scis_number_below : FnScope Nis_number_below Nis_number_below (defScope sis_number_below) := ⟨rfl, rfl, rfl, by decide +kernel, rfl, by decide +kernel, by decide +kernel⟩
abbrev sis_side : Stmt := top 28
theorem scis_side : FnScope Nis_integer Nis_integer (defScope sis_side) := ⟨rfl, rfl, rfl, by decide +kernel, rfl, by decide +kernel, by decide +kernel⟩
def isNumD : PyData → Bool | .int _ => true | _ => false
def isNumB : PyData → Bool | .int _ => true | .bool _ => true | _ => false
theorem kit_int (K : PySem.W.Frag) (D : PyData) : PySem.W.kitOne K (.type (tagOf D)) (.type "int") = some (isNumB D) := by
  cases D <;> (refine kit_ty ?_; simp only [tagOf, isNumB]; decide +kernel)
def belowD (D : PyData) (n : Nat) : Bool := match D with | .int i => decide (0 ≤ i) && decide (i < n) | _ => false
def spIsInt (K : PySem.W.Frag) : Sp := fun vs H Q _ => ∃ v D, vs = [v] ∧ Dp K H v D ∧ Q (.bl (isNumD D)) H
def spBelow (K : PySem.W.Frag) : Sp := fun vs H Q _ => ∃ v D, ∃ n : Nat, vs = [v, .int n] ∧ Dp K H v D ∧ Q (.bl (belowD D n)) H
def spSide (K : PySem.W.Frag) : Sp := fun vs H Q _ => ∃ v D, vs = [v] ∧ Dp K H v D ∧ Q (.bl (belowD D 2)) H
section
variable {P : Program} {w : World} {K : PySem.W.Frag} {mg : Str → Option Value} {base : Heap} {f : Addr} {fd : FuncData}
theorem okis_integer (T : Txt K mg) (F : Fun K "is_integer" "is_integer" sis_integer f fd) : FnOk P w K mg base CX0 1 f fd Nis_integer (spIsInt K) := by
  refine F.ok scis_integer (fun vs H Q E h => ?_) (fun cdv A outer s H vs Q E hr h => ?_)
  · obtain ⟨v, D, rfl, _⟩ := h
    rfl
  obtain ⟨v, D, rfl, hv, q⟩ := h
  refine ⟨_, (pss_one (ps_ret (pe_and (pe_callB call_isi rfl T.isinstance (by decide +kernel) (pa_cons (pv 0) (pa_cons (pe_bltn (v := .ty "int") rfl T.int (by decide +kernel) rfl) pa_nil))) (pe_one (pe_not (pe_callB call_isi rfl T.isinstance (by decide +kernel) (pa_cons (pv 0) (pa_cons (pe_bltn (v := .ty "bool") rfl T.bool (by decide +kernel) rfl) pa_nil)))))))), ?_⟩
  refine ⟨_, rfl, _, _, _, _, _, rfl, .ty "int", tyx_of hv, kit_int K D, _, rfl, ?_⟩
  refine ite2 (fun c => ?_) (fun c => ?_)
  · refine ⟨_, rfl, _, _, _, _, _, rfl, .ty "bool", tyx_of hv, kit_bool D, _, rfl, ?_⟩
    have e : (!isBoolD D) = isNumD D := by cases D <;> first | rfl | cases c
    rw [e]
    exact q
  · have e : false = isNumD D := by cases D <;> first | rfl | exact absurd rfl c
    rw [e]
    exact q
theorem okis_number_below (Cis_integer : Cal P w K mg base "is_integer" 1 Nis_integer (spIsInt K)) (F : Fun K "is_number_below" "is_number_below" sis_number_below f fd) : FnOk P w K mg base CX0 2 f fd Nis_number_below (spBelow K) := by
  refine F.ok scis_number_below (fun vs H Q E h => ?_) (fun cdv A outer s H vs Q E hr h => ?_)
  · obtain ⟨v, D, n, rfl, _⟩ := h
    rfl
  obtain ⟨v, D, n, rfl, hv, q⟩ := h
  refine ⟨_, (pss_one (ps_ret (pe_and (pe_callC Cis_integer hr (pa_cons (pv 0) pa_nil)) (pe_one (pe_chain op_le op_lt pe_int (pv 0) (pv 1)))))), ?_⟩
  refine ⟨_, rfl, v, D, rfl, hv, _, rfl, ?_⟩
  refine ite2 (fun c => ?_) (fun c => ?_)
  · obtain ⟨i, rfl⟩ : ∃ i, D = .int i := by cases D <;> first | exact ⟨_, rfl⟩ | cases c
    cases hv
    refine ⟨_, rfl, _, _, rfl, rfl, _, rfl, ?_⟩
    show if decide ((0 : Int) ≤ i) = true then _ else _
    have q' : Q (.bl (decide ((0 : Int) ≤ i) && decide (i < (n : Int)))) H := q
    refine ite2 (fun c1 => ?_) (fun c1 => ?_)
    · rw [c1] at q'
      exact ⟨_, rfl, _, _, rfl, rfl, q'⟩
    · rw [Bool.eq_false_iff.mpr c1] at q'
      exact q'
  · have e : false = belowD D n := by cases D <;> first | rfl | exact absurd rfl c
    rw [e]
    exact q
theorem okis_side (Cis_number_below : Cal P w K mg base "is_number_below" 2 Nis_number_below (spBelow K)) (F : Fun K "is_side" "is_side" sis_side f fd) : FnOk P w K mg base CX0 3 f fd Nis_integer (spSide K) := by
  refine F.ok scis_side (fun vs H Q E h => ?_) (fun cdv A outer s H vs Q E hr h => ?_)
  · obtain ⟨v, D, rfl, _⟩ := h
    rfl
  obtain ⟨v, D, rfl, hv, q⟩ := h
  refine ⟨_, (pss_one (ps_ret (pe_callC Cis_number_below hr (pa_cons (pv 0) (pa_cons pe_int pa_nil))))), ?_⟩
  exact ⟨_, rfl, v, D, 2, rfl, hv, q⟩
end
end My

set_option Elab.async false
set_option linter.all false
set_option maxRecDepth 100000
namespace My
open PySem L2
/-! ### the words of steps -/
def lenOf (z : Str) : Option Nat := if z = "link" then some 2 else if z = "both" then some 5 else if z = "between" then some 4 else if z = "offer" then some 5 else if z = "choose" then some 5 else if z = "hand" then some 5 else if z = "turn" then some 3 else none
def widOf (z : Str) : Nat := if z = "both" then 2 else if z = "between" then 1 else if z = "offer" then 2 else if z = "choose" then 1 else if z = "hand" then 2 else if z = "turn" then 1 else 0
def lenV (z : Str) : V := match lenOf z with | some n => .int n | none => .non
def shapeD : PyData → Bool
  | .tuple (.str z :: r) => lenOf z == some (r.length + 1)
  | _ => false
/-- the steps directly within -/
def kids : PyData → List PyData
  | .tuple (.str z :: r) => if shapeD (.tuple (.str z :: r)) then r.take (widOf z) else []
  | _ => []
structure TxtD (K : PySem.W.Frag) (mg : Str → Option Value) (w : World) where
  aL : Addr
  LENGTHS : ∃ u, mg "LENGTHS" = some u ∧ RelV (.ref aL) u
  dL : KDcG K w aL
  gL : ∀ z, KGt K w aL z (lenV z)
  aW : Addr
  WITHIN : ∃ u, mg "WITHIN" = some u ∧ RelV (.ref aW) u
  gW : ∀ z, (lenOf z).isSome = true → KDct K w aW z (.int (widOf z))
abbrev shas_shape : Stmt := top 33
theorem schas_shape : FnScope Nis_integer Nis_integer (defScope shas_shape) := ⟨rfl, rfl, rfl, by decide +kernel, rfl, by decide +kernel, by decide +kernel⟩
abbrev ssteps_within : Stmt := top 34
theorem scsteps_within : FnScope Nis_integer Nis_integer (defScope ssteps_within) := ⟨rfl, rfl, rfl, by decide +kernel, rfl, by decide +kernel, by decide +kernel⟩
def spHasShape (K : PySem.W.Frag) : Sp := fun vs H Q _ => ∃ v D, vs = [v] ∧ Dp K H v D ∧ Q (.bl (shapeD D)) H
/-- H0: an earlier heap, so that what is within may be told of it -/
def spWithin (K : PySem.W.Frag) : Sp := fun vs H Q _ => ∃ v D H0, vs = [v] ∧ Same H0 H ∧ Dp K H0 v D ∧ ∀ H' p us, Same H H' → SqT K H' p us → DpAll K H0 us (kids D) → Q (.ref p) H'
theorem at0 {α : Type} {x : α} {xs : List α} : atI (x :: xs) 0 = some x := atI_nat (j := 0) rfl
theorem dpAll_take {K : PySem.W.Frag} {H : Hp} : ∀ {xs : List V} {ds : List PyData} (n : Nat), DpAll K H xs ds → DpAll K H (xs.take n) (ds.take n)
  | _, _, 0, _ => by simpa using DpAll.nil
  | _, _, _ + 1, .nil => by simpa using DpAll.nil
  | _, _, n + 1, .cons h t => by simpa using DpAll.cons h (dpAll_take n t)
theorem cut1 {x : V} {xs : List V} {n : Nat} (h : n ≤ xs.length) : cutV (x :: xs) (some 1) (some (1 + (n : Int))) = xs.take n := by
  unfold cutV
  have e1 : HT.sIx (x :: xs).length 0 (some 1) = 1 := by
    unfold HT.sIx
    simp
  have e2 : HT.sIx (x :: xs).length (x :: xs).length (some (1 + (n : Int))) = n + 1 := by
    rw [show (1 + (n : Int)) = ((n + 1 : Nat) : Int) by omega, HT.sIx_nat, List.length_cons]
    omega
  rw [e1, e2]
  simp
theorem wid_le {z : Str} {n : Nat} (h : lenOf z = some (n + 1)) : widOf z ≤ n := by
  unfold lenOf at h
  unfold widOf
  repeat' split at h
  all_goals first | cases h | skip
  all_goals (subst_vars; decide +kernel)
section
variable {P : Program} {w : World} {K : PySem.W.Frag} {mg : Str → Option Value} {base : Heap} {f : Addr} {fd : FuncData}
theorem okhas_shape (T : Txt K mg) (Y : TxtD K mg w) (F : Fun K "has_shape" "has_shape" shas_shape f fd) : FnOk P w K mg base CX0 1 f fd Nis_integer (spHasShape K) := by
  refine F.ok schas_shape (fun vs H Q E h => ?_) (fun cdv A outer s H vs Q E hr h => ?_)
  · obtain ⟨v, D, rfl, _⟩ := h
    rfl
  obtain ⟨v, D, rfl, hv, q⟩ := h
  refine ⟨_, (pss_cons (ps_if (PW.pt (pw_or (pt_not (pt_val (pe_callB call_isi rfl T.isinstance (by decide +kernel) (pa_cons (pv 0) (pa_cons (pe_bltn (v := .ty "tuple") rfl T.tuple (by decide +kernel) rfl) pa_nil))))) (pw_or (pt_not (pt_truth (pv 0) (by intro _; rfl))) (pw_or1 (pt_not (pt_val (pe_callB call_isi rfl T.isinstance (by decide +kernel) (pa_cons (pe_ix ix_tup (pv 0) pe_int (fun _ _ => rfl)) (pa_cons (pe_bltn (v := .ty "str") rfl T.str (by decide +kernel) rfl) pa_nil)))))))))
    (pss_one (ps_ret pe_bl))
    pss_nil)
  (pss_one (ps_ret (pe_cmpR op_eq (pe_kget (pe_globE Y.LENGTHS) (pe_ix ix_tup (pv 0) pe_int (fun _ _ => rfl)) ⟨rfl, rfl, rfl, rfl⟩) (pe_callB call_len rfl T.len (by decide +kernel) (pa_cons (pv 0) pa_nil)) (nomark _))))), ?_⟩
  refine ⟨_, rfl, _, _, _, _, _, rfl, .ty "tuple", tyx_of hv, kit_tuple D, _, rfl, ?_⟩
  by_cases hs : isTupD D = true
  · cases D with
    | tuple ds =>
      cases hv with
      | @tup a xs _ hT hA =>
      match ds, xs, hA with
      | [], [], _ =>
        refine iteF ⟨_, rfl, _, .inr (.inl ⟨[], hT, rfl⟩), iteT ?_⟩
        exact q
      | d :: ds, x :: xs, hA =>
        have hl := dpAll_len hA
        cases hA with | cons hx hA =>
        refine iteF ⟨_, rfl, _, .inr (.inl ⟨_, hT, rfl⟩), iteF ?_⟩
        refine ⟨_, rfl, a, _, 0, x, rfl, rfl, hT, at0, _, _, _, _, _, rfl, .ty "str", tyx_of hx, kit_str d, _, rfl, ?_⟩
        by_cases hd : isStrD d = true
        · cases d with
          | str z =>
            cases hx
            refine iteF ⟨_, rfl, Y.dL, _, rfl, a, _, 0, _, rfl, rfl, hT, at0, z, lenV z, rfl, Y.gL z, _, rfl, _, _, rfl, .inr ⟨_, hT, rfl⟩, ?_, ?_⟩
            · unfold lenV
              cases lenOf z <;> rfl
            · have e : decide (lenV z = .int ((V.str z :: xs).length : Nat)) = shapeD (.tuple (.str z :: ds)) := by
                rw [hl]
                show _ = (lenOf z == some (ds.length + 1))
                unfold lenV
                cases lenOf z with
                | none => rfl
                | some n =>
                  rw [Bool.eq_iff_iff]
                  simp
                  omega
              rw [e]
              exact q
          | _ => cases hd
        · have e : false = shapeD (.tuple (d :: ds)) := by cases d <;> first | rfl | exact absurd rfl hd
          rw [Bool.eq_false_iff.mpr hd]
          refine iteT ?_
          rw [← e] at q
          exact q
    | _ => cases hs
  · have e : false = shapeD D := by cases D <;> first | rfl | exact absurd rfl hs
    rw [Bool.eq_false_iff.mpr hs]
    refine iteT ?_
    rw [← e] at q
    exact q
theorem oksteps_within (Y : TxtD K mg w) (Chas_shape : Cal P w K mg base "has_shape" 1 Nis_integer (spHasShape K)) (F : Fun K "steps_within" "steps_within" ssteps_within f fd) : FnOk P w K mg base CX0 2 f fd Nis_integer (spWithin K) := by
  refine F.ok scsteps_within (fun vs H Q E h => ?_) (fun cdv A outer s H vs Q E hr h => ?_)
  · obtain ⟨v, D, H0, rfl, _⟩ := h
    rfl
  obtain ⟨v, D, H0, rfl, s0, hv, q⟩ := h
  refine ⟨_, (pss_cons (ps_if (pt_not (pt_val (pe_callC Chas_shape hr (pa_cons (pv 0) pa_nil))))
    (pss_one (ps_ret (pe_tupN pa_nil)))
    pss_nil)
  (pss_one (ps_ret (pe_slice sl_tupN (pv 0) (po_some pe_int) (po_some (pe_op op_add pe_int (pe_ix ix_kdict (pe_globE Y.WITHIN) (pe_ix ix_tup (pv 0) pe_int (fun _ _ => rfl)) (fun _ _ => rfl)))))))), ?_⟩
  refine ⟨_, rfl, v, D, rfl, dp_same s0 _ _ hv, _, rfl, ?_⟩
  by_cases hs : shapeD D = true
  · match D, hv, hs, q with
    | .tuple (.str z :: ds), .tup (a := a) (xs := xs) hT hA, hs, q =>
      match xs, hA with
      | _ :: xs, .cons (.str _) hA =>
        have hl := dpAll_len hA
        have hs' : lenOf z = some (ds.length + 1) := by
          have : (lenOf z == some (ds.length + 1)) = true := hs
          exact eq_of_beq this
        rw [hs]
        have hT := seqT_same s0 hT
        refine iteF ⟨_, rfl, ?_⟩
        refine ⟨1, rfl, _, rfl, a, _, 0, _, rfl, rfl, hT, at0, Y.aW, z, _, rfl, rfl, Y.gW z (by rw [hs']; rfl), 1, _, rfl, rfl, _, rfl, a, _, rfl, hT, fun p H1 s1 e1 => ?_⟩
        have hw : widOf z ≤ ds.length := wid_le hs'
        refine q H1 p _ s1 e1 ?_
        rw [cut1 (by omega)]
        rw [show kids (.tuple (.str z :: ds)) = if shapeD (.tuple (.str z :: ds)) = true then ds.take (widOf z) else [] from rfl, if_pos hs]
        exact dpAll_take _ hA
  · rw [Bool.eq_false_iff.mpr hs]
    refine iteT ⟨le1k, fun p H1 s1 e1 => q H1 p [] s1 e1 ?_⟩
    have e : kids D = [] := by
      unfold kids
      split
      · rw [if_neg hs]
      · rfl
    rw [e]
    exact .nil
end
end My

set_option Elab.async false
set_option linter.all false
set_option maxRecDepth 100000
namespace L2
open PySem PySem.Spec PyProof.Rows
/-- which numbers a slice has, step 1 -/
def sel1 (start stop : Int) (i : Nat) : Bool := if (1 : Int) > 0 then decide (start ≤ i) && decide ((i : Int) < stop) && (((i : Int) - start) % 1 == 0) else decide (stop < i) && decide ((i : Int) ≤ start) && ((start - (i : Int)) % (-1) == 0)
theorem sel1_eq (a n i : Nat) : sel1 a n i = (decide (a ≤ i) && decide (i < n)) := by
  unfold sel1
  rw [if_pos (by decide), Int.emod_one]
  have e1 : decide ((a : Int) ≤ (i : Int)) = decide (a ≤ i) := decide_eq_decide.mpr (by omega)
  have e2 : decide ((i : Int) < (n : Int)) = decide (i < n) := decide_eq_decide.mpr (by omega)
  rw [e1, e2]
  simp
theorem pick_take : ∀ (its : List Value) (a n k : Nat), k + its.length = n → ((its.zipIdx k).filterMap fun p => if sel1 a n p.2 = true then none else some p.1) = its.take (a - k)
  | [], a, n, k, _ => by simp
  | v :: r, a, n, k, h => by
    rw [List.length_cons] at h
    rw [List.zipIdx_cons, List.filterMap_cons, pick_take r a n (k + 1) (by omega)]
    dsimp only
    rw [sel1_eq]
    by_cases c : a ≤ k
    · rw [decide_eq_true c, decide_eq_true (show k < n by omega), show a - k = 0 by omega, show a - (k + 1) = 0 by omega]
      rfl
    · rw [decide_eq_false c, Bool.false_and, show a - k = (a - (k + 1)) + 1 by omega]
      rfl
section
variable {prog : Program} {w : World} {A : Around} {E : Value → Shared → Prop} {s : Shared}
/-- del l[i:] -/
theorem delItem_from {l sl : Addr} {its : List Value} {n a : Nat} {t : Tok} {Q : Unit → Shared → Prop} (ho : s.heap.get? l = some { cls := .type "list", data := .seq its.toArray n }) (hs : s.heap.IsSliceOf sl (.int a t) .none .none) (ha : a ≤ its.length) (hz : its.length ≤ sizeLine)
    (h : ∀ f : Array Value → Array Value, f its.toArray = (its.take a).toArray → Q () { s with heap := s.heap.update l (Obj.mapSeq f) }) : wpAny (model prog w) A (delItem (.ref l) (.ref sl)) Q E s := by
  obtain ⟨os, hos, hcs, hds⟩ := id hs
  have hTs : s.TypeIs (.ref sl) "slice" := ⟨os, hos, hcs⟩
  have hT : s.TypeIs (.ref l) "list" := ⟨_, ho, rfl⟩
  unfold delItem
  try with_reducible refine wpAny_holding ?_
  refine wpAny_bind (wpAny_sequenceKey hT (by decide) ?_)
  refine wpAny_bind (wpAny_callSpecial?_slot (name := Str.ofString "__delitem__") hT PySem.F.slot_list_delitem
    (wpAny_call_entry PySem.F.slot_list_delitem hT PySem.F.entry_list_delitem ?_ (PySem.F.args_list_delitem_2 _ _)))
  show wpAny _ _ (Builtin.List.listSubscript? (.ref sl) >>= _) _ _ s
  refine wpAny_bind ?_
  unfold Builtin.List.listSubscript?
  refine wpAny_bind (wpAny_specialOf hTs slice_no_index ?_)
  simp only [Option.isNone_none, if_true]
  refine wpAny_pure ?_
  show wpAny _ _ (typeOf (.ref sl) >>= _) _ _ s
  refine wpAny_bind (wpAny_typeOf hTs ?_)
  rw [if_neg (by decide)]
  rw [listSliceParts_eq]
  refine wpAny_bind (wpAny_bind (wpAny_field hos hds (x := .none) rfl (wpAny_bind (wpAny_listPart .none ?_))))
  rw [if_neg (show ¬ ((rawPart none == rawInt 0) = true) from Bool.false_ne_true)]
  refine wpAny_bind (wpAny_field hos hds (x := .int a t) rfl (wpAny_bind (wpAny_listPart (.int a t) ?_)))
  refine wpAny_bind (wpAny_field hos hds (x := .none) rfl (wpAny_bind (wpAny_listPart .none (wpAny_pure ?_))))
  refine wpAny_bind (m := Builtin.List.listItems (.ref l)) ?_
  unfold Builtin.List.listItems
  refine wpAny_bind (wpAny_seqItems ho rfl (wpAny_pure ?_))
  refine wpAny_bind (wpAny_of_eq (sliceIndices_raw (some (a : Int)) none none its.toArray.size (by simp)) ?_)
  refine wpAny_bind (wpAny_rule ?_)
  refine wpAny_bind (listUpdate_at ho rfl ?_ (by rw [List.size_toArray]; exact hz) ?_)
  · refine wpAny_bind (wpAny_letGo ?_)
    refine wpAny_pure ⟨.none, rfl, wpAny_pure (h _ ?_)⟩
    have hb : sliceBounds (some (a : Int)) none none its.toArray.size = ((a : Int), (its.length : Int), 1) := by
      unfold sliceBounds
      simp only [Option.getD_none, List.size_toArray]
      rw [if_pos (by decide), if_neg (by omega)]
      rw [show max 0 (min (a : Int) its.length) = a by omega]
      rfl
    rw [hb]
    have e := pick_take its a its.length 0 (by omega)
    rw [Nat.sub_zero] at e
    rw [← e]
    rfl
  · rw [List.size_toArray]
    refine Nat.le_trans (List.length_filterMap_le _ _) ?_
    rw [List.length_zipIdx]
    exact Nat.le_succ_of_le hz
end
end L2
namespace L2
open PySem PySem.Spec PyProof.Rows
section
variable {X : Cx} {o e : Expr} {to te : TE} {tpos p2 pos : Pos}
/-- del xs[a:] -/
def tDelFrom (to te : TE) : TS := fun D σ H => to σ H fun x H1 => te σ H1 fun y H2 => ∃ (l : Addr) (xs : List V) (a : Nat), x = .ref l ∧ y = .int (a : Nat) ∧ H2 l = some (.lst xs) ∧ a ≤ xs.length ∧ D.nx σ (upd H2 l (.lst (xs.take a)))
theorem ps_delFrom (ho : PE X o to) (he : PE X e te) : PS X (.Delete [.Subscript o (.Slice (some e) none none p2) tpos] pos) (tDelFrom to te) := by
  refine ⟨fun pins s σ H D I h => ?_⟩
  refine wpAny_Delete (wpAny_deleteEach_cons (wpAny_delete_Subscript (thn (ho.run pins s σ H _ I h) fun u s1 ⟨x, H1, I1, rx, q1⟩ => ?_)))
  refine wpAny_Slice (thn (he.run pins s1 σ H1 _ I1 q1) fun iv s2 ⟨y, H2, I2, ry, l, xs, a, ex, ey, hH, ha, q2⟩ => ?_)
  rw [evalPart_none]
  refine wpAny_pure ?_
  refine wpAny_pure ?_
  subst ex
  subst ey
  cases (show u = Value.ref l from rx)
  obtain ⟨t, rfl⟩ := (show ∃ t, iv = Value.int (a : Nat) t from ry)
  have I4 : Inv X pins σ H2 { s2 with heap := s2.heap.push { cls := .type "slice", data := .fields #[.int (a : Nat) t, .none, .none] } } := I2.kept (t' := s2.toks) fun b ob q => Heap.get?_push_of_some _ q
  obtain ⟨z, its, n, r, hl, el⟩ := I4.lstM hH
  refine delItem_from el (Heap.IsSliceOf.new ..) (by omega) (by omega) fun f hf => wpAny_deleteEach_nil ⟨σ, _, I4.lset (its' := its.take a) (t' := s2.toks) hH el hf (r.take a) ?_, q2⟩
  rw [List.length_take]
  omega
/-- xs.extend(t), t a tuple -/
def rExtendT (K : PySem.W.Frag) : V → List V → Hp → VK → Prop := fun x vs H Q => ∃ l b xs zs, x = .ref l ∧ vs = [.ref b] ∧ H l = some (.lst xs) ∧ SqT K H b zs ∧ xs.length + zs.length ≤ sizeLine ∧ Q .non (upd H l (.lst (xs ++ zs)))
theorem mt_extendT : MtM X "list.extend" (rExtendT X.K) := by
  intro pins s σ H x vs v us Q I rx rv h
  obtain ⟨l, b, xs, zs, rfl, rfl, hH, hB, hz, q⟩ := h
  cases rx
  obtain ⟨u, rfl, ru⟩ := rv.one
  cases ru
  obtain ⟨z, its, n, r, hl, e⟩ := I.lstM hH
  obtain ⟨its2, r2, ⟨o2, e2, hc2, n2, hd2⟩, z2⟩ := I.tuple hB
  have hl2 := r2.length
  have hT2 : s.TypeIs (.ref b) "tuple" := ⟨o2, e2, hc2⟩
  have hsz : its.toArray.size + its2.toArray.size ≤ sizeLine := by rw [List.size_toArray, List.size_toArray]; omega
  have hlong : ¬ (!its.toArray.isEmpty && Builtin.List.listTooLong (its.toArray.size + its2.toArray.size)) = true := by
    rw [notLongL hsz, Bool.and_false]
    exact Bool.false_ne_true
  refine wpAny_call_entry PySem.F.slot_list_extend ⟨_, e, rfl⟩ PySem.F.entry_list_extend ?_ (PySem.F.args_list_extend_2 _ _)
  show wpAny _ _ (Builtin.List.listExtendWith (.ref l) (.ref b) .none) _ _ s
  unfold Builtin.List.listExtendWith
  refine wpAny_bind (wpAny_typeOf hT2 ?_)
  rw [if_pos (by simp)]
  unfold Builtin.List.listItems
  refine wpAny_bind (wpAny_bind (wpAny_seqItems e2 hd2 (wpAny_pure ?_)))
  refine wpAny_bind (wpAny_bind (wpAny_seqItems e rfl (wpAny_pure ?_)))
  rw [if_neg hlong]
  refine wpAny_bind (listUpdate_at e rfl ?_ (by rw [List.size_toArray]; omega) (by rw [Array.size_append]; omega))
  refine wpAny_bind (wpAny_pure ?_)
  refine wpAny_pure ⟨.none, rfl, .non, _, I.lset (its' := its ++ its2) (t' := s.toks) hH e (by simp) (r.append r2) (by rw [List.length_append]; omega), rfl, q⟩
end
end L2

set_option Elab.async false
set_option linter.all false
set_option maxRecDepth 100000
namespace MaxD
open PySem
theorem args_maxd (a d : Value) : argsOk "max" ⟨[a], [("default", d)]⟩ := by unfold argsOk; kernel_rfl
section
variable {prog : Program} {w : World} {A : Around} {R : Result → Shared → Prop} {I : Addr} {fp wr : List Addr} {n : Nat} {P : Nat → Value → Prop} {St : Nat → Heap → Prop}
/-- what max holds behind j items: nothing, or the best twice -/
def Held (P : Nat → Value → Prop) (bt : Nat → Nat → Bool) (S : Addr) (h : Heap) : Nat → Prop
  | 0 => ∃ c, h.get? S = some { cls := .type "list", dict := none, data := .seq #[] c, slots := #[] }
  | j + 1 => ∃ v c, P (argBest bt j) v ∧ h.get? S = some { cls := .type "list", dict := none, data := .seq #[v, v] c, slots := #[] }
theorem Held.keep {bt : Nat → Nat → Bool} {S : Addr} {h h' : Heap} (k : ∀ o, h.get? S = some o → h'.get? S = some o) : ∀ {j : Nat}, Held P bt S h j → Held P bt S h' j
  | 0, ⟨c, e⟩ => ⟨c, k _ e⟩
  | j + 1, ⟨v, c, p, e⟩ => ⟨v, c, p, k _ e⟩
theorem loop (W : Walks prog w A.in1 I fp wr n P St) (bt : Nat → Nat → Bool) (hcmp : CmpOf prog w A.in1 .Gt P bt) (S : Addr) (hSf : S ∉ fp) (d : Value) :
    ∀ (k j : Nat) (s : Shared), n - j = k → j ≤ n → St j s.heap → Held P bt S s.heap j →
    (∀ v h' tk, (n = 0 → v = d) → (0 < n → P (argBest bt (n - 1)) v) → (∀ b o, b ∉ wr → b ≠ S → s.heap.get? b = some o → h'.get? b = some o) → R (.ok (.ret v)) { s with heap := h', toks := tk }) →
    codeAny (model prog w) A (.builtin "max.loop" ⟨[.ref I, .none, .ref S], [("default", d)]⟩) R s := by
  have hSw : S ∉ wr := fun h => hSf (W.sub _ h)
  have hname : (toString "max" ++ toString ".loop" : String) = "max.loop" := by decide
  intro k
  induction k with
  | zero =>
    intro j s hk hj hst hS hR
    obtain rfl : j = n := by omega
    refine codeAny_builtin F.entry_max_loop ?_
    rw [Around.under_plainId F.plain_max_loop _]
    cases j with
    | zero =>
      obtain ⟨c, hS⟩ := hS
      show wpAny _ A.in1 (seqItems? (.ref S) >>= _) _ _ s
      refine wpAny_bind (wpAny_seqItems hS rfl ?_)
      show wpAny _ A.in1 (tryCatch (pyNext (.ref I)) _ >>= _) _ _ s
      refine wpAny_bind (wpAny_tryCatch (W.done s _ _ hst fun h' tk hk' => ?_))
      show wpAny _ A.in1 (rule _ >>= _) _ _ _
      exact wpAny_bind (wpAny_rule (wpAny_pure (hR d _ tk (fun _ => rfl) (fun h => absurd h (Nat.lt_irrefl _)) fun b o hbw _ e => hk' b o hbw e)))
    | succ j =>
      obtain ⟨vb, c, hPb, hS⟩ := hS
      show wpAny _ A.in1 (seqItems? (.ref S) >>= _) _ _ s
      refine wpAny_bind (wpAny_seqItems hS rfl ?_)
      show wpAny _ A.in1 (tryCatch (pyNext (.ref I)) _ >>= _) _ _ s
      refine wpAny_bind (wpAny_tryCatch (W.done s _ _ hst fun h' tk hk' => ?_))
      have hS' := hk' S _ hSw hS
      show wpAny _ A.in1 (updateSeq S (fun _ => #[]) >>= _) _ _ _
      refine wpAny_bind ?_
      refine wpAny_updateSeq hS' rfl (wpAny_bind (wpAny_letGo (wpAny_pure ?_)))
      exact hR vb _ tk (fun h => absurd h (Nat.succ_ne_zero _)) (fun _ => hPb) fun b o hbw hbS e => (Heap.get?_update_other _ _ (Ne.symm hbS)).trans (hk' b o hbw e)
  | succ k ih =>
    intro j s hk hj hst hS hR
    have hlt : j < n := by omega
    refine codeAny_builtin F.entry_max_loop ?_
    rw [Around.under_plainId F.plain_max_loop _]
    cases j with
    | zero =>
      obtain ⟨c, hS⟩ := hS
      show wpAny _ A.in1 (seqItems? (.ref S) >>= _) _ _ s
      refine wpAny_bind (wpAny_seqItems hS rfl ?_)
      show wpAny _ A.in1 (tryCatch (pyNext (.ref I)) _ >>= _) _ _ s
      refine wpAny_bind (wpAny_tryCatch (W.item 0 s _ _ hlt hst fun v h' tk hP hst' hk' => ?_))
      have hS' := hk' S _ hSw hS
      show wpAny _ A.in1 (updateSeq S (fun _ => #[v, v]) >>= _) _ _ _
      refine wpAny_bind ?_
      refine wpAny_updateSeq hS' rfl ?_
      rw [hname]
      refine wpAny_pure ⟨plainId_quiet F.plain_max_loop _, ih 1 _ (by omega) hlt (W.frame _ _ _ hst' fun b hbf o e => ?_) ⟨v, _, hP, Heap.get?_update_self _ hS' rfl⟩ fun v' h'' tk'' h0 hP' hk'' => ?_⟩
      · exact (Heap.get?_update_other _ _ (fun h : S = b => hSf (by rw [h]; exact hbf))).trans e
      · exact hR v' h'' tk'' h0 hP' fun b o hbw hbS e => hk'' b o hbw hbS ((Heap.get?_update_other _ _ (Ne.symm hbS)).trans (hk' b o hbw e))
    | succ j =>
      obtain ⟨vb, c, hPb, hS⟩ := hS
      show wpAny _ A.in1 (seqItems? (.ref S) >>= _) _ _ s
      refine wpAny_bind (wpAny_seqItems hS rfl ?_)
      show wpAny _ A.in1 (tryCatch (pyNext (.ref I)) _ >>= _) _ _ s
      refine wpAny_bind (wpAny_tryCatch (W.item (j + 1) s _ _ hlt hst fun v h' tk hP hst' hk' => ?_))
      have hS' := hk' S _ hSw hS
      show wpAny _ A.in1 (tryCatch (holding [v, v] (richCompare .Gt v vb >>= _)) _ >>= _) _ _ _
      refine wpAny_bind (wpAny_tryCatch (wpAny_holding (wpAny_bind (hcmp (j + 1) (argBest bt j) v vb _ _ _ hP hPb ?_))))
      refine wpAny_bind (wpAny_holding (wpAny_truthy_bool ?_))
      refine wpAny_bind (wpAny_letGo (wpAny_pure ?_))
      cases hb : bt (j + 1) (argBest bt j) with
      | true =>
        simp only [if_true]
        refine wpAny_bind ?_
        refine wpAny_updateSeq hS' rfl (wpAny_bind (wpAny_letGo ?_))
        rw [hname]
        refine wpAny_pure ⟨plainId_quiet F.plain_max_loop _, ih (j + 2) _ (by omega) hlt (W.frame _ _ _ hst' fun b hbf o e => ?_) ⟨v, _, by simp only [argBest, hb, if_true]; exact hP, Heap.get?_update_self _ hS' rfl⟩ fun v' h'' tk'' h0 hP' hk'' => ?_⟩
        · exact (Heap.get?_update_other _ _ (fun h : S = b => hSf (by rw [h]; exact hbf))).trans e
        · exact hR v' h'' tk'' h0 hP' fun b o hbw hbS e => hk'' b o hbw hbS ((Heap.get?_update_other _ _ (Ne.symm hbS)).trans (hk' b o hbw e))
      | false =>
        simp only [Bool.false_eq_true, if_false]
        refine wpAny_bind (wpAny_letGo ?_)
        rw [hname]
        refine wpAny_pure ⟨plainId_quiet F.plain_max_loop _, ih (j + 2) _ (by omega) hlt hst' ⟨vb, c, by simp only [argBest, hb, Bool.false_eq_true, if_false]; exact hPb, hS'⟩ fun v' h'' tk'' h0 hP' hk'' => ?_⟩
        exact hR v' h'' tk'' h0 hP' fun b o hbw hbS e => hk'' b o hbw hbS (hk' b o hbw e)
end
end MaxD
namespace MaxD
open PySem PyProof.Rows
section
variable {prog : Program} {w : World} {A : Around} {E : Value → Shared → Prop} {s : Shared} {l : Addr} {xs : Array (Int × Tok)}
theorem call_maxd {d : Value} {Q : Value → Shared → Prop} (hh : A.handled = none) (hl : s.heap.IsList l (intItems xs))
    (h : ∀ v h' tk, (xs.size = 0 → v = d) → (0 < xs.size → (intItems xs)[argBest (fun i j => decide (numAt xs i > numAt xs j)) (xs.size - 1)]? = some v) → (∀ b o, s.heap.get? b = some o → h'.get? b = some o) → Q v { s with heap := h', toks := tk }) :
    wpAny (model prog w) A (call (.builtin "max") [.ref l] [("default", d)]) Q E s := by
  have hname : (toString "max" ++ toString ".loop" : String) = "max.loop" := by decide
  refine wpAny_call (codeAny_call_builtin F.plain_max F.entry_max ?_)
  suffices quiet : wpAny (model prog w) A.in1 (Builtin.«max» ⟨[.ref l], [("default", d)]⟩) (fun fin s' => match fin with
      | .done f => (match (Except.ok f : Result) with | .ok (.ret v) => Q v s' | .ok _ => False | .error e => E e s')
      | .again c' => c'.quiet = true ∧ codeAny (model prog w) A c' (fun r s' => match r with | .ok (.ret v) => Q v s' | .ok _ => False | .error e => E e s') s') E s by
    have ha := args_maxd (.ref l) d
    simp only [checkBuiltinCall, F.kind_max]
    cases hsig : Manifest.signature? "max" with
    | none => exact wpAny_pure quiet
    | some sig =>
      have ha' : Bind.checkArgs "max" sig ⟨[.ref l], [("default", d)]⟩ = pure () := by simpa only [argsOk, hsig] using ha
      simp only [ha']
      exact wpAny_pure quiet
  show wpAny _ A.in1 (Builtin.Builtins.bindParams "max" ["key", "default"] 0 ⟨[], [("default", d)]⟩ >>= _) _ _ s
  refine wpAny_bind (wpAny_of_eq (show Builtin.Builtins.bindParams "max" ["key", "default"] 0 ⟨[], [("default", d)]⟩ = pure [none, some d] from rfl) ?_)
  refine wpAny_bind (wpAny_pure ?_)
  refine wpAny_bind (iter_intList hl fun s₂ e st hfp hlI => ?_)
  subst e
  refine wpAny_bind (wpAny_newObj_type ?_)
  have hSf : (s.heap.push { cls := .type "list_iterator", data := .fields #[.ref l, .int 0 0] }).objs.size ∉ [s.heap.objs.size, l] := fun hm => Nat.lt_irrefl _ (hfp _ hm)
  have W := Walks.list (prog := prog) (w := w) (A := A.in1) hh s.heap.objs.size l hlI (intItems xs)
  rw [hname]
  have hz : (intItems xs).size = xs.size := by simp [intItems]
  refine wpAny_pure ⟨plainId_quiet F.plain_max_loop _, loop W _ (CmpOf.ints_gt (numAt xs) (fun _ _ => intItems_at)) _ hSf d _ 0 _ rfl (Nat.zero_le _) (W.frame _ _ _ st fun b _ o e => Heap.get?_push_of_some _ e) ⟨_, Heap.get?_push_size _ rfl⟩ fun v h' tk h0 hP hk => ?_⟩
  rw [hz] at h0 hP
  exact h v h' tk h0 hP (old_kept fun b o hb e => hk b o hb (Nat.ne_of_lt (Heap.lt_size e)) (Heap.get?_push_of_some _ e))
end
end MaxD
namespace L2
open PySem PySem.Spec PyProof.Rows
/-- max(xs, default=d) of a list of ints -/
def rMaxDf (K : PySem.W.Frag) : List V → List V → Hp → VK → Prop := fun vs zs H Q => ∃ (a : Addr) (ns : List Int) (d : Int), vs = [V.ref a] ∧ zs = [.int d] ∧ SqL K H a (ns.map V.int) ∧ ∀ m : Int, (ns = [] → m = d) → (ns ≠ [] → m ∈ ns ∧ ∀ y, y ∈ ns → y ≤ m) → Q (.int m) H
theorem cr_maxDf {X : Cx} (hc : X.calm = true) : CallRK X (.builtin "max") [Str.ofString "default"] (rMaxDf X.K) := by
  intro pins s σ H vs zs us ws Q I r rz h
  obtain ⟨a, ns, d, rfl, rfl, hs, q⟩ := h
  obtain ⟨its, rv, hl, _⟩ := I.list hs
  rw [Vals.ref1 r]
  obtain ⟨w1, rfl, t, rfl⟩ := vals1 rz
  obtain ⟨xs, e⟩ := rv.ints.allInts.items
  have hn : numsOf (intItems xs).toList = ns := by rw [← e]; exact rv.ints.numsOf
  rw [nums_intItems] at hn
  subst hn
  have hl := hl.isList
  rw [e] at hl
  show wpAny _ _ (call (.builtin "max") [.ref a] [("default", .int d t)]) _ _ _
  refine MaxD.call_maxd (I.ok.hd hc) hl fun v h' tk h0 hv hk => ?_
  have hlen : (xs.toList.map (·.1)).length = xs.size := by rw [List.length_map, Array.length_toList]
  by_cases c : xs.size = 0
  · obtain rfl := h0 c
    refine ⟨.int d, H, I.kept hk, ⟨_, rfl⟩, q d (fun _ => rfl) fun h => absurd (List.eq_nil_of_length_eq_zero (by rw [hlen]; exact c)) h⟩
  · obtain ⟨t', rfl⟩ := intItems_at (hv (by omega))
    obtain ⟨h1, h2⟩ := argBest_gt (numAt xs) (xs.size - 1)
    refine ⟨.int _, H, I.kept hk, ⟨_, rfl⟩, q _ (fun h => absurd (by rw [← hlen, h]; rfl) c) fun _ => ⟨?_, fun y hy => ?_⟩⟩
    · rw [numAt_eq]
      exact PySem.getD_mem (by rw [hlen]; omega)
    · obtain ⟨j, hj, rfl⟩ := mem_getD hy
      rw [hlen] at hj
      rw [← numAt_eq]
      exact h2 j (by omega)
end L2

set_option Elab.async false
set_option linter.all false
set_option maxRecDepth 100000
namespace My
open PySem L2
/-! ### all steps, in their order -/
/-- what a walk over waiting steps (the next one first) finds, at most so many -/
def walk : Nat → List PyData → List PyData
  | 0, _ => []
  | _ + 1, [] => []
  | n + 1, d :: r => d :: walk n ((kids d).reverse ++ r)
theorem walk_nil (n : Nat) : walk n [] = [] := by cases n <;> rfl
theorem walk_zero (l : List PyData) : walk 0 l = [] := by cases l <;> rfl
theorem kids_len (d : PyData) : (kids d).length ≤ 2 := by
  unfold kids
  split
  · split
    · rw [List.length_take]
      unfold widOf
      have : ∀ n m : Nat, n ≤ 2 → min n m ≤ 2 := fun n m h => Nat.le_trans (Nat.min_le_left _ _) h
      refine this _ _ ?_
      repeat' split
      all_goals decide
    · exact Nat.zero_le _
  · exact Nat.zero_le _
theorem dpAll_app {K : PySem.W.Frag} {H : Hp} : ∀ {xs : List V} {ds : List PyData} {ys : List V} {es : List PyData}, DpAll K H xs ds → DpAll K H ys es → DpAll K H (xs ++ ys) (ds ++ es)
  | _, _, _, _, .nil, h => h
  | _, _, _, _, .cons a b, h => .cons a (dpAll_app b h)
theorem dpAll_last {K : PySem.W.Frag} {H : Hp} : ∀ {xs : List V} {ds : List PyData}, DpAll K H xs ds → xs ≠ [] → ∃ xs' x ds' d, xs = xs' ++ [x] ∧ ds = ds' ++ [d] ∧ DpAll K H xs' ds' ∧ Dp K H x d
  | _, _, .nil, h => absurd rfl h
  | _, _, .cons (v := x) (vs := xs) a b, _ => by
    cases b with
    | nil => exact ⟨[], x, [], _, rfl, rfl, .nil, a⟩
    | cons b1 b2 =>
      obtain ⟨xs', y, ds', d, e1, e2, h1, h2⟩ := dpAll_last (.cons b1 b2) (List.cons_ne_nil _ _)
      rw [e1, e2]
      exact ⟨_ :: xs', y, _ :: ds', d, rfl, rfl, .cons a h1, h2⟩
theorem dpAll_rev {K : PySem.W.Frag} {H : Hp} : ∀ {xs : List V} {ds : List PyData}, DpAll K H xs ds → DpAll K H xs.reverse ds.reverse
  | _, _, .nil => .nil
  | _, _, .cons a b => by
    rw [List.reverse_cons, List.reverse_cons]
    exact dpAll_app (dpAll_rev b) (.cons a .nil)
abbrev ssteps_in_order : Stmt := top 35
abbrev Nsteps_in_order : List Str := ["steps", "most", "found", "waiting", "step"]
abbrev Psteps_in_order : List Str := ["steps", "most"]
theorem scsteps_in_order : FnScope Nsteps_in_order Psteps_in_order (defScope ssteps_in_order) := ⟨rfl, rfl, rfl, by decide +kernel, rfl, by decide +kernel, by decide +kernel⟩
def spInOrder (K : PySem.W.Frag) : Sp := fun vs H Q _ => ∃ v D, ∃ n : Nat, vs = [v, .int n] ∧ Dp K H v D ∧ n ≤ 400 ∧ ∀ H' p us, Same H H' → H p = none → H' p = some (.lst us) → DpAll K H us (walk (n + 1) [D]).reverse → Q (.ref p) H'
section
variable {P : Program} {w : World} {K : PySem.W.Frag} {mg : Str → Option Value} {base : Heap} {f : Addr} {fd : FuncData}
theorem oksteps_in_order (T : Txt K mg) (Csteps_within : Cal P w K mg base "steps_within" 2 Nis_integer (spWithin K)) (F : Fun K "steps_in_order" "steps_in_order" ssteps_in_order f fd) : FnOk P w K mg base CX0 3 f fd Psteps_in_order (spInOrder K) := by
  refine F.ok scsteps_in_order (fun vs H Q E h => ?_) (fun cdv A outer s H vs Q E hr h => ?_)
  · obtain ⟨v, D, n, rfl, _⟩ := h
    rfl
  obtain ⟨v, D, n, rfl, hv, hn, q⟩ := h
  refine ⟨_, (pss_cons (ps_set (i := 2) scsteps_in_order.nd rfl (Or.inl rfl) (pe_lst pa_nil))
  (pss_cons (ps_set (i := 3) scsteps_in_order.nd rfl (Or.inl rfl) (pe_lst (pa_cons (pv 0) pa_nil)))
  (pss_cons (ps_while PassesOwn.never (PW.pt (pw_and (pt_truth (pv 3) (by intro _; rfl)) (pw_and1 (pt_cmpR op_le (pe_callB call_len rfl T.len (by decide +kernel) (pa_cons (pv 2) pa_nil)) (pv 1) (nomark _)))))
    (pss_cons (ps_set (i := 4) scsteps_in_order.nd rfl (Or.inl rfl) (pe_bm0 PySem.F.plainAttrs_list PySem.F.slot_list_pop PySem.F.type_list_pop mt_pop (pv 3)))
    (pss_cons (ps_expr (pe_bm PySem.F.plainAttrs_list PySem.F.slot_list_append PySem.F.type_list_append mt_append (pv 2) (pa_cons (pv 4) pa_nil)))
    (pss_one (ps_expr (pe_bm PySem.F.plainAttrs_list PySem.F.slot_list_extend PySem.F.type_list_extend mt_extendT (pv 3) (pa_cons (pe_callC Csteps_within hr (pa_cons (pv 4) pa_nil)) pa_nil)))))))
  (pss_one (ps_ret (pe_revL (pv 2))))))), ?_⟩
  refine ⟨(by show 0 ≤ sizeLine; decide), fun F0 nF => ?_⟩
  refine ⟨_, rfl, (by show 1 ≤ sizeLine; decide), fun L nL => ?_⟩
  have nLF : L ≠ F0 := fun e => by rw [e, upd_same] at nL; cases nL
  have nLH : H L = none := by rw [upd_ne nLF] at nL; exact nL
  refine ⟨fun m σ H' => ∃ (o : Option V) (fs ws : List V) (Fs Ws : List PyData), σ = [some v, some (.int n), some (.ref F0), some (.ref L), o] ∧ Same H H' ∧ H' F0 = some (.lst fs) ∧ H' L = some (.lst ws) ∧ DpAll K H fs Fs ∧ DpAll K H ws Ws ∧
      fs.length + m = n + 1 ∧ ws.length ≤ fs.length + 1 ∧ Fs ++ walk m Ws.reverse = walk (n + 1) [D],
    ⟨n + 1, none, [], [v], [], [D], rfl, same_fresh (same_fresh (Same.refl H) nF) nLH, by rw [upd_ne (Ne.symm nLF)]; exact upd_same, upd_same, .nil, .cons hv .nil, by simp, by simp, rfl⟩, ?_⟩
  rintro m σ H' ⟨o, fs, ws, Fs, Ws, rfl, ks, hF, hL, hf, hw, em, hwl, ew⟩
  have fin : ∀ p, H' p = none → DpAll K H fs (walk (n + 1) [D]) → Q (.ref p) (upd H' p (.lst fs.reverse)) := fun p np hd => by
    have nH : H p = none := by
      cases e : H p with
      | none => rfl
      | some o => rw [ks p o e] at np; cases np
    exact q _ p _ (same_fresh ks nH) nH upd_same (dpAll_rev hd)
  refine ⟨_, rfl, _, .inl ⟨ws, SqL.of hL, rfl⟩, ?_⟩
  by_cases c0 : ws = []
  · subst c0
    cases hw
    rw [List.reverse_nil, walk_nil, List.append_nil] at ew
    refine iteF ?_
    refine iteF ?_
    refine ⟨_, rfl, F0, fs, rfl, SqL.of hF, fun p np => fin p np ?_⟩
    rw [← ew]
    exact hf
  · have c1 : (!ws.isEmpty) = true := by cases ws <;> first | exact absurd rfl c0 | rfl
    rw [c1]
    refine iteT ?_
    refine ⟨_, rfl, _, _, rfl, .inl ⟨fs, SqL.of hF, rfl⟩, _, rfl, _, _, rfl, rfl, _, rfl, ?_⟩
    refine ite2 (fun c => ?_) (fun c => ?_)
    · have c2 : (fs.length : Int) ≤ n := of_decide_eq_true c
      obtain ⟨m, rfl⟩ : ∃ j, m = j + 1 := ⟨m - 1, by omega⟩
      obtain ⟨ws', x, Ws', d, rfl, rfl, hw', hx⟩ := dpAll_last hw c0
      rw [List.reverse_append, List.reverse_cons, List.reverse_nil, List.nil_append, List.singleton_append, walk] at ew
      rw [List.length_append, List.length_singleton] at hwl
      refine ⟨_, fun _ _ h => h, ?_⟩
      refine ⟨_, rfl, .inl ⟨rfl, _, SqL.of hL⟩, L, _, x, rfl, rfl, hL, by simp, ?_⟩
      rw [List.dropLast_concat]
      have e1 : upd H' L (.lst ws') F0 = some (.lst fs) := by rw [upd_ne (Ne.symm nLF)]; exact hF
      have e2 : upd H' L (.lst ws') L = some (.lst ws') := upd_same
      have k1 : Same H (upd H' L (.lst ws')) := same_fresh ks nLH
      generalize upd H' L (.lst ws') = H1 at e1 e2 k1 ⊢
      refine ⟨_, rfl, .inl ⟨rfl, _, SqL.of e1⟩, _, rfl, F0, _, x, rfl, rfl, e1, Nat.le_of_lt (small1000 (by omega)), ?_⟩
      have e3 : upd H1 F0 (.lst (fs ++ [x])) F0 = some (.lst (fs ++ [x])) := upd_same
      have e4 : upd H1 F0 (.lst (fs ++ [x])) L = some (.lst ws') := by rw [upd_ne nLF]; exact e2
      have k2 : Same H (upd H1 F0 (.lst (fs ++ [x]))) := same_fresh k1 nF
      generalize upd H1 F0 (.lst (fs ++ [x])) = H2 at e3 e4 k2 ⊢
      refine ⟨_, rfl, .inl ⟨rfl, _, SqL.of e4⟩, _, rfl, x, d, H, rfl, k2, hx, fun H3 p us s3 e5 hu => ?_⟩
      have hul : us.length ≤ 2 := by rw [dpAll_len hu]; exact kids_len d
      refine ⟨L, p, _, us, rfl, rfl, s3 _ _ e4, e5, Nat.le_of_lt (small1000 (by omega)), ?_⟩
      refine ⟨m, Nat.lt_succ_self m, some x, fs ++ [x], ws' ++ us, Fs ++ [d], Ws' ++ kids d, rfl, same_fresh (k2.trans s3) nLH, by rw [upd_ne (Ne.symm nLF)]; exact s3 _ _ e3, upd_same, dpAll_app hf (.cons hx .nil), dpAll_app hw' hu, ?_, ?_, ?_⟩
      · rw [List.length_append, List.length_singleton]
        omega
      · rw [List.length_append, List.length_append, List.length_singleton]
        omega
      · rw [List.reverse_append, List.append_assoc]
        exact ew
    · have hm0 : m = 0 := by
        have : ¬ ((fs.length : Int) ≤ n) := fun z => c (decide_eq_true z)
        omega
      subst hm0
      rw [walk_zero, List.append_nil] at ew
      refine ⟨_, rfl, F0, fs, rfl, SqL.of hF, fun p np => fin p np ?_⟩
      rw [← ew]
      exact hf
end
end My

set_option Elab.async false
set_option linter.all false
set_option maxRecDepth 100000
namespace My
open PySem L2
/-! ### the tree of the steps -/
theorem kids_lt {D d : PyData} (h : d ∈ kids D) : sizeOf d < sizeOf D := by
  unfold kids at h
  split at h
  · split at h
    · have := List.sizeOf_lt_of_mem (List.mem_of_mem_take h)
      simp only [PyData.tuple.sizeOf_spec, List.cons.sizeOf_spec]
      omega
    · cases h
  · cases h
/-- a fold over the tree -/
def fold {α : Type} (ev : PyData → List α → α) (D : PyData) : α := ev D ((kids D).attach.map fun d => fold ev d.1)
termination_by sizeOf D
decreasing_by exact kids_lt d.2
theorem fold_eq {α : Type} (ev : PyData → List α → α) (D : PyData) : fold ev D = ev D ((kids D).map (fold ev)) := by
  rw [fold]
  congr 1
  exact List.attach_map_val (l := kids D) (f := fold ev) |>.trans rfl
/-- all steps, from the whole on -/
def rpost : PyData → List PyData := fold fun d ls => d :: ls.reverse.flatten
theorem rpost_eq (D : PyData) : rpost D = D :: (kids D).reverse.flatMap rpost := by
  show fold _ D = _
  rw [fold_eq]
  show D :: ((kids D).map rpost).reverse.flatten = _
  rw [← List.map_reverse, List.flatMap_def]
theorem walk_eq : ∀ (n : Nat) (l : List PyData), walk n l = (l.flatMap rpost).take n
  | 0, l => by rw [walk_zero, List.take_zero]
  | n + 1, [] => rfl
  | n + 1, d :: r => by
    rw [walk, walk_eq n, List.flatMap_append, List.flatMap_cons, rpost_eq d, List.cons_append, List.take_succ_cons]
/-- all steps in the order of their numbers -/
def post (D : PyData) : List PyData := (rpost D).reverse
theorem post_eq (D : PyData) : post D = (kids D).flatMap post ++ [D] := by
  unfold post
  rw [rpost_eq, List.reverse_cons, List.reverse_flatMap, List.reverse_reverse]
  rfl
theorem walk_one (n : Nat) (D : PyData) (h : (post D).length ≤ n) : (walk n [D]).reverse = post D := by
  rw [walk_eq, List.flatMap_singleton, List.take_of_length_le]
  · rfl
  · unfold post at h
    rw [List.length_reverse] at h
    exact h
/-! ### what is read off the steps in their order -/
def mach {α : Type} (ev : PyData → List α → α) (s : List α) (d : PyData) : List α := s.take (s.length - (kids d).length) ++ [ev d (s.drop (s.length - (kids d).length))]
def Runs {α : Type} (ev : PyData → List α → α) : List α → List PyData → List α → Prop
  | s, [], t => s = t
  | s, d :: r, t => (kids d).length ≤ s.length ∧ Runs ev (mach ev s d) r t
theorem Runs.app {α : Type} {ev : PyData → List α → α} : ∀ {l r : List PyData} {s t u : List α}, Runs ev s l t → Runs ev t r u → Runs ev s (l ++ r) u
  | [], _, _, _, _, h, g => by
    have h : _ = _ := h
    subst h
    exact g
  | _ :: _, _, _, _, _, ⟨a, h⟩, g => ⟨a, h.app g⟩
theorem runs_post {α : Type} (ev : PyData → List α → α) : ∀ (n : Nat) (D : PyData), sizeOf D ≤ n → ∀ s : List α, Runs ev s (post D) (s ++ [fold ev D])
  | 0, D, h, _ => by cases D <;> simp at h
  | n + 1, D, h, s => by
    have many : ∀ (ds : List PyData), (∀ d, d ∈ ds → sizeOf d ≤ n) → ∀ s : List α, Runs ev s (ds.flatMap post) (s ++ ds.map (fold ev)) := by
      intro ds
      induction ds with
      | nil => exact fun _ s => by rw [List.map_nil, List.append_nil]; exact rfl
      | cons d ds ih =>
        intro hd s
        rw [List.flatMap_cons, List.map_cons]
        have h1 := runs_post ev n d (hd d List.mem_cons_self) s
        have h2 := ih (fun x hx => hd x (List.mem_cons_of_mem _ hx)) (s ++ [fold ev d])
        rw [List.append_assoc, List.singleton_append] at h2
        exact h1.app h2
    rw [post_eq]
    refine (many (kids D) (fun d hd => by have := kids_lt hd; omega) s).app ?_
    refine ⟨by rw [List.length_append, List.length_map]; omega, ?_⟩
    show mach ev _ D = _
    unfold mach
    rw [List.length_append, List.length_map, Nat.add_sub_cancel, List.take_left, List.drop_left, fold_eq ev D]
end My

set_option Elab.async false
set_option linter.all false
set_option maxRecDepth 100000
namespace My
open PySem L2
/-! ### what waits, taken from -/
abbrev staken_from : Stmt := top 36
abbrev Ntaken_from : List Str := ["waiting", "many", "start", "last"]
abbrev Ptaken_from : List Str := ["waiting", "many"]
theorem sctaken_from : FnScope Ntaken_from Ptaken_from (defScope staken_from) := ⟨rfl, rfl, rfl, by decide +kernel, rfl, by decide +kernel, by decide +kernel⟩
abbrev sdepth_of_steps : Stmt := top 37
abbrev Ndepth_of_steps : List Str := ["found", "waiting", "step", "depths"]
abbrev Pdepth_of_steps : List Str := ["found"]
theorem scdepth_of_steps : FnScope Ndepth_of_steps Pdepth_of_steps (defScope sdepth_of_steps) := ⟨rfl, rfl, rfl, by decide +kernel, rfl, by decide +kernel, by decide +kernel⟩
def spTaken (K : PySem.W.Frag) : Sp := fun vs H Q _ => ∃ (L : Addr) (ws : List V) (k : Nat), vs = [.ref L, .int k] ∧ H L = some (.lst ws) ∧ k ≤ ws.length ∧ ws.length ≤ 1000 ∧
  ∀ p, H p = none → Q (.ref p) (upd (upd H p (.lst (ws.drop (ws.length - k)))) L (.lst (ws.take (ws.length - k))))
/-- the depth -/
def depEv : PyData → List Nat → Nat := fun _ ls => 1 + ls.foldl max 0
def depS (D : PyData) : Nat := fold depEv D
def spDepthS (K : PySem.W.Frag) : Sp := fun vs H Q _ => ∃ (p : Addr) (us : List V) (D : PyData), vs = [.ref p] ∧ H p = some (.lst us) ∧ DpAll K H us (post D) ∧ (post D).length ≤ 400 ∧ ∀ H', Same H H' → Q (.int (depS D : Nat)) H'
theorem cutFrom (ws : List V) (a : Nat) (h : a ≤ ws.length) : cutV ws (some (a : Int)) none = ws.drop a := by
  unfold cutV
  rw [HT.sIx_nat, HT.sIx_none, Nat.min_eq_left h, List.take_of_length_le]
  rw [List.length_drop]
  exact Nat.le_refl _
theorem fm_ge : ∀ (l : List Nat) (a : Nat), a ≤ l.foldl max a ∧ ∀ y, y ∈ l → y ≤ l.foldl max a
  | [], a => ⟨Nat.le_refl _, fun y h => by cases h⟩
  | x :: l, a => by
    obtain ⟨h1, h2⟩ := fm_ge l (max a x)
    refine ⟨Nat.le_trans (Nat.le_max_left a x) h1, fun y hy => ?_⟩
    rcases List.mem_cons.mp hy with rfl | hy
    · exact Nat.le_trans (Nat.le_max_right a y) h1
    · exact h2 y hy
theorem fm_in : ∀ (l : List Nat) (a : Nat), l.foldl max a = a ∨ l.foldl max a ∈ l
  | [], _ => .inl rfl
  | x :: l, a => by
    rw [List.foldl_cons]
    rcases fm_in l (max a x) with h | h
    · rw [h]
      by_cases c : a ≤ x
      · rw [Nat.max_eq_right c]; exact .inr List.mem_cons_self
      · rw [Nat.max_eq_left (by omega)]; exact .inl rfl
    · exact .inr (List.mem_cons_of_mem _ h)
theorem max_is {l : List Nat} {m : Int} (h0 : l.map (fun n : Nat => (n : Int)) = [] → m = 0) (h1 : l.map (fun n : Nat => (n : Int)) ≠ [] → m ∈ l.map (fun n : Nat => (n : Int)) ∧ ∀ y, y ∈ l.map (fun n : Nat => (n : Int)) → y ≤ m) : m = ((l.foldl max 0 : Nat) : Int) := by
  cases l with
  | nil => exact h0 rfl
  | cons x l =>
    obtain ⟨a, b⟩ := h1 (by simp)
    obtain ⟨n, hn, rfl⟩ := List.mem_map.mp a
    have g1 := (fm_ge (x :: l) 0).2 n hn
    rcases fm_in (x :: l) 0 with e | e
    · rw [e] at g1 ⊢
      omega
    · have g2 := b _ (List.mem_map.mpr ⟨_, e, rfl⟩)
      omega
theorem dpAll_get {K : PySem.W.Frag} {H : Hp} : ∀ {xs : List V} {ds : List PyData} {i : Nat} {x : V}, DpAll K H xs ds → xs[i]? = some x → ∃ d, ds[i]? = some d ∧ Dp K H x d
  | _, _, i, x, .nil, e => by simp at e
  | _, _, 0, x, .cons h _, e => by
    simp at e
    subst e
    exact ⟨_, rfl, h⟩
  | _, _, i + 1, x, .cons _ h, e => by
    obtain ⟨d, a, b⟩ := dpAll_get (i := i) h (by simpa using e)
    exact ⟨d, by simpa using a, b⟩
theorem drop_get {α : Type} {l : List α} {i : Nat} {d : α} (h : l[i]? = some d) : l.drop i = d :: l.drop (i + 1) := by
  obtain ⟨hi, rfl⟩ := List.getElem?_eq_some_iff.mp h
  exact List.drop_eq_getElem_cons hi
theorem mach_len {α : Type} (ev : PyData → List α → α) (s : List α) (d : PyData) : (mach ev s d).length ≤ s.length + 1 := by
  unfold mach
  rw [List.length_append, List.length_take, List.length_singleton]
  omega
def natsV (l : List Nat) : List V := l.map fun n => V.int (n : Nat)
section
variable {P : Program} {w : World} {K : PySem.W.Frag} {mg : Str → Option Value} {base : Heap} {f : Addr} {fd : FuncData}
theorem oktaken_from (T : Txt K mg) (F : Fun K "taken_from" "taken_from" staken_from f fd) : FnOk P w K mg base CX0 1 f fd Ptaken_from (spTaken K) := by
  refine F.ok sctaken_from (fun vs H Q E h => ?_) (fun cdv A outer s H vs Q E hr h => ?_)
  · obtain ⟨L, ws, k, rfl, _⟩ := h
    rfl
  obtain ⟨L, ws, k, rfl, hL, hk, hz, q⟩ := h
  refine ⟨_, (pss_cons (ps_set (i := 2) sctaken_from.nd rfl (Or.inl rfl) (pe_op op_sub (pe_callB call_len rfl T.len (by decide +kernel) (pa_cons (pv 0) pa_nil)) (pv 1)))
  (pss_cons (ps_set (i := 3) sctaken_from.nd rfl (Or.inl rfl) (pe_slice sl_list (pv 0) (po_some (pv 2)) po_none))
  (pss_cons (ps_delFrom (pv 0) (pv 2))
  (pss_one (ps_ret (pv 3)))))), ?_⟩
  have e : (ws.length : Int) - (k : Int) = ((ws.length - k : Nat) : Int) := by omega
  refine ⟨_, rfl, _, _, rfl, .inl ⟨ws, SqL.of hL, rfl⟩, _, rfl, _, _, rfl, rfl, ?_⟩
  show gName 2 (V.int ((ws.length : Int) - (k : Int))) _ _ _
  rw [e]
  refine ⟨_, rfl, _, rfl, _, rfl, L, ws, rfl, SqL.of hL, fun p np => ?_⟩
  rw [cutFrom ws _ (Nat.sub_le _ _)]
  have npL : p ≠ L := fun e => by rw [e, hL] at np; cases np
  exact ⟨_, rfl, _, rfl, L, ws, ws.length - k, rfl, rfl, by rw [upd_ne (Ne.symm npL)]; exact hL, Nat.sub_le _ _, _, rfl, q p np⟩
theorem okdepth_of_steps (T : Txt K mg) (Csteps_within : Cal P w K mg base "steps_within" 2 Nis_integer (spWithin K)) (Ctaken_from : Cal P w K mg base "taken_from" 1 Ptaken_from (spTaken K)) (F : Fun K "depth_of_steps" "depth_of_steps" sdepth_of_steps f fd) :
    FnOk P w K mg base CX0 3 f fd Pdepth_of_steps (spDepthS K) := by
  refine F.ok scdepth_of_steps (fun vs H Q E h => ?_) (fun cdv A outer s H vs Q E hr h => ?_)
  · obtain ⟨p, us, D, rfl, _⟩ := h
    rfl
  obtain ⟨p, us, D, rfl, hp, hu, hn, q⟩ := h
  refine ⟨_, (pss_cons (ps_set (i := 1) scdepth_of_steps.nd rfl (Or.inl rfl) (pe_lst pa_nil))
  (pss_cons (ps_for PassesOwn.never rfl (pi_list (pv 0)) (pg_name (i := 2) scdepth_of_steps.nd rfl (Or.inl rfl))
    (pss_cons (ps_set (i := 3) scdepth_of_steps.nd rfl (Or.inl rfl) (pe_callC Ctaken_from hr (pa_cons (pv 1) (pa_cons (pe_callB call_len rfl T.len (by decide +kernel) (pa_cons (pe_callC Csteps_within hr (pa_cons (pv 2) pa_nil)) pa_nil)) pa_nil))))
    (pss_one (ps_expr (pe_bm PySem.F.plainAttrs_list PySem.F.slot_list_append PySem.F.type_list_append mt_append (pv 1) (pa_cons (pe_op op_add pe_int (pe_callBK (cr_maxDf rfl) rfl T.max (by decide +kernel) (pa_cons (pv 3) pa_nil) (pk_cons pe_int pk_nil))) pa_nil))))))
  (pss_one (ps_ret (pe_ix ix_list (pv 1) pe_int (fun _ _ => rfl)))))), ?_⟩
  refine ⟨(by show 0 ≤ sizeLine; decide), fun L nL => ?_⟩
  have Lp : L ≠ p := fun e => by rw [e, hp] at nL; cases nL
  have hul := dpAll_len hu
  have r0 : Runs depEv [] (post D) [depS D] := runs_post depEv (sizeOf D) D (Nat.le_refl _) []
  refine ⟨_, rfl, p, rfl, ⟨us, SqL.of (by rw [upd_ne (Ne.symm Lp)]; exact hp)⟩, for_list (K := K) (a := p) (xs := us) (fun i σ H' => ∃ (o1 o2 : Option V) (ss : List Nat), σ = [some (.ref p), some (.ref L), o1, o2] ∧ Same H H' ∧ H' L = some (.lst (natsV ss)) ∧
      Runs depEv ss ((post D).drop i) [depS D] ∧ ss.length ≤ i) ⟨none, none, [], rfl, same_fresh (Same.refl H) nL, upd_same, r0, Nat.zero_le _⟩ (fun i σ H' _ ⟨_, _, _, _, S, _⟩ => SqL.of (S _ _ hp)) (fun i x σ H' hx ⟨o1, o2, ss, eσ, S, eL, hr2, hs⟩ => ?_) (fun σ H' ⟨o1, o2, ss, eσ, S, eL, hr2, hs⟩ => ?_)⟩
  · subst eσ
    obtain ⟨d, hd, hxd⟩ := dpAll_get hu hx
    rw [drop_get hd] at hr2
    obtain ⟨hk, hr3⟩ := hr2
    have hi : i < us.length := (List.getElem?_eq_some_iff.mp hx).1
    have hsn : (natsV ss).length = ss.length := List.length_map _
    refine ⟨_, rfl, _, rfl, x, d, H, rfl, S, hxd, fun H1 pt ut s1 et hut => ?_⟩
    have hul2 := dpAll_len hut
    refine ⟨_, _, rfl, .inr ⟨ut, et, rfl⟩, ?_⟩
    rw [hul2]
    refine ⟨L, natsV ss, (kids d).length, rfl, s1 _ _ eL, by rw [hsn]; exact hk, by rw [hsn]; omega, fun pl npl => ?_⟩
    have npL : pl ≠ L := fun e => by rw [e, s1 _ _ eL] at npl; cases npl
    have k1 := S.trans s1
    have nplH : H pl = none := by
      cases e : H pl with
      | none => rfl
      | some o => rw [k1 pl o e] at npl; cases npl
    have k2 : Same H (upd (upd H1 pl (.lst ((natsV ss).drop ((natsV ss).length - (kids d).length)))) L (.lst ((natsV ss).take ((natsV ss).length - (kids d).length)))) := same_fresh (same_fresh k1 nplH) nL
    have e1 : upd (upd H1 pl (.lst ((natsV ss).drop ((natsV ss).length - (kids d).length)))) L (.lst ((natsV ss).take ((natsV ss).length - (kids d).length))) pl = some (.lst (natsV (ss.drop (ss.length - (kids d).length)))) := by
      rw [upd_ne npL, upd_same, hsn]
      unfold natsV
      rw [List.map_drop]
    have e2 : upd (upd H1 pl (.lst ((natsV ss).drop ((natsV ss).length - (kids d).length)))) L (.lst ((natsV ss).take ((natsV ss).length - (kids d).length))) L = some (.lst (natsV (ss.take (ss.length - (kids d).length)))) := by
      rw [upd_same, hsn]
      unfold natsV
      rw [List.map_take]
    generalize upd (upd H1 pl (.lst ((natsV ss).drop ((natsV ss).length - (kids d).length)))) L (.lst ((natsV ss).take ((natsV ss).length - (kids d).length))) = H2 at k2 e1 e2 ⊢
    have e1' : SqL K H2 pl (((ss.drop (ss.length - (kids d).length)).map (fun n : Nat => (n : Int))).map V.int) := by
      rw [List.map_map]
      exact SqL.of e1
    refine ⟨_, rfl, .inl ⟨rfl, _, SqL.of e2⟩, _, rfl, pl, _, 0, rfl, rfl, e1', fun m h0 h1 => ?_⟩
    obtain rfl := max_is h0 h1
    refine ⟨_, _, rfl, rfl, L, _, _, rfl, rfl, e2, Nat.lt_of_le_of_lt (Nat.le_of_eq (List.length_map _)) (small1000 (by rw [List.length_take]; omega)), ?_⟩
    refine ⟨_, _, _, rfl, same_fresh k2 nL, ?_, hr3, ?_⟩
    · rw [upd_same]
      unfold mach natsV
      rw [List.map_append]
      show some (HO.lst (_ ++ [V.int (1 + _)])) = some (HO.lst (_ ++ [V.int _]))
      congr 4
    · exact Nat.le_trans (mach_len _ _ _) (by omega)
  · subst eσ
    rw [hul, List.drop_length] at hr2
    have e : ss = [depS D] := hr2
    subst e
    exact ⟨_, rfl, L, _, 0, _, rfl, rfl, SqL.of eL, at0, q _ S⟩
end
end My

set_option Elab.async false
set_option linter.all false
set_option maxRecDepth 100000
namespace My
open PySem L2
/-! ### the ends of steps: parts -/
abbrev swithout : Stmt := top 40
abbrev Nwithout : List Str := ["ends", "at"]
theorem scwithout : FnScope Nwithout Nwithout (defScope swithout) := ⟨rfl, rfl, rfl, by decide +kernel, rfl, by decide +kernel, by decide +kernel⟩
abbrev slink_ends : Stmt := top 41
abbrev Nlink_ends : List Str := ["step", "within"]
theorem sclink_ends : FnScope Nlink_ends Nlink_ends (defScope slink_ends) := ⟨rfl, rfl, rfl, by decide +kernel, rfl, by decide +kernel, by decide +kernel⟩
abbrev sare_numbers : Stmt := top 42
theorem scare_numbers : FnScope Nlink_ends Nlink_ends (defScope sare_numbers) := ⟨rfl, rfl, rfl, by decide +kernel, rfl, by decide +kernel, by decide +kernel⟩
/-- a list without the one with this number -/
def less {α : Type} (l : List α) (n : Nat) : List α := l.take n ++ l.drop (n + 1)
def spWithout (K : PySem.W.Frag) : Sp := fun vs H Q _ => ∃ (a : Addr) (us : List V) (n : Nat), vs = [.ref a, .int n] ∧ SqT K H a us ∧ n < us.length ∧ us.length ≤ 500 ∧ ∀ H' p, Same H H' → SqT K H' p (less us n) → Q (.ref p) H'
/-- the ends of a link, told of any heap -/
def spLinkEnds (K : PySem.W.Frag) : Sp := fun vs H Q _ => ∃ (a : Addr) (x y u : V), vs = [.ref a, u] ∧ SqT K H a [x, y] ∧ ∀ H' p b c, Same H H' → SqT K H' b [.str "good", y] → SqT K H' c [.str "counter", y] → SqT K H' p [.ref b, .ref c] → Q (.ref p) H'
def spAreNumbers (K : PySem.W.Frag) : Sp := fun vs H Q _ => ∃ (a l b c : Addr) (xs us ws : List V) (x y : V) (d e : PyData), vs = [.ref a, .ref l] ∧ SqT K H a xs ∧ xs[3]? = some x ∧ xs[4]? = some y ∧ Dp K H x d ∧ Dp K H y e ∧
  SqL K H l [.ref b, .ref c] ∧ SqT K H b us ∧ SqT K H c ws ∧ Q (.bl (belowD d us.length && belowD e ws.length)) H
theorem cutTo (ws : List V) (a : Nat) (h : a ≤ ws.length) : cutV ws none (some (a : Int)) = ws.take a := by
  unfold cutV
  rw [HT.sIx_nat, HT.sIx_none, Nat.min_eq_left h, List.drop_zero, Nat.sub_zero]
section
variable {P : Program} {w : World} {K : PySem.W.Frag} {mg : Str → Option Value} {base : Heap} {f : Addr} {fd : FuncData}
theorem okwithout (F : Fun K "without" "without" swithout f fd) : FnOk P w K mg base CX0 1 f fd Nwithout (spWithout K) := by
  refine F.ok scwithout (fun vs H Q E h => ?_) (fun cdv A outer s H vs Q E hr h => ?_)
  · obtain ⟨a, us, n, rfl, _⟩ := h
    rfl
  obtain ⟨a, us, n, rfl, ha, hn, hz, q⟩ := h
  refine ⟨_, (pss_one (ps_ret (pe_op op_catTN (pe_slice sl_tupN (pv 0) po_none (po_some (pv 1))) (pe_slice sl_tupN (pv 0) (po_some (pe_op op_add (pv 1) pe_int)) po_none)))), ?_⟩
  refine ⟨_, rfl, _, rfl, n, rfl, a, us, rfl, ha, fun p H1 s1 e1 => ?_⟩
  refine ⟨_, rfl, _, rfl, _, _, rfl, rfl, ((n + 1 : Nat) : Int), ?_, a, us, rfl, (Same.kt s1).seq ha, fun p2 H2 s2 e2 => ?_⟩
  · show V.int ((n : Int) + 1) = _
    rfl
  rw [cutTo us n (Nat.le_of_lt hn)] at e1
  rw [cutFrom us (n + 1) hn] at e2
  refine ⟨p, p2, _, _, rfl, rfl, (Same.kt s2).seq e1, e2, ?_, fun p3 H3 s3 e3 => q H3 p3 ((s1.trans s2).trans s3) e3⟩
  rw [List.length_take, List.length_drop]
  omega
theorem oklink_ends (F : Fun K "link_ends" "link_ends" slink_ends f fd) : FnOk P w K mg base CX0 1 f fd Nlink_ends (spLinkEnds K) := by
  refine F.ok sclink_ends (fun vs H Q E h => ?_) (fun cdv A outer s H vs Q E hr h => ?_)
  · obtain ⟨a, x, y, u, rfl, _⟩ := h
    rfl
  obtain ⟨a, x, y, u, rfl, ha, q⟩ := h
  refine ⟨_, (pss_one (ps_ret (pe_tupN (pa_cons (pe_tupN (pa_cons pe_str (pa_cons (pe_ix ix_tup (pv 0) pe_int (fun _ _ => rfl)) pa_nil))) (pa_cons (pe_tupN (pa_cons pe_str (pa_cons (pe_ix ix_tup (pv 0) pe_int (fun _ _ => rfl)) pa_nil))) pa_nil))))), ?_⟩
  refine ⟨_, rfl, a, _, 1, _, rfl, rfl, ha, rfl, le1k, fun b H1 s1 e1 => ?_⟩
  refine ⟨_, rfl, a, _, 1, _, rfl, rfl, (Same.kt s1).seq ha, rfl, le1k, fun c H2 s2 e2 => ?_⟩
  exact ⟨le1k, fun p H3 s3 e3 => q H3 p b c ((s1.trans s2).trans s3) ((Same.kt (s2.trans s3)).seq e1) ((Same.kt s3).seq e2) e3⟩
theorem okare_numbers (T : Txt K mg) (Cis_number_below : Cal P w K mg base "is_number_below" 2 Nis_number_below (spBelow K)) (F : Fun K "are_numbers" "are_numbers" sare_numbers f fd) : FnOk P w K mg base CX0 3 f fd Nlink_ends (spAreNumbers K) := by
  refine F.ok scare_numbers (fun vs H Q E h => ?_) (fun cdv A outer s H vs Q E hr h => ?_)
  · obtain ⟨a, l, b, c, xs, us, ws, x, y, d, e, rfl, _⟩ := h
    rfl
  obtain ⟨a, l, b, c, xs, us, ws, x, y, d, e, rfl, ha, hx, hy, dx, dy, hl, hb, hc, q⟩ := h
  refine ⟨_, (pss_one (ps_ret (pe_and (pe_callC Cis_number_below hr (pa_cons (pe_ix ix_tup (pv 0) pe_int (fun _ _ => rfl)) (pa_cons (pe_callB call_len rfl T.len (by decide +kernel) (pa_cons (pe_ix ix_list (pv 1) pe_int (fun _ _ => rfl)) pa_nil)) pa_nil))) (pe_one (pe_callC Cis_number_below hr (pa_cons (pe_ix ix_tup (pv 0) pe_int (fun _ _ => rfl)) (pa_cons (pe_callB call_len rfl T.len (by decide +kernel) (pa_cons (pe_ix ix_list (pv 1) pe_int (fun _ _ => rfl)) pa_nil)) pa_nil))))))), ?_⟩
  refine ⟨_, rfl, a, _, 3, _, rfl, rfl, ha, atI_nat (j := 3) hx, _, rfl, l, _, 0, _, rfl, rfl, hl, rfl, _, _, rfl, .inr ⟨us, hb, rfl⟩, x, d, us.length, rfl, dx, _, rfl, ?_⟩
  refine ite2 (fun c1 => ?_) (fun c1 => ?_)
  · rw [c1, Bool.true_and] at q
    exact ⟨_, rfl, a, _, 4, _, rfl, rfl, ha, atI_nat (j := 4) hy, _, rfl, l, _, 1, _, rfl, rfl, hl, rfl, _, _, rfl, .inr ⟨ws, hc, rfl⟩, y, e, ws.length, rfl, dy, q⟩
  · rw [Bool.eq_false_iff.mpr c1, Bool.false_and] at q
    exact q
end
end My

set_option Elab.async false
set_option linter.all false
set_option maxRecDepth 100000
namespace My
open PySem L2
/-! ### the ends of steps with two within -/
abbrev sboth_ends : Stmt := top 43
abbrev Nboth_ends : List Str := ["step", "within", "one", "other", "i", "j"]
theorem scboth_ends : FnScope Nboth_ends Nlink_ends (defScope sboth_ends) := ⟨rfl, rfl, rfl, by decide +kernel, rfl, by decide +kernel, by decide +kernel⟩
theorem below_of {d : PyData} {n : Nat} (h : belowD d n = true) : ∃ i : Nat, d = .int i ∧ i < n := by
  cases d with
  | int i =>
    have h' : (decide (0 ≤ i) && decide (i < (n : Int))) = true := h
    rw [Bool.and_eq_true] at h'
    have h1 := of_decide_eq_true h'.1
    have h2 := of_decide_eq_true h'.2
    exact ⟨i.toNat, by rw [Int.toNat_of_nonneg h1], by omega⟩
  | _ => cases h
/-- a step with the numbers x, y of ends of the two within -/
structure Two (K : PySem.W.Frag) (H : Hp) (a l b c : Addr) (xs us ws : List V) (x y : V) (d e : PyData) : Prop where
  st : SqT K H a xs
  x3 : xs[3]? = some x
  x4 : xs[4]? = some y
  dx : Dp K H x d
  dy : Dp K H y e
  l : SqL K H l [.ref b, .ref c]
  b : SqT K H b us
  c : SqT K H c ws
  hb : us.length ≤ 100
  hc : ws.length ≤ 100
def two (us ws : List V) (d e : PyData) : Bool := belowD d us.length && belowD e ws.length
def spBothEnds (K : PySem.W.Frag) : Sp := fun vs H Q _ => ∃ a l b c xs us ws x y d e, vs = [.ref a, .ref l] ∧ Two K H a l b c xs us ws x y d e ∧ (two us ws d e = false → Q .non H) ∧
  ∀ (i j : Nat), x = .int i → y = .int j → ∀ u v, us[i]? = some u → ws[j]? = some v → ∀ H' p r, Same H H' → SqT K H' r [.str "both", u, v] → SqT K H' p (less us i ++ less ws j ++ [.ref r]) → Q (.ref p) H'
theorem less_len {α : Type} (l : List α) (n : Nat) : (less l n).length ≤ l.length := by
  unfold less
  rw [List.length_append, List.length_take, List.length_drop]
  omega
section
variable {P : Program} {w : World} {K : PySem.W.Frag} {mg : Str → Option Value} {base : Heap} {f : Addr} {fd : FuncData}
theorem okboth_ends (Care_numbers : Cal P w K mg base "are_numbers" 3 Nlink_ends (spAreNumbers K)) (Cwithout : Cal P w K mg base "without" 1 Nwithout (spWithout K)) (F : Fun K "both_ends" "both_ends" sboth_ends f fd) : FnOk P w K mg base CX0 4 f fd Nlink_ends (spBothEnds K) := by
  refine F.ok scboth_ends (fun vs H Q E h => ?_) (fun cdv A outer s H vs Q E hr h => ?_)
  · obtain ⟨a, l, b, c, xs, us, ws, x, y, d, e, rfl, _⟩ := h
    rfl
  obtain ⟨a, l, b, c, xs, us, ws, x, y, d, e, rfl, T, q0, q⟩ := h
  refine ⟨_, (pss_cons (ps_if (pt_not (pt_val (pe_callC Care_numbers hr (pa_cons (pv 0) (pa_cons (pv 1) pa_nil)))))
    (pss_one (ps_ret pe_non))
    pss_nil)
  (pss_cons (ps_asg (pv 1) (pg_lst rfl (pgs_cons (pg_name (i := 2) scboth_ends.nd rfl (Or.inl rfl)) (pgs_cons (pg_name (i := 3) scboth_ends.nd rfl (Or.inl rfl)) pgs_nil))))
  (pss_cons (ps_par (i := 4) (j := 5) (by rfl) scboth_ends.nd rfl rfl (by decide) rfl rfl (pa_cons (pe_ix ix_tup (pv 0) pe_int (fun _ _ => rfl)) (pa_cons (pe_ix ix_tup (pv 0) pe_int (fun _ _ => rfl)) pa_nil)) (by rfl))
  (pss_one (ps_ret (pe_op op_catTN (pe_op op_catTN (pe_callC Cwithout hr (pa_cons (pv 2) (pa_cons (pv 4) pa_nil))) (pe_callC Cwithout hr (pa_cons (pv 3) (pa_cons (pv 5) pa_nil)))) (pe_tupN (pa_cons (pe_tupN (pa_cons pe_str (pa_cons (pe_ix ix_tup (pv 2) (pv 4) (fun _ _ => rfl)) (pa_cons (pe_ix ix_tup (pv 3) (pv 5) (fun _ _ => rfl)) pa_nil)))) pa_nil)))))))), ?_⟩
  refine ⟨_, rfl, _, rfl, a, l, b, c, xs, us, ws, x, y, d, e, rfl, T.st, T.x3, T.x4, T.dx, T.dy, T.l, T.b, T.c, _, rfl, ?_⟩
  by_cases c0 : two us ws d e = true
  · have c1 : (belowD d us.length && belowD e ws.length) = true := c0
    rw [c1]
    rw [Bool.and_eq_true] at c1
    obtain ⟨i, rfl, hi⟩ := below_of c1.1
    obtain ⟨j, rfl, hj⟩ := below_of c1.2
    have ex : x = .int i := by cases T.dx; rfl
    have ey : y = .int j := by cases T.dy; rfl
    subst ex
    subst ey
    refine iteF ?_
    have hu := List.getElem?_eq_getElem hi
    have hv := List.getElem?_eq_getElem hj
    generalize us[i] = u at hu
    generalize ws[j] = v at hv
    refine ⟨_, rfl, l, _, rfl, T.l, rfl, _, _, rfl, _, _, rfl, rfl, ?_⟩
    refine ⟨_, rfl, a, _, 3, _, rfl, rfl, T.st, atI_nat (j := 3) T.x3, _, rfl, a, _, 4, _, rfl, rfl, T.st, atI_nat (j := 4) T.x4, _, _, rfl, ?_⟩
    have l1 := less_len us i
    have l2 := less_len ws j
    have hb := T.hb
    have hc := T.hc
    refine ⟨_, rfl, _, rfl, b, us, i, rfl, T.b, hi, by omega, fun H1 p1 s1 e1 => ?_⟩
    refine ⟨_, rfl, _, rfl, c, ws, j, rfl, (Same.kt s1).seq T.c, hj, by omega, fun H2 p2 s2 e2 => ?_⟩
    refine ⟨p1, p2, _, _, rfl, rfl, (Same.kt s2).seq e1, e2, by omega, fun p3 H3 s3 e3 => ?_⟩
    have s13 := (s1.trans s2).trans s3
    refine ⟨_, rfl, _, rfl, b, us, i, u, rfl, rfl, (Same.kt s13).seq T.b, atI_nat hu, _, rfl, _, rfl, c, ws, j, v, rfl, rfl, (Same.kt s13).seq T.c, atI_nat hv, le1k, fun r H4 s4 e4 => ?_⟩
    refine ⟨le1k, fun p5 H5 s5 e5 => ?_⟩
    refine ⟨p3, p5, _, _, rfl, rfl, (Same.kt (s4.trans s5)).seq e3, e5, ?_, fun p6 H6 s6 e6 => q i j rfl rfl u v hu hv H6 p6 r ((s13.trans s4).trans (s5.trans s6)) ((Same.kt (s5.trans s6)).seq e4) e6⟩
    rw [List.length_append]
    show _ + 1 ≤ 1000
    omega
  · have c1 : (belowD d us.length && belowD e ws.length) = false := Bool.eq_false_iff.mpr c0
    rw [c1]
    exact iteT (q0 c1)
end
end My

set_option Elab.async false
set_option linter.all false
set_option maxRecDepth 100000
namespace My
open PySem L2
/-! ### the ends of a choose -/
abbrev schoose_ends : Stmt := top 46
abbrev Nchoose_ends : List Str := ["step", "within", "one", "i", "side", "form"]
theorem scchoose_ends : FnScope Nchoose_ends Nlink_ends (defScope schoose_ends) := ⟨rfl, rfl, rfl, by decide +kernel, rfl, by decide +kernel, by decide +kernel⟩
/-- a step with one within -/
structure One (K : PySem.W.Frag) (H : Hp) (a l b : Addr) (xs us : List V) : Prop where
  st : SqT K H a xs
  l : SqL K H l [.ref b]
  b : SqT K H b us
  hb : us.length ≤ 100
def spChooseEnds (K : PySem.W.Frag) : Sp := fun vs H Q _ => ∃ a l b xs us x y z d e, vs = [.ref a, .ref l] ∧ One K H a l b xs us ∧ xs[2]? = some x ∧ xs[3]? = some y ∧ xs[4]? = some z ∧ Dp K H x d ∧ Dp K H y e ∧
  ((belowD d us.length && belowD e 2) = false → ∀ H', Same H H' → Q .non H') ∧
  ∀ (i j : Nat), x = .int i → y = .int j → j < 2 → ∀ u, us[i]? = some u → ∀ H' p r, Same H H' → SqT K H' r (if j = 0 then [.str "chosen", u, z] else [.str "chosen", z, u]) → SqT K H' p (less us i ++ [.ref r]) → Q (.ref p) H'
section
variable {P : Program} {w : World} {K : PySem.W.Frag} {mg : Str → Option Value} {base : Heap} {f : Addr} {fd : FuncData}
theorem okchoose_ends (T : Txt K mg) (Cis_number_below : Cal P w K mg base "is_number_below" 2 Nis_number_below (spBelow K)) (Cis_side : Cal P w K mg base "is_side" 3 Nis_integer (spSide K)) (Cwithout : Cal P w K mg base "without" 1 Nwithout (spWithout K))
    (F : Fun K "choose_ends" "choose_ends" schoose_ends f fd) : FnOk P w K mg base CX0 4 f fd Nlink_ends (spChooseEnds K) := by
  refine F.ok scchoose_ends (fun vs H Q E h => ?_) (fun cdv A outer s H vs Q E hr h => ?_)
  · obtain ⟨a, l, b, xs, us, x, y, z, d, e, rfl, _⟩ := h
    rfl
  obtain ⟨a, l, b, xs, us, x, y, z, d, e, rfl, O, hx, hy, hz, dx, dy, q0, q⟩ := h
  refine ⟨_, (pss_cons (ps_set (i := 2) scchoose_ends.nd rfl (Or.inl rfl) (pe_ix ix_list (pv 1) pe_int (fun _ _ => rfl)))
  (pss_cons (ps_par3 (i := 3) (j := 4) (l := 5) (by rfl) scchoose_ends.nd rfl rfl rfl (by decide) (by decide) (by decide) rfl rfl rfl (pa_cons (pe_ix ix_tup (pv 0) pe_int (fun _ _ => rfl)) (pa_cons (pe_ix ix_tup (pv 0) pe_int (fun _ _ => rfl)) (pa_cons (pe_ix ix_tup (pv 0) pe_int (fun _ _ => rfl)) pa_nil))) (by rfl))
  (pss_cons (ps_if (PW.pt (pw_or (pt_not (pt_val (pe_callC Cis_number_below hr (pa_cons (pv 3) (pa_cons (pe_callB call_len rfl T.len (by decide +kernel) (pa_cons (pv 2) pa_nil)) pa_nil))))) (pw_or1 (pt_not (pt_val (pe_callC Cis_side hr (pa_cons (pv 4) pa_nil)))))))
    (pss_one (ps_ret pe_non))
    pss_nil)
  (pss_cons (ps_if (pt_cmpR op_eq (pv 4) pe_int (nomark _))
    (pss_one (ps_ret (pe_op op_catTN (pe_callC Cwithout hr (pa_cons (pv 2) (pa_cons (pv 3) pa_nil))) (pe_tupN (pa_cons (pe_tupN (pa_cons pe_str (pa_cons (pe_ix ix_tup (pv 2) (pv 3) (fun _ _ => rfl)) (pa_cons (pv 5) pa_nil)))) pa_nil)))))
    pss_nil)
  (pss_one (ps_ret (pe_op op_catTN (pe_callC Cwithout hr (pa_cons (pv 2) (pa_cons (pv 3) pa_nil))) (pe_tupN (pa_cons (pe_tupN (pa_cons pe_str (pa_cons (pv 5) (pa_cons (pe_ix ix_tup (pv 2) (pv 3) (fun _ _ => rfl)) pa_nil)))) pa_nil))))))))), ?_⟩
  refine ⟨_, rfl, l, _, 0, _, rfl, rfl, O.l, rfl, ?_⟩
  refine ⟨_, rfl, a, _, 2, _, rfl, rfl, O.st, atI_nat (j := 2) hx, _, rfl, a, _, 3, _, rfl, rfl, O.st, atI_nat (j := 3) hy, _, rfl, a, _, 4, _, rfl, rfl, O.st, atI_nat (j := 4) hz, _, _, _, rfl, ?_⟩
  have s0 : Same H H := Same.refl H
  have hb := (Same.kt s0).seq O.b
  refine ⟨_, rfl, _, rfl, _, _, rfl, .inr ⟨us, hb, rfl⟩, x, d, us.length, rfl, dp_same s0 _ _ dx, _, rfl, ?_⟩
  by_cases c1 : belowD d us.length = true
  · rw [c1] at q0 ⊢
    refine iteF ⟨_, rfl, y, e, rfl, dp_same s0 _ _ dy, _, rfl, ?_⟩
    by_cases c2 : belowD e 2 = true
    · rw [c2]
      refine iteF ?_
      obtain ⟨i, rfl, hi⟩ := below_of c1
      obtain ⟨j, rfl, hj⟩ := below_of c2
      have ex : x = .int i := by cases dx; rfl
      have ey : y = .int j := by cases dy; rfl
      subst ex
      subst ey
      have hu := List.getElem?_eq_getElem hi
      generalize us[i] = u at hu
      have l1 := less_len us i
      have hb100 := O.hb
      refine ⟨_, rfl, rfl, _, rfl, ?_⟩
      refine ite2 (fun c3 => ?_) (fun c3 => ?_)
      · have c4 : (V.int j) = .int 0 := of_decide_eq_true c3
        have c5 : j = 0 := by
          have := V.int.inj c4
          omega
        subst c5
        refine ⟨_, rfl, _, rfl, b, us, i, rfl, hb, hi, by omega, fun H1 p1 s1 e1 => ?_⟩
        refine ⟨_, rfl, _, rfl, b, us, i, u, rfl, rfl, (Same.kt s1).seq hb, atI_nat hu, _, rfl, le1k, fun r H2 s2 e2 => ⟨le1k, fun p3 H3 s3 e3 => ?_⟩⟩
        refine ⟨p1, p3, _, _, rfl, rfl, (Same.kt (s2.trans s3)).seq e1, e3, (by show _ + 1 ≤ 1000; omega), fun p4 H4 s4 e4 => q i 0 rfl rfl (by omega) u hu H4 p4 r ((s0.trans s1).trans ((s2.trans s3).trans s4)) ?_ e4⟩
        rw [if_pos rfl]
        exact (Same.kt (s3.trans s4)).seq e2
      · have c5 : ¬ j = 0 := fun z => c3 (by subst z; rfl)
        refine ⟨_, rfl, _, rfl, b, us, i, rfl, hb, hi, by omega, fun H1 p1 s1 e1 => ?_⟩
        refine ⟨_, rfl, _, rfl, _, rfl, b, us, i, u, rfl, rfl, (Same.kt s1).seq hb, atI_nat hu, le1k, fun r H2 s2 e2 => ⟨le1k, fun p3 H3 s3 e3 => ?_⟩⟩
        refine ⟨p1, p3, _, _, rfl, rfl, (Same.kt (s2.trans s3)).seq e1, e3, (by show _ + 1 ≤ 1000; omega), fun p4 H4 s4 e4 => q i j rfl rfl hj u hu H4 p4 r ((s0.trans s1).trans ((s2.trans s3).trans s4)) ?_ e4⟩
        rw [if_neg c5]
        exact (Same.kt (s3.trans s4)).seq e2
    · rw [Bool.eq_false_iff.mpr c2] at q0 ⊢
      exact iteT (q0 rfl H s0)
  · rw [Bool.eq_false_iff.mpr c1] at q0 ⊢
    exact iteT (iteT (q0 rfl H s0))
end
end My

set_option Elab.async false
set_option linter.all false
set_option maxRecDepth 100000
namespace L2
open PySem PySem.Spec PyProof.Rows
/-- sorted(xs), xs a tuple of ints -/
def rSortedIT (K : PySem.W.Frag) : List V → Hp → VK → Prop := fun vs H Q => ∃ (a : Addr) (ns : List Int), vs = [V.ref a] ∧ SqT K H a (ns.map V.int) ∧
  ∀ (ns' : List Int) (p : Addr), ns'.Perm ns → ns'.Pairwise (· ≤ ·) → H p = none → Q (.ref p) (upd H p (.lst (ns'.map V.int)))
theorem cr_sortedIT {X : Cx} : CallR X (.builtin "sorted") (rSortedIT X.K) := by
  intro pins s σ H vs us Q I r h
  obtain ⟨a, ns, rfl, hs, q⟩ := h
  obtain ⟨its, rv, ⟨o, ho, hcl, n, hd⟩, hz⟩ := I.tuple hs
  rw [Vals.ref1 r]
  have hi := rv.ints
  have hz' : its.length ≤ sizeLine := by rw [← rv.length]; exact hz
  refine Calls.call_function_entry kind_sorted plain_sorted entry_sorted (args_sorted1 _) ?_
  unfold Builtin.«sorted»
  refine wpAny_bind (m := checkCount "sorted" 1 1 _) (wpAny_pure ?_)
  refine wpAny_bind (wpAny_collect_seq a (.inr rfl) ho hcl hd (fun h' hk => ?_) (by rw [List.size_toArray]; exact hz'))
  have I1 : Inv X pins σ H { s with heap := h' } := I.kept (t' := s.toks) hk
  refine wpAny_bind (wpAny_newList ?_ hz')
  have hoL : (h'.push (seqObj "list" its.toArray 0)).get? h'.objs.size = some (seqObj "list" its.toArray 0) := Heap.get?_push_size _ rfl
  show wpAny _ _ _ _ _ { s with heap := h'.push (seqObj "list" its.toArray 0) }
  refine wpAny_bind (wpAny_holding (wpAny_call_entry slot_list_sort ⟨_, hoL, rfl⟩ entry_list_sort (SrtO.list_sort_ord SrtO.swo_int hoL hz' (fun h2 => SrtO.ints_sortable hi h2) fun out h1 h2 => ⟨_, rfl, ?_⟩) (args_list_sort _)))
  obtain ⟨k1, k2, k3⟩ := SrtO.ints_out hi h1 h2
  obtain ⟨ep, he'⟩ := PyProof.Rows.sortedHeap_at (vs := its) (out := out.toArray) hoL
  have hlen : ((out.map SrtO.iv).map V.int).length ≤ sizeLine := by
    rw [List.length_map, k2.length_eq]
    rw [List.length_map] at hz
    exact hz
  refine wpAny_pure ⟨_, rfl, ?_⟩
  refine ⟨.ref _, upd H h'.objs.size (.lst ((out.map SrtO.iv).map V.int)), I1.laid (t' := s.toks) (fun b u hb => ?_) (Nat.le_refl _) ⟨hlen, out, ep, vals_of_ints k1, he'⟩, rfl, q _ _ k2 k3 (I1.hok.fresh (Nat.le_refl _))⟩
  rw [PyProof.Rows.sortedHeap_old (Nat.ne_of_lt (Heap.lt_size hb)) (Heap.lt_size (Heap.get?_push_of_some _ hb))]
  exact Heap.get?_push_of_some _ hb
end L2

set_option Elab.async false
set_option linter.all false
set_option maxRecDepth 100000
namespace My
open PySem L2
/-! ### orders -/
abbrev sis_order : Stmt := top 29
abbrev Nis_order : List Str := ["value", "many", "number"]
theorem scis_order : FnScope Nis_order Nis_number_below (defScope sis_order) := ⟨rfl, rfl, rfl, by decide +kernel, rfl, by decide +kernel, by decide +kernel⟩
def intOf : PyData → Int | .int i => i | _ => 0
def rngI (n : Nat) : List Int := (List.range n).map fun i : Nat => (i : Int)
def orderD (ds : List PyData) (n : Nat) : Bool := ds.all isNumD && (ds.map intOf).isPerm (rngI n)
def spOrder (K : PySem.W.Frag) : Sp := fun vs H Q _ => ∃ (a : Addr) (us : List V) (ds : List PyData) (n : Nat), vs = [.ref a, .int n] ∧ SqT K H a us ∧ DpAll K H us ds ∧ us.length ≤ 1000 ∧ n ≤ 1000 ∧ ∀ H', Same H H' → Q (.bl (orderD ds n)) H'
theorem sorted_eq : ∀ {l m : List Int}, l.Perm m → l.Pairwise (· ≤ ·) → m.Pairwise (· ≤ ·) → l = m
  | [], m, p, _, _ => p.nil_eq
  | x :: l, [], p, _, _ => by have := p.length_eq; simp at this
  | x :: l, y :: m, p, h1, h2 => by
    obtain ⟨a1, a2⟩ := List.pairwise_cons.mp h1
    obtain ⟨b1, b2⟩ := List.pairwise_cons.mp h2
    have e : x = y := by
      have hx : x ∈ y :: m := p.mem_iff.mp List.mem_cons_self
      have hy : y ∈ x :: l := p.mem_iff.mpr List.mem_cons_self
      rcases List.mem_cons.mp hx with e | hx
      · exact e
      · rcases List.mem_cons.mp hy with e | hy
        · exact e.symm
        · exact Int.le_antisymm (a1 y hy) (b1 x hx)
    subst e
    rw [sorted_eq (List.Perm.cons_inv p) a2 b2]
theorem rng_sorted (n : Nat) : (rngI n).Pairwise (· ≤ ·) := by
  unfold rngI
  refine List.pairwise_map.mpr (List.pairwise_lt_range.imp fun h => ?_)
  omega
theorem eqv_ints : ∀ (l m : List Int), PyData.eqvAll (l.map PyData.int) (m.map PyData.int) = decide (l = m)
  | [], [] => by simp [PyData.eqvAll]
  | [], _ :: _ => by simp [PyData.eqvAll]
  | _ :: _, [] => by simp [PyData.eqvAll]
  | x :: l, y :: m => by
    rw [List.map_cons, List.map_cons, PyData.eqvAll, eqv_ints l m, PyData.eqv, Bool.eq_iff_iff]
    simp
theorem shaped_intsL (l : List Int) : SeqAt.shaped (.list (l.map PyData.int)) = true := by
  have h1 : ∀ l : List Int, PyData.canLayAll0 (l.map PyData.int) = true := by
    intro l
    induction l with
    | nil => rfl
    | cons x l ih =>
      rw [List.map_cons]
      simp [PyData.canLayAll0, PyData.canLay0, ih]
  have h2 : ∀ l : List Int, PyData.depthAll (l.map PyData.int) = 0 := by
    intro l
    induction l with
    | nil => rfl
    | cons x l ih =>
      rw [List.map_cons]
      simp [PyData.depthAll, PyData.depth, ih]
  unfold SeqAt.shaped
  simp [PyData.canLay0, PyData.depth, h1, h2]
theorem dpAll_intsL {K : PySem.W.Frag} {H : Hp} : ∀ l : List Int, DpAll K H (l.map V.int) (l.map PyData.int)
  | [] => .nil
  | x :: l => .cons (.int x) (dpAll_intsL l)
theorem ints_of {K : PySem.W.Frag} {H : Hp} : ∀ {us : List V} {ds : List PyData}, DpAll K H us ds → ds.all isNumD = true → us = (ds.map intOf).map V.int
  | _, _, .nil, _ => rfl
  | _, d :: ds, .cons h t, e => by
    rw [List.all_cons, Bool.and_eq_true] at e
    rw [List.map_cons, List.map_cons, ← ints_of t e.2]
    cases d with
    | int i => cases h; rfl
    | _ => cases e.1
theorem none_of {H H' : Hp} {p : Addr} (k : Same H H') (n : H' p = none) : H p = none := by
  cases e : H p with
  | none => rfl
  | some o => rw [k p o e] at n; cases n
section
variable {P : Program} {w : World} {K : PySem.W.Frag} {mg : Str → Option Value} {base : Heap} {f : Addr} {fd : FuncData}
theorem okis_order (T : Txt K mg) (hs : mg "sorted" = none) (Cis_integer : Cal P w K mg base "is_integer" 1 Nis_integer (spIsInt K)) (F : Fun K "is_order" "is_order" sis_order f fd) : FnOk P w K mg base CX0 2 f fd Nis_number_below (spOrder K) := by
  refine F.ok scis_order (fun vs H Q E h => ?_) (fun cdv A outer s H vs Q E hr h => ?_)
  · obtain ⟨a, us, ds, n, rfl, _⟩ := h
    rfl
  obtain ⟨a, us, ds, n, rfl, ha, hd, hu, hn, q⟩ := h
  refine ⟨_, (pss_one (ps_ret (pe_and (pe_callB (cr_all rfl) rfl T.all (by decide +kernel) (pa_cons (pe_lc (own := [("number", 2)]) (g := (gName 2)) rfl scis_order.nd (pi_tup (pv 0)) (blkOk_by (own := [("number", 2)]) (N := Nis_order) (sc := defScope sis_order) (by decide +kernel)) (fun _ _ _ _ _ => (pg_name (i := 2) scis_order.nd rfl (Or.inl rfl))) (fun _ _ _ _ _ => pts_nil) (fun _ _ _ _ _ => (pe_callC Cis_integer hr (pa_cons (pv 2) pa_nil)))) pa_nil)) (pe_one (pe_cmpR (op_eqD hr.units) (pe_callB cr_sortedIT rfl hs (by decide +kernel) (pa_cons (pv 0) pa_nil)) (pe_listRg rfl rfl T.list (prg_1 rfl T.range (pv 1))) (nomark _)))))), ?_⟩
  refine ⟨_, rfl, a, rfl, ⟨us, ha⟩, fun D nD => lc_tup (K := K) (a := a) (xs := us) (fun i H' => Same H H' ∧ H' D = some (.lst (((ds.take i).map isNumD).map V.bl))) ⟨same_new nD _, upd_same⟩ (fun i H' _ z => (Same.kt z.1).seq ha) (fun i x H' hx ⟨k, e⟩ => ?_) (fun H' ⟨k, e⟩ => ?_)⟩
  · obtain ⟨d, hdi, hxd⟩ := dpAll_get hd hx
    have hi : i < us.length := (List.getElem?_eq_some_iff.mp hx).1
    refine ⟨rfl, _, rfl, x, d, rfl, dp_same k _ _ hxd, _, e, small1000 ?_, same_fresh k nD, ?_⟩
    · rw [List.length_map, List.length_map, List.length_take]
      omega
    · rw [upd_same, take_next hdi, List.map_append, List.map_append]
      rfl
  · rw [dpAll_len hd, List.take_length] at e
    refine ⟨D, ds.map isNumD, rfl, SqL.of e, _, rfl, ?_⟩
    have e2 : (ds.map isNumD).all id = ds.all isNumD := by rw [List.all_map]; rfl
    rw [e2]
    refine ite2 (fun c => ?_) (fun c => ?_)
    · have eu := ints_of hd c
      have ha' := (Same.kt k).seq ha
      rw [eu] at ha'
      refine ⟨_, rfl, a, ds.map intOf, rfl, ha', fun ns' p hp hs' np => ?_⟩
      have k2 : Same H (upd H' p (.lst (ns'.map V.int))) := same_fresh k (none_of k np)
      have ep : upd H' p (.lst (ns'.map V.int)) p = some (.lst (ns'.map V.int)) := upd_same
      generalize upd H' p (.lst (ns'.map V.int)) = H2 at k2 ep ⊢
      refine ⟨_, rfl, n, rfl, RgOk.of_le (by omega) (by omega) (by omega) (by omega), fun p2 np2 => ?_⟩
      have k3 : Same H (upd H2 p2 (.lst (rgV 0 n))) := same_fresh k2 (none_of k2 np2)
      have er : rgV 0 n = (rngI n).map V.int := by
        unfold rgV rngI
        rw [List.map_map, Int.sub_zero, Int.toNat_natCast]
        refine List.map_congr_left fun i _ => ?_
        show V.int (0 + (i : Int)) = V.int i
        rw [Int.zero_add]
      have e2' : SqL K (upd H2 p2 (.lst (rgV 0 n))) p2 ((rngI n).map V.int) := by rw [← er]; exact SqL.of upd_same
      have e1' : SqL K (upd H2 p2 (.lst (rgV 0 n))) p (ns'.map V.int) := SqL.of (by rw [upd_ne (fun z => by rw [← z, ep] at np2; cases np2)]; exact ep)
      refine ⟨_, _, .lst e1' (dpAll_intsL ns'), .lst e2' (dpAll_intsL (rngI n)), shaped_intsL _, shaped_intsL _, ?_⟩
      have eo : PyData.eqv (.list (ns'.map PyData.int)) (.list ((rngI n).map PyData.int)) = orderD ds n := by
        rw [PyData.eqv, eqv_ints]
        unfold orderD
        rw [c, Bool.true_and, Bool.eq_iff_iff, decide_eq_true_iff, List.isPerm_iff]
        constructor
        · intro z
          subst z
          exact hp.symm
        · exact fun z => sorted_eq (hp.trans z) hs' (rng_sorted n)
      rw [eo]
      exact q _ k3
    · have eo : orderD ds n = false := by
        unfold orderD
        rw [Bool.eq_false_iff.mpr c, Bool.false_and]
      rw [← eo]
      exact q _ k
end
end My

set_option Elab.async false
set_option linter.all false
set_option maxRecDepth 100000
namespace My
open PySem L2
/-! ### the ends of a turn -/
abbrev sturn_ends : Stmt := top 48
abbrev Nturn_ends : List Str := ["step", "within", "one", "order", "at"]
theorem scturn_ends : FnScope Nturn_ends Nlink_ends (defScope sturn_ends) := ⟨rfl, rfl, rfl, by decide +kernel, rfl, by decide +kernel, by decide +kernel⟩
def turnOk (e : PyData) (n : Nat) : Bool := match e with | .tuple os => orderD os n | _ => false
def turned (us : List V) (os : List PyData) : List V := os.map fun d => us.getD (intOf d).toNat .non
def spTurnEnds (K : PySem.W.Frag) : Sp := fun vs H Q _ => ∃ a l b xs us y e, vs = [.ref a, .ref l] ∧ One K H a l b xs us ∧ xs[2]? = some y ∧ Dp K H y e ∧ (∀ os, e = .tuple os → os.length ≤ 1000) ∧
  (turnOk e us.length = false → ∀ H', Same H H' → Q .non H') ∧ ∀ os, e = .tuple os → orderD os us.length = true → ∀ H' p, Same H H' → SqT K H' p (turned us os) → Q (.ref p) H'
theorem order_at {os : List PyData} {n i : Nat} {d : PyData} (h : orderD os n = true) (e : os[i]? = some d) : ∃ k : Nat, d = .int k ∧ k < n := by
  unfold orderD at h
  rw [Bool.and_eq_true, List.isPerm_iff] at h
  have hm : d ∈ os := List.mem_of_getElem? e
  have h1 := List.all_eq_true.mp h.1 d hm
  have h2 : intOf d ∈ rngI n := h.2.mem_iff.mp (List.mem_map.mpr ⟨d, hm, rfl⟩)
  obtain ⟨k, hk, ek⟩ := List.mem_map.mp h2
  cases d with
  | int j =>
    have ek : (k : Int) = j := ek
    subst ek
    exact ⟨k, rfl, List.mem_range.mp hk⟩
  | _ => cases h1
section
variable {P : Program} {w : World} {K : PySem.W.Frag} {mg : Str → Option Value} {base : Heap} {f : Addr} {fd : FuncData}
theorem okturn_ends (T : Txt K mg) (Cis_order : Cal P w K mg base "is_order" 2 Nis_number_below (spOrder K)) (F : Fun K "turn_ends" "turn_ends" sturn_ends f fd) : FnOk P w K mg base CX0 3 f fd Nlink_ends (spTurnEnds K) := by
  refine F.ok scturn_ends (fun vs H Q E h => ?_) (fun cdv A outer s H vs Q E hr h => ?_)
  · obtain ⟨a, l, b, xs, us, y, e, rfl, _⟩ := h
    rfl
  obtain ⟨a, l, b, xs, us, y, e, rfl, O, hy, dy, hlen, q0, q⟩ := h
  refine ⟨_, (pss_cons (ps_set (i := 2) scturn_ends.nd rfl (Or.inr rfl) (pe_ix ix_list (pv 1) pe_int (fun _ _ => rfl)))
  (pss_cons (ps_set (i := 3) scturn_ends.nd rfl (Or.inl rfl) (pe_ix ix_tup (pv 0) pe_int (fun _ _ => rfl)))
  (pss_cons (ps_if (PW.pt (pw_or (pt_not (pt_val (pe_callB call_isi rfl T.isinstance (by decide +kernel) (pa_cons (pv 3) (pa_cons (pe_bltn (v := .ty "tuple") rfl T.tuple (by decide +kernel) rfl) pa_nil))))) (pw_or1 (pt_not (pt_val (pe_callC Cis_order hr (pa_cons (pv 3) (pa_cons (pe_callB call_len rfl T.len (by decide +kernel) (pa_cons (pv 2) pa_nil)) pa_nil))))))))
    (pss_one (ps_ret pe_non))
    pss_nil)
  (pss_one (ps_ret (pe_callTy call_tuple_of rfl T.tuple (by decide +kernel) (pa_cons (pe_lc (own := [("at", 4)]) (g := (gName 4)) rfl scturn_ends.nd (pi_tup (pv 3)) (blkOk_by (own := [("at", 4)]) (N := Nturn_ends) (sc := defScope sturn_ends) (by decide +kernel)) (fun _ _ _ _ _ => (pg_name (i := 4) scturn_ends.nd rfl (Or.inl rfl))) (fun _ _ _ _ _ => pts_nil) (fun _ _ _ _ _ => (pe_ix (show IxR _ (rIxT K) from ix_tup) (pv 2) (pv 4) (fun _ _ => rfl)))) pa_nil))))))), ?_⟩
  refine ⟨_, rfl, l, _, 0, _, rfl, rfl, O.l, rfl, ?_⟩
  refine ⟨_, rfl, a, _, 2, _, rfl, rfl, O.st, atI_nat (j := 2) hy, ?_⟩
  refine ⟨_, rfl, _, _, _, _, _, rfl, .ty "tuple", tyx_of dy, kit_tuple e, _, rfl, ?_⟩
  by_cases ht : isTupD e = true
  · cases e with
    | tuple os =>
      cases dy with
      | @tup o vs _ hT hA =>
      have hol := dpAll_len hA
      have h1000 := hlen os rfl
      have hb100 := O.hb
      refine iteF ⟨_, rfl, _, rfl, _, _, rfl, .inr ⟨us, O.b, rfl⟩, o, vs, os, us.length, rfl, hT, hA, by omega, by omega, fun H1 s1 => ⟨_, rfl, ?_⟩⟩
      by_cases ho : orderD os us.length = true
      · rw [ho]
        refine iteF ?_
        refine ⟨_, rfl, o, rfl, ⟨vs, (Same.kt s1).seq hT⟩, fun D nD => lc_tup (K := K) (a := o) (xs := vs) (fun i H' => Same H1 H' ∧ H' D = some (.lst (turned us (os.take i)))) ⟨same_new nD _, upd_same⟩ (fun i H' _ z => (Same.kt (s1.trans z.1)).seq hT) (fun i x H' hx ⟨k, e⟩ => ?_) (fun H' ⟨k, e⟩ => ?_)⟩
        · obtain ⟨d, hdi, hxd⟩ := dpAll_get hA hx
          obtain ⟨j, rfl, hj⟩ := order_at ho hdi
          cases hxd
          have hu := List.getElem?_eq_getElem hj
          have hi : i < vs.length := (List.getElem?_eq_some_iff.mp hx).1
          refine ⟨rfl, _, rfl, _, rfl, b, us, j, _, rfl, rfl, (Same.kt (s1.trans k)).seq O.b, atI_nat hu, _, e, small1000 ?_, same_fresh k nD, ?_⟩
          · unfold turned
            rw [List.length_map, List.length_take]
            omega
          · rw [upd_same, take_next hdi]
            unfold turned
            rw [List.map_append]
            have eg : us.getD (intOf (.int (j : Int))).toNat .non = us[j] := by
              show us.getD ((j : Int)).toNat .non = _
              rw [Int.toNat_natCast, List.getD_eq_getElem?_getD, hu]
              rfl
            rw [List.map_singleton, eg]
        · rw [hol, List.take_length] at e
          refine ⟨D, _, rfl, .inl ⟨SqL.of e, fun p np => q os rfl ho _ p (same_fresh (s1.trans k) (none_of (s1.trans k) np)) (SqT.of upd_same)⟩⟩
      · rw [Bool.eq_false_iff.mpr ho]
        exact iteT (q0 (Bool.eq_false_iff.mpr ho) H1 s1)
    | _ => cases ht
  · rw [Bool.eq_false_iff.mpr ht]
    refine iteT (iteT (q0 ?_ H (Same.refl H)))
    cases e <;> first | rfl | exact absurd rfl ht
end
end My

set_option Elab.async false
set_option linter.all false
set_option maxRecDepth 100000
namespace My
open PySem L2
/-! ### the ends of a hand on -/
abbrev shand_ends : Stmt := top 47
theorem schand_ends : FnScope Nboth_ends Nlink_ends (defScope shand_ends) := ⟨rfl, rfl, rfl, by decide +kernel, rfl, by decide +kernel, by decide +kernel⟩
theorem FT.deep : ∀ t : FT, t.data.depth = t.dep + 1
  | .leaf co n => by simp [FT.data, PyData.depth, PyData.depthAll, FT.dep]
  | .node s l r => by
    simp [FT.data, PyData.depth, PyData.depthAll, FT.dep, FT.deep l, FT.deep r]
    omega
theorem FT.shaped {t : FT} (ho : t.Ok) (h : t.dep ≤ 12) : SeqAt.shaped t.data = true := shaped_of (short_form (ft_isForm t ho h)) (by rw [FT.deep]; omega)
def spHandEnds (K : PySem.W.Frag) : Sp := fun vs H Q _ => ∃ a l b c xs us ws x y d e ts rs, vs = [.ref a, .ref l] ∧ Two K H a l b c xs us ws x y d e ∧ Paired (fun v t => Fm K H t v) us ts ∧ Paired (fun v t => Fm K H t v) ws rs ∧
  (∀ t, t ∈ ts → t.Ok ∧ t.dep ≤ 12) ∧ (∀ t, t ∈ rs → t.Ok ∧ t.dep ≤ 12) ∧ (two us ws d e = false → Q .non H) ∧
  ∀ (i j : Nat), x = .int i → y = .int j → ∀ t r, ts[i]? = some t → rs[j]? = some r → (PyData.eqv (cnt t).data r.data = false → ∀ H', Same H H' → Q .non H') ∧
    (PyData.eqv (cnt t).data r.data = true → ∀ H' p, Same H H' → SqT K H' p (less us i ++ less ws j) → Q (.ref p) H')
section
variable {P : Program} {w : World} {K : PySem.W.Frag} {mg : Str → Option Value} {base : Heap} {f : Addr} {fd : FuncData}
theorem okhand_ends (Care_numbers : Cal P w K mg base "are_numbers" 3 Nlink_ends (spAreNumbers K)) (Cwithout : Cal P w K mg base "without" 1 Nwithout (spWithout K)) (Ccounter_of : Cal P w K mg base "counter_of" 14 Pcounter_of (spCounterOf K 13))
    (F : Fun K "hand_ends" "hand_ends" shand_ends f fd) : FnOk P w K mg base CX0 15 f fd Nlink_ends (spHandEnds K) := by
  refine F.ok schand_ends (fun vs H Q E h => ?_) (fun cdv A outer s H vs Q E hr h => ?_)
  · obtain ⟨a, l, b, c, xs, us, ws, x, y, d, e, ts, rs, rfl, _⟩ := h
    rfl
  obtain ⟨a, l, b, c, xs, us, ws, x, y, d, e, ts, rs, rfl, T, hts, hrs, dts, drs, q0, q⟩ := h
  refine ⟨_, (pss_cons (ps_if (pt_not (pt_val (pe_callC Care_numbers hr (pa_cons (pv 0) (pa_cons (pv 1) pa_nil)))))
    (pss_one (ps_ret pe_non))
    pss_nil)
  (pss_cons (ps_asg (pv 1) (pg_lst rfl (pgs_cons (pg_name (i := 2) schand_ends.nd rfl (Or.inl rfl)) (pgs_cons (pg_name (i := 3) schand_ends.nd rfl (Or.inl rfl)) pgs_nil))))
  (pss_cons (ps_par (i := 4) (j := 5) (by rfl) schand_ends.nd rfl rfl (by decide) rfl rfl (pa_cons (pe_ix ix_tup (pv 0) pe_int (fun _ _ => rfl)) (pa_cons (pe_ix ix_tup (pv 0) pe_int (fun _ _ => rfl)) pa_nil)) (by rfl))
  (pss_cons (ps_if (pt_cmpR (op_neD hr.units) (pe_callC Ccounter_of hr (pa_cons (pe_ix ix_tup (pv 2) (pv 4) (fun _ _ => rfl)) pa_nil)) (pe_ix ix_tup (pv 3) (pv 5) (fun _ _ => rfl)) (nomark _))
    (pss_one (ps_ret pe_non))
    pss_nil)
  (pss_one (ps_ret (pe_op op_catTN (pe_callC Cwithout hr (pa_cons (pv 2) (pa_cons (pv 4) pa_nil))) (pe_callC Cwithout hr (pa_cons (pv 3) (pa_cons (pv 5) pa_nil)))))))))), ?_⟩
  refine ⟨_, rfl, _, rfl, a, l, b, c, xs, us, ws, x, y, d, e, rfl, T.st, T.x3, T.x4, T.dx, T.dy, T.l, T.b, T.c, _, rfl, ?_⟩
  by_cases c0 : two us ws d e = true
  · have c1 : (belowD d us.length && belowD e ws.length) = true := c0
    rw [c1]
    rw [Bool.and_eq_true] at c1
    obtain ⟨i, rfl, hi⟩ := below_of c1.1
    obtain ⟨j, rfl, hj⟩ := below_of c1.2
    have ex : x = .int i := by cases T.dx; rfl
    have ey : y = .int j := by cases T.dy; rfl
    subst ex
    subst ey
    refine iteF ?_
    have hu := List.getElem?_eq_getElem hi
    have hv := List.getElem?_eq_getElem hj
    generalize us[i] = u at hu
    generalize ws[j] = v at hv
    obtain ⟨t, ht, ft⟩ := paired_take hts hu
    obtain ⟨r, hr', fr⟩ := paired_take hrs hv
    obtain ⟨ot, dt⟩ := dts t (List.mem_of_getElem? ht)
    obtain ⟨or', dr⟩ := drs r (List.mem_of_getElem? hr')
    refine ⟨_, rfl, l, _, rfl, T.l, rfl, _, _, rfl, _, _, rfl, rfl, ?_⟩
    refine ⟨_, rfl, a, _, 3, _, rfl, rfl, T.st, atI_nat (j := 3) T.x3, _, rfl, a, _, 4, _, rfl, rfl, T.st, atI_nat (j := 4) T.x4, _, _, rfl, ?_⟩
    have hb := T.hb
    have hc := T.hc
    have l1 := less_len us i
    have l2 := less_len ws j
    refine ⟨_, rfl, _, rfl, b, us, i, u, rfl, rfl, T.b, atI_nat hu, u, t, rfl, ft, by omega, fun H1 u1 s1 f1 => ?_⟩
    refine ⟨_, rfl, _, rfl, c, ws, j, v, rfl, rfl, (Same.kt s1).seq T.c, atI_nat hv, _, _, FT.of_fm _ f1, FT.of_fm _ ((Same.kt s1).fm r fr), FT.shaped (cnt_ok t ot) (by rw [cnt_dep]; exact dt), FT.shaped or' dr, _, rfl, ?_⟩
    obtain ⟨qn, qt⟩ := q i j rfl rfl t r ht hr'
    cases ce : PyData.eqv (cnt t).data r.data with
    | false => exact iteT (qn ce H1 s1)
    | true =>
      refine iteF ?_
      refine ⟨_, rfl, _, rfl, b, us, i, rfl, (Same.kt s1).seq T.b, hi, by omega, fun H2 p1 s2 e1 => ?_⟩
      refine ⟨_, rfl, _, rfl, c, ws, j, rfl, (Same.kt (s1.trans s2)).seq T.c, hj, by omega, fun H3 p2 s3 e2 => ?_⟩
      exact ⟨p1, p2, _, _, rfl, rfl, (Same.kt s3).seq e1, e2, by omega, fun p3 H4 s4 e3 => qt ce H4 p3 ((s1.trans s2).trans (s3.trans s4)) e3⟩
  · have c1 : (belowD d us.length && belowD e ws.length) = false := Bool.eq_false_iff.mpr c0
    rw [c1]
    exact iteT (q0 c1)
end
end My

set_option Elab.async false
set_option linter.all false
set_option maxRecDepth 100000
namespace My
open PySem L2
/-! ### the ends of an offer -/
abbrev soffer_ends : Stmt := top 45
theorem scoffer_ends : FnScope Nboth_ends Nlink_ends (defScope soffer_ends) := ⟨rfl, rfl, rfl, by decide +kernel, rfl, by decide +kernel, by decide +kernel⟩
theorem shapedL {l : List FT} (h : ∀ t, t ∈ l → t.Ok ∧ t.dep ≤ 12) : SeqAt.shaped (.tuple (l.map FT.data)) = true := by
  have h1 : ∀ l : List FT, (∀ t, t ∈ l → t.Ok ∧ t.dep ≤ 12) → PyData.canLayAll0 (l.map FT.data) = true ∧ PyData.depthAll (l.map FT.data) ≤ 13 := by
    intro l
    induction l with
    | nil => exact fun _ => ⟨rfl, by simp [PyData.depthAll]⟩
    | cons t l ih =>
      intro hh
      obtain ⟨a, b⟩ := ih fun x hx => hh x (List.mem_cons_of_mem _ hx)
      obtain ⟨c, d⟩ := hh t List.mem_cons_self
      have e := SeqAt.canLay_of_shaped (FT.shaped c d)
      have e2 := FT.deep t
      refine ⟨by simp [PyData.canLayAll0, a, e], ?_⟩
      simp only [List.map_cons, PyData.depthAll]
      omega
  obtain ⟨a, b⟩ := h1 l h
  unfold SeqAt.shaped
  simp only [PyData.canLay0, PyData.depth, a, Bool.true_and]
  exact decide_eq_true (by omega)
theorem paired_less {α β : Type} {r : α → β → Prop} : ∀ {xs : List α} {ys : List β} (n : Nat), Paired r xs ys → Paired r (less xs n) (less ys n)
  | _, _, _, .nil => by unfold less; simpa using Paired.nil
  | _, _, 0, .cons _ t => by unfold less; simpa using t
  | _, _, n + 1, .cons h t => by
    have := paired_less n t
    unfold less at this ⊢
    simpa using Paired.cons h this
theorem less_mem {α : Type} {l : List α} {n : Nat} {x : α} (h : x ∈ less l n) : x ∈ l := by
  unfold less at h
  rcases List.mem_append.mp h with h | h
  · exact List.mem_of_mem_take h
  · exact List.mem_of_mem_drop h
theorem fm_paired {K : PySem.W.Frag} {H H' : Hp} (s : Same H H') {us : List V} {ts : List FT} (h : Paired (fun v t => Fm K H t v) us ts) : Paired (fun v t => Fm K H' t v) us ts := paired_imp (fun _ t g => (Same.kt s).fm t g) h
def spOfferEnds (K : PySem.W.Frag) : Sp := fun vs H Q _ => ∃ a l b c xs us ws x y d e ts rs, vs = [.ref a, .ref l] ∧ Two K H a l b c xs us ws x y d e ∧ Paired (fun v t => Fm K H t v) us ts ∧ Paired (fun v t => Fm K H t v) ws rs ∧
  (∀ t, t ∈ ts → t.Ok ∧ t.dep ≤ 12) ∧ (∀ t, t ∈ rs → t.Ok ∧ t.dep ≤ 12) ∧ (two us ws d e = false → Q .non H) ∧
  ∀ (i j : Nat), x = .int i → y = .int j → ∀ u v, us[i]? = some u → ws[j]? = some v → (PyData.eqv (.tuple ((less ts i).map FT.data)) (.tuple ((less rs j).map FT.data)) = false → ∀ H', Same H H' → Q .non H') ∧
    (PyData.eqv (.tuple ((less ts i).map FT.data)) (.tuple ((less rs j).map FT.data)) = true → ∀ H' p r, Same H H' → SqT K H' r [.str "offered", u, v] → SqT K H' p (less us i ++ [.ref r]) → Q (.ref p) H')
section
variable {P : Program} {w : World} {K : PySem.W.Frag} {mg : Str → Option Value} {base : Heap} {f : Addr} {fd : FuncData}
theorem okoffer_ends (Care_numbers : Cal P w K mg base "are_numbers" 3 Nlink_ends (spAreNumbers K)) (Cwithout : Cal P w K mg base "without" 1 Nwithout (spWithout K))
    (F : Fun K "offer_ends" "offer_ends" soffer_ends f fd) : FnOk P w K mg base CX0 4 f fd Nlink_ends (spOfferEnds K) := by
  refine F.ok scoffer_ends (fun vs H Q E h => ?_) (fun cdv A outer s H vs Q E hr h => ?_)
  · obtain ⟨a, l, b, c, xs, us, ws, x, y, d, e, ts, rs, rfl, _⟩ := h
    rfl
  obtain ⟨a, l, b, c, xs, us, ws, x, y, d, e, ts, rs, rfl, T, hts, hrs, dts, drs, q0, q⟩ := h
  refine ⟨_, (pss_cons (ps_if (pt_not (pt_val (pe_callC Care_numbers hr (pa_cons (pv 0) (pa_cons (pv 1) pa_nil)))))
    (pss_one (ps_ret pe_non))
    pss_nil)
  (pss_cons (ps_asg (pv 1) (pg_lst rfl (pgs_cons (pg_name (i := 2) scoffer_ends.nd rfl (Or.inl rfl)) (pgs_cons (pg_name (i := 3) scoffer_ends.nd rfl (Or.inl rfl)) pgs_nil))))
  (pss_cons (ps_par (i := 4) (j := 5) (by rfl) scoffer_ends.nd rfl rfl (by decide) rfl rfl (pa_cons (pe_ix ix_tup (pv 0) pe_int (fun _ _ => rfl)) (pa_cons (pe_ix ix_tup (pv 0) pe_int (fun _ _ => rfl)) pa_nil)) (by rfl))
  (pss_cons (ps_if (pt_cmpR (op_neD hr.units) (pe_callC Cwithout hr (pa_cons (pv 2) (pa_cons (pv 4) pa_nil))) (pe_callC Cwithout hr (pa_cons (pv 3) (pa_cons (pv 5) pa_nil))) (nomark _))
    (pss_one (ps_ret pe_non))
    pss_nil)
  (pss_one (ps_ret (pe_op op_catTN (pe_callC Cwithout hr (pa_cons (pv 2) (pa_cons (pv 4) pa_nil))) (pe_tupN (pa_cons (pe_tupN (pa_cons pe_str (pa_cons (pe_ix ix_tup (pv 2) (pv 4) (fun _ _ => rfl)) (pa_cons (pe_ix ix_tup (pv 3) (pv 5) (fun _ _ => rfl)) pa_nil)))) pa_nil))))))))), ?_⟩
  refine ⟨_, rfl, _, rfl, a, l, b, c, xs, us, ws, x, y, d, e, rfl, T.st, T.x3, T.x4, T.dx, T.dy, T.l, T.b, T.c, _, rfl, ?_⟩
  by_cases c0 : two us ws d e = true
  · have c1 : (belowD d us.length && belowD e ws.length) = true := c0
    rw [c1]
    rw [Bool.and_eq_true] at c1
    obtain ⟨i, rfl, hi⟩ := below_of c1.1
    obtain ⟨j, rfl, hj⟩ := below_of c1.2
    have ex : x = .int i := by cases T.dx; rfl
    have ey : y = .int j := by cases T.dy; rfl
    subst ex
    subst ey
    refine iteF ?_
    have hu := List.getElem?_eq_getElem hi
    have hv := List.getElem?_eq_getElem hj
    generalize us[i] = u at hu
    generalize ws[j] = v at hv
    refine ⟨_, rfl, l, _, rfl, T.l, rfl, _, _, rfl, _, _, rfl, rfl, ?_⟩
    refine ⟨_, rfl, a, _, 3, _, rfl, rfl, T.st, atI_nat (j := 3) T.x3, _, rfl, a, _, 4, _, rfl, rfl, T.st, atI_nat (j := 4) T.x4, _, _, rfl, ?_⟩
    have hb := T.hb
    have hc := T.hc
    have l1 := less_len us i
    refine ⟨_, rfl, _, rfl, b, us, i, rfl, T.b, hi, by omega, fun H1 p1 s1 e1 => ?_⟩
    refine ⟨_, rfl, _, rfl, c, ws, j, rfl, (Same.kt s1).seq T.c, hj, by omega, fun H2 p2 s2 e2 => ?_⟩
    have s12 := s1.trans s2
    refine ⟨_, _, .tup ((Same.kt s2).seq e1) (dp_of_fm (fm_paired s12 (paired_less i hts))), .tup e2 (dp_of_fm (fm_paired s12 (paired_less j hrs))), shapedL fun t h => dts t (less_mem h), shapedL fun t h => drs t (less_mem h), _, rfl, ?_⟩
    obtain ⟨qn, qt⟩ := q i j rfl rfl u v hu hv
    cases ce : PyData.eqv (.tuple ((less ts i).map FT.data)) (.tuple ((less rs j).map FT.data)) with
    | false => exact iteT (qn ce H2 s12)
    | true =>
      refine iteF ?_
      refine ⟨_, rfl, _, rfl, b, us, i, rfl, (Same.kt s12).seq T.b, hi, by omega, fun H3 p3 s3 e3 => ?_⟩
      have s13 := s12.trans s3
      refine ⟨_, rfl, _, rfl, b, us, i, u, rfl, rfl, (Same.kt s13).seq T.b, atI_nat hu, _, rfl, _, rfl, c, ws, j, v, rfl, rfl, (Same.kt s13).seq T.c, atI_nat hv, le1k, fun r H4 s4 e4 => ?_⟩
      refine ⟨le1k, fun p5 H5 s5 e5 => ?_⟩
      exact ⟨p3, p5, _, _, rfl, rfl, (Same.kt (s4.trans s5)).seq e3, e5, (by show _ + 1 ≤ 1000; omega), fun p6 H6 s6 e6 => qt ce H6 p6 r ((s13.trans s4).trans (s5.trans s6)) ((Same.kt (s5.trans s6)).seq e4) e6⟩
  · have c1 : (belowD d us.length && belowD e ws.length) = false := Bool.eq_false_iff.mpr c0
    rw [c1]
    exact iteT (q0 c1)
end
end My

set_option Elab.async false
set_option linter.all false
set_option maxRecDepth 100000
/-! enumerate of a tuple -/
namespace Enu
open PySem PySem.Spec PyProof.Rows L2
set_option maxHeartbeats 1000000 in
theorem meets_enum_tup (l : Addr) (items : Array Value) :
    Meets (Builtin.«enumerate.__new__» ⟨[.type "enumerate", .ref l], []⟩) (fun _ R s => s.heap.IsTuple l items ∧
      R (.ok (.ret (.ref (s.heap.push { cls := .type "tuple_iterator", data := .fields #[.ref l, .int 0 0] }).objs.size)))
        { s with heap := (s.heap.push { cls := .type "tuple_iterator", data := .fields #[.ref l, .int 0 0] }).push { cls := .type "enumerate", data := .fields #[.none, .bool false, .ref s.heap.objs.size, rawInt 0, .none, .none] } }) :=
  .of_wp fun prog w A R s hyp => by
    obtain ⟨hp, g, d, tk, os⟩ := s
    obtain ⟨hl, hyp⟩ := hyp
    have sub := sub_enumerate
    have hL : Heap.IsTuple (Shared.heap ⟨hp, g, d, tk, os⟩) l items := hl
    wp_walk using wpAny_pyIter_tuple hL
    refine wpAny_stack_any fun st => wpAny_pure ?_
    split
    · rename_i c _ _ _ _ _
      cases (c == Value.type "enumerate") <;> (wp_walk using wpAny_pyIter_tuple hL; exact ⟨_, rfl, hyp⟩)
    · wp_walk using wpAny_pyIter_tuple hL
      exact ⟨_, rfl, hyp⟩

section
variable {prog : Program} {w : World} {A : Around} {E : Value → Shared → Prop} {s : Shared}
theorem call_enum_tup {l : Addr} {items : Array Value} {Q : Value → Shared → Prop} (hL : s.heap.IsTuple l items)
    (h : ∀ h', IsEnum h' (s.heap.objs.size + 1) s.heap.objs.size 0 .none → h'.IsTupleIter s.heap.objs.size l 0 → h'.objs.size = s.heap.objs.size + 2 → (∀ b o, s.heap.get? b = some o → h'.get? b = some o) → Q (.ref (s.heap.objs.size + 1)) { s with heap := h' }) :
    wpAny (model prog w) A (call (.type "enumerate") [.ref l]) Q E s := by
  refine callType_new F.called_enumerate (by decide) (F.typeCall_enumerate_1 _) (F.newCall_enumerate_1 _) (fun obj => F.args_object_init_2 obj _) F.entry_enumerate_new (meets_enum_tup l items) ⟨hL, ?_⟩
  have size1 : (s.heap.push { cls := .type "tuple_iterator", data := .fields #[.ref l, .int 0 0] }).objs.size = s.heap.objs.size + 1 := Heap.size_push ..
  show _ ∧ _
  rw [size1]
  have made : IsEnum ((s.heap.push { cls := .type "tuple_iterator", data := .fields #[.ref l, .int 0 0] }).push { cls := .type "enumerate", data := .fields #[.none, .bool false, .ref s.heap.objs.size, rawInt 0, .none, .none] }) (s.heap.objs.size + 1) s.heap.objs.size 0 .none := by
    have g := Heap.get?_push_size (s.heap.push { cls := .type "tuple_iterator", data := .fields #[.ref l, .int 0 0] }) (o := { cls := .type "enumerate", data := .fields #[.none, .bool false, .ref s.heap.objs.size, rawInt 0, .none, .none] }) rfl
    rw [size1] at g
    exact g
  exact ⟨⟨_, made, rfl⟩, h _ made ⟨_, Heap.get?_push_of_some _ (Heap.get?_push_size _ rfl), rfl, rfl⟩ (by rw [Heap.size_push, size1]) fun b o g => Heap.get?_push_of_some _ (Heap.get?_push_of_some _ g)⟩
theorem enum_tup_end {e it l : Addr} {i : Nat} {c : Int} {items : Array Value} {old : Value} {Q : Option Value → Shared → Prop} (hh : A.handled = none) (en : IsEnum s.heap e it c old) (ti : s.heap.IsTupleIter it l i) (tup : s.heap.IsTuple l items) (gone : items[i]? = none)
    (hQ : ∀ h', Heap.ExtBut it s.heap h' → Q none { s with heap := h' }) : wpAny (model prog w) A (pyNext (.ref e)) Q E s := by
  have ty : s.TypeIs (.ref e) "enumerate" := ⟨_, en, rfl⟩
  unfold pyNext
  refine wpAny_bind (wpAny_attempt (wpAny_callSpecial?_slot (name := Str.ofString "__next__") ty F.slot_enumerate_next (wpAny_call_entry F.slot_enumerate_next ty F.entry_enumerate_next ?_ (F.args_enumerate_next_1 _))))
  show wpAny _ _ (field (.ref e) 2 >>= _) _ _ _
  refine wpAny_bind (wpAny_field en rfl (x := .ref it) rfl (wpAny_bind (RZ.nextOf_tuple_end hh ti tup gone fun h' x kept ⟨o, ho, hc⟩ => ?_)))
  exact wpAny_bind (wpAny_isInstance (T := "StopIteration") (b := true) ⟨o, ho, hc⟩ isSubtype_stop (wpAny_pure (hQ _ kept)))
end
/-- the tuple at a as it stands at each turn, each item in a new pair with its number -/
def IteT (K : PySem.W.Frag) (a : Addr) : It :=
  ⟨fun i H => ∃ (xs : List V) (x : V), SqT K H a xs ∧ xs[i]? = some x, fun i H v H' => ∃ T x, v = .ref T ∧ H T = none ∧ H' = upd H T (.tup [.int (i : Nat), x]) ∧ ∀ xs, SqT K H a xs → xs[i]? = some x, fun i H => ∃ xs : List V, SqT K H a xs ∧ xs.length ≤ i⟩
theorem turn_enumT {P : Program} {w : World} {K : PySem.W.Frag} {elts : List Expr} {kk : Nat} {tpos : Pos} (a e it : Addr) :
    Turn P w K (.Tuple elts kk tpos) (IteT K a) [e, it] e (fun i h => (∃ old, IsEnum h e it ((i : Nat) : Int) old) ∧ h.IsTupleIter it a i ∧ e ≠ it ∧ e ≠ a ∧ a ≠ it) where
  mem := by simp
  obj := fun i h st b hb => by
    obtain ⟨⟨old, en⟩, ⟨o, ho, _, hd⟩, _⟩ := st
    rcases (show b = e ∨ b = it by simpa using hb) with z | z
    · subst z
      exact ⟨_, en, fun v q => nomatch q⟩
    · subst z
      exact ⟨o, ho, fun v q => by rw [hd] at q; cases q⟩
  keep := fun i h h' st k => let ⟨⟨old, en⟩, ti, rest⟩ := st; ⟨⟨old, k e (by simp) _ en⟩, ti.at fun o q => k it (by simp) o q, rest⟩
  item := by
    intro X eP ew eK calm i pins s σ H E I fr st go
    subst eP ew eK
    obtain ⟨⟨old, en⟩, ti, n1, n2, n3⟩ := st
    obtain ⟨xs, x, sq, at_⟩ := go
    obtain ⟨its, rv, tup, small⟩ := I.tuple sq
    obtain ⟨u, gu, ru⟩ := rv.get at_
    have le : e < s.heap.objs.size := Heap.lt_size en
    have li : it < s.heap.objs.size := by
      obtain ⟨_, q, _⟩ := ti
      exact Heap.lt_size q
    have lt : i < its.toArray.size := by
      have := (List.getElem?_eq_some_iff.mp gu).1
      simpa using this
    have D := Draws.tuple (prog := X.prog) (w := X.w) (A := X.A.in1) (I.ok.hd calm) it a n3 its.toArray
    refine wpAny_pyNext_enum_itemD D en ⟨ti, tup⟩ lt n1 (by simp [n1, n2]) fun y h' tk gy out next tupl size kept => ?_
    have ey : y = u := by
      have gy' : its[i]? = some y := by simpa using gy
      rw [gu] at gy'
      exact (Option.some.inj gy').symm
    subst ey
    refine ⟨_, rfl, wpAny_letOwnedTupleGo_enum (s := { s with heap := h', toks := tk + 1 }) out fun h'' en' but => ?_⟩
    have tupl2 : h''.get? s.heap.objs.size = some { cls := .type "tuple", data := .seq #[.int i tk, y] } := (but.2 _ (Nat.ne_of_gt le)).trans tupl
    have new : ObjOk X.prog X.w (upd H s.heap.objs.size (.tup [.int (i : Nat), x])) h'' s.heap.objs.size (.tup [.int (i : Nat), x]) :=
      ⟨by show 2 ≤ sizeLine; decide, [.int i tk, y], .cons ⟨_, rfl⟩ (.cons ru .nil), ⟨_, tupl2, rfl, _, rfl⟩⟩
    have J : Inv X pins σ (upd H s.heap.objs.size (.tup [.int (i : Nat), x])) { s with heap := h'', toks := tk + 1 } :=
      I.turnedNew (ch := [e, it]) (fun b ob nb q => (but.2 b (fun z => nb (by simp [z]))).trans (kept b ob (fun z => nb (by simp [z])) (fun z => nb (by simp [z])) q)) fr (Nat.le_refl _) new
    refine ⟨.ref s.heap.objs.size, _, J, rfl, ⟨_, x, rfl, I.hok.fresh (Nat.le_refl _), rfl, fun ys hy => by rw [I.tuple_inj hy sq]; exact at_⟩, ⟨⟨y, ?_⟩, next.1.at fun o q => (but.2 it (Ne.symm n1)).trans q, n1, n2, n3⟩, fun b hb => ?_⟩
    · rw [show ((i + 1 : Nat) : Int) = (i : Int) + 1 by omega]
      exact en'
    · have lb : b < s.heap.objs.size := by
        rcases (show b = e ∨ b = it by simpa using hb) with z | z
        · rw [z]; exact le
        · rw [z]; exact li
      rw [upd_ne (Nat.ne_of_lt lb)]
      exact (fr b hb).1
  done := by
    intro X eP ew eK calm i pins s σ H E I fr st go
    subst eP ew eK
    obtain ⟨⟨old, en⟩, ti, n1, n2, n3⟩ := st
    obtain ⟨xs, sq, over⟩ := go
    obtain ⟨its, rv, tup, small⟩ := I.tuple sq
    obtain ⟨f0, f1, f2, f3, f4, f5⟩ := fr it (by simp)
    have ll := rv.length
    have gone : its.toArray[i]? = none := by
      simp
      omega
    exact enum_tup_end (I.ok.hd calm) en ti tup gone fun h' kept => ⟨rfl, I.turned (t' := s.toks) (fun b o nb q => kept b o nb q) f0 f1 f3 f4 f5⟩
  self := fun A i s Q E st h => let ⟨⟨_, en⟩, _⟩ := st; wpAny_pyIter_enum en h

def iEnumT (K : PySem.W.Frag) (ta : TA) : TI := fun σ H R => ta σ H fun vs H1 => ∃ a xs, vs = [.ref a] ∧ SqT K H1 a xs ∧ R (IteT K a) H1
theorem pi_enumT {X : Cx} {e : Expr} {ta : TA} {p pos tpos : Pos} {elts : List Expr} {kk : Nat} (hg : Gl X "enumerate") (hm : X.mg "enumerate" = none) (ha : PA X [e] ta) (hs : starEach [e] X.env = [(false, eval e X.env)] := by rfl) :
    PI X (.Tuple elts kk tpos) (.Call (.Name "enumerate" p) [e] [] pos) (iEnumT X.K ta) := by
  refine ⟨fun pins s σ H R I h => Call_ (ld_blt I hg hm boot_enumerate (PyProof.Rows.callWith_type1 (thn (ha.run pos pins s σ H _ I h) fun us s1 hh => ?_) hs rfl))⟩
  obtain ⟨vs, H1, I1, r1, a, xs, ex, sq, q⟩ := hh
  subst ex
  cases r1 with
  | cons r rr =>
    cases rr
    cases r
    obtain ⟨its, rv, tup, small⟩ := I1.tuple sq
    have la : a < s1.heap.objs.size := by
      obtain ⟨o, ho, _⟩ := id tup
      exact Heap.lt_size ho
    refine call_enum_tup tup fun h' en ti size kept => wpAny_pyIter_enum en ?_
    have J : Inv X pins σ H1 { s1 with heap := h' } := I1.kept (t' := s1.toks) kept
    refine ⟨s1.heap.objs.size + 1, [s1.heap.objs.size + 1, s1.heap.objs.size], _, _, H1, rfl, J, turn_enumT a (s1.heap.objs.size + 1) s1.heap.objs.size, ⟨⟨.none, en⟩, ti, Nat.succ_ne_self _, Nat.ne_of_gt (Nat.lt_succ_of_lt la), Nat.ne_of_lt la⟩, fun b hb => ?_, q⟩
    have big : s1.heap.objs.size ≤ b := by
      rcases (show b = s1.heap.objs.size + 1 ∨ b = s1.heap.objs.size by simpa using hb) with z | z
      · rw [z]; exact Nat.le_add_right _ _
      · rw [z]; exact Nat.le_refl _
    exact I1.fpOk big (I1.hok.fresh big)
theorem walk_enumT {K : PySem.W.Frag} {a : Addr} {xs : List V} : Walk (IteT K a) xs.length (fun H => SqT K H a xs) (YPair (fun i => some (.int (i : Nat))) (fun i => xs[i]?)) :=
  ⟨fun i _ hi q => ⟨xs, xs[i], q, by simp [hi]⟩, fun _ q => ⟨xs, q, Nat.le_refl _⟩, fun i H v H' _ q y => by
    obtain ⟨T, x, h1, h2, h3, h4⟩ := y
    exact ⟨T, .int (i : Nat), x, h1, h2, h3, rfl, h4 xs q⟩⟩
end Enu

set_option Elab.async false
set_option linter.all false
set_option maxRecDepth 100000
namespace My
open PySem L2
/-! ### the ends of a between -/
abbrev sbetween_ends : Stmt := top 44
abbrev Nbetween_ends : List Str := ["step", "within", "one", "i", "j", "rest", "at", "end"]
theorem scbetween_ends : FnScope Nbetween_ends Nlink_ends (defScope sbetween_ends) := ⟨rfl, rfl, rfl, by decide +kernel, rfl, by decide +kernel, by decide +kernel⟩
def less2 {α : Type} (l : List α) (i j : Nat) : List α := (l.zipIdx.filter fun p => !(p.2 == i || p.2 == j)).map (·.1)
def lessA {α : Type} (l : List α) (i j m : Nat) : List α := ((l.zipIdx.take m).filter fun p => !(p.2 == i || p.2 == j)).map (·.1)
theorem lessA_next {α : Type} {l : List α} {m : Nat} {y : α} (i j : Nat) (h : l[m]? = some y) : lessA l i j (m + 1) = lessA l i j m ++ (if (!(m == i || m == j)) = true then [y] else []) := by
  have hz : l.zipIdx[m]? = some (y, m) := by
    rw [List.getElem?_zipIdx, h]
    simp
  unfold lessA
  rw [take_next hz, List.filter_append, List.map_append]
  congr 1
  by_cases c : (!(m == i || m == j)) = true
  · simp only [List.filter_cons, List.filter_nil, c, if_true, List.map_cons, List.map_nil]
  · rw [Bool.not_eq_true] at c
    simp only [List.filter_cons, List.filter_nil, c, Bool.false_eq_true, if_false, List.map_nil]
def spBetweenEnds (K : PySem.W.Frag) : Sp := fun vs H Q _ => ∃ a l b xs us x y d e, vs = [.ref a, .ref l] ∧ One K H a l b xs us ∧ xs[2]? = some x ∧ xs[3]? = some y ∧ Dp K H x d ∧ Dp K H y e ∧
  ((belowD d us.length && belowD e us.length && !PyData.eqv d e) = false → ∀ H', Same H H' → Q .non H') ∧
  ∀ (i j : Nat), x = .int i → y = .int j → i ≠ j → ∀ u v, us[i]? = some u → us[j]? = some v → ∀ H' p r, Same H H' → SqT K H' r [.str "between", u, v] → SqT K H' p (less2 us i j ++ [.ref r]) → Q (.ref p) H'
section
variable {P : Program} {w : World} {K : PySem.W.Frag} {mg : Str → Option Value} {base : Heap} {f : Addr} {fd : FuncData}
theorem okbetween_ends (T : Txt K mg) (he : mg "enumerate" = none) (Cis_number_below : Cal P w K mg base "is_number_below" 2 Nis_number_below (spBelow K)) (F : Fun K "between_ends" "between_ends" sbetween_ends f fd) : FnOk P w K mg base CX0 3 f fd Nlink_ends (spBetweenEnds K) := by
  refine F.ok scbetween_ends (fun vs H Q E h => ?_) (fun cdv A outer s H vs Q E hr h => ?_)
  · obtain ⟨a, l, b, xs, us, x, y, d, e, rfl, _⟩ := h
    rfl
  obtain ⟨a, l, b, xs, us, x, y, d, e, rfl, O, hx, hy, dx, dy, q0, q⟩ := h
  refine ⟨_, (pss_cons (ps_set (i := 2) scbetween_ends.nd rfl (Or.inl rfl) (pe_ix ix_list (pv 1) pe_int (fun _ _ => rfl)))
  (pss_cons (ps_asg (pe_tupN (pa_cons (pe_ix ix_tup (pv 0) pe_int (fun _ _ => rfl)) (pa_cons (pe_ix ix_tup (pv 0) pe_int (fun _ _ => rfl)) pa_nil))) (pg_tup rfl (pgs_cons (pg_name (i := 3) scbetween_ends.nd rfl (Or.inr rfl)) (pgs_cons (pg_name (i := 4) scbetween_ends.nd rfl (Or.inr rfl)) pgs_nil))))
  (pss_cons (ps_if (PW.pt (pw_or (pt_not (pt_val (pe_callC Cis_number_below hr (pa_cons (pv 3) (pa_cons (pe_callB call_len rfl T.len (by decide +kernel) (pa_cons (pv 2) pa_nil)) pa_nil))))) (pw_or (pt_not (pt_val (pe_callC Cis_number_below hr (pa_cons (pv 4) (pa_cons (pe_callB call_len rfl T.len (by decide +kernel) (pa_cons (pv 2) pa_nil)) pa_nil))))) (pw_or1 (pt_cmpR op_eq (pv 3) (pv 4) (nomark _))))))
    (pss_one (ps_ret pe_non))
    pss_nil)
  (pss_cons (ps_setLc (i := 5) (own := [("at", 6), ("end", 7)]) (g := gTup K 2 (gCons (gName 6) (gCons (gName 7) gNil))) rfl scbetween_ends.nd rfl rfl (sw_true rfl rfl rfl (by decide +kernel)) (Enu.pi_enumT rfl he (pa_cons (pv 2) pa_nil)) (blkOk_by (own := [("at", 6), ("end", 7)]) (N := Nbetween_ends) (sc := defScope sbetween_ends) (by decide +kernel)) (fun _ _ _ _ _ => (pg_tup rfl (pgs_cons (pg_name (i := 6) scbetween_ends.nd rfl (Or.inl rfl)) (pgs_cons (pg_name (i := 7) scbetween_ends.nd rfl (Or.inl rfl)) pgs_nil)))) (fun _ _ _ _ _ => (pts_one (pt_cmpR (show OpR _ _ (rIn K true) from op_notIn_seq) (pv 6) (show PE _ _ (nTup K _) from pe_tupN (pa_cons (pv 3) (pa_cons (pv 4) pa_nil))) rfl))) (fun _ _ _ _ _ => (pv 7)))
  (pss_one (ps_ret (pe_op op_catTN (pe_callTy call_tuple_of rfl T.tuple (by decide +kernel) (pa_cons (pv 5) pa_nil)) (pe_tupN (pa_cons (pe_tupN (pa_cons pe_str (pa_cons (pe_ix ix_tup (pv 2) (pv 3) (fun _ _ => rfl)) (pa_cons (pe_ix ix_tup (pv 2) (pv 4) (fun _ _ => rfl)) pa_nil)))) pa_nil))))))))), ?_⟩
  refine ⟨_, rfl, l, _, 0, _, rfl, rfl, O.l, rfl, ?_⟩
  refine ⟨_, rfl, a, _, 2, _, rfl, rfl, O.st, atI_nat (j := 2) hx, _, rfl, a, _, 3, _, rfl, rfl, O.st, atI_nat (j := 3) hy, le1k, fun p0 H0 s0 e0 => ?_⟩
  refine ⟨p0, _, rfl, e0, rfl, _, _, rfl, _, _, rfl, rfl, ?_⟩
  have hb := (Same.kt s0).seq O.b
  have hb100 := O.hb
  refine ⟨_, rfl, _, rfl, _, _, rfl, .inr ⟨us, hb, rfl⟩, x, d, us.length, rfl, dp_same s0 _ _ dx, _, rfl, ?_⟩
  by_cases c1 : belowD d us.length = true
  · rw [c1] at q0 ⊢
    refine iteF ⟨_, rfl, _, rfl, _, _, rfl, .inr ⟨us, hb, rfl⟩, y, e, us.length, rfl, dp_same s0 _ _ dy, _, rfl, ?_⟩
    by_cases c2 : belowD e us.length = true
    · rw [c2] at q0 ⊢
      obtain ⟨i, rfl, hi⟩ := below_of c1
      obtain ⟨j, rfl, hj⟩ := below_of c2
      have ex : x = .int i := by cases dx; rfl
      have ey : y = .int j := by cases dy; rfl
      subst ex
      subst ey
      refine iteF ⟨_, rfl, _, rfl, rfl, _, rfl, ?_⟩
      by_cases c3 : i = j
      · subst c3
        refine ite2 (fun _ => ?_) (fun z => absurd (decide_eq_true rfl) z)
        exact q0 (by rw [PyData.eqv]; simp) H0 s0
      · refine ite2 (fun z => absurd (of_decide_eq_true z) (fun z => c3 (by have := V.int.inj z; omega))) (fun _ => ?_)

        have hu := List.getElem?_eq_getElem hi
        have hv := List.getElem?_eq_getElem hj
        generalize us[i] = u at hu
        generalize us[j] = v at hv
        have hl2 : ∀ m, (lessA us i j m).length ≤ us.length := fun m => by
          unfold lessA
          rw [List.length_map]
          refine Nat.le_trans (List.length_filter_le _ _) ?_
          rw [List.length_take, List.length_zipIdx]
          omega
        refine ⟨_, rfl, b, us, rfl, hb, fun D nD => lc_it Enu.walk_enumT (fun m H' => Same H0 H' ∧ H' D = some (.lst (lessA us i j m))) ⟨same_new nD _, upd_same⟩ (fun m H' _ z => (Same.kt z.1).seq hb) (fun m v0 H2 H3 hm z yy => ?_) (fun H' z => ?_)⟩
        · obtain ⟨T0, x0, y0, rfl, nT, rfl, ex0, ey0⟩ := yy
          have ex1 : some (V.int m) = some x0 := ex0
          cases ex1
          refine ⟨T0, _, rfl, SqT.of upd_same, rfl, _, _, rfl, _, _, rfl, rfl, rfl, ?_⟩
          refine ⟨_, rfl, _, rfl, _, rfl, le1k, fun p1 H4 s4 e4 => ⟨p1, _, rfl, .inr e4, rfl, rfl, _, rfl, ?_⟩⟩
          have nDT : D ≠ T0 := fun e => by rw [← e, z.2] at nT; cases nT
          have kk : Same H0 H4 := (same_fresh z.1 (none_of z.1 nT)).trans s4
          have eD : H4 D = some (.lst (lessA us i j m)) := s4 _ _ (by rw [upd_ne nDT]; exact z.2)
          have ey1 : us[m]? = some y0 := ey0
          have hn := lessA_next i j ey1
          have ein : (!inV (V.int m) [V.int i, V.int j]) = !(m == i || m == j) := by
            have g : ∀ a b : Nat, eqV (V.int a) (V.int b) = (b == a) := fun a b => by
              show ((a : Int) == (b : Int)) = _
              rw [Bool.eq_iff_iff]
              simp
              omega
            simp [inV, g]
          show if (!inV (V.int m) [V.int i, V.int j]) = true then _ else _
          rw [ein]
          refine ite2 (fun c => ?_) (fun c => ?_)
          · rw [if_pos c] at hn
            exact ⟨_, rfl, _, eD, small1000 (Nat.le_trans (hl2 m) (by omega)), same_fresh kk nD, by rw [upd_same, hn]⟩
          · rw [if_neg c, List.append_nil] at hn
            exact ⟨kk, by rw [hn]; exact eD⟩
        · obtain ⟨k, e⟩ := z
          have el : lessA us i j us.length = less2 us i j := by
            unfold lessA less2
            rw [List.take_of_length_le (by rw [List.length_zipIdx]; exact Nat.le_refl _)]
          rw [el] at e
          have hl3 := hl2 us.length
          rw [el] at hl3
          refine ⟨_, rfl, D, _, rfl, .inl ⟨SqL.of e, fun p1 np1 => ?_⟩⟩
          have k1 : Same H0 (upd H' p1 (.tup (less2 us i j))) := same_fresh k (none_of k np1)
          have e1 : upd H' p1 (.tup (less2 us i j)) p1 = some (.tup (less2 us i j)) := upd_same
          generalize upd H' p1 (.tup (less2 us i j)) = H1 at k1 e1 ⊢
          refine ⟨_, rfl, _, rfl, b, us, i, u, rfl, rfl, (Same.kt k1).seq hb, atI_nat hu, _, rfl, _, rfl, b, us, j, v, rfl, rfl, (Same.kt k1).seq hb, atI_nat hv, le1k, fun r H4 s4 e4 => ⟨le1k, fun p5 H5 s5 e5 => ?_⟩⟩
          exact ⟨p1, p5, _, _, rfl, rfl, (Same.kt (s4.trans s5)).seq (SqT.of e1), e5, (by show _ + 1 ≤ 1000; omega), fun p6 H6 s6 e6 => q i j rfl rfl c3 u v hu hv H6 p6 r (((s0.trans k1).trans s4).trans (s5.trans s6)) ((Same.kt (s5.trans s6)).seq e4) e6⟩
    · rw [Bool.eq_false_iff.mpr c2] at q0 ⊢
      exact iteT (iteT (q0 rfl H0 s0))
  · rw [Bool.eq_false_iff.mpr c1] at q0 ⊢
    exact iteT (iteT (q0 rfl H0 s0))
end
end My

set_option Elab.async false
set_option linter.all false
set_option maxRecDepth 100000
namespace My
open PySem L2
/-! ### leaves of forms; ends -/
def lvs : PyData → List PyData
  | .tuple [a, b] => [.tuple [a, b]]
  | .tuple [_, a, b] => lvs a ++ lvs b
  | _ => []
theorem lvs2 (a b : PyData) : lvs (.tuple [a, b]) = [.tuple [a, b]] := by rw [lvs]
theorem lvs3 (w a b : PyData) : lvs (.tuple [w, a, b]) = lvs a ++ lvs b := by rw [lvs]
def isEnds : PyData → Bool
  | .list ds => decide (1 ≤ ds.length) && decide (ds.length ≤ 40) && ds.all (isForm 12) && decide ((ds.flatMap lvs).length ≤ 40)
  | .tuple ds => decide (1 ≤ ds.length) && decide (ds.length ≤ 40) && ds.all (isForm 12) && decide ((ds.flatMap lvs).length ≤ 40)
  | _ => false
section
variable {X : Cx}
theorem pi_orR {tg e : Expr} {w1 w2 : TI} (a : PI X tg e w1) (b : PI X tg e w2) : PI X tg e (fun σ H R => w1 σ H R ∨ w2 σ H R) :=
  ⟨fun pins s σ H R I h => h.elim (a.run pins s σ H R I) (b.run pins s σ H R I)⟩
end
abbrev Pis_leaf : List Str := ["form"]
abbrev sleaf_count : Stmt := top 22
abbrev Nleaf_count : List Str := ["form"]
abbrev Pleaf_count : List Str := ["form"]
theorem scleaf_count : FnScope Nleaf_count Pleaf_count (defScope sleaf_count) := ⟨rfl, rfl, rfl, by decide +kernel, rfl, by decide +kernel, by decide +kernel⟩
abbrev sfits_ends : Stmt := top 19
abbrev Nfits_ends : List Str := ["value", "many", "form"]
abbrev Pfits_ends : List Str := ["value"]
theorem scfits_ends : FnScope Nfits_ends Pfits_ends (defScope sfits_ends) := ⟨rfl, rfl, rfl, by decide +kernel, rfl, by decide +kernel, by decide +kernel⟩
abbrev Ncheck_ends : List Str := ["ends"]
abbrev Pcheck_ends : List Str := ["ends"]
def spIsLeaf (K : PySem.W.Frag) : Sp := fun vs H Q _ => ∃ (a : Addr) (xs : List V), vs = [.ref a] ∧ SqT K H a xs ∧ Q (.bl (decide (xs.length = 2))) H
def spLeafCount (K : PySem.W.Frag) (n : Nat) : Sp := fun vs H Q _ => ∃ (v : V) (k : Nat) (D : PyData), vs = [v] ∧ k < n ∧ Dp K H v D ∧ isForm k D = true ∧ Q (.int (lvs D).length) H
section
variable {P : Program} {w : World} {K : PySem.W.Frag} {mg : Str → Option Value} {base : Heap} {f : Addr} {fd : FuncData}
theorem okis_leafA (T : Txt K mg) (F : Fun K "is_leaf" "is_leaf" sis_leaf f fd) : FnOk P w K mg base CX0 1 f fd Pis_leaf (spIsLeaf K) := by
  refine F.ok scis_leaf (fun vs H Q E h => ?_) (fun cdv A outer s H vs Q E hr h => ?_)
  · obtain ⟨a, xs, rfl, _⟩ := h
    rfl
  obtain ⟨a, xs, rfl, hS, q⟩ := h
  refine ⟨_, (pss_one (ps_ret (pe_cmpR op_eq (pe_callB call_len rfl T.len (by decide +kernel) (pa_cons (pv 0) pa_nil)) pe_int (nomark _)))), ?_⟩
  refine ⟨_, rfl, _, _, rfl, .inr ⟨xs, hS, rfl⟩, rfl, ?_⟩
  have e : decide (V.int (xs.length : Int) = V.int 2) = decide (xs.length = 2) := by
    rw [dec_int, Bool.eq_iff_iff]
    simp
    omega
  show Q (.bl (decide (V.int (xs.length : Int) = V.int 2))) H
  rw [e]
  exact q
theorem okleaf_count {n : Nat} (F : Fun K "leaf_count" "leaf_count" sleaf_count f fd) (Cis_leaf : Cal P w K mg base "is_leaf" 1 Pis_leaf (spIsLeaf K)) (Cleaf_count : Cal P w K mg base "leaf_count" (1 + n) Pleaf_count (spLeafCount K n)) :
    FnOk P w K mg base CX0 (1 + n + 1) f fd Pleaf_count (spLeafCount K (n + 1)) := by
  refine F.ok scleaf_count (fun vs H Q E h => ?_) (fun cdv A outer s H vs Q E hr h => ?_)
  · obtain ⟨v, k, D, rfl, _⟩ := h
    rfl
  obtain ⟨v, k, D, rfl, hk, hv, hD, q⟩ := h
  refine ⟨_, (pss_cons (ps_if (pt_val (pe_callC Cis_leaf hr (pa_cons (pv 0) pa_nil)))
    (pss_one (ps_ret pe_int))
    pss_nil)
  (pss_one (ps_ret (pe_op op_add (pe_callC Cleaf_count hr (pa_cons (pe_ix ix_tup (pv 0) pe_int (fun _ _ => rfl)) pa_nil)) (pe_callC Cleaf_count hr (pa_cons (pe_ix ix_tup (pv 0) pe_int (fun _ _ => rfl)) pa_nil)))))), ?_⟩
  rcases isForm_inv hD with ⟨x, m, rfl, hx, hn⟩ | ⟨j, x, a, b, rfl, rfl, hx, ha, hb⟩
  · cases hv with | @tup p xs _ hT hA => cases hA with | cons h1 hA => cases hA with | cons h2 hN =>
    cases hN
    refine ⟨_, rfl, p, _, rfl, hT, true, rfl, ?_⟩
    rw [lvs2] at q
    exact q
  · cases hv with | @tup p xs _ hT hA => cases hA with | cons h1 hA => cases hA with | cons h2 hA => cases hA with | cons h3 hN =>
    cases hN
    refine ⟨_, rfl, p, _, rfl, hT, false, rfl, ?_⟩
    refine ⟨_, rfl, p, _, _, _, rfl, rfl, hT, rfl, _, j, a, rfl, by omega, h2, ha, ?_⟩
    refine ⟨_, rfl, p, _, _, _, rfl, rfl, hT, rfl, _, j, b, rfl, by omega, h3, hb, ?_⟩
    refine ⟨_, _, rfl, rfl, ?_⟩
    rw [lvs3, List.length_append, Int.natCast_add] at q
    exact q
end
structure Txt7 (K : PySem.W.Frag) (mg : Str → Option Value) extends Txt K mg where
  zip : mg "zip" = none
  enumerate : mg "enumerate" = none
  MOST_LEAVES : ∃ u, mg "MOST_LEAVES" = some u ∧ RelV (.int 40) u
theorem kit2r {K : PySem.W.Frag} {g : String} {b1 b2 : Bool} (h1 : kitB g "list" = some b1) (h2 : kitB g "tuple" = some b2) : PySem.W.kitAny K (.type g) [.type "list", .type "tuple"] = some (b1 || b2) := by
  cases b1 with
  | true => exact kitAny_cons (kit_ty h1) (fun z => nomatch z) fun _ => rfl
  | false =>
    refine kitAny_cons (kit_ty h1) (fun _ => ?_) fun z => nomatch z
    cases b2 with
    | true => exact kitAny_cons (kit_ty h2) (fun z => nomatch z) fun _ => rfl
    | false => exact kitAny_cons (kit_ty h2) (fun _ => kitAny_nil) fun z => nomatch z
def isSeqD : PyData → Bool
  | .list _ => true
  | .tuple _ => true
  | _ => false
theorem kit_seq {K : PySem.W.Frag} (D : PyData) : PySem.W.kitAny K (.type (tagOf D)) [.type "list", .type "tuple"] = some (isSeqD D) := by
  cases D with
  | list ds => exact kit2r (g := "list") (b1 := true) (b2 := false) (by decide +kernel) (by decide +kernel)
  | tuple ds => exact kit2r (g := "tuple") (b1 := false) (b2 := true) (by decide +kernel) (by decide +kernel)
  | none => exact kit2r (g := "NoneType") (b1 := false) (b2 := false) (by decide +kernel) (by decide +kernel)
  | bool b => exact kit2r (g := "bool") (b1 := false) (b2 := false) (by decide +kernel) (by decide +kernel)
  | int b => exact kit2r (g := "int") (b1 := false) (b2 := false) (by decide +kernel) (by decide +kernel)
  | str b => exact kit2r (g := "str") (b1 := false) (b2 := false) (by decide +kernel) (by decide +kernel)
  | dict b => exact kit2r (g := "dict") (b1 := false) (b2 := false) (by decide +kernel) (by decide +kernel)
theorem dpAll_at {K : PySem.W.Frag} {H : Hp} : ∀ {xs : List V} {ds : List PyData} {i : Nat} {x : V}, DpAll K H xs ds → xs[i]? = some x → ∃ d, ds[i]? = some d ∧ Dp K H x d
  | _, _, _, _, .nil, e => by simp at e
  | _, _, 0, _, .cons h _, e => by
    simp at e
    subst e
    exact ⟨_, rfl, h⟩
  | _, _, i + 1, _, .cons _ h, e => by
    obtain ⟨d, h1, h2⟩ := dpAll_at (i := i) h (by simpa using e)
    exact ⟨d, by simpa using h1, h2⟩
theorem short_in : ∀ {ds : List PyData} {d : PyData}, shortAll ds = true → d ∈ ds → shortD d = true
  | x :: ds, d, h, m => by
    obtain ⟨h1, h2⟩ := shortAll_cons h
    rcases List.mem_cons.mp m with rfl | m
    · exact h1
    · exact short_in h2 m
/-- ends that are none -/
theorem isEnds_bad {D : PyData} {ds : List PyData} (hD : D = .list ds ∨ D = .tuple ds) (h : ¬ (1 ≤ ds.length ∧ ds.length ≤ 40) ∨ (∃ d ∈ ds, isForm 12 d = false) ∨ ∃ i, 40 < ((ds.take i).flatMap lvs).length) : isEnds D = false := by
  have key : (decide (1 ≤ ds.length) && decide (ds.length ≤ 40) && ds.all (isForm 12) && decide ((ds.flatMap lvs).length ≤ 40)) = false := by
    rw [Bool.eq_false_iff]
    intro z
    simp only [Bool.and_eq_true, decide_eq_true_eq, List.all_eq_true] at z
    obtain ⟨⟨⟨z1, z2⟩, z3⟩, z4⟩ := z
    rcases h with h | ⟨d, hd, h⟩ | ⟨i, h⟩
    · exact h ⟨z1, z2⟩
    · rw [z3 d hd] at h
      cases h
    · have e : (ds.flatMap lvs).length = ((ds.take i).flatMap lvs).length + ((ds.drop i).flatMap lvs).length := by
        rw [← List.length_append, ← List.flatMap_append, List.take_append_drop]
      omega
  rcases hD with rfl | rfl <;> exact key
theorem isEnds_good {D : PyData} {ds : List PyData} (hD : D = .list ds ∨ D = .tuple ds) (h1 : 1 ≤ ds.length) (h2 : ds.length ≤ 40) (h3 : ds.all (isForm 12) = true) (h4 : (ds.flatMap lvs).length ≤ 40) : isEnds D = true := by
  have key : (decide (1 ≤ ds.length) && decide (ds.length ≤ 40) && ds.all (isForm 12) && decide ((ds.flatMap lvs).length ≤ 40)) = true := by
    simp only [Bool.and_eq_true, decide_eq_true_eq]
    exact ⟨⟨⟨h1, h2⟩, h3⟩, h4⟩
  rcases hD with rfl | rfl <;> exact key
def isDict (H : Hp) (v : V) : Prop := ∃ (a : Addr) (kvs : List (Key × V)), v = .ref a ∧ H a = some (.dK kvs)
def spEnds (K : PySem.W.Frag) : Sp := fun vs H Q _ => ∃ v, vs = [v] ∧ ((∃ D, Dp K H v D ∧ shortD D = true ∧ widD D = true ∧ ∀ H', Same H H' → Q (.bl (isEnds D)) H') ∨ (isDict H v ∧ ∀ H', Same H H' → Q (.bl false) H'))
section
variable {P : Program} {w : World} {K : PySem.W.Frag} {mg : Str → Option Value} {base : Heap} {f : Addr} {fd : FuncData}
theorem okfits_ends (T : Txt7 K mg) (F : Fun K "fits_ends" "fits_ends" sfits_ends f fd) (Cfits_form : Cal P w K mg base "fits_form" 15 Pfits_form (spForm K 13)) (Cleaf_count : Cal P w K mg base "leaf_count" 14 Pleaf_count (spLeafCount K 13)) :
    FnOk P w K mg base CX0 16 f fd Pfits_ends (spEnds K) := by
  refine F.ok scfits_ends (fun vs H Q E h => ?_) (fun cdv A outer s H vs Q E hr h => ?_)
  · obtain ⟨v, rfl, _⟩ := h
    rfl
  obtain ⟨v, rfl, h⟩ := h
  refine ⟨_, (pss_cons (ps_if (PW.pt (pw_or (pt_not (pt_val (pe_callB call_isiT rfl T.isinstance (by decide +kernel) (pa_cons (pv 0) (pa_cons (pe_tup (pa_cons (pe_bltn (v := .ty "list") rfl T.list (by decide +kernel) rfl) (pa_cons (pe_bltn (v := .ty "tuple") rfl T.tuple (by decide +kernel) rfl) pa_nil))) pa_nil))))) (pw_or1 (pt_not (pt_chain op_le op_le pe_int (pe_callB call_len rfl T.len (by decide +kernel) (pa_cons (pv 0) pa_nil)) (pe_globE T.MOST_LEAVES))))))
    (pss_one (ps_ret pe_bl))
    pss_nil)
  (pss_cons (ps_set (i := 1) scfits_ends.nd rfl (Or.inl rfl) pe_int)
  (pss_cons (ps_for PassesOwn.never rfl (pi_orR (pi_list (pv 0)) (pi_tup (pv 0))) (pg_name (i := 2) scfits_ends.nd rfl (Or.inl rfl))
    (pss_cons (ps_if (pt_not (pt_val (pe_callC Cfits_form hr (pa_cons (pv 2) (pa_cons (pe_globE T.DEEPEST) pa_nil)))))
      (pss_one (ps_ret pe_bl))
      pss_nil)
    (pss_cons (ps_aug (i := 1) scfits_ends.nd rfl (Or.inl rfl) (pe_callC Cleaf_count hr (pa_cons (pv 2) pa_nil)) ip_add)
    (pss_one (ps_if (pt_cmpR op_gt (pv 1) (pe_globE T.MOST_LEAVES) (nomark _))
      (pss_one (ps_ret pe_bl))
      pss_nil)))))
  (pss_one (ps_ret pe_bl))))), ?_⟩
  refine ⟨_, rfl, by show 2 ≤ sizeLine; decide, fun tp np => ?_⟩
  have s0 := same_new np (.tup [.ty "list", .ty "tuple"])
  rcases h with ⟨D, hv, hz, hw, q⟩ | ⟨⟨a, kvs, rfl, ha⟩, q⟩
  · refine ⟨_, tp, [.ty "list", .ty "tuple"], .type (tagOf D), [.type "list", .type "tuple"], isSeqD D, rfl, upd_same, .cons (.ty _) (.cons (.ty _) .nil), tyx_of (dp_same s0 _ _ hv), kit_seq D, _, rfl, ?_⟩
    by_cases hs : isSeqD D = true
    · cases D with
      | list ds =>
        cases hv with | @lst p xs _ hT hA =>
        have hl := dpAll_len hA
        have hzz : shortAll ds = true := by
          unfold shortD at hz
          exact hz
        refine iteF ⟨_, rfl, _, _, rfl, .inl ⟨xs, s0.seq hT, rfl⟩, 1, _, rfl, rfl, _, rfl, ?_⟩
        refine ite2 (fun c1 => ?_) (fun c1 => ?_)
        · refine ⟨_, _, rfl, rfl, _, rfl, ?_⟩
          by_cases c2 : (xs.length : Int) ≤ 40
          · rw [decide_eq_true c2]
            refine iteF ?_
            have c1' : (1 : Int) ≤ xs.length := of_decide_eq_true c1
            refine .inl ⟨_, rfl, p, rfl, ⟨xs, s0.seq hT⟩, ?_⟩
            refine for_it walk_list (fun i σ H' => Same H H' ∧ σ[0]? = some (some (.ref p)) ∧ σ[1]? = some (some (.int (((ds.take i).flatMap lvs).length : Nat))) ∧ σ.length = 3 ∧ (ds.take i).all (isForm 12) = true ∧ ((ds.take i).flatMap lvs).length ≤ 40) ⟨s0, rfl, rfl, rfl, rfl, Nat.zero_le _⟩ (fun i σ H' _ pv => pv.1.seq hT) (fun i x σ H1 H2 hi pv y => ?_) (fun σ H' pv => ?_)
            · obtain ⟨rfl, hx⟩ := y
              obtain ⟨d, hd, hxd⟩ := dpAll_at hA hx
              obtain ⟨s1, g0, g1, gl, ga, gc⟩ := pv
              have hm : d ∈ ds := List.mem_of_getElem? hd
              refine ⟨x, by rw [List.getElem?_set_self (by omega)], x, 12, rfl, by omega, .inl ⟨d, dp_same s1 _ _ hxd, short_in hzz hm, fun H3 s3 => ⟨_, rfl, ?_⟩⟩⟩
              by_cases c : isForm 12 d = true
              · rw [c]
                refine ⟨_, by rw [List.getElem?_set_ne (by omega)]; exact g1, x, by rw [List.getElem?_set_self (by omega)], x, 12, d, rfl, by omega, dp_same (s1.trans s3) _ _ hxd, c, ?_⟩
                refine ⟨_, _, rfl, rfl, ?_⟩
                have e1 : ds.take (i + 1) = ds.take i ++ [d] := take_next hd
                have e2 : ((ds.take (i + 1)).flatMap lvs).length = ((ds.take i).flatMap lvs).length + (lvs d).length := by
                  rw [e1, List.flatMap_append, List.length_append]
                  simp
                have e3 : ((((ds.take i).flatMap lvs).length : Nat) : Int) + ((lvs d).length : Nat) = (((ds.take (i + 1)).flatMap lvs).length : Nat) := by
                  rw [e2]
                  omega
                refine ⟨_, by rw [List.getElem?_set_self (by rw [List.length_set]; omega)], _, _, rfl, rfl, _, rfl, ?_⟩
                dsimp only
                by_cases c3 : (40 : Int) < ((((ds.take i).flatMap lvs).length : Nat) : Int) + ((lvs d).length : Nat)
                · rw [decide_eq_true c3]
                  have e : isEnds (.list ds) = false := isEnds_bad (ds := ds) (.inl rfl) (.inr (.inr ⟨i + 1, by omega⟩))
                  rw [e] at q
                  exact q _ (s1.trans s3)
                · rw [decide_eq_false c3]
                  refine ⟨s1.trans s3, by rw [List.getElem?_set_ne (by omega), List.getElem?_set_ne (by omega)]; exact g0, by rw [List.getElem?_set_self (by rw [List.length_set]; omega), e3], by rw [List.length_set, List.length_set]; exact gl, ?_, by omega⟩
                  rw [e1, List.all_append, ga]
                  show (isForm 12 d && true) = true
                  rw [c]
                  rfl
              · rw [Bool.eq_false_iff.mpr c]
                have e : isEnds (.list ds) = false := isEnds_bad (ds := ds) (.inl rfl) (.inr (.inl ⟨d, hm, Bool.eq_false_iff.mpr c⟩))
                rw [e] at q
                exact q _ (s1.trans s3)
            · obtain ⟨s1, g0, g1, gl, ga, gc⟩ := pv
              rw [List.take_of_length_le (by omega)] at ga gc
              have e : isEnds (.list ds) = true := isEnds_good (ds := ds) (.inl rfl) (by omega) (by omega) ga gc
              rw [e] at q
              exact q _ s1
          · rw [decide_eq_false c2]
            have e : isEnds (.list ds) = false := isEnds_bad (ds := ds) (.inl rfl) (.inl (by omega))
            rw [e] at q
            exact q _ s0
        · have c1' : ¬ (1 : Int) ≤ xs.length := of_decide_eq_false (Bool.eq_false_iff.mpr c1)
          have e : isEnds (.list ds) = false := isEnds_bad (ds := ds) (.inl rfl) (.inl (by omega))
          rw [e] at q
          exact ⟨false, rfl, q _ s0⟩
      | tuple ds =>
        cases hv with | @tup p xs _ hT hA =>
        have hl := dpAll_len hA
        have hzz : shortAll ds = true := by
          unfold shortD at hz
          exact hz
        refine iteF ⟨_, rfl, _, _, rfl, .inr ⟨xs, seqT_same s0 hT, rfl⟩, 1, _, rfl, rfl, _, rfl, ?_⟩
        refine ite2 (fun c1 => ?_) (fun c1 => ?_)
        · refine ⟨_, _, rfl, rfl, _, rfl, ?_⟩
          by_cases c2 : (xs.length : Int) ≤ 40
          · rw [decide_eq_true c2]
            refine iteF ?_
            have c1' : (1 : Int) ≤ xs.length := of_decide_eq_true c1
            refine .inr ⟨_, rfl, p, rfl, ⟨xs, seqT_same s0 hT⟩, ?_⟩
            refine for_it walk_tup (fun i σ H' => Same H H' ∧ σ[0]? = some (some (.ref p)) ∧ σ[1]? = some (some (.int (((ds.take i).flatMap lvs).length : Nat))) ∧ σ.length = 3 ∧ (ds.take i).all (isForm 12) = true ∧ ((ds.take i).flatMap lvs).length ≤ 40) ⟨s0, rfl, rfl, rfl, rfl, Nat.zero_le _⟩ (fun i σ H' _ pv => seqT_same pv.1 hT) (fun i x σ H1 H2 hi pv y => ?_) (fun σ H' pv => ?_)
            · obtain ⟨rfl, hx⟩ := y
              obtain ⟨d, hd, hxd⟩ := dpAll_at hA hx
              obtain ⟨s1, g0, g1, gl, ga, gc⟩ := pv
              have hm : d ∈ ds := List.mem_of_getElem? hd
              refine ⟨x, by rw [List.getElem?_set_self (by omega)], x, 12, rfl, by omega, .inl ⟨d, dp_same s1 _ _ hxd, short_in hzz hm, fun H3 s3 => ⟨_, rfl, ?_⟩⟩⟩
              by_cases c : isForm 12 d = true
              · rw [c]
                refine ⟨_, by rw [List.getElem?_set_ne (by omega)]; exact g1, x, by rw [List.getElem?_set_self (by omega)], x, 12, d, rfl, by omega, dp_same (s1.trans s3) _ _ hxd, c, ?_⟩
                refine ⟨_, _, rfl, rfl, ?_⟩
                have e1 : ds.take (i + 1) = ds.take i ++ [d] := take_next hd
                have e2 : ((ds.take (i + 1)).flatMap lvs).length = ((ds.take i).flatMap lvs).length + (lvs d).length := by
                  rw [e1, List.flatMap_append, List.length_append]
                  simp
                have e3 : ((((ds.take i).flatMap lvs).length : Nat) : Int) + ((lvs d).length : Nat) = (((ds.take (i + 1)).flatMap lvs).length : Nat) := by
                  rw [e2]
                  omega
                refine ⟨_, by rw [List.getElem?_set_self (by rw [List.length_set]; omega)], _, _, rfl, rfl, _, rfl, ?_⟩
                dsimp only
                by_cases c3 : (40 : Int) < ((((ds.take i).flatMap lvs).length : Nat) : Int) + ((lvs d).length : Nat)
                · rw [decide_eq_true c3]
                  have e : isEnds (.tuple ds) = false := isEnds_bad (ds := ds) (.inr rfl) (.inr (.inr ⟨i + 1, by omega⟩))
                  rw [e] at q
                  exact q _ (s1.trans s3)
                · rw [decide_eq_false c3]
                  refine ⟨s1.trans s3, by rw [List.getElem?_set_ne (by omega), List.getElem?_set_ne (by omega)]; exact g0, by rw [List.getElem?_set_self (by rw [List.length_set]; omega), e3], by rw [List.length_set, List.length_set]; exact gl, ?_, by omega⟩
                  rw [e1, List.all_append, ga]
                  show (isForm 12 d && true) = true
                  rw [c]
                  rfl
              · rw [Bool.eq_false_iff.mpr c]
                have e : isEnds (.tuple ds) = false := isEnds_bad (ds := ds) (.inr rfl) (.inr (.inl ⟨d, hm, Bool.eq_false_iff.mpr c⟩))
                rw [e] at q
                exact q _ (s1.trans s3)
            · obtain ⟨s1, g0, g1, gl, ga, gc⟩ := pv
              rw [List.take_of_length_le (by omega)] at ga gc
              have e : isEnds (.tuple ds) = true := isEnds_good (ds := ds) (.inr rfl) (by omega) (by omega) ga gc
              rw [e] at q
              exact q _ s1
          · rw [decide_eq_false c2]
            have e : isEnds (.tuple ds) = false := isEnds_bad (ds := ds) (.inr rfl) (.inl (by omega))
            rw [e] at q
            exact q _ s0
        · have c1' : ¬ (1 : Int) ≤ xs.length := of_decide_eq_false (Bool.eq_false_iff.mpr c1)
          have e : isEnds (.tuple ds) = false := isEnds_bad (ds := ds) (.inr rfl) (.inl (by omega))
          rw [e] at q
          exact ⟨false, rfl, q _ s0⟩
      | _ => cases hs
    · have e : isSeqD D = false := Bool.eq_false_iff.mpr hs
      have e2 : isEnds D = false := by
        cases D <;> first | rfl | cases e
      rw [e2] at q
      rw [e]
      exact q _ s0
  · refine ⟨_, tp, [.ty "list", .ty "tuple"], .type "dict", [.type "list", .type "tuple"], false, rfl, upd_same, .cons (.ty _) (.cons (.ty _) .nil), .base (.dK (s0 _ _ ha)), kit2r (g := "dict") (b1 := false) (b2 := false) (by decide +kernel) (by decide +kernel), _, rfl, ?_⟩
    exact q _ s0
end
end My

set_option Elab.async false
set_option linter.all false
set_option maxRecDepth 100000
namespace My
open PySem L2
/-! ### right steps and their ends -/
def Fit (ts : List FT) : Prop := 1 ≤ ts.length ∧ ts.length ≤ 40 ∧ (∀ t, t ∈ ts → t.Ok ∧ t.dep ≤ 12) ∧ lvsL ts ≤ 40
def turnT (ts : List FT) (os : List PyData) : List FT := os.map fun d => ts.getD (intOf d).toNat (.leaf false [])
/-- the ends of a right step, those of the steps within given -/
inductive Stp : PyData → List (List FT) → List FT → Prop
  | link (n : List Nat) : Stp (.tuple [.str "link", .str (Z n)]) [] [.leaf false n, .leaf true n]
  | both {p q : PyData} {us ws : List FT} {i j : Nat} {u v : FT} : us[i]? = some u → ws[j]? = some v → Stp (.tuple [.str "both", p, q, .int i, .int j]) [us, ws] (less us i ++ less ws j ++ [.node .mul u v])
  | between {p : PyData} {us : List FT} {i j : Nat} {u v : FT} : us[i]? = some u → us[j]? = some v → i ≠ j → Stp (.tuple [.str "between", p, .int i, .int j]) [us] (less2 us i j ++ [.node .bar u v])
  | offer {p q : PyData} {us ws : List FT} {i j : Nat} {u v : FT} : us[i]? = some u → ws[j]? = some v → less us i = less ws j → Stp (.tuple [.str "offer", p, q, .int i, .int j]) [us, ws] (less us i ++ [.node .amp u v])
  | choose {p : PyData} {us : List FT} {i j : Nat} {u f : FT} : us[i]? = some u → j < 2 → Stp (.tuple [.str "choose", p, .int i, .int j, f.data]) [us] (less us i ++ [if j = 0 then .node .plus u f else .node .plus f u])
  | hand {p q : PyData} {us ws : List FT} {i j : Nat} {u v : FT} : us[i]? = some u → ws[j]? = some v → cnt u = v → Stp (.tuple [.str "hand", p, q, .int i, .int j]) [us, ws] (less us i ++ less ws j)
  | turn {p : PyData} {us : List FT} {os : List PyData} : orderD os us.length = true → os.length ≤ 1000 → Stp (.tuple [.str "turn", p, .tuple os]) [us] (turnT us os)
theorem lvs_ft : ∀ t : FT, (lvs t.data).length = t.lvs
  | .leaf co n => by rw [FT.data, lvs2]; rfl
  | .node s l r => by rw [FT.data, lvs3, List.length_append, lvs_ft l, lvs_ft r]; rfl
theorem lvs_fts : ∀ ts : List FT, ((ts.map FT.data).flatMap lvs).length = lvsL ts
  | [] => rfl
  | t :: ts => by
    rw [List.map_cons, List.flatMap_cons, List.length_append, lvs_ft, lvs_fts ts]
    unfold lvsL
    rw [List.map_cons, List.sum_cons]
theorem short_all {ds : List PyData} (h : ∀ d, d ∈ ds → shortD d = true) : shortAll ds = true := by
  induction ds with
  | nil => rfl
  | cons d ds ih =>
    unfold shortAll
    rw [h d List.mem_cons_self, ih fun x hx => h x (List.mem_cons_of_mem _ hx)]
    rfl
theorem wid_all {ds : List PyData} (h : ∀ d, d ∈ ds → widD d = true) : widAll ds = true := by
  induction ds with
  | nil => rfl
  | cons d ds ih =>
    unfold widAll
    rw [h d List.mem_cons_self, ih fun x hx => h x (List.mem_cons_of_mem _ hx)]
    rfl
theorem Fit.form {ts : List FT} (h : Fit ts) : ∀ d, d ∈ ts.map FT.data → isForm 12 d = true := fun d hd => by
  obtain ⟨t, ht, rfl⟩ := List.mem_map.mp hd
  exact ft_isForm t (h.2.2.1 t ht).1 (h.2.2.1 t ht).2
theorem Fit.ends {ts : List FT} (h : Fit ts) : isEnds (.tuple (ts.map FT.data)) = true ∧ shortD (.tuple (ts.map FT.data)) = true ∧ widD (.tuple (ts.map FT.data)) = true := by
  obtain ⟨h1, h2, h3, h4⟩ := h
  have hf := Fit.form ⟨h1, h2, h3, h4⟩
  refine ⟨isEnds_good (.inr rfl) (by rw [List.length_map]; exact h1) (by rw [List.length_map]; exact h2) (List.all_eq_true.mpr hf) (by rw [lvs_fts]; exact h4), ?_, ?_⟩
  · unfold shortD
    exact short_all fun d hd => short_form (hf d hd)
  · unfold widD
    rw [wid_all fun d hd => wid_form (hf d hd), List.length_map, decide_eq_true (by omega)]
    rfl
theorem paired_less2 {α β : Type} {r : α → β → Prop} {xs : List α} {ys : List β} (i j : Nat) (h : Paired r xs ys) : Paired r (less2 xs i j) (less2 ys i j) := by
  unfold less2
  have : ∀ k, Paired r (((xs.zipIdx k).filter fun p => !(p.2 == i || p.2 == j)).map (·.1)) (((ys.zipIdx k).filter fun p => !(p.2 == i || p.2 == j)).map (·.1)) := by
    induction h with
    | nil => exact fun _ => .nil
    | cons a _ ih =>
      intro k
      rw [List.zipIdx_cons, List.zipIdx_cons]
      by_cases c : (!(k == i || k == j)) = true
      · simp only [List.filter_cons, c, if_true, List.map_cons]
        exact .cons a (ih _)
      · rw [Bool.not_eq_true] at c
        simp only [List.filter_cons, c, Bool.false_eq_true, if_false]
        exact ih _
  exact this 0
theorem paired_turn {r : V → FT → Prop} {us : List V} {ts : List FT} (h : Paired r us ts) : ∀ {os : List PyData}, (∀ d, d ∈ os → ∃ k : Nat, d = .int k ∧ k < us.length) → Paired r (turned us os) (turnT ts os)
  | [], _ => .nil
  | d :: os, ho => by
    obtain ⟨k, rfl, hk⟩ := ho d List.mem_cons_self
    have e : us[k]? = some us[k] := List.getElem?_eq_getElem hk
    obtain ⟨t, et, hr⟩ := paired_take h e
    refine .cons ?_ (paired_turn h fun d hd => ho d (List.mem_cons_of_mem _ hd))
    show r (us.getD (k : Int).toNat .non) (ts.getD (k : Int).toNat (.leaf false []))
    rw [Int.toNat_natCast, List.getD_eq_getElem?_getD, List.getD_eq_getElem?_getD, e, et]
    exact hr
/-- ends in the heap -/
def StE (K : PySem.W.Frag) (H : Hp) (v : V) (ts : List FT) : Prop := ∃ p us, v = .ref p ∧ SqT K H p us ∧ Paired (fun v t => Fm K H t v) us ts
theorem StE.kt {K : PySem.W.Frag} {H H' : Hp} {v : V} {ts : List FT} (k : KT H H') (h : StE K H v ts) : StE K H' v ts := by
  obtain ⟨p, us, rfl, h1, h2⟩ := h
  exact ⟨p, us, rfl, k.seq h1, paired_imp (fun _ t g => k.fm t g) h2⟩
theorem StE.dp {K : PySem.W.Frag} {H : Hp} {v : V} {ts : List FT} (h : StE K H v ts) : Dp K H v (.tuple (ts.map FT.data)) := by
  obtain ⟨p, us, rfl, h1, h2⟩ := h
  exact .tup h1 (dp_of_fm h2)
abbrev sends_of_step : Stmt := top 50
abbrev Nends_of_step : List Str := ["step", "within", "maker", "ends"]
theorem scends_of_step : FnScope Nends_of_step Nlink_ends (defScope sends_of_step) := ⟨rfl, rfl, rfl, by decide +kernel, rfl, by decide +kernel, by decide +kernel⟩
section
variable {K : PySem.W.Frag} {H : Hp} {v : V}
theorem dp_t2 {z y : Str} (h : Dp K H v (.tuple [.str z, .str y])) : ∃ a, v = .ref a ∧ SqT K H a [.str z, .str y] := by
  cases h with | tup hT hA => cases hA with | cons h1 hA => cases hA with | cons h2 hA =>
  cases h1
  cases h2
  cases hA
  exact ⟨_, rfl, hT⟩
theorem dp_t3 {z : Str} {p q : PyData} (h : Dp K H v (.tuple [.str z, p, q])) : ∃ a x y, v = .ref a ∧ SqT K H a [.str z, x, y] ∧ Dp K H x p ∧ Dp K H y q := by
  cases h with | tup hT hA => cases hA with | cons h1 hA => cases hA with | cons h2 hA => cases hA with | cons h3 hA =>
  cases h1
  cases hA
  exact ⟨_, _, _, rfl, hT, h2, h3⟩
theorem dp_t4 {z : Str} {p : PyData} {i j : Int} (h : Dp K H v (.tuple [.str z, p, .int i, .int j])) : ∃ a x, v = .ref a ∧ SqT K H a [.str z, x, .int i, .int j] ∧ Dp K H x p := by
  cases h with | tup hT hA => cases hA with | cons h1 hA => cases hA with | cons h2 hA => cases hA with | cons h3 hA => cases hA with | cons h4 hA =>
  cases h1
  cases h3
  cases h4
  cases hA
  exact ⟨_, _, rfl, hT, h2⟩
theorem dp_t5 {z : Str} {p q : PyData} {i j : Int} (h : Dp K H v (.tuple [.str z, p, q, .int i, .int j])) : ∃ a x y, v = .ref a ∧ SqT K H a [.str z, x, y, .int i, .int j] ∧ Dp K H x p ∧ Dp K H y q := by
  cases h with | tup hT hA => cases hA with | cons h1 hA => cases hA with | cons h2 hA => cases hA with | cons h3 hA => cases hA with | cons h4 hA => cases hA with | cons h5 hA =>
  cases h1
  cases h4
  cases h5
  cases hA
  exact ⟨_, _, _, rfl, hT, h2, h3⟩
theorem dp_c5 {z : Str} {p q : PyData} {i j : Int} (h : Dp K H v (.tuple [.str z, p, .int i, .int j, q])) : ∃ a x y, v = .ref a ∧ SqT K H a [.str z, x, .int i, .int j, y] ∧ Dp K H x p ∧ Dp K H y q := by
  cases h with | tup hT hA => cases hA with | cons h1 hA => cases hA with | cons h2 hA => cases hA with | cons h3 hA => cases hA with | cons h4 hA => cases hA with | cons h5 hA =>
  cases h1
  cases h3
  cases h4
  cases hA
  exact ⟨_, _, _, rfl, hT, h2, h5⟩
theorem paired1 {α β : Type} {r : α → β → Prop} {xs : List α} {u : β} (h : Paired r xs [u]) : ∃ x, xs = [x] ∧ r x u := by
  cases h with | cons a h => cases h; exact ⟨_, rfl, a⟩
theorem paired2 {α β : Type} {r : α → β → Prop} {xs : List α} {u w : β} (h : Paired r xs [u, w]) : ∃ x y, xs = [x, y] ∧ r x u ∧ r y w := by
  cases h with | cons a h => cases h with | cons b h => cases h; exact ⟨_, _, rfl, a, b⟩
end
structure Mkr (P : Program) (w : World) (K : PySem.W.Frag) (mg : Str → Option Value) (base : Heap) where
  aM : Addr
  MAKERS : ∃ u, mg "MAKERS" = some u ∧ RelV (.ref aM) u
  f1 : Addr
  d1 : KDct K w aM "link" (.ref f1)
  h1 : Held P w K mg base 15 f1 (spLinkEnds K)
  f2 : Addr
  d2 : KDct K w aM "both" (.ref f2)
  h2 : Held P w K mg base 15 f2 (spBothEnds K)
  f3 : Addr
  d3 : KDct K w aM "between" (.ref f3)
  h3 : Held P w K mg base 15 f3 (spBetweenEnds K)
  f4 : Addr
  d4 : KDct K w aM "offer" (.ref f4)
  h4 : Held P w K mg base 15 f4 (spOfferEnds K)
  f5 : Addr
  d5 : KDct K w aM "choose" (.ref f5)
  h5 : Held P w K mg base 15 f5 (spChooseEnds K)
  f6 : Addr
  d6 : KDct K w aM "hand" (.ref f6)
  h6 : Held P w K mg base 15 f6 (spHandEnds K)
  f7 : Addr
  d7 : KDct K w aM "turn" (.ref f7)
  h7 : Held P w K mg base 15 f7 (spTurnEnds K)
def spEndsOfStep (K : PySem.W.Frag) : Sp := fun vs H Q _ => ∃ v D l xs ls ts, vs = [v, .ref l] ∧ Dp K H v D ∧ SqL K H l xs ∧ Paired (StE K H) xs ls ∧ (∀ t, t ∈ ls → Fit t) ∧ Stp D ls ts ∧ Fit ts ∧ ∀ H' u, Same H H' → StE K H' u ts → Q u H'
theorem len_link : lenOf "link" = some 2 := by decide +kernel
theorem len_both : lenOf "both" = some 5 := by decide +kernel
theorem len_between : lenOf "between" = some 4 := by decide +kernel
theorem len_offer : lenOf "offer" = some 5 := by decide +kernel
theorem len_choose : lenOf "choose" = some 5 := by decide +kernel
theorem len_hand : lenOf "hand" = some 5 := by decide +kernel
theorem len_turn : lenOf "turn" = some 3 := by decide +kernel
theorem shape_of {z : Str} {r : List PyData} (h : lenOf z = some (r.length + 1)) : shapeD (.tuple (.str z :: r)) = true := by
  show (lenOf z == some (r.length + 1)) = true
  rw [h]
  exact beq_self_eq_true _
theorem int_eq {i j : Nat} (h : V.int i = V.int j) : i = j := by
  have := V.int.inj h
  omega
section
variable {P : Program} {w : World} {K : PySem.W.Frag} {mg : Str → Option Value} {base : Heap} {f : Addr} {fd : FuncData}
theorem two_of {us ws : List V} {i j : Nat} {u v : V} (h1 : us[i]? = some u) (h2 : ws[j]? = some v) : belowD (.int i) us.length = true ∧ belowD (.int j) ws.length = true := by
  have a := (List.getElem?_eq_some_iff.mp h1).1
  have b := (List.getElem?_eq_some_iff.mp h2).1
  refine ⟨?_, ?_⟩
  · show (decide ((0 : Int) ≤ (i : Nat)) && decide (((i : Nat) : Int) < us.length)) = true
    rw [decide_eq_true (by omega), decide_eq_true (by omega)]
    rfl
  · show (decide ((0 : Int) ≤ (j : Nat)) && decide (((j : Nat) : Int) < ws.length)) = true
    rw [decide_eq_true (by omega), decide_eq_true (by omega)]
    rfl
theorem paired_un {α β : Type} {r : α → β → Prop} : ∀ {xs : List α} {ys : List β} {i : Nat} {y : β}, Paired r xs ys → ys[i]? = some y → ∃ x, xs[i]? = some x ∧ r x y
  | _, _, _, _, .nil, e => by simp at e
  | _, _, 0, _, .cons h _, e => by
    simp at e
    subst e
    exact ⟨_, rfl, h⟩
  | _, _, i + 1, _, .cons _ t, e => by
    obtain ⟨x, a, b⟩ := paired_un (i := i) t (by simpa using e)
    exact ⟨x, by simpa using a, b⟩
theorem okends_of_step (Y : TxtD K mg w) (M : Mkr P w K mg base) (Chas_shape : Cal P w K mg base "has_shape" 1 Nis_integer (spHasShape K)) (Cfits_ends : Cal P w K mg base "fits_ends" 16 Pfits_ends (spEnds K)) (F : Fun K "ends_of_step" "ends_of_step" sends_of_step f fd) :
    FnOk P w K mg base CX0 17 f fd Nlink_ends (spEndsOfStep K) := by
  refine F.ok scends_of_step (fun vs H Q E h => ?_) (fun cdv A outer s H vs Q E hr h => ?_)
  · obtain ⟨v, D, l, xs, ls, ts, rfl, _⟩ := h
    rfl
  obtain ⟨v, D, l, xs, ls, ts, rfl, hv, hl, hx, hfit, hS, hF, q⟩ := h
  have key : ∀ (g : Addr) (sp : Sp) (z : Str) (r : List PyData), Held P w K mg base 15 g sp → KDct K w M.aM z (.ref g) → D = .tuple (.str z :: r) → shapeD D = true → (∀ Q' : VK, (∀ u H', Same H H' → StE K H' u ts → Q' u H') → sp [v, .ref l] H Q' (fun _ _ _ => False)) →
      ∃ t, PSs (cxOf CX0 P w K mg base Nends_of_step "ends_of_step" (defScope sends_of_step) f cdv A outer s H E).nox (defBody sends_of_step) t ∧ t { nx := fun _ H' => Q .non H', rt := Q } (L2.start Nends_of_step [v, .ref l]) H := by
    intro g sp z r hg hd eD hs hsp
    subst eD
    have hS' : ∀ (f' : Addr) (sp' : Sp), (if f' = g then some sp else none) = some sp' → Held P w K mg base 15 f' sp' := fun f' sp' e => by
      by_cases c : f' = g
      · rw [if_pos c] at e
        cases e
        rw [c]
        exact hg
      · rw [if_neg c] at e
        cases e
    refine ⟨_, (pss_cons (ps_if (pt_not (pt_val (pe_callC Chas_shape hr (pa_cons (pv 0) pa_nil))))
    (pss_one (ps_ret pe_non))
    pss_nil)
  (pss_cons (ps_set (i := 2) scends_of_step.nd rfl (Or.inl rfl) (pe_ix ix_kdict (pe_globE M.MAKERS) (pe_ix ix_tup (pv 0) pe_int (fun _ _ => rfl)) (fun _ _ => rfl)))
  (pss_cons (ps_set (i := 3) scends_of_step.nd rfl (Or.inl rfl) (pe_callA (i := 2) (S := fun f' => if f' = g then some sp else none) hS' (hr.mono (by decide)) rfl (Or.inl rfl) (pa_cons (pv 0) (pa_cons (pv 1) pa_nil))))
  (pss_cons (ps_if (pt_not (pt_val (pe_callC Cfits_ends hr (pa_cons (pv 3) pa_nil))))
    (pss_one (ps_ret pe_non))
    pss_nil)
  (pss_one (ps_ret (pv 3))))))), ?_⟩
    match hv with
    | .tup (a := a) (xs := zs) hT hA =>
      match zs, hA with
      | _ :: zs, .cons (.str _) hA =>
      refine ⟨_, rfl, _, _, rfl, .tup hT (.cons (.str _) hA), _, rfl, ?_⟩
      rw [hs]
      refine iteF ⟨_, rfl, a, _, 0, _, rfl, rfl, hT, at0, M.aM, z, .ref g, rfl, rfl, hd, ?_⟩
      refine ⟨g, sp, rfl, if_pos rfl, ?_⟩
      refine ⟨_, rfl, _, rfl, ?_⟩
      refine hsp _ (fun u H' s1 hu => ?_)
      obtain ⟨g1, g2, g3⟩ := hF.ends
      refine ⟨_, rfl, u, rfl, .inl ⟨_, hu.dp, g2, g3, fun H2 s2 => ⟨_, rfl, ?_⟩⟩⟩
      rw [g1]
      refine iteF ⟨_, rfl, ?_⟩
      exact q _ _ (s1.trans s2) (hu.kt (Same.kt s2))
  have len40 : ∀ t, t ∈ ls → t.length ≤ 100 := fun t ht => Nat.le_trans (hfit t ht).2.1 (by decide)
  cases hS with
  | link n =>
    obtain ⟨a, rfl, hT⟩ := dp_t2 hv
    exact key M.f1 _ _ _ M.h1 M.d1 rfl (shape_of len_link) fun Q' hQ => ⟨a, _, _, .ref l, rfl, hT, fun H' p b c s1 hb hc hp => hQ _ _ s1 ⟨p, _, rfl, hp, .cons ⟨b, rfl, hb⟩ (.cons ⟨c, rfl, hc⟩ .nil)⟩⟩
  | @both p q us ws i j u v' hu hw =>
    obtain ⟨a, vp, vq, rfl, hT, _, _⟩ := dp_t5 hv
    obtain ⟨_, _, rfl, ⟨b, us', rfl, hb, pb⟩, ⟨c, ws', rfl, hc, pc⟩⟩ := paired2 hx
    obtain ⟨u1, hu1, fu⟩ := paired_un pb hu
    obtain ⟨v1, hw1, fv⟩ := paired_un pc hw
    obtain ⟨t1, t2⟩ := two_of hu1 hw1
    have l1 : us'.length ≤ 100 := by rw [paired_len pb]; exact len40 _ (by simp)
    have l2 : ws'.length ≤ 100 := by rw [paired_len pc]; exact len40 _ (by simp)
    refine key M.f2 _ _ _ M.h2 M.d2 rfl (shape_of len_both) fun Q' hQ => ⟨a, l, b, c, _, us', ws', _, _, .int i, .int j, rfl, ⟨hT, rfl, rfl, .int _, .int _, hl, hb, hc, l1, l2⟩, fun z => ?_, fun i' j' ei ej u2 v2 hu2 hv2 H' p r s1 hr hp => ?_⟩
    · unfold two at z
      rw [t1, t2] at z
      cases z
    · obtain rfl := int_eq ei
      obtain rfl := int_eq ej
      rw [hu1] at hu2
      rw [hw1] at hv2
      cases hu2
      cases hv2
      exact hQ _ _ s1 ⟨p, _, rfl, hp, paired_app (paired_app (fm_paired s1 (paired_less i pb)) (fm_paired s1 (paired_less j pc))) (.cons ⟨r, _, _, rfl, hr, (Same.kt s1).fm _ fu, (Same.kt s1).fm _ fv⟩ .nil)⟩
  | @between p us i j u v' hu hw hij =>
    obtain ⟨a, vp, rfl, hT, _⟩ := dp_t4 hv
    obtain ⟨_, rfl, b, us', rfl, hb, pb⟩ := paired1 hx
    obtain ⟨u1, hu1, fu⟩ := paired_un pb hu
    obtain ⟨v1, hw1, fv⟩ := paired_un pb hw
    obtain ⟨t1, t2⟩ := two_of hu1 hw1
    have l1 : us'.length ≤ 100 := by rw [paired_len pb]; exact len40 _ (by simp)
    refine key M.f3 _ _ _ M.h3 M.d3 rfl (shape_of len_between) fun Q' hQ => ⟨a, l, b, _, us', _, _, .int i, .int j, rfl, ⟨hT, hl, hb, l1⟩, rfl, rfl, .int _, .int _, fun z => ?_, fun i' j' ei ej _ u2 v2 hu2 hv2 H' p r s1 hr hp => ?_⟩
    · rw [t1, t2] at z
      have e : PyData.eqv (.int (i : Int)) (.int (j : Int)) = false := by
        rw [PyData.eqv]
        simp
        omega
      rw [e] at z
      cases z
    · obtain rfl := int_eq ei
      obtain rfl := int_eq ej
      rw [hu1] at hu2
      rw [hw1] at hv2
      cases hu2
      cases hv2
      exact hQ _ _ s1 ⟨p, _, rfl, hp, paired_app (fm_paired s1 (paired_less2 i j pb)) (.cons ⟨r, _, _, rfl, hr, (Same.kt s1).fm _ fu, (Same.kt s1).fm _ fv⟩ .nil)⟩
  | @offer p q us ws i j u v' hu hw hel =>
    obtain ⟨a, vp, vq, rfl, hT, _, _⟩ := dp_t5 hv
    obtain ⟨_, _, rfl, ⟨b, us', rfl, hb, pb⟩, ⟨c, ws', rfl, hc, pc⟩⟩ := paired2 hx
    obtain ⟨u1, hu1, fu⟩ := paired_un pb hu
    obtain ⟨v1, hw1, fv⟩ := paired_un pc hw
    obtain ⟨t1, t2⟩ := two_of hu1 hw1
    have l1 : us'.length ≤ 100 := by rw [paired_len pb]; exact len40 _ (by simp)
    have l2 : ws'.length ≤ 100 := by rw [paired_len pc]; exact len40 _ (by simp)
    refine key M.f4 _ _ _ M.h4 M.d4 rfl (shape_of len_offer) fun Q' hQ => ⟨a, l, b, c, _, us', ws', _, _, .int i, .int j, us, ws, rfl, ⟨hT, rfl, rfl, .int _, .int _, hl, hb, hc, l1, l2⟩, pb, pc, (hfit us (by simp)).2.2.1, (hfit ws (by simp)).2.2.1, fun z => ?_, fun i' j' ei ej u2 v2 hu2 hv2 => ?_⟩
    · unfold two at z
      rw [t1, t2] at z
      cases z
    · obtain rfl := int_eq ei
      obtain rfl := int_eq ej
      rw [hu1] at hu2
      rw [hw1] at hv2
      cases hu2
      cases hv2
      refine ⟨fun z => ?_, fun _ H' p r s1 hr hp => hQ _ _ s1 ⟨p, _, rfl, hp, paired_app (fm_paired s1 (paired_less i pb)) (.cons ⟨r, _, _, rfl, hr, (Same.kt s1).fm _ fu, (Same.kt s1).fm _ fv⟩ .nil)⟩⟩
      rw [hel, SeqAt.eqv_refl _ (SeqAt.canLay_of_shaped (shapedL fun t ht => (hfit ws (by simp)).2.2.1 t (less_mem ht)))] at z
      cases z
  | @choose p us i j u ff hu hj =>
    obtain ⟨a, vp, vf, rfl, hT, _, hf⟩ := dp_c5 hv
    obtain ⟨_, rfl, b, us', rfl, hb, pb⟩ := paired1 hx
    obtain ⟨u1, hu1, fu⟩ := paired_un pb hu
    obtain ⟨t1, _⟩ := two_of hu1 hu1
    have l1 : us'.length ≤ 100 := by rw [paired_len pb]; exact len40 _ (by simp)
    have hff := fm_of_dp _ hf
    refine key M.f5 _ _ _ M.h5 M.d5 rfl (shape_of len_choose) fun Q' hQ => ⟨a, l, b, _, us', _, _, _, .int i, .int j, rfl, ⟨hT, hl, hb, l1⟩, rfl, rfl, rfl, .int _, .int _, fun z => ?_, fun i' j' ei ej _ u2 hu2 H' p r s1 hr hp => ?_⟩
    · have e : belowD (.int (j : Int)) 2 = true := by
        show (decide ((0 : Int) ≤ (j : Nat)) && decide (((j : Nat) : Int) < (2 : Nat))) = true
        rw [decide_eq_true (by omega), decide_eq_true (by omega)]
        rfl
      rw [t1, e] at z
      cases z
    · obtain rfl := int_eq ei
      obtain rfl := int_eq ej
      rw [hu1] at hu2
      cases hu2
      refine hQ _ _ s1 ⟨p, _, rfl, hp, paired_app (fm_paired s1 (paired_less i pb)) (.cons ?_ .nil)⟩
      by_cases c : j = 0
      · rw [if_pos c] at hr ⊢
        exact ⟨r, _, _, rfl, hr, (Same.kt s1).fm _ fu, (Same.kt s1).fm _ hff⟩
      · rw [if_neg c] at hr ⊢
        exact ⟨r, _, _, rfl, hr, (Same.kt s1).fm _ hff, (Same.kt s1).fm _ fu⟩
  | @hand p q us ws i j u v' hu hw hel =>
    obtain ⟨a, vp, vq, rfl, hT, _, _⟩ := dp_t5 hv
    obtain ⟨_, _, rfl, ⟨b, us', rfl, hb, pb⟩, ⟨c, ws', rfl, hc, pc⟩⟩ := paired2 hx
    obtain ⟨u1, hu1, fu⟩ := paired_un pb hu
    obtain ⟨v1, hw1, fv⟩ := paired_un pc hw
    obtain ⟨t1, t2⟩ := two_of hu1 hw1
    have l1 : us'.length ≤ 100 := by rw [paired_len pb]; exact len40 _ (by simp)
    have l2 : ws'.length ≤ 100 := by rw [paired_len pc]; exact len40 _ (by simp)
    refine key M.f6 _ _ _ M.h6 M.d6 rfl (shape_of len_hand) fun Q' hQ => ⟨a, l, b, c, _, us', ws', _, _, .int i, .int j, us, ws, rfl, ⟨hT, rfl, rfl, .int _, .int _, hl, hb, hc, l1, l2⟩, pb, pc, (hfit us (by simp)).2.2.1, (hfit ws (by simp)).2.2.1, fun z => ?_, fun i' j' ei ej u2 v2 hu2 hv2 => ?_⟩
    · unfold two at z
      rw [t1, t2] at z
      cases z
    · obtain rfl := int_eq ei
      obtain rfl := int_eq ej
      rw [hu] at hu2
      rw [hw] at hv2
      cases hu2
      cases hv2
      refine ⟨fun z => ?_, fun _ H' p s1 hp => hQ _ _ s1 ⟨p, _, rfl, hp, paired_app (fm_paired s1 (paired_less i pb)) (fm_paired s1 (paired_less j pc))⟩⟩
      rw [hel, SeqAt.eqv_refl _ (SeqAt.canLay_of_shaped (FT.shaped ((hfit ws (by simp)).2.2.1 _ (List.mem_of_getElem? hw)).1 ((hfit ws (by simp)).2.2.1 _ (List.mem_of_getElem? hw)).2))] at z
      cases z
  | @turn p us os ho h1000 =>
    obtain ⟨a, vp, vo, rfl, hT, _, hos⟩ := dp_t3 hv
    obtain ⟨_, rfl, b, us', rfl, hb, pb⟩ := paired1 hx
    have l1 : us'.length ≤ 100 := by rw [paired_len pb]; exact len40 _ (by simp)
    have ho' : orderD os us'.length = true := by rw [paired_len pb]; exact ho
    refine key M.f7 _ _ _ M.h7 M.d7 rfl (shape_of len_turn) fun Q' hQ => ⟨a, l, b, _, us', _, .tuple os, rfl, ⟨hT, hl, hb, l1⟩, rfl, hos, fun os' e => ?_, fun z => ?_, fun os' e ho2 H' p s1 hp => ?_⟩
    · cases e
      exact h1000
    · have z' : orderD os us'.length = false := z
      rw [ho'] at z'
      cases z'
    · cases e
      refine hQ _ _ s1 ⟨p, _, rfl, hp, fm_paired s1 (paired_turn pb fun d hd => ?_)⟩
      obtain ⟨m, hm⟩ := List.mem_iff_getElem?.mp hd
      exact order_at ho' hm
end
end My

set_option Elab.async false
set_option linter.all false
set_option maxRecDepth 100000
namespace My
open PySem L2
/-! ### right deeds, told by their trees -/
inductive Der : PyData → List FT → Prop
  | mk {D : PyData} {ls : List (List FT)} {ts : List FT} : Stp D ls ts → Fit ts → (kids D).length = ls.length → (∀ (i : Nat) (d : PyData) (l : List FT), (kids D)[i]? = some d → ls[i]? = some l → Der d l) → Der D ts
theorem Der.fit {D : PyData} {ts : List FT} (h : Der D ts) : Fit ts := by
  cases h with | mk _ h _ _ => exact h
/-- a run over the steps in their order -/
def RunE : List (List FT) → List PyData → List (List FT) → Prop
  | s, [], t => s = t
  | s, d :: r, t => ∃ s0 ls ts, s = s0 ++ ls ∧ (kids d).length = ls.length ∧ Stp d ls ts ∧ Fit ts ∧ RunE (s0 ++ [ts]) r t
theorem RunE.app : ∀ {l r : List PyData} {s t u : List (List FT)}, RunE s l t → RunE t r u → RunE s (l ++ r) u
  | [], _, _, _, _, h, g => by
    have h : _ = _ := h
    subst h
    exact g
  | _ :: _, _, _, _, _, ⟨s0, ls, ts, e, n, a, b, h⟩, g => ⟨s0, ls, ts, e, n, a, b, h.app g⟩
theorem run_many : ∀ (ds : List PyData) (ls : List (List FT)), ds.length = ls.length → (∀ (i : Nat) (d : PyData) (l : List FT), ds[i]? = some d → ls[i]? = some l → ∀ s, RunE s (post d) (s ++ [l])) → ∀ s, RunE s (ds.flatMap post) (s ++ ls)
  | [], [], _, _, s => by rw [List.append_nil]; exact rfl
  | [], _ :: _, h, _, _ => by simp at h
  | _ :: _, [], h, _, _ => by simp at h
  | d :: ds, l :: ls, h, g, s => by
    rw [List.flatMap_cons]
    have h1 := g 0 d l rfl rfl s
    have h2 := run_many ds ls (by simpa using h) (fun i d' l' e1 e2 => g (i + 1) d' l' (by simpa using e1) (by simpa using e2)) (s ++ [l])
    rw [List.append_assoc, List.singleton_append] at h2
    exact h1.app h2
theorem run_post {D : PyData} {ts : List FT} (h : Der D ts) : ∀ s, RunE s (post D) (s ++ [ts]) := by
  induction h with
  | @mk D ls ts hS hF hl _ ih =>
    intro s
    rw [post_eq]
    exact (run_many (kids D) ls hl ih s).app ⟨s, ls, ts, rfl, hl, hS, hF, rfl⟩
abbrev sends_in_order : Stmt := top 51
abbrev Nends_in_order : List Str := ["found", "waiting", "told", "step", "ends"]
theorem scends_in_order : FnScope Nends_in_order Pdepth_of_steps (defScope sends_in_order) := ⟨rfl, rfl, rfl, by decide +kernel, rfl, by decide +kernel, by decide +kernel⟩
def spEndsInOrder (K : PySem.W.Frag) : Sp := fun vs H Q _ => ∃ (p : Addr) (us : List V) (D : PyData) (ts : List FT), vs = [.ref p] ∧ H p = some (.lst us) ∧ DpAll K H us (post D) ∧ (post D).length ≤ 400 ∧ Der D ts ∧ ∀ H' q xs u, Same H H' → H' q = some (.lst (xs ++ [u])) → StE K H' u ts → Q (.ref q) H'
theorem paired_snoc {α β : Type} {r : α → β → Prop} : ∀ {xs : List α} {s t : List β}, Paired r xs (s ++ t) → ∃ a b, xs = a ++ b ∧ Paired r a s ∧ Paired r b t
  | _, [], _, h => ⟨[], _, rfl, .nil, h⟩
  | _, _ :: _, _, .cons h g => by
    obtain ⟨a, b, e, h1, h2⟩ := paired_snoc g
    exact ⟨_ :: a, b, by rw [e]; rfl, .cons h h1, h2⟩
theorem same_ktL {H : Hp} {L : Addr} {xs : List V} {o : HO} (h : H L = some (.lst xs)) : KT H (upd H L o) := fun a o' n e => by
  refine (upd_ne (fun z => ?_)).trans e
  subst z
  rw [h] at e
  cases e
  rcases n with ⟨ys, n⟩ | ⟨ob, u, n⟩ <;> cases n
section
variable {P : Program} {w : World} {K : PySem.W.Frag} {mg : Str → Option Value} {base : Heap} {f : Addr} {fd : FuncData}
theorem okends_in_order (T : Txt K mg) (Csteps_within : Cal P w K mg base "steps_within" 2 Nis_integer (spWithin K)) (Ctaken_from : Cal P w K mg base "taken_from" 1 Ptaken_from (spTaken K)) (Cends_of_step : Cal P w K mg base "ends_of_step" 17 Nlink_ends (spEndsOfStep K)) (F : Fun K "ends_in_order" "ends_in_order" sends_in_order f fd) :
    FnOk P w K mg base CX0 18 f fd Pdepth_of_steps (spEndsInOrder K) := by
  refine F.ok scends_in_order (fun vs H Q E h => ?_) (fun cdv A outer s H vs Q E hr h => ?_)
  · obtain ⟨p, us, D, ts, rfl, _⟩ := h
    rfl
  obtain ⟨p, us, D, ts, rfl, hp, hu, hn, hD, q⟩ := h
  refine ⟨_, (pss_cons (ps_set (i := 1) scends_in_order.nd rfl (Or.inl rfl) (pe_lst pa_nil))
  (pss_cons (ps_set (i := 2) scends_in_order.nd rfl (Or.inl rfl) (pe_lst pa_nil))
  (pss_cons (ps_for PassesOwn.never rfl (pi_list (pv 0)) (pg_name (i := 3) scends_in_order.nd rfl (Or.inl rfl))
    (pss_cons (ps_set (i := 4) scends_in_order.nd rfl (Or.inl rfl) (pe_callC Cends_of_step hr (pa_cons (pv 3) (pa_cons (pe_callC Ctaken_from hr (pa_cons (pv 1) (pa_cons (pe_callB call_len rfl T.len (by decide +kernel) (pa_cons (pe_callC Csteps_within hr (pa_cons (pv 3) pa_nil)) pa_nil)) pa_nil))) pa_nil))))
    (pss_cons (ps_expr (pe_bm PySem.F.plainAttrs_list PySem.F.slot_list_append PySem.F.type_list_append mt_append (pv 2) (pa_cons (pv 4) pa_nil)))
    (pss_cons (ps_if (pt_cmpR op_isN (pv 4) pe_non (nomark _))
      (pss_one (ps_ret (pv 2)))
      pss_nil)
    (pss_one (ps_expr (pe_bm PySem.F.plainAttrs_list PySem.F.slot_list_append PySem.F.type_list_append mt_append (pv 1) (pa_cons (pv 4) pa_nil))))))))
  (pss_one (ps_ret (pv 2)))))), ?_⟩
  have hul := dpAll_len hu
  have r0 : RunE [] (post D) [ts] := run_post hD []
  refine ⟨(by show 0 ≤ sizeLine; decide), fun L nL => ?_⟩
  refine ⟨(by show 0 ≤ sizeLine; decide), fun R nR => ?_⟩
  have nRL : R ≠ L := fun e => by rw [e, upd_same] at nR; cases nR
  have nRH : H R = none := by rw [upd_ne nRL] at nR; exact nR
  have k0 : Same H (upd (upd H L (.lst [])) R (.lst [])) := same_fresh (same_fresh (Same.refl H) nL) nRH
  refine ⟨_, rfl, p, rfl, ⟨us, SqL.of (k0 _ _ hp)⟩, for_list (K := K) (a := p) (xs := us) (fun i σ H' => ∃ (o1 o2 : Option V) (wv tv : List V) (ss : List (List FT)), σ = [some (.ref p), some (.ref L), some (.ref R), o1, o2] ∧ Same H H' ∧ H' L = some (.lst wv) ∧ H' R = some (.lst tv) ∧
      Paired (StE K H') wv ss ∧ (∀ t, t ∈ ss → Fit t) ∧ RunE ss ((post D).drop i) [ts] ∧ wv.length ≤ i ∧ tv.length = i ∧ (i = 0 ∨ ∃ a x b y, wv = a ++ [x] ∧ tv = b ++ [y] ∧ x = y)) ⟨none, none, [], [], [], rfl, k0, by rw [upd_ne (Ne.symm nRL)]; exact upd_same, upd_same, .nil, (fun t z => nomatch z), r0, Nat.zero_le _, rfl, .inl rfl⟩ (fun i σ H' _ ⟨_, _, _, _, _, _, S, _⟩ => SqL.of (S _ _ hp)) (fun i x σ H' hx ⟨o1, o2, wv, tv, ss, eσ, S, eL, eR, hP, hfit, hr2, hw, ht, _⟩ => ?_) (fun σ H' ⟨o1, o2, wv, tv, ss, eσ, S, eL, eR, hP, hfit, hr2, hw, ht, hlast⟩ => ?_)⟩
  · subst eσ
    obtain ⟨d, hd, hxd⟩ := dpAll_get hu hx
    rw [drop_get hd] at hr2
    obtain ⟨s0, ls, ts', es, hk, hS, hF, hr3⟩ := hr2
    subst es
    obtain ⟨wa, wb, ew, pa, pb⟩ := paired_snoc hP
    subst ew
    have hi : i < us.length := (List.getElem?_eq_some_iff.mp hx).1
    have lb := paired_len pb
    rw [List.length_append] at hw
    refine ⟨_, rfl, _, rfl, _, rfl, x, d, H, rfl, S, hxd, fun H1 pt ut s1 et hut => ?_⟩
    have hul2 := dpAll_len hut
    refine ⟨_, _, rfl, .inr ⟨ut, et, rfl⟩, ?_⟩
    rw [hul2]
    refine ⟨L, wa ++ wb, (kids d).length, rfl, s1 _ _ eL, by rw [List.length_append]; omega, by rw [List.length_append]; omega, fun pl npl => ?_⟩
    have ecut : (wa ++ wb).length - (kids d).length = wa.length := by rw [List.length_append, hk, ← lb]; omega
    rw [ecut, List.drop_left, List.take_left]
    have npL : pl ≠ L := fun e => by rw [e, s1 _ _ eL] at npl; cases npl
    have npR : pl ≠ R := fun e => by rw [e, s1 _ _ eR] at npl; cases npl
    have k1 := S.trans s1
    have nplH := none_of k1 npl
    have k2 : Same H (upd (upd H1 pl (.lst wb)) L (.lst wa)) := same_fresh (same_fresh k1 nplH) nL
    have t2 : KT H' (upd (upd H1 pl (.lst wb)) L (.lst wa)) := ((Same.kt s1).trans (Same.kt (same_new npl _))).trans (same_ktL (xs := wa ++ wb) (by rw [upd_ne (Ne.symm npL)]; exact s1 _ _ eL))
    have e1 : upd (upd H1 pl (.lst wb)) L (.lst wa) pl = some (.lst wb) := by rw [upd_ne npL]; exact upd_same
    have e2 : upd (upd H1 pl (.lst wb)) L (.lst wa) L = some (.lst wa) := upd_same
    have e3 : upd (upd H1 pl (.lst wb)) L (.lst wa) R = some (.lst tv) := by rw [upd_ne nRL, upd_ne (Ne.symm npR)]; exact s1 _ _ eR
    generalize upd (upd H1 pl (.lst wb)) L (.lst wa) = H2 at k2 t2 e1 e2 e3 ⊢
    refine ⟨x, d, pl, wb, ls, ts', rfl, dp_same k2 _ _ hxd, SqL.of e1, paired_imp (fun _ _ g => StE.kt t2 g) pb, fun t z => hfit t (List.mem_append_right _ z), hS, hF, fun H3 u s3 hu3 => ?_⟩
    have k3 := k2.trans s3
    refine ⟨_, rfl, .inl ⟨rfl, _, SqL.of (s3 _ _ e3)⟩, _, rfl, R, tv, u, rfl, rfl, s3 _ _ e3, Nat.le_of_lt (small1000 (by omega)), ?_⟩
    have k4 : Same H (upd H3 R (.lst (tv ++ [u]))) := same_fresh k3 nRH
    have t4 : KT H2 (upd H3 R (.lst (tv ++ [u]))) := (Same.kt s3).trans (same_ktL (s3 _ _ e3))
    have t4' : KT H3 (upd H3 R (.lst (tv ++ [u]))) := same_ktL (s3 _ _ e3)
    have f1 : upd H3 R (.lst (tv ++ [u])) L = some (.lst wa) := by rw [upd_ne (Ne.symm nRL)]; exact s3 _ _ e2
    have f2 : upd H3 R (.lst (tv ++ [u])) R = some (.lst (tv ++ [u])) := upd_same
    generalize upd H3 R (.lst (tv ++ [u])) = H4 at k4 t4 t4' f1 f2 ⊢
    obtain ⟨pu, uu, eu, gu, pu'⟩ := hu3
    subst eu
    refine ⟨_, rfl, rfl, _, rfl, ?_⟩
    refine ite2 (fun z => by simp at z) (fun _ => ?_)
    refine ⟨_, rfl, .inl ⟨rfl, _, SqL.of f1⟩, _, rfl, L, wa, .ref pu, rfl, rfl, f1, Nat.le_of_lt (small1000 (by omega)), ?_⟩
    have t5 : KT H4 (upd H4 L (.lst (wa ++ [.ref pu]))) := same_ktL f1
    refine ⟨_, _, wa ++ [.ref pu], tv ++ [.ref pu], s0 ++ [ts'], rfl, same_fresh k4 nL, upd_same, by rw [upd_ne nRL]; exact f2, ?_, ?_, hr3, ?_, ?_, .inr ⟨wa, _, tv, _, rfl, rfl, rfl⟩⟩
    · exact paired_app (paired_imp (fun _ _ g => StE.kt ((t2.trans t4).trans t5) g) pa) (.cons ⟨pu, uu, rfl, (t4'.trans t5).seq gu, paired_imp (fun _ t g => (t4'.trans t5).fm t g) pu'⟩ .nil)
    · intro t z
      rcases List.mem_append.mp z with z | z
      · exact hfit t (List.mem_append_left _ z)
      · rw [List.mem_singleton.mp z]
        exact hF
    · rw [List.length_append, List.length_singleton]
      omega
    · rw [List.length_append, List.length_singleton]
      omega
  · subst eσ
    rw [hul, List.drop_length] at hr2
    have e : ss = [ts] := hr2
    subst e
    rcases hlast with e0 | ⟨a, x, b, y, ew, et, exy⟩
    · have := post_eq D
      rw [hul, this, List.length_append, List.length_singleton] at e0
      omega
    · subst exy
      subst ew
      subst et
      refine ⟨_, rfl, q _ R b x S eR ?_⟩
      match a, hP with
      | [], .cons h .nil => exact h
      | _ :: a, .cons _ g =>
        have := paired_len g
        simp at this
end
end My

set_option Elab.async false
set_option linter.all false
set_option maxRecDepth 100000
namespace My
open PySem L2
/-! ### the steps of plain deeds -/
def tn (d : PyData) : PyData := .tuple [.str "turn", d, .tuple [.int (1 : Nat), .int (0 : Nat)]]
def bt (d : PyData) (i j : Nat) : PyData := .tuple [.str "between", d, .int i, .int j]
def bo (c d : PyData) (i j : Nat) : PyData := .tuple [.str "both", c, d, .int i, .int j]
def of' (c d : PyData) (i j : Nat) : PyData := .tuple [.str "offer", c, d, .int i, .int j]
def ch (d : PyData) (i j : Nat) (f : FT) : PyData := .tuple [.str "choose", d, .int i, .int j, f.data]
def lk (n : List Nat) : PyData := .tuple [.str "link", .str (Z n)]
def plS : FT → PyData
  | .leaf false n => lk n
  | .leaf true n => tn (lk n)
  | .node .mul l r => bt (bo (plS l) (plS r) 0 0) 0 1
  | .node .bar l r => tn (bt (bo (plS l) (plS r) 1 1) 0 1)
  | .node .amp l r => tn (of' (ch (plS l) 1 0 (cnt r)) (ch (plS r) 1 1 (cnt l)) 0 0)
  | .node .plus l r => of' (ch (plS l) 0 0 r) (ch (plS r) 0 1 l) 0 0
theorem kids_of {z : Str} {r : List PyData} {k : Nat} (h : lenOf z = some (r.length + 1)) (w : widOf z = k) : kids (.tuple (.str z :: r)) = r.take k := by
  show (if shapeD (.tuple (.str z :: r)) = true then r.take (widOf z) else []) = _
  rw [if_pos (shape_of h), w]
theorem wid_link : widOf "link" = 0 := by decide +kernel
theorem wid_both : widOf "both" = 2 := by decide +kernel
theorem wid_between : widOf "between" = 1 := by decide +kernel
theorem wid_offer : widOf "offer" = 2 := by decide +kernel
theorem wid_choose : widOf "choose" = 1 := by decide +kernel
theorem wid_turn : widOf "turn" = 1 := by decide +kernel
theorem kids_lk (n : List Nat) : kids (lk n) = [] := kids_of len_link wid_link
theorem kids_tn (d : PyData) : kids (tn d) = [d] := kids_of len_turn wid_turn
theorem kids_bt (d : PyData) (i j : Nat) : kids (bt d i j) = [d] := kids_of len_between wid_between
theorem kids_bo (c d : PyData) (i j : Nat) : kids (bo c d i j) = [c, d] := kids_of len_both wid_both
theorem kids_of' (c d : PyData) (i j : Nat) : kids (of' c d i j) = [c, d] := kids_of len_offer wid_offer
theorem kids_ch (d : PyData) (i j : Nat) (f : FT) : kids (ch d i j f) = [d] := kids_of len_choose wid_choose
theorem der0 {D : PyData} {ts : List FT} (h : Stp D [] ts) (k : kids D = []) (f : Fit ts) : Der D ts := .mk h f (by rw [k]; rfl) fun i d l e _ => by rw [k] at e; simp at e
theorem der1 {D d : PyData} {l ts : List FT} (h : Stp D [l] ts) (k : kids D = [d]) (f : Fit ts) (g : Der d l) : Der D ts := .mk h f (by rw [k]; rfl) fun i d' l' e1 e2 => by
  rw [k] at e1
  match i with
  | 0 =>
    simp at e1 e2
    rw [← e1, ← e2]
    exact g
  | i + 1 => simp at e1
theorem der2 {D c d : PyData} {l m ts : List FT} (h : Stp D [l, m] ts) (k : kids D = [c, d]) (f : Fit ts) (g : Der c l) (g2 : Der d m) : Der D ts := .mk h f (by rw [k]; rfl) fun i d' l' e1 e2 => by
  rw [k] at e1
  match i with
  | 0 =>
    simp at e1 e2
    rw [← e1, ← e2]
    exact g
  | 1 =>
    simp at e1 e2
    rw [← e1, ← e2]
    exact g2
  | i + 2 => simp at e1
theorem lvs_pos : ∀ t : FT, 1 ≤ t.lvs
  | .leaf _ _ => Nat.le_refl 1
  | .node _ l r => by
    have := lvs_pos l
    show 1 ≤ l.lvs + r.lvs
    omega
def Fits (t : FT) : Prop := t.Ok ∧ t.dep ≤ 12
theorem Fits.cnt {t : FT} (h : Fits t) : Fits (cnt t) := ⟨cnt_ok t h.1, by rw [cnt_dep]; exact h.2⟩
theorem Fits.node {s s' : Sg} {l r : FT} (h : Fits (.node s l r)) : Fits l ∧ Fits r ∧ Fits (.node s' l r) ∧ Fits (.node s' (My.cnt l) (My.cnt r)) := by
  obtain ⟨⟨h1, h2⟩, h3⟩ := h
  have h3' : 1 + max l.dep r.dep ≤ 12 := h3
  refine ⟨⟨h1, by omega⟩, ⟨h2, by omega⟩, ⟨⟨h1, h2⟩, h3⟩, ⟨⟨cnt_ok l h1, cnt_ok r h2⟩, ?_⟩⟩
  show 1 + max (My.cnt l).dep (My.cnt r).dep ≤ 12
  rw [cnt_dep, cnt_dep]
  exact h3'
theorem fit2 {a b : FT} (ha : Fits a) (hb : Fits b) (h : a.lvs + b.lvs ≤ 40) : Fit [a, b] := by
  refine ⟨by simp, by simp, fun t ht => ?_, ?_⟩
  · simp only [List.mem_cons, List.not_mem_nil, or_false] at ht
    rcases ht with rfl | rfl
    · exact ha
    · exact hb
  · show a.lvs + (b.lvs + 0) ≤ 40
    omega
theorem fit3 {a b c : FT} (ha : Fits a) (hb : Fits b) (hc : Fits c) (h : a.lvs + b.lvs + c.lvs ≤ 40) : Fit [a, b, c] := by
  refine ⟨by simp, by simp, fun t ht => ?_, ?_⟩
  · simp only [List.mem_cons, List.not_mem_nil, or_false] at ht
    rcases ht with rfl | rfl | rfl
    · exact ha
    · exact hb
    · exact hc
  · show a.lvs + (b.lvs + (c.lvs + 0)) ≤ 40
    omega
theorem ord10 : orderD [.int (1 : Nat), .int (0 : Nat)] 2 = true := by decide +kernel
theorem der_tn {d : PyData} {a b : FT} (g : Der d [a, b]) : Der (tn d) [b, a] := by
  obtain ⟨h1, h2, h3, h4⟩ := g.fit
  refine der1 (l := [a, b]) (Stp.turn ord10 (by decide)) (kids_tn d) ⟨by simp, by simp, fun t ht => h3 t ?_, ?_⟩ g
  · simp only [List.mem_cons, List.not_mem_nil, or_false] at ht ⊢
    exact ht.symm
  · have h4' : a.lvs + (b.lvs + 0) ≤ 40 := h4
    show b.lvs + (a.lvs + 0) ≤ 40
    omega
theorem der_lk {n : List Nat} (h : isName (Z n) = true) : Der (lk n) [.leaf false n, .leaf true n] :=
  der0 (Stp.link n) (kids_lk n) (fit2 ⟨h, Nat.zero_le _⟩ ⟨h, Nat.zero_le _⟩ (by show 1 + 1 ≤ 40; decide))
theorem node_lvs (s : Sg) (l r : FT) : (FT.node s l r).lvs = l.lvs + r.lvs := rfl
theorem der_pl : ∀ t : FT, Fits t → t.lvs ≤ 20 → Der (plS t) [t, cnt t]
  | .leaf false n, h, _ => der_lk h.1
  | .leaf true n, h, _ => der_tn (der_lk (n := n) h.1)
  | .node .mul l r, h, hl => by
    obtain ⟨f1, f2, f3, f4⟩ := h.node (s' := .bar)
    have hl' : l.lvs + r.lvs ≤ 20 := hl
    have c1 := cnt_lvs l
    have c2 := cnt_lvs r
    have g : Der (bo (plS l) (plS r) 0 0) [cnt l, cnt r, .node .mul l r] := der2 (Stp.both (us := [l, cnt l]) (ws := [r, cnt r]) (i := 0) (j := 0) rfl rfl) (kids_bo _ _ _ _) (fit3 f1.cnt f2.cnt h (by rw [node_lvs]; omega)) (der_pl l f1 (by omega)) (der_pl r f2 (by omega))
    exact der1 (Stp.between (us := [cnt l, cnt r, .node .mul l r]) (i := 0) (j := 1) rfl rfl (by decide)) (kids_bt _ _ _) (fit2 h f4 (by simp only [cnt_lvs, node_lvs]; omega)) g
  | .node .bar l r, h, hl => by
    obtain ⟨f1, f2, f3, f4⟩ := h.node (s' := .mul)
    have hl' : l.lvs + r.lvs ≤ 20 := hl
    have c1 := cnt_lvs l
    have c2 := cnt_lvs r
    have g : Der (bo (plS l) (plS r) 1 1) [l, r, .node .mul (cnt l) (cnt r)] := der2 (Stp.both (us := [l, cnt l]) (ws := [r, cnt r]) (i := 1) (j := 1) rfl rfl) (kids_bo _ _ _ _) (fit3 f1 f2 f4 (by rw [node_lvs]; omega)) (der_pl l f1 (by omega)) (der_pl r f2 (by omega))
    exact der_tn (der1 (Stp.between (us := [l, r, .node .mul (cnt l) (cnt r)]) (i := 0) (j := 1) rfl rfl (by decide)) (kids_bt _ _ _) (fit2 f4 h (by simp only [cnt_lvs, node_lvs]; omega)) g)
  | .node .amp l r, h, hl => by
    obtain ⟨f1, f2, f3, f4⟩ := h.node (s' := .plus)
    have hl' : l.lvs + r.lvs ≤ 20 := hl
    have c1 := cnt_lvs l
    have c2 := cnt_lvs r
    have g1 : Der (ch (plS l) 1 0 (cnt r)) [l, .node .plus (cnt l) (cnt r)] := der1 (Stp.choose (us := [l, cnt l]) (i := 1) (j := 0) rfl (by decide)) (kids_ch _ _ _ _) (fit2 f1 f4 (by rw [node_lvs]; omega)) (der_pl l f1 (by omega))
    have g2 : Der (ch (plS r) 1 1 (cnt l)) [r, .node .plus (cnt l) (cnt r)] := der1 (Stp.choose (us := [r, cnt r]) (i := 1) (j := 1) rfl (by decide)) (kids_ch _ _ _ _) (fit2 f2 f4 (by rw [node_lvs]; omega)) (der_pl r f2 (by omega))
    exact der_tn (der2 (Stp.offer (us := [l, .node .plus (cnt l) (cnt r)]) (ws := [r, .node .plus (cnt l) (cnt r)]) (i := 0) (j := 0) rfl rfl rfl) (kids_of' _ _ _ _) (fit2 f4 h (by simp only [cnt_lvs, node_lvs]; omega)) g1 g2)
  | .node .plus l r, h, hl => by
    obtain ⟨f1, f2, f3, f4⟩ := h.node (s' := .amp)
    have hl' : l.lvs + r.lvs ≤ 20 := hl
    have c1 := cnt_lvs l
    have c2 := cnt_lvs r
    have g1 : Der (ch (plS l) 0 0 r) [cnt l, .node .plus l r] := der1 (Stp.choose (us := [l, cnt l]) (i := 0) (j := 0) rfl (by decide)) (kids_ch _ _ _ _) (fit2 f1.cnt h (by rw [node_lvs]; omega)) (der_pl l f1 (by omega))
    have g2 : Der (ch (plS r) 0 1 l) [cnt r, .node .plus l r] := der1 (Stp.choose (us := [r, cnt r]) (i := 0) (j := 1) rfl (by decide)) (kids_ch _ _ _ _) (fit2 f2.cnt h (by rw [node_lvs]; omega)) (der_pl r f2 (by omega))
    exact der2 (Stp.offer (us := [cnt l, .node .plus l r]) (ws := [cnt r, .node .plus l r]) (i := 0) (j := 0) rfl rfl rfl) (kids_of' _ _ _ _) (fit2 h f4 (by simp only [cnt_lvs, node_lvs]; omega)) g1 g2
/-! ### how many, how deep -/
def cntS (D : PyData) : Nat := (post D).length
theorem cntS0 {D : PyData} (k : kids D = []) : cntS D = 1 := by unfold cntS; rw [post_eq, k]; simp
theorem cntS1 {D d : PyData} (k : kids D = [d]) : cntS D = cntS d + 1 := by unfold cntS; rw [post_eq, k]; simp
theorem cntS2 {D c d : PyData} (k : kids D = [c, d]) : cntS D = cntS c + cntS d + 1 := by unfold cntS; rw [post_eq, k]; simp; omega
theorem cnt_pl : ∀ t : FT, cntS (plS t) + 4 ≤ 6 * t.lvs
  | .leaf false n => by rw [plS, cntS0 (kids_lk n)]; show 5 ≤ 6; decide
  | .leaf true n => by rw [plS, cntS1 (kids_tn _), cntS0 (kids_lk n)]; show 6 ≤ 6; decide
  | .node .mul l r => by have := cnt_pl l; have := cnt_pl r; rw [plS, cntS1 (kids_bt _ _ _), cntS2 (kids_bo _ _ _ _), node_lvs]; omega
  | .node .bar l r => by have := cnt_pl l; have := cnt_pl r; rw [plS, cntS1 (kids_tn _), cntS1 (kids_bt _ _ _), cntS2 (kids_bo _ _ _ _), node_lvs]; omega
  | .node .amp l r => by have := cnt_pl l; have := cnt_pl r; rw [plS, cntS1 (kids_tn _), cntS2 (kids_of' _ _ _ _), cntS1 (kids_ch _ _ _ _), cntS1 (kids_ch _ _ _ _), node_lvs]; omega
  | .node .plus l r => by have := cnt_pl l; have := cnt_pl r; rw [plS, cntS2 (kids_of' _ _ _ _), cntS1 (kids_ch _ _ _ _), cntS1 (kids_ch _ _ _ _), node_lvs]; omega
theorem depS_eq (D : PyData) : depS D = 1 + ((kids D).map depS).foldl max 0 := by
  show fold _ D = _
  rw [fold_eq]
  rfl
theorem depS0 {D : PyData} (k : kids D = []) : depS D = 1 := by rw [depS_eq, k]; rfl
theorem depS1 {D d : PyData} (k : kids D = [d]) : depS D = 1 + depS d := by rw [depS_eq, k]; simp
theorem depS2 {D c d : PyData} (k : kids D = [c, d]) : depS D = 1 + max (depS c) (depS d) := by rw [depS_eq, k]; simp
theorem node_dep (s : Sg) (l r : FT) : (FT.node s l r).dep = 1 + max l.dep r.dep := rfl
theorem dep_pl : ∀ t : FT, depS (plS t) ≤ 3 * t.dep + 2
  | .leaf false n => by rw [plS, depS0 (kids_lk n)]; exact Nat.le_add_left 1 _
  | .leaf true n => by rw [plS, depS1 (kids_tn _), depS0 (kids_lk n)]; exact Nat.le_add_left 2 _
  | .node .mul l r => by have := dep_pl l; have := dep_pl r; rw [plS, depS1 (kids_bt _ _ _), depS2 (kids_bo _ _ _ _), node_dep]; omega
  | .node .bar l r => by have := dep_pl l; have := dep_pl r; rw [plS, depS1 (kids_tn _), depS1 (kids_bt _ _ _), depS2 (kids_bo _ _ _ _), node_dep]; omega
  | .node .amp l r => by have := dep_pl l; have := dep_pl r; rw [plS, depS1 (kids_tn _), depS2 (kids_of' _ _ _ _), depS1 (kids_ch _ _ _ _), depS1 (kids_ch _ _ _ _), node_dep]; omega
  | .node .plus l r => by have := dep_pl l; have := dep_pl r; rw [plS, depS2 (kids_of' _ _ _ _), depS1 (kids_ch _ _ _ _), depS1 (kids_ch _ _ _ _), node_dep]; omega
theorem deep_pl : ∀ t : FT, (plS t).depth ≤ 3 * t.dep + 2
  | .leaf false n => by simp [plS, lk, PyData.depth, PyData.depthAll]
  | .leaf true n => by simp [plS, lk, tn, PyData.depth, PyData.depthAll]
  | .node .mul l r => by have := deep_pl l; have := deep_pl r; simp [plS, bt, bo, PyData.depth, PyData.depthAll, FT.dep]; omega
  | .node .bar l r => by have := deep_pl l; have := deep_pl r; simp [plS, tn, bt, bo, PyData.depth, PyData.depthAll, FT.dep]; omega
  | .node .amp l r => by have := deep_pl l; have := deep_pl r; simp [plS, tn, of', ch, PyData.depth, PyData.depthAll, FT.dep, FT.deep, cnt_dep]; omega
  | .node .plus l r => by have := deep_pl l; have := deep_pl r; simp [plS, of', ch, PyData.depth, PyData.depthAll, FT.dep, FT.deep]; omega
theorem short_pl : ∀ t : FT, Fits t → shortD (plS t) = true := by
  have w : okStr "link" = true ∧ okStr "turn" = true ∧ okStr "both" = true ∧ okStr "between" = true ∧ okStr "offer" = true ∧ okStr "choose" = true := by decide +kernel
  obtain ⟨w1, w2, w3, w4, w5, w6⟩ := w
  have fm : ∀ t : FT, Fits t → shortD t.data = true := fun t h => short_form (ft_isForm t h.1 h.2)
  intro t
  induction t with
  | leaf co n =>
    intro h
    have h1 := okStr_of_name h.1
    cases co <;> simp [plS, lk, tn, shortD, shortAll, w1, w2, h1]
  | node s l r ihl ihr =>
    intro h
    obtain ⟨f1, f2, _, _⟩ := h.node (s' := .mul)
    have h1 := ihl f1
    have h2 := ihr f2
    have g1 := fm _ f1
    have g2 := fm _ f2
    have g3 := fm _ f1.cnt
    have g4 := fm _ f2.cnt
    cases s <;> simp [plS, tn, bt, bo, of', ch, shortD, shortAll, w2, w3, w4, w5, w6, h1, h2, g1, g2, g3, g4]
end My

set_option Elab.async false
set_option linter.all false
set_option maxRecDepth 100000
namespace My
open PySem L2
abbrev Nplain_steps : List Str := ["form", "word", "left", "right", "one", "other", "chosen_left", "chosen_right"]
def spPlain (K : PySem.W.Frag) (n : Nat) : Sp := fun vs H Q _ => ∃ v t, vs = [v] ∧ Fm K H t v ∧ t.dep < n ∧ ∀ H' u, Same H H' → Dp K H' u (plS t) → Q u H'
section
variable {K : PySem.W.Frag} {H : Hp}
theorem mk_lk {a : Addr} {n : List Nat} (h : SqT K H a [.str "link", .str (Z n)]) : Dp K H (.ref a) (lk n) := .tup h (.cons (.str _) (.cons (.str _) .nil))
theorem mk_tn {a b : Addr} {x : V} {d : PyData} (h : SqT K H a [.str "turn", x, .ref b]) (g : SqT K H b [.int 1, .int 0]) (k : Dp K H x d) : Dp K H (.ref a) (tn d) := .tup h (.cons (.str _) (.cons k (.cons (.tup g (.cons (.int _) (.cons (.int _) .nil))) .nil)))
theorem mk_bt {a : Addr} {x : V} {d : PyData} {i j : Nat} (h : SqT K H a [.str "between", x, .int i, .int j]) (k : Dp K H x d) : Dp K H (.ref a) (bt d i j) := .tup h (.cons (.str _) (.cons k (.cons (.int _) (.cons (.int _) .nil))))
theorem mk_bo {a : Addr} {x y : V} {c d : PyData} {i j : Nat} (h : SqT K H a [.str "both", x, y, .int i, .int j]) (k : Dp K H x c) (g : Dp K H y d) : Dp K H (.ref a) (bo c d i j) := .tup h (.cons (.str _) (.cons k (.cons g (.cons (.int _) (.cons (.int _) .nil)))))
theorem mk_of {a : Addr} {x y : V} {c d : PyData} {i j : Nat} (h : SqT K H a [.str "offer", x, y, .int i, .int j]) (k : Dp K H x c) (g : Dp K H y d) : Dp K H (.ref a) (of' c d i j) := .tup h (.cons (.str _) (.cons k (.cons g (.cons (.int _) (.cons (.int _) .nil)))))
theorem mk_ch {a : Addr} {x y : V} {d : PyData} {f : FT} {i j : Nat} (h : SqT K H a [.str "choose", x, .int i, .int j, y]) (k : Dp K H x d) (g : Fm K H f y) : Dp K H (.ref a) (ch d i j f) := .tup h (.cons (.str _) (.cons k (.cons (.int _) (.cons (.int _) (.cons (FT.of_fm f g) .nil)))))
end
section
variable {P : Program} {w : World} {K : PySem.W.Frag} {mg : Str → Option Value} {base : Heap} {f : Addr} {fd : FuncData}
end
end My

set_option Elab.async false
set_option linter.all false
set_option maxRecDepth 100000
namespace My
open PySem L2 PyProof.Rows
/-! ### deeds -/
abbrev sDd0 : Stmt := inClass (top 55) 0
abbrev NDd0 : List Str := ["self", "steps", "found", "told"]
abbrev PDd0 : List Str := ["self", "steps"]
theorem scDd0 : FnScope NDd0 PDd0 (defScope sDd0) := ⟨rfl, rfl, rfl, by decide +kernel, rfl, by decide +kernel, by decide +kernel⟩
abbrev sDd1 : Stmt := inClass (top 55) 1
abbrev NDd1 : List Str := ["self", "other"]
theorem scDd1 : FnScope NDd1 NDd1 (defScope sDd1) := ⟨rfl, rfl, rfl, by decide +kernel, rfl, by decide +kernel, by decide +kernel⟩
abbrev sDd2 : Stmt := inClass (top 55) 2
abbrev NDd2 : List Str := ["self"]
theorem scDd2 : FnScope NDd2 NDd2 (defScope sDd2) := ⟨rfl, rfl, rfl, by decide +kernel, rfl, by decide +kernel, by decide +kernel⟩
abbrev ssteps_of : Stmt := top 56
abbrev Nsteps_of : List Str := ["deed"]
theorem scsteps_of : FnScope Nsteps_of Nsteps_of (defScope ssteps_of) := ⟨rfl, rfl, rfl, by decide +kernel, rfl, by decide +kernel, by decide +kernel⟩
theorem ps_no {X : Cx} {st : Stmt} : PS X st (fun _ _ _ => False) := ⟨fun _ _ _ _ _ _ h => h.elim⟩
def dF (v u : V) : List (Str × V) := [("steps", v), ("ends", u)]
theorem nSE : ¬ (("steps" : Str) = "ends") := by decide +kernel
theorem nES : (("ends" : Str) == "steps") = false := by decide +kernel
theorem putF_dF (v u : V) : putF "ends" u (putF "steps" v []) = dF v u := by
  show (if ("steps" : Str) = "ends" then _ else _ : List (Str × V)) = _
  rw [if_neg nSE]
  rfl
theorem dF_steps (v u : V) : (dF v u).lookup ("steps" : Str) = some v := by
  unfold dF
  simp only [List.lookup, beq_self_eq_true]
theorem dF_ends (v u : V) : (dF v u).lookup ("ends" : Str) = some u := by
  unfold dF
  simp only [List.lookup, nES, beq_self_eq_true]
theorem dF_no {a b : V} {m : Str} (h1 : (m == "steps") = false := by decide +kernel) (h2 : (m == "ends") = false := by decide +kernel) : (dF a b).lookup m = none := by
  unfold dF
  simp only [List.lookup, h1, h2]
structure DeedT (K : PySem.W.Frag) (mg : Str → Option Value) where
  C : Addr
  fI : Addr
  cl : Cls K C
  nSteps : NoAttr K C "steps"
  nEnds : NoAttr K C "ends"
  made : Mk K C fI
  g : mg "Deed" = some (.ref C)
  ha : PySem.W.findIn K (.ref C) "__class__" = some (some (.builtin "object.__class__"))
  hn : PySem.W.specialIn K (.builtin "object.__class__") "__get__" = some (some (.builtin "getset_descriptor.__get__"))
  htk : PySem.W.takesIn K (.builtin "object.__class__") = some true
  hm : PySem.W.mroIn K C (.type "object") = some true
  fE : Addr
  hs : PySem.W.findIn K (.ref C) "__eq__" = some (some (.ref fE))
  hf : PySem.W.isFn K (.ref fE) = true
structure TxtM (K : PySem.W.Frag) (mg : Str → Option Value) : Prop where
  MOST_STEPS : ∃ u, mg "MOST_STEPS" = some u ∧ RelV (.int 400) u
  MOST_DEPTH : ∃ u, mg "MOST_DEPTH" = some u ∧ RelV (.int 100) u
  MOST_LEAVES : ∃ u, mg "MOST_LEAVES" = some u ∧ RelV (.int 40) u
theorem kit_self {K : PySem.W.Frag} {C : Addr} : PySem.W.kitOne K (.ref C) (.ref C) = some true := by
  unfold PySem.W.kitOne
  rw [if_pos (beq_self_eq_true _)]
theorem DeedT.ty {K : PySem.W.Frag} {mg : Str → Option Value} (T : DeedT K mg) {H : Hp} {a dx : Addr} {fs : List (Str × V)} (h : H a = some (.ins T.C dx fs)) : TyX K H (.ref a) (.ref T.C) := .base (.ins h T.cl T.ha T.hn T.htk T.hm)
/-! own == of two instances -/
section
variable {X : Cx} {C f : Addr} {fd : FuncData} {ps : List Str} {sp : Sp} {n : Nat}
theorem op_eqI (F : FnOk X.prog X.w X.K X.mg X.base CX0 n f fd ps sp) (hs : PySem.W.findIn X.K (.ref C) "__eq__" = some (some (.ref f))) (hf : PySem.W.isFn X.K (.ref f) = true) (hb : Binds X.K fd ps []) (hr : Room n X.A) :
    OpR X (compareOp .Eq) (fun x y H Q => ∃ a b dx dy fs gs, x = .ref a ∧ y = .ref b ∧ H a = some (.ins C dx fs) ∧ H b = some (.ins C dy gs) ∧ sp [x, y] H (fun v H' => ∃ c, v = .bl c ∧ Q (.bl c) H') E0) := by
  intro pins s σ H x y v u Q I rx ry ⟨a, b, dx, dy, fs, gs, ex, ey, ha, hb', q⟩
  subst ex
  subst ey
  cases rx
  cases ry
  obtain ⟨mA, J, _⟩ := ins_get I.hok ha
  obtain ⟨mB, J', _⟩ := ins_get I.hok hb'
  obtain ⟨od, J, _⟩ := J.look
  obtain ⟨od', J', _⟩ := J'.look
  obtain ⟨m, hF⟩ := I.fr
  refine PySem.W.cmp_K (op := .Eq) (tb := .ref C) hr.units0 hF I.ok.mod.kin J J'.type (by simp [PySem.W.notFirst]) hs hf ?_
  refine wpAny_mono (run_fn (us := [.ref a, .ref b]) (vs := [.ref a, .ref b]) F hr hb .nil pass0 I (.cons rfl (.cons rfl .nil)) q) (fun r s' h => ?_) fun _ _ z => z
  obtain ⟨z, H', I', rz, c, ec, q'⟩ := h
  subst ec
  cases rz
  exact ⟨.bl c, H', I', rfl, q'⟩
end
def spDdInit (K : PySem.W.Frag) (C : Addr) : Sp := fun vs H Q _ => ∃ a dx sv D ts, vs = [.ref a, sv] ∧ H a = some (.ins C dx []) ∧ Dp K H sv D ∧ Der D ts ∧ cntS D ≤ 400 ∧ depS D ≤ 100 ∧ ∀ H' u, Keep a H H' → H' a = some (.ins C dx (dF sv u)) → StE K H' u ts → Q .non H'
def spDdEq (K : PySem.W.Frag) (C : Addr) : Sp := fun vs H Q _ => ∃ a b dx dy sv su tv tu D E, vs = [.ref a, .ref b] ∧ H a = some (.ins C dx (dF sv su)) ∧ H b = some (.ins C dy (dF tv tu)) ∧ Dp K H sv D ∧ Dp K H tv E ∧ SeqAt.shaped D = true ∧ SeqAt.shaped E = true ∧ Q (.bl (PyData.eqv D E)) H
def spDdSize (K : PySem.W.Frag) (C : Addr) : Sp := fun vs H Q _ => ∃ a dx sv su D, vs = [.ref a] ∧ H a = some (.ins C dx (dF sv su)) ∧ Dp K H sv D ∧ cntS D ≤ 400 ∧ ∀ H', Same H H' → Q (.int (cntS D : Nat)) H'
def spStepsOf (K : PySem.W.Frag) (C : Addr) : Sp := fun vs H Q _ => ∃ a dx sv su D, vs = [.ref a] ∧ H a = some (.ins C dx (dF sv su)) ∧ Dp K H sv D ∧ cntS D ≤ 400 ∧ ∀ H' p us, Same H H' → H' p = some (.lst us) → DpAll K H' us (post D) → Q (.ref p) H'
section
variable {P : Program} {w : World} {K : PySem.W.Frag} {mg : Str → Option Value} {base : Heap} {f : Addr} {fd : FuncData}
theorem okDd0 (T : Txt K mg) (Y : TxtM K mg) (G : DeedT K mg) (Csteps_in_order : Cal P w K mg base "steps_in_order" 3 Psteps_in_order (spInOrder K)) (Cdepth_of_steps : Cal P w K mg base "depth_of_steps" 3 Pdepth_of_steps (spDepthS K)) (Cends_in_order : Cal P w K mg base "ends_in_order" 18 Pdepth_of_steps (spEndsInOrder K))
    (F : Fun K "__init__" "Deed.__init__" sDd0 f fd) : FnOk P w K mg base CX0 19 f fd PDd0 (spDdInit K G.C) := by
  refine F.ok scDd0 (fun vs H Q E h => ?_) (fun cdv A outer s H vs Q E hr h => ?_)
  · obtain ⟨a, dx, sv, D, ts, rfl, _⟩ := h
    rfl
  obtain ⟨a, dx, sv, D, ts, rfl, ha, hv, hD, hc, hd, q⟩ := h
  refine ⟨_, (pss_cons (ps_set (i := 2) scDd0.nd rfl (Or.inl rfl) (pe_callC Csteps_in_order hr (pa_cons (pv 1) (pa_cons (pe_globE Y.MOST_STEPS) pa_nil))))
    (pss_cons (ps_if (pt_cmpR op_gt (pe_callB call_len rfl T.len (by decide +kernel) (pa_cons (pv 2) pa_nil)) (pe_globE Y.MOST_STEPS) (nomark _)) (pss_one ps_no) pss_nil)
    (pss_cons (ps_if (pt_cmpR op_gt (pe_callC Cdepth_of_steps hr (pa_cons (pv 2) pa_nil)) (pe_globE Y.MOST_DEPTH) (nomark _)) (pss_one ps_no) pss_nil)
    (pss_cons (ps_set (i := 3) scDd0.nd rfl (Or.inl rfl) (pe_callC Cends_in_order hr (pa_cons (pv 2) pa_nil)))
    (pss_cons (ps_if (pt_cmpR op_isN (pe_ix ix_list (pv 3) (pe_un un_neg pe_int) (fun _ _ => rfl)) pe_non (nomark _)) (pss_one ps_no) pss_nil)
    (pss_cons (ps_fld (pv 0) (pv 1) rfl)
    (pss_one (ps_fld (pv 0) (pe_ix ix_list (pv 3) (pe_un un_neg pe_int) (fun _ _ => rfl)) rfl)))))))), ?_⟩
  refine ⟨_, rfl, sv, D, 400, rfl, hv, Nat.le_refl _, fun H1 p us s1 np e1 hu => ?_⟩
  rw [walk_one 401 D (by unfold cntS at hc; omega)] at hu
  have hul := dpAll_len hu
  have hc' : (post D).length ≤ 400 := hc
  refine ⟨_, rfl, _, _, rfl, .inl ⟨us, SqL.of e1, rfl⟩, _, _, rfl, rfl, _, rfl, ?_⟩
  rw [decide_eq_false (by omega)]
  refine iteF ?_
  refine ⟨_, rfl, p, us, D, rfl, e1, dpAll_same s1 _ _ hu, hc', fun H2 s2 => ⟨_, _, rfl, rfl, _, rfl, ?_⟩⟩
  rw [decide_eq_false (by omega)]
  refine iteF ?_
  have s12 := s1.trans s2
  refine ⟨_, rfl, p, us, D, ts, rfl, s2 _ _ e1, dpAll_same s12 _ _ hu, hc', hD, fun H3 r xs u s3 er hu3 => ?_⟩
  have s13 := s12.trans s3
  refine ⟨_, rfl, _, rfl, r, _, _, u, rfl, rfl, SqL.of er, atI_last _ _, rfl, _, rfl, ?_⟩
  obtain ⟨pu, uu, rfl, g1, g2⟩ := hu3
  refine ite2 (fun z => by simp at z) (fun _ => ?_)
  have ha3 := s13 _ _ ha
  refine ⟨_, rfl, _, rfl, a, G.C, dx, _, rfl, ha3, G.cl, G.nSteps, (by show 0 < 1000; decide), ?_⟩
  have nra : r ≠ a := fun e => by
    rw [e, ha3] at er
    cases er
  refine ⟨_, rfl, _, rfl, r, _, _, _, rfl, rfl, SqL.of (by rw [upd_ne nra]; exact er), atI_last _ _, _, rfl, a, G.C, dx, _, rfl, upd_same, G.cl, G.nEnds, (by show 1 < 1000; decide), ?_⟩
  have kk : Keep a H3 (upd (upd H3 a (.ins G.C dx (putF "steps" sv []))) a (.ins G.C dx (putF "ends" (.ref pu) (putF "steps" sv [])))) := Keep.trans (keep_put _) (keep_put _)
  refine q _ (.ref pu) ((Same.toKeep s13).trans kk) (by rw [upd_same, putF_dF]) ?_
  exact StE.kt (Keep.kt ha3 kk) ⟨pu, uu, rfl, g1, g2⟩
theorem okDd1 (T : Txt K mg) (G : DeedT K mg) (F : Fun K "__eq__" "Deed.__eq__" sDd1 f fd) : FnOk P w K mg base CX0 1 f fd NDd1 (spDdEq K G.C) := by
  refine F.ok scDd1 (fun vs H Q E h => ?_) (fun cdv A outer s H vs Q E hr h => ?_)
  · obtain ⟨a, b, dx, dy, sv, su, tv, tu, D, E, rfl, _⟩ := h
    rfl
  obtain ⟨a, b, dx, dy, sv, su, tv, tu, D, E, rfl, ha, hb, hD, hE, sD, sE, q⟩ := h
  refine ⟨_, (pss_one (ps_ret (pe_and (pe_callB call_isi rfl T.isinstance (by decide +kernel) (pa_cons (pv 1) (pa_cons (pe_globE (v := .ref G.C) ⟨_, G.g, rfl⟩) pa_nil))) (pe_one (pe_cmpR (op_eqD hr.units) (pe_fld (pv 0) rfl) (pe_fld (pv 1) rfl) (nomark _)))))), ?_⟩
  refine ⟨_, rfl, _, _, _, _, _, rfl, .own G.C, G.ty hb, kit_self, _, rfl, iteT ?_⟩
  exact ⟨_, rfl, _, G.C, _, _, _, rfl, ha, G.cl, G.nSteps, dF_steps _ _, _, rfl, _, G.C, _, _, _, rfl, hb, G.cl, G.nSteps, dF_steps _ _, D, E, hD, hE, sD, sE, q⟩
theorem oksteps_of (Y : TxtM K mg) (G : DeedT K mg) (Csteps_in_order : Cal P w K mg base "steps_in_order" 3 Psteps_in_order (spInOrder K)) (F : Fun K "steps_of" "steps_of" ssteps_of f fd) : FnOk P w K mg base CX0 4 f fd Nsteps_of (spStepsOf K G.C) := by
  refine F.ok scsteps_of (fun vs H Q E h => ?_) (fun cdv A outer s H vs Q E hr h => ?_)
  · obtain ⟨a, dx, sv, su, D, rfl, _⟩ := h
    rfl
  obtain ⟨a, dx, sv, su, D, rfl, ha, hD, hc, q⟩ := h
  refine ⟨_, (pss_one (ps_ret (pe_callC Csteps_in_order hr (pa_cons (pe_fld (pv 0) rfl) (pa_cons (pe_globE Y.MOST_STEPS) pa_nil))))), ?_⟩
  refine ⟨_, rfl, _, G.C, _, _, _, rfl, ha, G.cl, G.nSteps, dF_steps _ _, sv, D, 400, rfl, hD, Nat.le_refl _, fun H1 p us s1 np e1 hu => ?_⟩
  rw [walk_one 401 D (by unfold cntS at hc; omega)] at hu
  exact q H1 p us s1 e1 (dpAll_same s1 _ _ hu)
theorem okDd2 (T : Txt K mg) (G : DeedT K mg) (Csteps_of : Cal P w K mg base "steps_of" 4 Nsteps_of (spStepsOf K G.C)) (F : Fun K "size" "Deed.size" sDd2 f fd) : FnOk P w K mg base CX0 5 f fd NDd2 (spDdSize K G.C) := by
  refine F.ok scDd2 (fun vs H Q E h => ?_) (fun cdv A outer s H vs Q E hr h => ?_)
  · obtain ⟨a, dx, sv, su, D, rfl, _⟩ := h
    rfl
  obtain ⟨a, dx, sv, su, D, rfl, ha, hD, hc, q⟩ := h
  refine ⟨_, (pss_one (ps_ret (pe_callB call_len rfl T.len (by decide +kernel) (pa_cons (pe_callC Csteps_of hr (pa_cons (pv 0) pa_nil)) pa_nil)))), ?_⟩
  refine ⟨_, rfl, a, dx, sv, su, D, rfl, ha, hD, hc, fun H1 p us s1 e1 hu => ⟨_, _, rfl, .inl ⟨us, SqL.of e1, rfl⟩, ?_⟩⟩
  rw [dpAll_len hu]
  exact q H1 s1
end
end My

set_option Elab.async false
set_option linter.all false
set_option maxRecDepth 100000
namespace My
open PySem L2 PyProof.Rows
/-! ### plain deeds -/
namespace Told
variable {X : Cx} {k j : Nat} {ps : List Str} {sp : Sp} {x : Str} {p pos : Pos} {e : Expr} {es : List Expr} {t : TA}
/-- a call of a def that may raise, where it does not -/
theorem pe_callV (C : CalX X.prog X.w X.K X.mg X.base x k ps sp) (hr : Room j X.A) (ha : PA X (e :: es) t) (hk : k ≤ j := by omega) (hg : Gl X x := by rfl) (hdb : (x == ("__debug__" : Str)) = false := by decide)
    (he : starEach (e :: es) X.env = (false, eval e X.env) :: starEach es X.env := by rfl) (hpl : (backTo pos (starEach es X.env)).any (·.1) = false := by rfl) :
    PE X (.Call (.Name x p) (e :: es) [] pos) (tCall sp [] E0 t) := pe_call C.ok (hr.mono hk) hg C.m C.kp C.b .nil passL ha hdb he hpl
end Told
/-- a deed with these steps and ends -/
def Dd (K : PySem.W.Frag) (C : Addr) (H : Hp) (v : V) (D : PyData) (ts : List FT) : Prop := ∃ a dx sv su, v = .ref a ∧ H a = some (.ins C dx (dF sv su)) ∧ Dp K H sv D ∧ StE K H su ts
theorem Dd.same {K : PySem.W.Frag} {C : Addr} {H H' : Hp} {v : V} {D : PyData} {ts : List FT} (s : Same H H') (h : Dd K C H v D ts) : Dd K C H' v D ts := by
  obtain ⟨a, dx, sv, su, e, h1, h2, h3⟩ := h
  exact ⟨a, dx, sv, su, e, s _ _ h1, dp_same s _ _ h2, h3.kt (Same.kt s)⟩
def spPlainDeed (K : PySem.W.Frag) (C CB CM : Addr) : Sp := fun vs H Q E => ∃ v, vs = [v] ∧ ((∃ t, Fm K H t v ∧ Fits t ∧ (t.lvs ≤ 20 → ∀ H' u, Same H H' → Dd K C H' u (plS t) [t, cnt t] → Q u H') ∧ (20 < t.lvs → badE CM "most" (.int 40) H E)) ∨
  ∃ D, Dp K H v D ∧ (∀ z, D = .str z → z.length ≤ 1000) ∧ shortD D = true ∧ D.depth ≤ 60 ∧ isForm 12 D = false ∧ badE CB "value" v H E)
/-- the deed of steps that are made -/
theorem dd_make {K : PySem.W.Frag} {C : Addr} {H : Hp} {Q : VK} {E : XK} {sv : V} {D : PyData} {ts : List FT} (x dx : Addr) (nx : H x = none) (nd : H dx = none) (ne : dx ≠ x) (hv : Dp K H sv D) (hD : Der D ts) (h1 : cntS D ≤ 400) (h2 : depS D ≤ 100)
    (q : ∀ H' u, Same H H' → Dd K C H' u D ts → Q u H') : spDdInit K C [.ref x, sv] (upd (upd H dx (.own x)) x (.ins C dx [])) (fun v H3 => v = .non ∧ Q (.ref x) H3) E := by
  have s0 := same_make (C := C) nx nd ne
  refine ⟨x, dx, sv, D, ts, rfl, upd_same, dp_same s0 _ _ hv, hD, h1, h2, fun H' u k e hu => ⟨rfl, ?_⟩⟩
  have s1 : Same H H' := fun b o eb => k b o (ne_of_none eb nx) (s0 b o eb)
  exact q H' _ s1 ⟨x, dx, sv, u, rfl, e, dp_same s1 _ _ hv, hu⟩
section
variable {P : Program} {w : World} {K : PySem.W.Frag} {mg : Str → Option Value} {base : Heap} {f : Addr} {fd : FuncData}
end
end My

set_option Elab.async false
set_option linter.all false
set_option maxRecDepth 100000
/-! defs that show data by repr: they promise only where nothing is being shown already -/
namespace Gd
open PySem PySem.Spec PyProof.Rows L2
section
variable {CX : CXT} {P : Program} {w : World} {K : PySem.W.Frag} {mg : Str → Option Value} {base : Heap} {k : Nat} {f : Addr} {name qual : Str} {params : Arguments} {body : List Stmt} {scope : Scope} {dV kV doc pm cdv ct oc : Value} {an od : Option Addr} {osl : Array (Option Value)} {N ps : List Str}
/-- one call of a def, told by its body -/
theorem one_call {A : Around} {outer : List Env} {s : Shared} {H : Hp} {args : Args} {us : List Value} {vs : List V} {Q : VK} {E : XK} {t : TS}
    (at_ : K.lookup f = some ⟨oc, od, .func (PySem.W.fnOf name qual params body scope dV kV doc pm an cdv ct), osl⟩)
    (cd_ : PySem.W.codeIn K cdv qual = true) (S : FnScope N ps scope)
    (room : Room (k + 1) A) (e0 : Env0 P w K mg base A outer s H)
    (bd : BindsTo s (PySem.W.fnOf name qual params body scope dV kV doc pm an cdv ct) args (ps.zip us))
    (rv : Vals vs us) (lv : vs.length = ps.length)
    (told : PSs (cxOf CX P w K mg base N qual scope f cdv A outer s H E) body t)
    (due : t { nx := fun _ H' => Q .non H', rt := Q } (L2.start N vs) H) :
    codeAny (model P w) A (.call (.ref f) args) (CR CX outer P w H s Q E) s := by
  have base_in : ∀ b o, base.get? b = some o → s.heap.get? b = some o := fun b o e => (e0.bs b o e).1
  have K_in : K.In s.heap := e0.mod.kin.keeps base_in
  have no_lim : s.heap.NoLimit := e0.mod.nolimit.keeps base_in
  have sorts : ∀ y ∈ ps.zip us, scope.names.lookup y.1 = some .local ∨
      (scope.names.lookup y.1 = some .cell ∧ ((cellsFrom (s.heap.objs.size + 1) scope.names []).lookup y.1).isSome = true) := by
    rintro ⟨n, v⟩ hy
    rcases S.par n (List.of_mem_zip hy).1 with loc | cel
    · exact .inl loc
    · exact .inr ⟨cel, PySem.W.cellsFrom_some _ _ _ (.inl cel)⟩
  refine codeAny_call_function room.depth (K_in _ _ at_) rfl S.co S.gen rfl
    (PySem.W.codeRec_of K_in cd_) (bd _ _ _ _ ?_)
  refine wpAny_newFunctionEnv_cells S.kind sorts fun env eEnv s1 inC => ?_
  subst eEnv
  refine ⟨no_lim.keeps inC.toInCall.keep, codeAny_func ?_⟩
  have I0 := inv_start (CX := CX) (E := E) S room.hd e0 lv rv inC
  refine wpAny_mono (told.run [] s1 _ H _ I0 due) (fun fl s' end_ => ?_) fun _ _ z => z
  cases fl with
  | ret u =>
    obtain ⟨v, σ', H', J, r1, q⟩ := end_
    exact ⟨v, H', J.os, J.bare, J.base, J.hok, r1, q⟩
  | next =>
    obtain ⟨σ', H', J, q⟩ := end_
    exact ⟨.non, H', J.os, J.bare, J.base, J.hok, rfl, q⟩
  | brk =>
    obtain ⟨_, _, _, z⟩ := end_
    exact False.elim z
  | cont =>
    obtain ⟨_, _, _, z⟩ := end_
    exact False.elim z
end
/-- a def's promise where nothing is being shown -/
structure FnG (P : Program) (w : World) (K : PySem.W.Frag) (mg : Str → Option Value) (base : Heap) (CX : CXT) (k : Nat) (f : Addr) (fd : FuncData) (ps : List Str) (sp : Sp) : Prop where
  len : ∀ vs H Q E, sp vs H Q E → vs.length = ps.length
  run : ∀ {A : Around} {outer : List Env} {s : Shared} {H : Hp} {args : Args} {us : List Value} {vs : List V} {Q : VK} {E : XK},
    Room k A → A.guards = some [] → Env0 P w K mg base A outer s H → BindsTo s fd args (ps.zip us) → Vals vs us → sp vs H Q E →
    codeAny (model P w) A (.call (.ref f) args) (CR CX outer P w H s Q E) s
section
variable {P : Program} {w : World} {K : PySem.W.Frag} {mg : Str → Option Value} {base : Heap}
theorem okG {x qual : Str} {st : Stmt} {f : Addr} {fd : FuncData} {N ps : List Str} {k : Nat} {sp : Sp} (F : L2.Fun K x qual st f fd) (S : FnScope N ps (defScope st)) (len : ∀ vs H Q E, sp vs H Q E → vs.length = ps.length)
    (tell : ∀ (cdv : Value) (A : Around) (outer : List Env) (s : Shared) (H : Hp) (vs : List V) (Q : VK) (E : XK), Room k (A.deeper (envOfC qual (defScope st) s.heap.objs.size f cdv)) →
      (A.deeper (envOfC qual (defScope st) s.heap.objs.size f cdv)).guards = some [] → sp vs H Q E →
      ∃ t, PSs (cxOf CX0 P w K mg base N qual (defScope st) f cdv A outer s H E).nox (defBody st) t ∧ t { nx := fun _ H' => Q .non H', rt := Q } (L2.start N vs) H) : FnG P w K mg base CX0 (k + 1) f fd ps sp := by
  obtain ⟨oc, od, kV, doc, pm, an, cdv, ct, osl, rfl, lk, hcd⟩ := F.ex
  refine ⟨len, fun {A outer s H args us vs Q E} room g0 e0 bd rv hs => ?_⟩
  obtain ⟨t, told, due⟩ := tell cdv A outer s H vs Q E (room.deeper _) g0 hs
  exact one_call lk hcd S room e0 bd rv (len _ _ _ _ hs) told.nox due
end
/-! calls of such defs -/
structure CalG (P : Program) (w : World) (K : PySem.W.Frag) (mg : Str → Option Value) (base : Heap) (x : Str) (k : Nat) (ps : List Str) (sp : Sp) where
  f : Addr
  fd : FuncData
  ok : FnG P w K mg base CX0 k f fd ps sp
  m : mg x = some (.ref f)
  kp : PySem.W.keepIn K (.ref f) = true
  b : Binds K fd ps []
section
variable {X : Cx} {k j : Nat} {ps : List Str} {sp : Sp} {x : Str} {p pos : Pos} {e : Expr} {es : List Expr} {t : TA}
theorem go_fn {f : Addr} {fd : FuncData} {pins : List (Addr × Obj)} {σ : L2.St} {H : Hp} {s : Shared} {Q : VK} {us : List Value} {vs : List V} (F : FnG X.prog X.w X.K X.mg X.base CX0 k f fd ps sp) (room : Room k X.A) (g0 : X.A.guards = some []) (b : Binds X.K fd ps [])
    (I : Inv X pins σ H s) (rv : Vals vs us) (h : sp vs H Q E0) : wpAny (model X.prog X.w) X.A (call (.ref f) us) (EP X pins σ Q) X.xe s := by
  have bd := b s us I.kIn (by rw [List.append_nil, ← rv.length]; exact F.len _ _ _ _ h)
  rw [List.append_nil] at bd
  refine wpAny_call (codeAny_mono (F.run room g0 I.env0 bd rv h) fun r s' end_ => ?_)
  match r, end_ with
  | .error _, z => exact z.elim
  | .ok (.ret _), z => exact I.after z
  | .ok .next, z => exact z.elim
  | .ok .brk, z => exact z.elim
  | .ok .cont, z => exact z.elim
theorem pe_callG (C : CalG X.prog X.w X.K X.mg X.base x k ps sp) (room : Room j X.A) (g0 : X.A.guards = some []) (ha : PA X (e :: es) t) (hk : k ≤ j := by omega) (hg : Gl X x := by rfl) (hdb : (x == ("__debug__" : Str)) = false := by decide)
    (he : starEach (e :: es) X.env = (false, eval e X.env) :: starEach es X.env := by rfl) (hpl : (backTo pos (starEach es X.env)).any (·.1) = false := by rfl) :
    PE X (.Call (.Name x p) (e :: es) [] pos) (tCB (fun vs H Q => sp vs H Q E0) t) := by
  constructor
  intro pins s σ H Q I h
  refine wpAny_Call_Name_kw (ld_glob I hg C.m ?_ hdb)
  refine PySem.W.callWith_K (h₀ := X.base) I.ok.mod.kin C.kp (thn (ha.run pos pins s σ H _ I h) fun us s1 z => ?_) he hpl
  obtain ⟨vs, H1, I1, rv, q⟩ := z
  exact ⟨I1.kIn, go_fn C.ok (room.mono hk) g0 C.b I1 rv q⟩
/-- repr of data -/
def rShow (K : PySem.W.Frag) : List V → Hp → VK → Prop := fun xs H Q => ∃ x D, xs = [x] ∧ Dp K H x D ∧ D.showable = true ∧ D.hasDict = false ∧ D.depth ≤ 60 ∧ D.shown.length ≤ sizeLine ∧ Q (.str D.shown) H
theorem call_show (g0 : X.A.guards = some []) (room : Room j X.A) : CallR X (.builtin "repr") (rShow X.K) := by
  intro pins s σ H xs us Q I rv ⟨x, D, ex, hx, h1, h2, h3, h4, q⟩
  subst ex
  obtain ⟨u, eu, r1⟩ := vals1 rv
  subst eu
  have hu := room.units
  cases hx with
  | non =>
    cases (show u = Value.none from r1)
    exact PySem.P.repr_of_none ⟨.str _, H, I.tok _, ⟨_, rfl⟩, q⟩
  | bl b =>
    cases (show u = Value.bool b from r1)
    exact PySem.P.repr_of_bool ⟨.str (if b then "True" else "False"), H, I.tok _, ⟨_, by cases b <;> rfl⟩, by cases b <;> exact q⟩
  | int i =>
    obtain ⟨t, rfl⟩ := r1
    exact PySem.P.repr_of_int (by unfold PyData.showable at h1; exact of_decide_eq_true h1) ⟨.str _, H, I.tok _, ⟨_, rfl⟩, q⟩
  | str y =>
    obtain ⟨t, rfl⟩ := r1
    exact PySem.P.repr_of_str ⟨.str _, H, I.tok _, ⟨_, rfl⟩, q⟩ h4
  | @lst a xs ds hs hA =>
    cases (show u = Value.ref a from r1)
    obtain ⟨as, rd⟩ := Dp.reads I (.list ds) (.ref a) (.ref a) (.lst hs hA) rfl
    exact repr_of_reads' rd h1 (PyData.noDict_hsm h2) g0 (by omega) (fun _ _ z => z) (fun h' y tk keep => ⟨.str _, H, I.kept keep, ⟨_, rfl⟩, q⟩) h4
  | @tup a xs ds hs hA =>
    cases (show u = Value.ref a from r1)
    obtain ⟨as, rd⟩ := Dp.reads I (.tuple ds) (.ref a) (.ref a) (.tup hs hA) rfl
    exact repr_of_reads' rd h1 (PyData.noDict_hsm h2) g0 (by omega) (fun _ _ z => z) (fun h' y tk keep => ⟨.str _, H, I.kept keep, ⟨_, rfl⟩, q⟩) h4
end
end Gd

set_option Elab.async false
set_option linter.all false
set_option maxRecDepth 100000
namespace My
open PySem L2
/-! ### how long what is shown is -/
theorem tup_shown {ds : List PyData} : (PyData.tuple ds).shown.length ≤ (ds.map fun d => d.shown.length).sum + 2 * ds.length + 3 := by
  have h := tupleText_len_le (PyData.shownAll ds)
  have e : ∀ l : List PyData, PyData.shownAll l = l.map PyData.shown := fun l => by
    induction l with
    | nil => rfl
    | cons d l ih => rw [PyData.shownAll, ih, List.map_cons]
  rw [e, List.map_map, List.length_map] at h
  show (tupleText (PyData.shownAll ds)).length ≤ _
  rw [e]
  exact h
theorem name_shown {n : List Nat} (h : isName (Z n) = true) : (PyData.str (Z n)).shown.length ≤ 122 := by
  have h1 := okStr_of_name h
  have h2 := (name_len h).2
  unfold okStr at h1
  rw [Bool.and_eq_true] at h1
  have h3 : ∀ c ∈ (Z n).cps.toList, c < 16 ^ 8 := fun c hc => Nat.lt_of_lt_of_le (of_decide_eq_true (List.all_eq_true.mp h1.2 c hc)) (by decide)
  have h4 := StrLaws.reprText_len (Z n) h3
  show (reprText (Z n)).length ≤ 122
  omega
theorem words_shown : ∀ z ∈ (["good", "counter", "both", "between", "offered", "chosen", "link", "turn", "offer", "choose"] : List Str), (PyData.str z).shown.length ≤ 12 := by decide +kernel
theorem ws {z : Str} (h : z ∈ (["good", "counter", "both", "between", "offered", "chosen", "link", "turn", "offer", "choose"] : List Str) := by decide +kernel) : (PyData.str z).shown.length ≤ 12 := words_shown z h
theorem int_shown (i : Nat) (h : i < 2) : (PyData.int i).shown.length = 1 := by
  match i, h with
  | 0, _ => decide +kernel
  | 1, _ => decide +kernel
def shF (t : FT) : Nat := t.data.shown.length
def shS (t : FT) : Nat := (plS t).shown.length
theorem shF_leaf {co : Bool} {n : List Nat} (h : isName (Z n) = true) : shF (.leaf co n) ≤ 141 := by
  have h1 := @tup_shown [.str (leafZ co), .str (Z n)]
  have h2 := name_shown h
  have h3 : (PyData.str (leafZ co)).shown.length ≤ 12 := by cases co <;> exact ws
  simp only [List.map_cons, List.map_nil, List.sum_cons, List.sum_nil, List.length_cons, List.length_nil] at h1
  show (PyData.tuple [.str (leafZ co), .str (Z n)]).shown.length ≤ 141
  omega
theorem shF_node (s : Sg) (l r : FT) : shF (.node s l r) ≤ shF l + shF r + 21 := by
  have h1 := @tup_shown [.str s.word, l.data, r.data]
  have h3 : (PyData.str s.word).shown.length ≤ 12 := by cases s <;> exact ws
  simp only [List.map_cons, List.map_nil, List.sum_cons, List.sum_nil, List.length_cons, List.length_nil] at h1
  show (PyData.tuple [.str s.word, l.data, r.data]).shown.length ≤ l.data.shown.length + r.data.shown.length + 21
  omega
theorem sh_tn (d : PyData) : (tn d).shown.length ≤ d.shown.length + 30 := by
  have h1 := @tup_shown [.str "turn", d, .tuple [.int (1 : Nat), .int (0 : Nat)]]
  have h2 := @tup_shown [.int (1 : Nat), .int (0 : Nat)]
  have h3 := ws (z := "turn")
  have a := int_shown 0 (by decide)
  have b := int_shown 1 (by decide)
  simp only [List.map_cons, List.map_nil, List.sum_cons, List.sum_nil, List.length_cons, List.length_nil] at h1 h2
  unfold tn
  omega
theorem sh_bt (d : PyData) (i j : Nat) (hi : i < 2) (hj : j < 2) : (bt d i j).shown.length ≤ d.shown.length + 30 := by
  have h1 := @tup_shown [.str "between", d, .int i, .int j]
  have h3 := ws (z := "between")
  have a := int_shown i hi
  have b := int_shown j hj
  simp only [List.map_cons, List.map_nil, List.sum_cons, List.sum_nil, List.length_cons, List.length_nil] at h1
  unfold bt
  omega
theorem sh_bo (c d : PyData) (i j : Nat) (hi : i < 2) (hj : j < 2) : (bo c d i j).shown.length ≤ c.shown.length + d.shown.length + 30 := by
  have h1 := @tup_shown [.str "both", c, d, .int i, .int j]
  have h3 := ws (z := "both")
  have a := int_shown i hi
  have b := int_shown j hj
  simp only [List.map_cons, List.map_nil, List.sum_cons, List.sum_nil, List.length_cons, List.length_nil] at h1
  unfold bo
  omega
theorem sh_of (c d : PyData) (i j : Nat) (hi : i < 2) (hj : j < 2) : (of' c d i j).shown.length ≤ c.shown.length + d.shown.length + 30 := by
  have h1 := @tup_shown [.str "offer", c, d, .int i, .int j]
  have h3 := ws (z := "offer")
  have a := int_shown i hi
  have b := int_shown j hj
  simp only [List.map_cons, List.map_nil, List.sum_cons, List.sum_nil, List.length_cons, List.length_nil] at h1
  unfold of'
  omega
theorem sh_ch (d : PyData) (i j : Nat) (f : FT) (hi : i < 2) (hj : j < 2) : (ch d i j f).shown.length ≤ d.shown.length + shF f + 30 := by
  have h1 := @tup_shown [.str "choose", d, .int i, .int j, f.data]
  have h3 := ws (z := "choose")
  have a := int_shown i hi
  have b := int_shown j hj
  simp only [List.map_cons, List.map_nil, List.sum_cons, List.sum_nil, List.length_cons, List.length_nil] at h1
  unfold ch
  unfold shF
  omega
theorem shF_le : ∀ t : FT, t.Ok → shF t + 21 ≤ 162 * t.lvs
  | .leaf co n, h => by
    have := shF_leaf (co := co) h
    show shF (.leaf co n) + 21 ≤ 162 * 1
    omega
  | .node s l r, h => by
    have h1 := shF_le l h.1
    have h2 := shF_le r h.2
    have h3 := shF_node s l r
    rw [node_lvs]
    omega
theorem sh_lk {n : List Nat} (h : isName (Z n) = true) : (lk n).shown.length ≤ 141 := by
  have h1 := @tup_shown [.str "link", .str (Z n)]
  have h2 := name_shown h
  have h3 := ws (z := "link")
  simp only [List.map_cons, List.map_nil, List.sum_cons, List.sum_nil, List.length_cons, List.length_nil] at h1
  unfold lk
  omega
theorem shS_node (s : Sg) (l r : FT) (h1 : l.Ok) (h2 : r.Ok) : shS (.node s l r) ≤ shS l + shS r + 162 * (l.lvs + r.lvs) + 78 := by
  have f1 := shF_le l h1
  have f2 := shF_le r h2
  have g1 := shF_le (cnt l) (cnt_ok l h1)
  have g2 := shF_le (cnt r) (cnt_ok r h2)
  rw [cnt_lvs] at g1 g2
  cases s with
  | mul =>
    have a := sh_bt (bo (plS l) (plS r) 0 0) 0 1 (by decide) (by decide)
    have b := sh_bo (plS l) (plS r) 0 0 (by decide) (by decide)
    show (bt (bo (plS l) (plS r) 0 0) 0 1).shown.length ≤ (plS l).shown.length + (plS r).shown.length + _ + _
    omega
  | bar =>
    have a := sh_tn (bt (bo (plS l) (plS r) 1 1) 0 1)
    have b := sh_bt (bo (plS l) (plS r) 1 1) 0 1 (by decide) (by decide)
    have c := sh_bo (plS l) (plS r) 1 1 (by decide) (by decide)
    show (tn (bt (bo (plS l) (plS r) 1 1) 0 1)).shown.length ≤ (plS l).shown.length + (plS r).shown.length + _ + _
    have := lvs_pos l
    omega
  | amp =>
    have a := sh_tn (of' (ch (plS l) 1 0 (cnt r)) (ch (plS r) 1 1 (cnt l)) 0 0)
    have b := sh_of (ch (plS l) 1 0 (cnt r)) (ch (plS r) 1 1 (cnt l)) 0 0 (by decide) (by decide)
    have c := sh_ch (plS l) 1 0 (cnt r) (by decide) (by decide)
    have d := sh_ch (plS r) 1 1 (cnt l) (by decide) (by decide)
    show (tn (of' (ch (plS l) 1 0 (cnt r)) (ch (plS r) 1 1 (cnt l)) 0 0)).shown.length ≤ (plS l).shown.length + (plS r).shown.length + _ + _
    omega
  | plus =>
    have b := sh_of (ch (plS l) 0 0 r) (ch (plS r) 0 1 l) 0 0 (by decide) (by decide)
    have c := sh_ch (plS l) 0 0 r (by decide) (by decide)
    have d := sh_ch (plS r) 0 1 l (by decide) (by decide)
    show (of' (ch (plS l) 0 0 r) (ch (plS r) 0 1 l) 0 0).shown.length ≤ (plS l).shown.length + (plS r).shown.length + _ + _
    omega
theorem shS_le : ∀ t : FT, t.Ok → shS t + 162 * t.lvs + 78 ≤ 500 * 4 ^ t.dep
  | .leaf co n, h => by
    have h1 := sh_lk (n := n) h
    have h2 := sh_tn (lk n)
    have h3 : shS (.leaf co n) ≤ 171 := by
      cases co
      · show (lk n).shown.length ≤ 171
        omega
      · show (tn (lk n)).shown.length ≤ 171
        omega
    show shS (.leaf co n) + 162 * 1 + 78 ≤ 500 * 4 ^ 0
    omega
  | .node s l r, h => by
    have h1 := shS_le l h.1
    have h2 := shS_le r h.2
    have h3 := shS_node s l r h.1 h.2
    have p1 : 4 ^ l.dep ≤ 4 ^ max l.dep r.dep := Nat.pow_le_pow_right (by decide) (Nat.le_max_left _ _)
    have p2 : 4 ^ r.dep ≤ 4 ^ max l.dep r.dep := Nat.pow_le_pow_right (by decide) (Nat.le_max_right _ _)
    rw [node_lvs, node_dep, Nat.pow_add]
    have e : (4 : Nat) ^ 1 = 4 := rfl
    rw [e]
    generalize 4 ^ max l.dep r.dep = M at p1 p2 ⊢
    generalize 4 ^ l.dep = A at h1 p1
    generalize 4 ^ r.dep = B at h2 p2
    omega
theorem small_shown {t : FT} (h : t.Ok) (d : t.dep ≤ 4) : (plS t).shown.length ≤ sizeLine ∧ t.data.shown.length ≤ 128000 := by
  have h1 := shS_le t h
  have h2 := shF_le t h
  have p : 4 ^ t.dep ≤ 4 ^ 4 := Nat.pow_le_pow_right (by decide) d
  have e : (4 : Nat) ^ 4 = 256 := rfl
  have e2 : sizeLine = 16777216 := rfl
  unfold shS at h1
  unfold shF at h2
  omega
/-! ### what may be shown -/
theorem showD_form : ∀ t : FT, t.data.showable = true ∧ t.data.hasDict = false
  | .leaf co n => by simp [FT.data, PyData.showable, PyData.showableAll, PyData.hasDict, PyData.hasDictAll]
  | .node s l r => by
    obtain ⟨a, b⟩ := showD_form l
    obtain ⟨c, d⟩ := showD_form r
    simp [FT.data, PyData.showable, PyData.showableAll, PyData.hasDict, PyData.hasDictAll, a, b, c, d]
theorem show01 : (PyData.int ((0 : Nat) : Int)).showable = true ∧ (PyData.int ((1 : Nat) : Int)).showable = true := by decide +kernel
theorem showD_pl : ∀ t : FT, (plS t).showable = true ∧ (plS t).hasDict = false := by
  obtain ⟨z0, z1⟩ := show01
  intro t
  induction t with
  | leaf co n =>
    cases co
    · simp [plS, lk, PyData.showable, PyData.showableAll, PyData.hasDict, PyData.hasDictAll]
    · have z0' := z0
      have z1' := z1
      unfold PyData.showable at z0' z1'
      simp [plS, tn, lk, PyData.showable, PyData.showableAll, PyData.hasDict, PyData.hasDictAll]
      decide
  | node s l r ihl ihr =>
    obtain ⟨a, b⟩ := ihl
    obtain ⟨c, d⟩ := ihr
    obtain ⟨e1, e2⟩ := showD_form l
    obtain ⟨e3, e4⟩ := showD_form r
    obtain ⟨g1, g2⟩ := showD_form (cnt l)
    obtain ⟨g3, g4⟩ := showD_form (cnt r)
    cases s <;> refine ⟨?_, by simp [plS, tn, bt, bo, of', ch, PyData.hasDict, PyData.hasDictAll, b, d, e2, e4, g2, g4]⟩ <;>
      simp only [plS, tn, bt, bo, of', ch, PyData.showable, PyData.showableAll, a, c, e1, e3, g1, g3, Bool.and_true, Bool.true_and] <;> decide +kernel
end My

set_option Elab.async false
set_option linter.all false
set_option maxRecDepth 100000
namespace My
open PySem L2
/-! ### the law's own looks at forms -/
abbrev s_law_counter : Stmt := top 76
abbrev N_law_counter' : List Str := ["_law_form_here", "_law_turned_here"]
abbrev P_law_counter' : List Str := ["_law_form_here"]
theorem sc_law_counter : FnScope N_law_counter' P_law_counter' (defScope s_law_counter) := ⟨rfl, rfl, rfl, by decide +kernel, rfl, by decide +kernel, by decide +kernel⟩
abbrev s_law_leaves : Stmt := top 77
theorem sc_law_leaves : FnScope P_law_counter' P_law_counter' (defScope s_law_leaves) := ⟨rfl, rfl, rfl, by decide +kernel, rfl, by decide +kernel, by decide +kernel⟩
abbrev s_law_depth : Stmt := top 79
theorem sc_law_depth : FnScope P_law_counter' P_law_counter' (defScope s_law_depth) := ⟨rfl, rfl, rfl, by decide +kernel, rfl, by decide +kernel, by decide +kernel⟩
abbrev s_law_form : Stmt := top 80
abbrev N_law_form : List Str := ["_law_pen", "_law_goods", "_law_depth_here", "_law_word", "_law_left"]
abbrev P_law_form : List Str := ["_law_pen", "_law_goods", "_law_depth_here"]
theorem sc_law_form : FnScope N_law_form P_law_form (defScope s_law_form) := ⟨rfl, rfl, rfl, by decide +kernel, rfl, by decide +kernel, by decide +kernel⟩
abbrev s_law_plain : Stmt := top 87
abbrev N_law_plain : List Str := ["_law_form_here", "_law_p", "_law_q"]
theorem sc_law_plain : FnScope N_law_plain P_law_counter' (defScope s_law_plain) := ⟨rfl, rfl, rfl, by decide +kernel, rfl, by decide +kernel, by decide +kernel⟩
def spLeavesL (K : PySem.W.Frag) (n : Nat) : Sp := fun vs H Q _ => ∃ v t, vs = [v] ∧ Fm K H t v ∧ t.dep < n ∧ t.lvs ≤ 1000 ∧ ∀ H' p us, Same H H' → H' p = some (.lst us) → us.length = t.lvs → Q (.ref p) H'
def spDepthL (K : PySem.W.Frag) (n : Nat) : Sp := fun vs H Q _ => ∃ v t, vs = [v] ∧ Fm K H t v ∧ t.dep < n ∧ ∀ H', Same H H' → Q (.int (t.dep : Nat)) H'
def spFormD (K : PySem.W.Frag) (n : Nat) : Sp := fun vs H Q _ => ∃ (d L g : Addr) (ns : List Int) (m k : Nat) (zs : List Str), vs = [.ref d, .ref g, .int k] ∧ Pen K H d L ns m ∧ SqL K H g (zs.map V.str) ∧ zs ≠ [] ∧ zs.length ≤ 100 ∧ (∀ z, z ∈ zs → isName z = true) ∧ k < n ∧ k ≤ 20 ∧ m + 2 ^ (k + 2) < 2 ^ 39 ∧
  ∀ H' v t, Keep d H H' → Pen K H' d L ns (m + (2 ^ (k + 2) - 2)) → Fm K H' t v → t.Ok → t.dep ≤ k → Q v H'
section
variable {P : Program} {w : World} {K : PySem.W.Frag} {mg : Str → Option Value} {base : Heap} {f : Addr} {fd : FuncData}
theorem ok_law_counter {n : Nat} (F : Fun K "_law_counter" "_law_counter" s_law_counter f fd) (C_law_counter : Cal P w K mg base "_law_counter" n P_law_counter' (spCounterOf K n)) : FnOk P w K mg base CX0 (n + 1) f fd P_law_counter' (spCounterOf K (n + 1)) := by
  refine F.ok sc_law_counter (fun vs H Q E h => ?_) (fun cdv A outer s H vs Q E hr h => ?_)
  · obtain ⟨v, t, rfl, _⟩ := h
    rfl
  obtain ⟨v, t, rfl, hf, hd, q⟩ := h
  refine ⟨_, (pss_cons (ps_if (pt_cmpR op_in_seq (pe_ix ix_tup (pv 0) pe_int (fun _ _ => rfl)) (pe_lstN (pa_cons pe_str (pa_cons pe_str pa_nil))) rfl)
    (pss_one (ps_ret (pe_tupN (pa_cons (pe_ifExp (pt_cmpR op_eq (pe_ix ix_tup (pv 0) pe_int (fun _ _ => rfl)) pe_str (nomark _)) pe_str pe_str) (pa_cons (pe_ix ix_tup (pv 0) pe_int (fun _ _ => rfl)) pa_nil)))))
    pss_nil)
  (pss_cons (ps_set (i := 1) sc_law_counter.nd rfl (Or.inl rfl) (pe_disp (pps_cons pe_str pe_str (pps_cons pe_str pe_str (pps_cons pe_str pe_str (pps_cons pe_str pe_str pps_nil)))) (by rfl) (by rfl) (fun z => by cases z) (by decide)))
  (pss_one (ps_ret (pe_tupN (pa_cons (pe_dget (hu_of hr) (pv 1) (pe_ix ix_tup (pv 0) pe_int (fun _ _ => rfl)) (fun _ _ => rfl)) (pa_cons (pe_callC C_law_counter hr (pa_cons (pe_ix ix_tup (pv 0) pe_int (fun _ _ => rfl)) pa_nil)) (pa_cons (pe_callC C_law_counter hr (pa_cons (pe_ix ix_tup (pv 0) pe_int (fun _ _ => rfl)) pa_nil)) pa_nil)))))))), ?_⟩
  cases t with
  | leaf co m =>
    obtain ⟨a, rfl, ha⟩ := hf
    refine ⟨_, rfl, a, _, 0, _, rfl, rfl, ha, rfl, le1k, fun p0 H0 s0 e0 => ⟨p0, _, rfl, .inl (SqL.of e0), rfl, rfl, _, rfl, ?_⟩⟩
    have ein : (if false = true then !inV (V.str (leafZ co)) [V.str "good", V.str "counter"] else inV (V.str (leafZ co)) [V.str "good", V.str "counter"]) = true := by cases co <;> decide +kernel
    refine ite2 (fun _ => ?_) (fun c => absurd ein c)
    have h0 := (Same.kt s0).seq ha
    refine ⟨_, rfl, a, _, 0, _, rfl, rfl, h0, rfl, rfl, _, rfl, ?_⟩
    cases co with
    | false =>
      refine ite2 (fun _ => ?_) (fun c => absurd (by decide +kernel) c)
      exact ⟨_, rfl, a, _, 1, _, rfl, rfl, h0, rfl, le1k, fun p H1 s1 e1 => q H1 _ (s0.trans s1) ⟨p, rfl, e1⟩⟩
    | true =>
      refine ite2 (fun c => absurd c (by decide +kernel)) (fun _ => ?_)
      exact ⟨_, rfl, a, _, 1, _, rfl, rfl, h0, rfl, le1k, fun p H1 s1 e1 => q H1 _ (s0.trans s1) ⟨p, rfl, e1⟩⟩
  | node s l r =>
    obtain ⟨a, x, y, rfl, ha, hx, hy⟩ := hf
    have hd' : 1 + max l.dep r.dep < n + 1 := hd
    refine ⟨_, rfl, a, _, 0, _, rfl, rfl, ha, rfl, le1k, fun p0 H0 s0 e0 => ⟨p0, _, rfl, .inl (SqL.of e0), rfl, rfl, _, rfl, ?_⟩⟩
    have ein : (if false = true then !inV (V.str s.word) [V.str "good", V.str "counter"] else inV (V.str s.word) [V.str "good", V.str "counter"]) = false := by cases s <;> decide +kernel
    refine ite2 (fun c => by rw [ein] at c; cases c) (fun _ => ?_)
    intro W nW
    refine ⟨upd_same, turnedR, rfl, by decide, ?_⟩
    have s1 : Same H0 (upd (upd H0 W (.dK [])) W (.dK (mergeK [] turnedR))) := same_disp nW
    have eW : upd (upd H0 W (.dK [])) W (.dK (mergeK [] turnedR)) W = some (.dK (mergeK [] turnedR)) := upd_same
    generalize upd (upd H0 W (.dK [])) W (.dK (mergeK [] turnedR)) = H1 at *
    have kt := Same.kt (s0.trans s1)
    have ha1 := kt.seq ha
    refine ⟨_, rfl, _, rfl, a, _, 0, _, rfl, rfl, ha1, rfl, W, .str s.flip.word, rfl, ?_, ?_⟩
    · have e : some (V.str s.flip.word) = valV (mergeK [] turnedR) (.inr s.word) := by cases s <;> rfl
      rw [e]
      exact DGet.k (k := Sum.inr s.word) eW
    refine ⟨_, rfl, a, _, 1, _, rfl, rfl, ha1, rfl, x, l, rfl, kt.fm _ hx, by omega, fun H2 u1 s2 w1 => ?_⟩
    refine ⟨_, rfl, a, _, 2, _, rfl, rfl, (Same.kt s2).seq ha1, rfl, y, r, rfl, (kt.trans (Same.kt s2)).fm _ hy, by omega, fun H3 u2 s3 w2 => ?_⟩
    exact ⟨le1k, fun p H4 s4 e4 => q H4 _ ((((s0.trans s1).trans s2).trans s3).trans s4) ⟨p, u1, u2, rfl, e4, (Same.kt (s3.trans s4)).fm _ w1, (Same.kt s4).fm _ w2⟩⟩
theorem ok_law_leaves {n : Nat} (T : Txt K mg) (F : Fun K "_law_leaves" "_law_leaves" s_law_leaves f fd) (C_law_leaves : Cal P w K mg base "_law_leaves" n P_law_counter' (spLeavesL K n)) : FnOk P w K mg base CX0 (n + 1) f fd P_law_counter' (spLeavesL K (n + 1)) := by
  refine F.ok sc_law_leaves (fun vs H Q E h => ?_) (fun cdv A outer s H vs Q E hr h => ?_)
  · obtain ⟨v, t, rfl, _⟩ := h
    rfl
  obtain ⟨v, t, rfl, hf, hd, hl, q⟩ := h
  refine ⟨_, (pss_one (ps_ret (pe_ifExp (pt_cmpR op_eq (pe_callB call_len rfl T.len (by decide +kernel) (pa_cons (pv 0) pa_nil)) pe_int (nomark _)) (pe_lstN (pa_cons (pv 0) pa_nil)) (pe_op op_catLN (pe_callC C_law_leaves hr (pa_cons (pe_ix ix_tup (pv 0) pe_int (fun _ _ => rfl)) pa_nil)) (pe_callC C_law_leaves hr (pa_cons (pe_ix ix_tup (pv 0) pe_int (fun _ _ => rfl)) pa_nil)))))), ?_⟩
  cases t with
  | leaf co m =>
    obtain ⟨a, rfl, ha⟩ := hf
    exact ⟨_, rfl, _, _, rfl, .inr ⟨_, ha, rfl⟩, rfl, true, rfl, _, rfl, le1k, fun o H1 s1 e1 => q H1 o _ s1 e1 rfl⟩
  | node s l r =>
    obtain ⟨a, x, y, rfl, ha, hx, hy⟩ := hf
    have hd' : 1 + max l.dep r.dep < n + 1 := hd
    have hl' : l.lvs + r.lvs ≤ 1000 := hl
    refine ⟨_, rfl, _, _, rfl, .inr ⟨_, ha, rfl⟩, rfl, false, rfl, ?_⟩
    refine ⟨_, rfl, a, _, 1, _, rfl, rfl, ha, rfl, x, l, rfl, hx, by omega, by omega, fun H1 p1 us1 s1 e1 d1 => ?_⟩
    refine ⟨_, rfl, a, _, 2, _, rfl, rfl, (Same.kt s1).seq ha, rfl, y, r, rfl, (Same.kt s1).fm _ hy, by omega, by omega, fun H2 p2 us2 s2 e2 d2 => ?_⟩
    refine ⟨p1, p2, us1, us2, rfl, rfl, s2 _ _ e1, e2, by omega, fun o H3 s3 e3 => ?_⟩
    exact q H3 o _ (Same.trans s1 (Same.trans s2 s3)) e3 (by rw [List.length_append, d1, d2]; rfl)
theorem ok_law_depth {n : Nat} (T : Txt K mg) (F : Fun K "_law_depth" "_law_depth" s_law_depth f fd) (C_law_depth : Cal P w K mg base "_law_depth" n P_law_counter' (spDepthL K n)) : FnOk P w K mg base CX0 (n + 1) f fd P_law_counter' (spDepthL K (n + 1)) := by
  refine F.ok sc_law_depth (fun vs H Q E h => ?_) (fun cdv A outer s H vs Q E hr h => ?_)
  · obtain ⟨v, t, rfl, _⟩ := h
    rfl
  obtain ⟨v, t, rfl, hf, hd, q⟩ := h
  refine ⟨_, (pss_one (ps_ret (pe_ifExp (pt_cmpR op_eq (pe_callB call_len rfl T.len (by decide +kernel) (pa_cons (pv 0) pa_nil)) pe_int (nomark _)) pe_int (pe_op op_add pe_int (pe_callB (cr_max rfl) rfl T.max (by decide +kernel) (pa_cons (pe_lst (pa_cons (pe_callC C_law_depth hr (pa_cons (pe_ix ix_tup (pv 0) pe_int (fun _ _ => rfl)) pa_nil)) (pa_cons (pe_callC C_law_depth hr (pa_cons (pe_ix ix_tup (pv 0) pe_int (fun _ _ => rfl)) pa_nil)) pa_nil))) pa_nil)))))), ?_⟩
  cases t with
  | leaf co m =>
    obtain ⟨a, rfl, ha⟩ := hf
    exact ⟨_, rfl, _, _, rfl, .inr ⟨_, ha, rfl⟩, rfl, true, rfl, q H (Same.refl H)⟩
  | node s l r =>
    obtain ⟨a, x, y, rfl, ha, hx, hy⟩ := hf
    have hd' : 1 + max l.dep r.dep < n + 1 := hd
    refine ⟨_, rfl, _, _, rfl, .inr ⟨_, ha, rfl⟩, rfl, false, rfl, ?_⟩
    refine ⟨_, rfl, a, _, 1, _, rfl, rfl, ha, rfl, x, l, rfl, hx, by omega, fun H1 s1 => ?_⟩
    refine ⟨_, rfl, a, _, 2, _, rfl, rfl, (Same.kt s1).seq ha, rfl, y, r, rfl, (Same.kt s1).fm _ hy, by omega, fun H2 s2 => ?_⟩
    refine ⟨by show 2 ≤ sizeLine; decide, fun p2 n2 => ⟨p2, [(l.dep : Int), (r.dep : Int)], rfl, SqL.of upd_same, by simp, fun m hm hle => ?_⟩⟩
    have l1 := hle (l.dep : Int) (by simp)
    have l2 := hle (r.dep : Int) (by simp)
    have hM : m = ((max l.dep r.dep : Nat) : Int) := by
      simp only [List.mem_cons, List.not_mem_nil, or_false] at hm
      omega
    subst hM
    refine ⟨_, _, rfl, rfl, ?_⟩
    exact q _ ((s1.trans s2).trans (same_new n2 _))
theorem ok_law_plain {n : Nat} (hn : n ≤ 12) (C_law_counter : Cal P w K mg base "_law_counter" 13 P_law_counter' (spCounterOf K 13)) (F : Fun K "_law_plain" "_law_plain" s_law_plain f fd) (C_law_plain : Cal P w K mg base "_law_plain" (13 + n) P_law_counter' (spPlain K n)) : FnOk P w K mg base CX0 (13 + n + 1) f fd P_law_counter' (spPlain K (n + 1)) := by
  refine F.ok sc_law_plain (fun vs H Q E h => ?_) (fun cdv A outer s H vs Q E hr h => ?_)
  · obtain ⟨v, t, rfl, _⟩ := h
    rfl
  obtain ⟨v, t, rfl, hf, hd, q⟩ := h
  refine ⟨_, (pss_cons (ps_if (pt_cmpR op_eq (pe_ix ix_tup (pv 0) pe_int (fun _ _ => rfl)) pe_str (nomark _))
    (pss_one (ps_ret (pe_tupN (pa_cons pe_str (pa_cons (pe_ix ix_tup (pv 0) pe_int (fun _ _ => rfl)) pa_nil)))))
    pss_nil)
  (pss_cons (ps_if (pt_cmpR op_eq (pe_ix ix_tup (pv 0) pe_int (fun _ _ => rfl)) pe_str (nomark _))
    (pss_one (ps_ret (pe_tupN (pa_cons pe_str (pa_cons (pe_tupN (pa_cons pe_str (pa_cons (pe_ix ix_tup (pv 0) pe_int (fun _ _ => rfl)) pa_nil))) (pa_cons (pe_tupN (pa_cons pe_int (pa_cons pe_int pa_nil))) pa_nil))))))
    pss_nil)
  (pss_cons (ps_par (i := 1) (j := 2) (by rfl) sc_law_plain.nd rfl rfl (by decide) rfl rfl (pa_cons (pe_callC C_law_plain hr (pa_cons (pe_ix ix_tup (pv 0) pe_int (fun _ _ => rfl)) pa_nil)) (pa_cons (pe_callC C_law_plain hr (pa_cons (pe_ix ix_tup (pv 0) pe_int (fun _ _ => rfl)) pa_nil)) pa_nil)) (by rfl))
  (pss_cons (ps_if (pt_cmpR op_eq (pe_ix ix_tup (pv 0) pe_int (fun _ _ => rfl)) pe_str (nomark _))
    (pss_one (ps_ret (pe_tupN (pa_cons pe_str (pa_cons (pe_tupN (pa_cons pe_str (pa_cons (pv 1) (pa_cons (pv 2) (pa_cons pe_int (pa_cons pe_int pa_nil)))))) (pa_cons pe_int (pa_cons pe_int pa_nil)))))))
    pss_nil)
  (pss_cons (ps_if (pt_cmpR op_eq (pe_ix ix_tup (pv 0) pe_int (fun _ _ => rfl)) pe_str (nomark _))
    (pss_one (ps_ret (pe_tupN (pa_cons pe_str (pa_cons (pe_tupN (pa_cons pe_str (pa_cons (pe_tupN (pa_cons pe_str (pa_cons (pv 1) (pa_cons (pv 2) (pa_cons pe_int (pa_cons pe_int pa_nil)))))) (pa_cons pe_int (pa_cons pe_int pa_nil))))) (pa_cons (pe_tupN (pa_cons pe_int (pa_cons pe_int pa_nil))) pa_nil))))))
    pss_nil)
  (pss_cons (ps_if (pt_cmpR op_eq (pe_ix ix_tup (pv 0) pe_int (fun _ _ => rfl)) pe_str (nomark _))
    (pss_one (ps_ret (pe_tupN (pa_cons pe_str (pa_cons (pe_tupN (pa_cons pe_str (pa_cons (pv 1) (pa_cons pe_int (pa_cons pe_int (pa_cons (pe_ix ix_tup (pv 0) pe_int (fun _ _ => rfl)) pa_nil)))))) (pa_cons (pe_tupN (pa_cons pe_str (pa_cons (pv 2) (pa_cons pe_int (pa_cons pe_int (pa_cons (pe_ix ix_tup (pv 0) pe_int (fun _ _ => rfl)) pa_nil)))))) (pa_cons pe_int (pa_cons pe_int pa_nil))))))))
    pss_nil)
  (pss_cons (ps_set (i := 1) sc_law_plain.nd rfl (Or.inl rfl) (pe_tupN (pa_cons pe_str (pa_cons (pv 1) (pa_cons pe_int (pa_cons pe_int (pa_cons (pe_callC C_law_counter hr (pa_cons (pe_ix ix_tup (pv 0) pe_int (fun _ _ => rfl)) pa_nil)) pa_nil)))))))
  (pss_one (ps_ret (pe_tupN (pa_cons pe_str (pa_cons (pe_tupN (pa_cons pe_str (pa_cons (pv 1) (pa_cons (pe_tupN (pa_cons pe_str (pa_cons (pv 2) (pa_cons pe_int (pa_cons pe_int (pa_cons (pe_callC C_law_counter hr (pa_cons (pe_ix ix_tup (pv 0) pe_int (fun _ _ => rfl)) pa_nil)) pa_nil)))))) (pa_cons pe_int (pa_cons pe_int pa_nil)))))) (pa_cons (pe_tupN (pa_cons pe_int (pa_cons pe_int pa_nil))) pa_nil))))))))))))), ?_⟩
  cases t with
  | leaf co m =>
    obtain ⟨a, rfl, ha⟩ := hf
    refine ⟨_, rfl, a, _, 0, _, rfl, rfl, ha, rfl, rfl, _, rfl, ?_⟩
    cases co with
    | false =>
      refine ite2 (fun _ => ?_) (fun c => absurd (by decide +kernel) c)
      exact ⟨_, rfl, a, _, 1, _, rfl, rfl, ha, rfl, le1k, fun p H1 s1 e1 => q H1 _ s1 (mk_lk e1)⟩
    | true =>
      refine ite2 (fun c => absurd c (by decide +kernel)) (fun _ => ?_)
      refine ⟨_, rfl, a, _, 0, _, rfl, rfl, ha, rfl, rfl, _, rfl, ?_⟩
      refine ite2 (fun _ => ?_) (fun c => absurd (by decide +kernel) c)
      refine ⟨_, rfl, a, _, 1, _, rfl, rfl, ha, rfl, le1k, fun p1 H1 s1 e1 => ⟨le1k, fun p2 H2 s2 e2 => ⟨le1k, fun p3 H3 s3 e3 => ?_⟩⟩⟩
      exact q H3 _ ((s1.trans s2).trans s3) (mk_tn e3 ((Same.kt s3).seq e2) (mk_lk ((Same.kt (s2.trans s3)).seq e1)))
  | node s l r =>
    obtain ⟨a, x, y, rfl, ha, hx, hy⟩ := hf
    have hd' : 1 + max l.dep r.dep < n + 1 := hd
    refine ⟨_, rfl, a, _, 0, _, rfl, rfl, ha, rfl, rfl, _, rfl, ?_⟩
    refine ite2 (fun c => absurd c (by cases s <;> decide +kernel)) (fun _ => ?_)
    refine ⟨_, rfl, a, _, 0, _, rfl, rfl, ha, rfl, rfl, _, rfl, ?_⟩
    refine ite2 (fun c => absurd c (by cases s <;> decide +kernel)) (fun _ => ?_)
    refine ⟨_, rfl, a, _, 1, _, rfl, rfl, ha, rfl, x, l, rfl, hx, by omega, fun H1 u1 s1 g1 => ?_⟩
    refine ⟨_, rfl, a, _, 2, _, rfl, rfl, (Same.kt s1).seq ha, rfl, y, r, rfl, (Same.kt s1).fm _ hy, by omega, fun H2 u2 s2 g2 => ?_⟩
    have s12 := s1.trans s2
    have ha2 := (Same.kt s12).seq ha
    have hx2 := (Same.kt s12).fm _ hx
    have hy2 := (Same.kt s12).fm _ hy
    have g1' := dp_same s2 _ _ g1
    refine ⟨_, _, rfl, _, rfl, a, _, 0, _, rfl, rfl, ha2, rfl, rfl, _, rfl, ?_⟩
    cases s with
    | mul =>
      refine ite2 (fun _ => ?_) (fun c => absurd (by decide +kernel) c)
      refine ⟨_, rfl, _, rfl, le1k, fun p3 H3 s3 e3 => ⟨le1k, fun p4 H4 s4 e4 => ?_⟩⟩
      exact q H4 _ (s12.trans (s3.trans s4)) (mk_bt (i := 0) (j := 1) e4 (mk_bo (i := 0) (j := 0) ((Same.kt s4).seq e3) (dp_same (s3.trans s4) _ _ g1') (dp_same (s3.trans s4) _ _ g2)))
    | bar =>
      refine ite2 (fun c => absurd c (by decide +kernel)) (fun _ => ?_)
      refine ⟨_, rfl, a, _, 0, _, rfl, rfl, ha2, rfl, rfl, _, rfl, ?_⟩
      refine ite2 (fun _ => ?_) (fun c => absurd (by decide +kernel) c)
      refine ⟨_, rfl, _, rfl, le1k, fun p3 H3 s3 e3 => ⟨le1k, fun p4 H4 s4 e4 => ⟨le1k, fun p5 H5 s5 e5 => ⟨le1k, fun p6 H6 s6 e6 => ?_⟩⟩⟩⟩
      exact q H6 _ (s12.trans ((s3.trans s4).trans (s5.trans s6))) (mk_tn e6 ((Same.kt s6).seq e5) (mk_bt (i := 0) (j := 1) ((Same.kt (s5.trans s6)).seq e4) (mk_bo (i := 1) (j := 1) ((Same.kt (s4.trans (s5.trans s6))).seq e3) (dp_same ((s3.trans s4).trans (s5.trans s6)) _ _ g1') (dp_same ((s3.trans s4).trans (s5.trans s6)) _ _ g2))))
    | amp =>
      refine ite2 (fun c => absurd c (by decide +kernel)) (fun _ => ?_)
      refine ⟨_, rfl, a, _, 0, _, rfl, rfl, ha2, rfl, rfl, _, rfl, ?_⟩
      refine ite2 (fun c => absurd c (by decide +kernel)) (fun _ => ?_)
      refine ⟨_, rfl, a, _, 0, _, rfl, rfl, ha2, rfl, rfl, _, rfl, ?_⟩
      refine ite2 (fun c => absurd c (by decide +kernel)) (fun _ => ?_)
      refine ⟨_, rfl, _, rfl, a, _, 2, _, rfl, rfl, ha2, rfl, y, r, rfl, hy2, by omega, fun H3 u3 s3 g3 => ⟨le1k, fun p4 H4 s4 e4 => ?_⟩⟩
      have s34 := s3.trans s4
      refine ⟨_, rfl, _, rfl, _, rfl, a, _, 1, _, rfl, rfl, (Same.kt s34).seq ha2, rfl, x, l, rfl, (Same.kt s34).fm _ hx2, by omega, fun H5 u5 s5 g5 => ⟨le1k, fun p6 H6 s6 e6 => ?_⟩⟩
      refine ⟨le1k, fun p7 H7 s7 e7 => ⟨le1k, fun p8 H8 s8 e8 => ⟨le1k, fun p9 H9 s9 e9 => ?_⟩⟩⟩
      have s79 := (s7.trans s8).trans s9
      have s59 := s5.trans (s6.trans s79)
      refine q H9 _ (s12.trans (s34.trans s59)) (mk_tn e9 ((Same.kt s9).seq e8) (mk_of (i := 0) (j := 0) ((Same.kt (s8.trans s9)).seq e7) (mk_ch (i := 1) (j := 0) ((Same.kt s59).seq e4) (dp_same (s34.trans s59) _ _ g1') ((Same.kt (s4.trans s59)).fm _ g3)) (mk_ch (i := 1) (j := 1) ((Same.kt s79).seq e6) (dp_same (s34.trans s59) _ _ g2) ((Same.kt (s6.trans s79)).fm _ g5))))
    | plus =>
      refine ite2 (fun c => absurd c (by decide +kernel)) (fun _ => ?_)
      refine ⟨_, rfl, a, _, 0, _, rfl, rfl, ha2, rfl, rfl, _, rfl, ?_⟩
      refine ite2 (fun c => absurd c (by decide +kernel)) (fun _ => ?_)
      refine ⟨_, rfl, a, _, 0, _, rfl, rfl, ha2, rfl, rfl, _, rfl, ?_⟩
      refine ite2 (fun _ => ?_) (fun c => absurd (by decide +kernel) c)
      refine ⟨_, rfl, _, rfl, a, _, 2, _, rfl, rfl, ha2, rfl, le1k, fun p3 H3 s3 e3 => ⟨_, rfl, _, rfl, a, _, 1, _, rfl, rfl, (Same.kt s3).seq ha2, rfl, le1k, fun p4 H4 s4 e4 => ⟨le1k, fun p5 H5 s5 e5 => ?_⟩⟩⟩
      have s35 := (s3.trans s4).trans s5
      exact q H5 _ (s12.trans s35) (mk_of (i := 0) (j := 0) e5 (mk_ch (i := 0) (j := 0) ((Same.kt (s4.trans s5)).seq e3) (dp_same s35 _ _ g1') ((Same.kt s35).fm _ hy2)) (mk_ch (i := 0) (j := 1) ((Same.kt s5).seq e4) (dp_same s35 _ _ g2) ((Same.kt s35).fm _ hx2)))
end
end My

set_option Elab.async false
set_option linter.all false
set_option maxRecDepth 100000
namespace My
open PySem L2
abbrev N_law_row_form : List Str := ["_law_pen", "_law_many", "_law_forms", "_law_lap", "_law_at", "_law_word", "_law_k"]
abbrev P_law_row_form : List Str := ["_law_pen", "_law_many"]
def spRowForm (K : PySem.W.Frag) : Sp := fun vs H Q _ => ∃ (d L : Addr) (ns : List Int) (m k : Nat), vs = [.ref d, .int k] ∧ Pen K H d L ns m ∧ 2 ≤ k ∧ k ≤ 30 ∧ m < 2 ^ 37 ∧
  ∀ H' v t, Keep d H H' → Pen K H' d L ns (m + 1000) → Fm K H' t v → t.Ok → t.dep < k → t.lvs = k → Q v H'
theorem Z_of (z : Str) : Z z.cps.toList = z := by
  cases z
  simp [Z]
theorem paired_td {α β : Type} {r : α → β → Prop} {xs : List α} {ys : List β} (h : Paired r xs ys) : ∀ n : Nat, Paired r (xs.take n) (ys.take n) ∧ Paired r (xs.drop n) (ys.drop n) := by
  induction h with
  | nil => exact fun n => ⟨by simpa using Paired.nil, by simpa using Paired.nil⟩
  | cons a b ih =>
    intro n
    cases n with
    | zero => exact ⟨by simpa using Paired.nil, by simpa using Paired.cons a b⟩
    | succ n =>
      obtain ⟨h1, h2⟩ := ih n
      exact ⟨by simpa using Paired.cons a h1, by simpa using h2⟩
/-- two that stand side by side, taken out -/
theorem pick2 {vs : List V} {ts : List FT} {r : V → FT → Prop} (h : Paired r vs ts) (a : Nat) (ha : a + 1 < ts.length) : ∃ x y tx ty, vs[a]? = some x ∧ vs[a + 1]? = some y ∧ r x tx ∧ r y ty ∧ tx ∈ ts ∧ ty ∈ ts ∧
    Paired r (vs.take a ++ vs.drop (a + 2)) (ts.take a ++ ts.drop (a + 2)) ∧ (∀ t, t ∈ ts.take a ++ ts.drop (a + 2) → t ∈ ts) ∧ lvsL (ts.take a ++ ts.drop (a + 2)) + (tx.lvs + ty.lvs) = lvsL ts := by
  have lv := paired_len h
  have e1 : vs[a]? = some (vs[a]'(by omega)) := List.getElem?_eq_getElem (by omega)
  have e2 : vs[a + 1]? = some (vs[a + 1]'(by omega)) := List.getElem?_eq_getElem (by omega)
  obtain ⟨tx, g1, r1⟩ := paired_take h e1
  obtain ⟨ty, g2, r2⟩ := paired_take h e2
  have hd : ts.drop a = tx :: ty :: ts.drop (a + 2) := by
    rw [drop_get g1, drop_get g2]
  refine ⟨_, _, tx, ty, e1, e2, r1, r2, List.mem_of_getElem? g1, List.mem_of_getElem? g2, paired_app (paired_td h _).1 (paired_td h _).2, fun t ht => ?_, ?_⟩
  · rcases List.mem_append.mp ht with z | z
    · exact List.mem_of_mem_take z
    · exact List.mem_of_mem_drop z
  · have e : lvsL ts = lvsL (ts.take a ++ ts.drop a) := by rw [List.take_append_drop]
    rw [e, hd]
    unfold lvsL
    simp only [List.map_append, List.map_cons, List.sum_append, List.sum_cons]
    omega
theorem cut_to {vs : List V} {x : Int} {a : Nat} (hx : x = (a : Nat)) (h : a ≤ vs.length) : cutV vs none (some x) = vs.take a := by
  subst hx
  exact cutTo vs a h
theorem cut_from {vs : List V} {x : Int} {a : Nat} (hx : x = (a : Nat)) (h : a + 2 ≤ vs.length) : cutV vs (some (x + 2)) none = vs.drop (a + 2) := by
  subst hx
  rw [show ((a : Nat) : Int) + 2 = ((a + 2 : Nat) : Int) by omega]
  exact cutFrom vs (a + 2) h
theorem at_of {vs : List V} {x : Int} {a : Nat} {v : V} (hx : x = (a : Nat)) (h : vs[a]? = some v) : atI vs x = some v := by
  subst hx
  exact atI_nat h
theorem at_of1 {vs : List V} {x : Int} {a : Nat} {v : V} (hx : x = (a : Nat)) (h : vs[a + 1]? = some v) : atI vs (x + 1) = some v := by
  subst hx
  rw [show ((a : Nat) : Int) + 1 = ((a + 1 : Nat) : Int) by omega]
  exact atI_nat h
section
variable {P : Program} {w : World} {K : PySem.W.Frag} {mg : Str → Option Value} {base : Heap} {f : Addr} {fd : FuncData}
theorem ok_law_form {n : Nat} (C_law_draw : Cal P w K mg base "_law_draw" 1 ["_law_pen", "_law_span"] (spDraw K)) (C_law_pick : Cal P w K mg base "_law_pick" 2 ["_law_pen", "_law_some"] (spPick K)) (F : Fun K "_law_form" "_law_form" s_law_form f fd) (C_law_form : Cal P w K mg base "_law_form" (2 + n) P_law_form (spFormD K n)) :
    FnOk P w K mg base CX0 (2 + n + 1) f fd P_law_form (spFormD K (n + 1)) := by
  refine F.ok sc_law_form (fun vs H Q E h => ?_) (fun cdv A outer s H vs Q E hr h => ?_)
  · obtain ⟨d, L, g, ns, m, k, zs, rfl, _⟩ := h
    rfl
  obtain ⟨d, L, g, ns, m, k, zs, rfl, hp, hg, hne, hlen, hz, hk, hk20, hm, q⟩ := h
  refine ⟨_, (pss_cons (ps_if (PW.pt (pw_or (pt_cmpR op_eq (pv 2) pe_int (nomark _)) (pw_or1 (pt_cmpR op_eq (pe_callC C_law_draw hr (pa_cons (pv 0) (pa_cons pe_int pa_nil))) pe_int (nomark _)))))
    (pss_one (ps_ret (pe_tupN (pa_cons (pe_callC C_law_pick hr (pa_cons (pv 0) (pa_cons (pe_lstN (pa_cons pe_str (pa_cons pe_str (pa_cons pe_str pa_nil)))) pa_nil))) (pa_cons (pe_callC C_law_pick hr (pa_cons (pv 0) (pa_cons (pv 1) pa_nil))) pa_nil)))))
    pss_nil)
  (pss_cons (ps_set (i := 3) sc_law_form.nd rfl (Or.inl rfl) (pe_callC C_law_pick hr (pa_cons (pv 0) (pa_cons (pe_lstN (pa_cons pe_str (pa_cons pe_str (pa_cons pe_str (pa_cons pe_str pa_nil))))) pa_nil))))
  (pss_cons (ps_set (i := 4) sc_law_form.nd rfl (Or.inl rfl) (pe_callC C_law_form hr (pa_cons (pv 0) (pa_cons (pv 1) (pa_cons (pe_op op_sub (pv 2) pe_int) pa_nil)))))
  (pss_one (ps_ret (pe_tupN (pa_cons (pv 3) (pa_cons (pv 4) (pa_cons (pe_callC C_law_form hr (pa_cons (pv 0) (pa_cons (pv 1) (pa_cons (pe_op op_sub (pv 2) pe_int) pa_nil)))) pa_nil))))))))), ?_⟩
  have pw2 : 2 ^ (k + 2) = 4 * 2 ^ k := by rw [Nat.pow_add]; omega
  have pos : 1 ≤ 2 ^ k := Nat.one_le_two_pow
  -- a leaf
  have leaf : ∀ (j : Nat) (H0 : Hp), j ≤ 1 → (j = 1 → 1 ≤ k) → Keep d H H0 → Pen K H0 d L ns (m + j) → ∀ p0 H1, Same H0 H1 → H1 p0 = some (.lst [.str "good", .str "good", .str "counter"]) →
      spPick K [.ref d, .ref p0] H1 (fun x H2 => spPick K [.ref d, .ref g] H2 (fun y H3 => 2 ≤ 1000 ∧ NewT K [x, y] Q H3) E0) E0 := by
    intro j H0 hj hj1 k0 pp0 p0 H1 s1 e1
    refine ⟨d, L, ns, m + j, .ref p0, rfl, pp0.same s1, by omega, .inl ⟨p0, _, rfl, SqL.of e1, by simp, le1k, fun x H2 hx k2 pp2 => ?_⟩⟩
    obtain ⟨co, rfl⟩ : ∃ co, x = .str (leafZ co) := by
      simp only [List.mem_cons, List.not_mem_nil, or_false] at hx
      rcases hx with rfl | rfl | rfl
      · exact ⟨false, rfl⟩
      · exact ⟨false, rfl⟩
      · exact ⟨true, rfl⟩
    have kk : Keep d H H2 := (k0.trans (Same.toKeep s1)).trans k2
    refine ⟨d, L, ns, m + j + 1, .ref g, rfl, pp2, by omega, .inl ⟨g, _, rfl, seqL_keep hp.isDk kk hg, by simpa using hne, by rw [List.length_map]; omega, fun y H3 hy k3 pp3 => ⟨le1k, fun p4 H4 s4 e4 => ?_⟩⟩⟩
    obtain ⟨z, hzz, rfl⟩ := List.mem_map.mp hy
    refine q H4 _ (.leaf co z.cps.toList) ((kk.trans k3).trans (Same.toKeep s4)) ((pp3.same s4).mono ?_) ⟨p4, rfl, by rw [Z_of]; exact e4⟩ ?_ (Nat.zero_le _)
    · by_cases c : j = 1
      · have := hj1 c
        have : 2 ≤ 2 ^ k := by
          have := Nat.pow_le_pow_right (n := 2) (by decide) this
          omega
        omega
      · omega
    · show isName (Z z.cps.toList) = true
      rw [Z_of]
      exact hz z hzz
  refine ⟨_, rfl, rfl, _, rfl, ?_⟩
  by_cases c0 : k = 0
  · subst c0
    refine iteT ⟨_, rfl, le1k, fun p0 H1 s1 e1 => ?_⟩
    obtain ⟨d', L', ns', m', v', e', h1, h2, h3⟩ := leaf 0 H (by decide) (fun z => by cases z) (Keep.refl _ _) hp p0 H1 s1 e1
    cases e'
    refine ⟨d, L', ns', m', .ref p0, rfl, h1, h2, ?_⟩
    rcases h3 with ⟨a, xs, ea, h4, h5, h6, h7⟩ | ⟨z, ez, _⟩
    · exact .inl ⟨a, xs, ea, h4, h5, h6, fun x H' hx k' p' => ⟨_, rfl, _, rfl, h7 x H' hx k' p'⟩⟩
    · cases ez
  · rw [decide_eq_false (show ¬ (V.int (k : Nat) = V.int 0) from fun z => c0 (by have := V.int.inj z; omega))]
    obtain ⟨k1, rfl⟩ : ∃ k1, k = k1 + 1 := ⟨k - 1, by omega⟩
    have pw3 : 2 ^ (k1 + 1) = 2 * 2 ^ k1 := by rw [Nat.pow_add]; omega
    have pw4 : 2 ^ (k1 + 2) = 4 * 2 ^ k1 := by rw [Nat.pow_add]; omega
    have pos1 : 1 ≤ 2 ^ k1 := Nat.one_le_two_pow
    refine iteF ⟨_, rfl, d, L, ns, m, 3, rfl, hp, by omega, by decide, by decide, fun r H1 r0 r1 kk1 pp1 => ⟨rfl, _, rfl, ?_⟩⟩
    refine ite2 (fun _ => ?_) (fun _ => ?_)
    · refine ⟨_, rfl, le1k, fun p0 H2 s2 e2 => ?_⟩
      obtain ⟨d', L', ns', m', v', e', h1, h2, h3⟩ := leaf 1 H1 (by decide) (fun _ => by omega) kk1 pp1 p0 H2 s2 e2
      cases e'
      refine ⟨d, L', ns', m', .ref p0, rfl, h1, h2, ?_⟩
      rcases h3 with ⟨a, xs, ea, h4, h5, h6, h7⟩ | ⟨z, ez, _⟩
      · exact .inl ⟨a, xs, ea, h4, h5, h6, fun x H' hx k' p' => ⟨_, rfl, _, rfl, h7 x H' hx k' p'⟩⟩
      · cases ez
    · refine ⟨_, rfl, le1k, fun p0 H2 s2 e2 => ⟨d, L, ns, m + 1, .ref p0, rfl, pp1.same s2, by omega, .inl ⟨p0, _, rfl, SqL.of e2, by simp, le1k, fun x H3 hx kk3 pp3 => ?_⟩⟩⟩
      obtain ⟨sg, rfl⟩ : ∃ sg : Sg, x = .str sg.word := by
        simp only [List.mem_cons, List.not_mem_nil, or_false] at hx
        rcases hx with rfl | rfl | rfl | rfl
        · exact ⟨.mul, rfl⟩
        · exact ⟨.bar, rfl⟩
        · exact ⟨.amp, rfl⟩
        · exact ⟨.plus, rfl⟩
      have kA : Keep d H H3 := (kk1.trans (Same.toKeep s2)).trans kk3
      have esub : ((k1 + 1 : Nat) : Int) - 1 = (k1 : Nat) := by omega
      have ear : [V.ref d, V.ref g, V.int (((k1 + 1 : Nat) : Int) - 1)] ++ [] = [V.ref d, V.ref g, V.int (k1 : Nat)] := by rw [esub]; rfl
      refine ⟨_, rfl, _, rfl, _, rfl, _, _, rfl, rfl, ?_⟩
      refine ⟨d, L, g, ns, m + 2, k1, zs, ear, pp3.mono (by omega), seqL_keep hp.isDk kA hg, hne, hlen, hz, by omega, by omega, by omega, fun H4 v4 t4 k4 p4 f4 ok4 d4 => ?_⟩
      have kB := kA.trans k4
      refine ⟨_, rfl, _, rfl, _, rfl, _, rfl, _, rfl, _, _, rfl, rfl, ?_⟩
      refine ⟨d, L, g, ns, m + 2 + (2 ^ (k1 + 2) - 2), k1, zs, ear, p4, seqL_keep hp.isDk kB hg, hne, hlen, hz, by omega, by omega, by omega, fun H5 v5 t5 k5 p5 f5 ok5 d5 => ⟨le1k, fun p6 H6 s6 e6 => ?_⟩⟩
      have f4' := (kt_pen p4 k5).fm _ f4
      refine q H6 _ (.node sg t4 t5) ((kB.trans k5).trans (Same.toKeep s6)) ((p5.same s6).mono (by omega)) ⟨p6, v4, v5, rfl, e6, (Same.kt s6).fm _ f4', (Same.kt s6).fm _ f5⟩ ⟨ok4, ok5⟩ ?_
      rw [node_dep]
      omega
end
end My

set_option Elab.async false
set_option linter.all false
set_option maxRecDepth 100000
namespace My
open PySem L2
/-! ### right steps as trees -/
inductive ST where
  | lk (n : List Nat)
  | bo (p q : ST) (i j : Nat)
  | bt (p : ST) (i j : Nat)
  | of (p q : ST) (i j : Nat)
  | ch (p : ST) (i d : Nat) (f : FT)
  | ha (p q : ST) (i j : Nat)
  | tu (p : ST) (os : List Nat)
namespace ST
def natD (os : List Nat) : List PyData := os.map fun n => .int (n : Nat)
def data : ST → PyData
  | lk n => My.lk n
  | bo p q i j => My.bo p.data q.data i j
  | bt p i j => My.bt p.data i j
  | of p q i j => My.of' p.data q.data i j
  | ch p i d f => My.ch p.data i d f
  | ha p q i j => .tuple [.str "hand", p.data, q.data, .int i, .int j]
  | tu p os => .tuple [.str "turn", p.data, .tuple (natD os)]
def nth (l : List FT) (i : Nat) : FT := l.getD i (.leaf false [])
def ends : ST → List FT
  | lk n => [.leaf false n, .leaf true n]
  | bo p q i j => less p.ends i ++ less q.ends j ++ [.node .mul (nth p.ends i) (nth q.ends j)]
  | bt p i j => less2 p.ends i j ++ [.node .bar (nth p.ends i) (nth p.ends j)]
  | of p q i j => less p.ends i ++ [.node .amp (nth p.ends i) (nth q.ends j)]
  | ch p i d f => less p.ends i ++ [if d = 0 then .node .plus (nth p.ends i) f else .node .plus f (nth p.ends i)]
  | ha p q i j => less p.ends i ++ less q.ends j
  | tu p os => os.map (nth p.ends)
def Right : ST → Prop
  | lk n => isName (Z n) = true
  | bo p q i j => p.Right ∧ q.Right ∧ i < p.ends.length ∧ j < q.ends.length
  | bt p i j => p.Right ∧ i < p.ends.length ∧ j < p.ends.length ∧ i ≠ j
  | of p q i j => p.Right ∧ q.Right ∧ i < p.ends.length ∧ j < q.ends.length ∧ less p.ends i = less q.ends j
  | ch p i d f => p.Right ∧ i < p.ends.length ∧ d < 2 ∧ Fits f
  | ha p q i j => p.Right ∧ q.Right ∧ i < p.ends.length ∧ j < q.ends.length ∧ cnt (nth p.ends i) = nth q.ends j
  | tu p os => p.Right ∧ os.Perm (List.range p.ends.length)
def FitA : ST → Prop
  | lk n => Fit (lk n).ends
  | bo p q i j => Fit (bo p q i j).ends ∧ p.FitA ∧ q.FitA
  | bt p i j => Fit (bt p i j).ends ∧ p.FitA
  | of p q i j => Fit (of p q i j).ends ∧ p.FitA ∧ q.FitA
  | ch p i d f => Fit (ch p i d f).ends ∧ p.FitA
  | ha p q i j => Fit (ha p q i j).ends ∧ p.FitA ∧ q.FitA
  | tu p os => Fit (tu p os).ends ∧ p.FitA
def size : ST → Nat
  | lk _ => 1
  | bo p q _ _ => p.size + q.size + 1
  | bt p _ _ => p.size + 1
  | of p q _ _ => p.size + q.size + 1
  | ch p _ _ _ => p.size + 1
  | ha p q _ _ => p.size + q.size + 1
  | tu p _ => p.size + 1
def dpt : ST → Nat
  | lk _ => 1
  | bo p q _ _ => 1 + max p.dpt q.dpt
  | bt p _ _ => 1 + p.dpt
  | of p q _ _ => 1 + max p.dpt q.dpt
  | ch p _ _ f => 1 + max p.dpt (f.dep + 1)
  | ha p q _ _ => 1 + max p.dpt q.dpt
  | tu p _ => 1 + p.dpt
end ST
open ST
theorem FitsA.fit {s : ST} (h : s.FitA) : Fit s.ends := by
  cases s with
  | lk n => exact h
  | bo p q i j => exact h.1
  | bt p i j => exact h.1
  | of p q i j => exact h.1
  | ch p i d f => exact h.1
  | ha p q i j => exact h.1
  | tu p os => exact h.1
theorem nth_get {l : List FT} {i : Nat} (h : i < l.length) : l[i]? = some (nth l i) := by
  unfold nth
  rw [List.getD_eq_getElem?_getD, List.getElem?_eq_getElem h]
  rfl
theorem kids_ha (c d : PyData) (i j : Nat) : kids (.tuple [.str "hand", c, d, .int i, .int j]) = [c, d] := kids_of len_hand (show widOf "hand" = 2 by decide +kernel)
theorem kids_tu (d : PyData) (os : PyData) : kids (.tuple [.str "turn", d, os]) = [d] := kids_of len_turn wid_turn
theorem ord_nat {os : List Nat} {n : Nat} (h : os.Perm (List.range n)) : orderD (natD os) n = true := by
  have e : (natD os).map intOf = os.map fun i : Nat => (i : Int) := by
    unfold natD
    rw [List.map_map]
    rfl
  unfold orderD
  rw [Bool.and_eq_true, e]
  refine ⟨?_, ?_⟩
  · rw [List.all_eq_true]
    intro x hx
    obtain ⟨k, _, rfl⟩ := List.mem_map.mp hx
    rfl
  · rw [List.isPerm_iff]
    exact h.map _
theorem turn_nat {l : List FT} {os : List Nat} : turnT l (natD os) = os.map (nth l) := by
  unfold turnT natD
  rw [List.map_map]
  rfl
/-- the ends of a right step from those of the steps within -/
theorem stp_lk {n : List Nat} : Stp (ST.lk n).data [] (ST.lk n).ends := Stp.link n
theorem stp_bo {p q : ST} {i j : Nat} (h : (ST.bo p q i j).Right) : Stp (ST.bo p q i j).data [p.ends, q.ends] (ST.bo p q i j).ends := Stp.both (nth_get h.2.2.1) (nth_get h.2.2.2)
theorem stp_bt {p : ST} {i j : Nat} (h : (ST.bt p i j).Right) : Stp (ST.bt p i j).data [p.ends] (ST.bt p i j).ends := Stp.between (nth_get h.2.1) (nth_get h.2.2.1) h.2.2.2
theorem stp_of {p q : ST} {i j : Nat} (h : (ST.of p q i j).Right) : Stp (ST.of p q i j).data [p.ends, q.ends] (ST.of p q i j).ends := Stp.offer (nth_get h.2.2.1) (nth_get h.2.2.2.1) h.2.2.2.2
theorem stp_ch {p : ST} {i d : Nat} {f : FT} (h : (ST.ch p i d f).Right) : Stp (ST.ch p i d f).data [p.ends] (ST.ch p i d f).ends := Stp.choose (nth_get h.2.1) h.2.2.1
theorem stp_ha {p q : ST} {i j : Nat} (h : (ST.ha p q i j).Right) : Stp (ST.ha p q i j).data [p.ends, q.ends] (ST.ha p q i j).ends := Stp.hand (nth_get h.2.2.1) (nth_get h.2.2.2.1) h.2.2.2.2
theorem perm_len {os : List Nat} {n : Nat} (h : os.Perm (List.range n)) : os.length = n := by
  have := h.length_eq
  rwa [List.length_range] at this
theorem stp_tu {p : ST} {os : List Nat} (h : (ST.tu p os).Right) (l : p.ends.length ≤ 1000) : Stp (ST.tu p os).data [p.ends] (ST.tu p os).ends := by
  have e : (ST.tu p os).ends = turnT p.ends (natD os) := turn_nat.symm
  rw [e]
  exact Stp.turn (ord_nat h.2) (by unfold natD; rw [List.length_map, perm_len h.2]; exact l)
theorem der_st : ∀ s : ST, s.Right → s.FitA → Der s.data s.ends
  | .lk n, h, f => der0 stp_lk (kids_lk n) f
  | .bo p q i j, h, f => der2 (stp_bo h) (kids_bo _ _ _ _) f.1 (der_st p h.1 f.2.1) (der_st q h.2.1 f.2.2)
  | .bt p i j, h, f => der1 (stp_bt h) (kids_bt _ _ _) f.1 (der_st p h.1 f.2)
  | .of p q i j, h, f => der2 (stp_of h) (kids_of' _ _ _ _) f.1 (der_st p h.1 f.2.1) (der_st q h.2.1 f.2.2)
  | .ch p i d g, h, f => der1 (stp_ch h) (kids_ch _ _ _ _) f.1 (der_st p h.1 f.2)
  | .ha p q i j, h, f => der2 (stp_ha h) (kids_ha _ _ _ _) f.1 (der_st p h.1 f.2.1) (der_st q h.2.1 f.2.2)
  | .tu p os, h, f => der1 (stp_tu h (by have := (FitsA.fit f.2).2.1; omega)) (kids_tu _ _) f.1 (der_st p h.1 f.2)
theorem cnt_st : ∀ s : ST, cntS s.data = s.size
  | .lk n => cntS0 (kids_lk n)
  | .bo p q i j => by rw [data, cntS2 (kids_bo _ _ _ _), cnt_st p, cnt_st q]; rfl
  | .bt p i j => by rw [data, cntS1 (kids_bt _ _ _), cnt_st p]; rfl
  | .of p q i j => by rw [data, cntS2 (kids_of' _ _ _ _), cnt_st p, cnt_st q]; rfl
  | .ch p i d g => by rw [data, cntS1 (kids_ch _ _ _ _), cnt_st p]; rfl
  | .ha p q i j => by rw [data, cntS2 (kids_ha _ _ _ _), cnt_st p, cnt_st q]; rfl
  | .tu p os => by rw [data, cntS1 (kids_tu _ _), cnt_st p]; rfl
theorem dpt_pos (s : ST) : 1 ≤ s.dpt := by cases s <;> simp only [dpt] <;> omega
theorem dep_st : ∀ s : ST, depS s.data ≤ s.dpt
  | .lk n => Nat.le_of_eq (depS0 (kids_lk n))
  | .bo p q i j => by have := dep_st p; have := dep_st q; rw [data, depS2 (kids_bo _ _ _ _)]; simp only [dpt]; omega
  | .bt p i j => by have := dep_st p; rw [data, depS1 (kids_bt _ _ _)]; simp only [dpt]; omega
  | .of p q i j => by have := dep_st p; have := dep_st q; rw [data, depS2 (kids_of' _ _ _ _)]; simp only [dpt]; omega
  | .ch p i d g => by have := dep_st p; rw [data, depS1 (kids_ch _ _ _ _)]; simp only [dpt]; omega
  | .ha p q i j => by have := dep_st p; have := dep_st q; rw [data, depS2 (kids_ha _ _ _ _)]; simp only [dpt]; omega
  | .tu p os => by have := dep_st p; rw [data, depS1 (kids_tu _ _)]; simp only [dpt]; omega
theorem less_len1 {α : Type} {l : List α} {n : Nat} (h : n < l.length) : (less l n).length + 1 = l.length := by
  unfold less
  rw [List.length_append, List.length_take, List.length_drop]
  omega
theorem less2_le {α : Type} (l : List α) (i j : Nat) : (less2 l i j).length ≤ l.length := by
  unfold less2
  rw [List.length_map]
  refine Nat.le_trans (List.length_filter_le _ _) ?_
  rw [List.length_zipIdx]
  exact Nat.le_refl _
theorem ends_len : ∀ s : ST, s.Right → s.ends.length ≤ s.size + 1
  | .lk n, _ => Nat.le_refl 2
  | .bo p q i j, h => by
    have a := ends_len p h.1
    have b := ends_len q h.2.1
    have c := less_len1 h.2.2.1
    have d := less_len1 h.2.2.2
    simp only [ends, List.length_append, List.length_singleton, size]
    omega
  | .bt p i j, h => by
    have a := ends_len p h.1
    have c := less2_le p.ends i j
    simp only [ends, List.length_append, List.length_singleton, size]
    omega
  | .of p q i j, h => by
    have a := ends_len p h.1
    have c := less_len1 h.2.2.1
    simp only [ends, List.length_append, List.length_singleton, size]
    omega
  | .ch p i d f, h => by
    have a := ends_len p h.1
    have c := less_len1 h.2.1
    simp only [ends, List.length_append, List.length_singleton, size]
    omega
  | .ha p q i j, h => by
    have a := ends_len p h.1
    have b := ends_len q h.2.1
    have c := less_len1 h.2.2.1
    have d := less_len1 h.2.2.2.1
    simp only [ends, List.length_append, size]
    omega
  | .tu p os, h => by
    have a := ends_len p h.1
    have b := perm_len h.2
    simp only [ends, List.length_map, size]
    omega
theorem depthAll_nat : ∀ os : List Nat, PyData.depthAll (natD os) = 0
  | [] => rfl
  | n :: os => by
    have := depthAll_nat os
    unfold natD at this ⊢
    simp only [List.map_cons, PyData.depthAll, PyData.depth, this]
    rfl
theorem deep_st : ∀ s : ST, s.Right → s.data.depth ≤ s.dpt
  | .lk n, _ => by simp [data, My.lk, PyData.depth, PyData.depthAll, dpt]
  | .bo p q i j, h => by have := deep_st p h.1; have := deep_st q h.2.1; simp [data, My.bo, PyData.depth, PyData.depthAll, dpt]; omega
  | .bt p i j, h => by have := deep_st p h.1; simp [data, My.bt, PyData.depth, PyData.depthAll, dpt]; omega
  | .of p q i j, h => by have := deep_st p h.1; have := deep_st q h.2.1; simp [data, My.of', PyData.depth, PyData.depthAll, dpt]; omega
  | .ch p i d f, h => by have := deep_st p h.1; have := FT.deep f; simp [data, My.ch, PyData.depth, PyData.depthAll, dpt]; omega
  | .ha p q i j, h => by have := deep_st p h.1; have := deep_st q h.2.1; simp [data, PyData.depth, PyData.depthAll, dpt]; omega
  | .tu p os, h => by have := deep_st p h.1; have := depthAll_nat os; have := dpt_pos p; simp [data, PyData.depth, PyData.depthAll, dpt, *]; omega
theorem short_nat : ∀ os : List Nat, shortAll (natD os) = true
  | [] => rfl
  | n :: os => by
    have := short_nat os
    unfold natD at this ⊢
    simp [shortAll, shortD, this]
theorem short_st : ∀ s : ST, s.Right → shortD s.data = true := by
  have w : okStr "link" = true ∧ okStr "turn" = true ∧ okStr "both" = true ∧ okStr "between" = true ∧ okStr "offer" = true ∧ okStr "choose" = true ∧ okStr "hand" = true := by decide +kernel
  obtain ⟨w1, w2, w3, w4, w5, w6, w7⟩ := w
  intro s
  induction s with
  | lk n => intro h; simp [data, My.lk, shortD, shortAll, w1, okStr_of_name h]
  | bo p q i j ihp ihq => intro h; simp [data, My.bo, shortD, shortAll, w3, ihp h.1, ihq h.2.1]
  | bt p i j ihp => intro h; simp [data, My.bt, shortD, shortAll, w4, ihp h.1]
  | of p q i j ihp ihq => intro h; simp [data, My.of', shortD, shortAll, w5, ihp h.1, ihq h.2.1]
  | ch p i d f ihp => intro h; simp [data, My.ch, shortD, shortAll, w6, ihp h.1, short_form (ft_isForm f h.2.2.2.1 h.2.2.2.2)]
  | ha p q i j ihp ihq => intro h; simp [data, shortD, shortAll, w7, ihp h.1, ihq h.2.1]
  | tu p os ihp => intro h; simp [data, shortD, shortAll, w2, ihp h.1, short_nat os]
theorem shaped_st {s : ST} (h : s.Right) (d : s.dpt ≤ 60) : SeqAt.shaped s.data = true := shaped_of (short_st s h) (by have := deep_st s h; omega)
/-- the plain deed as a tree -/
def pl : FT → ST
  | .leaf false n => .lk n
  | .leaf true n => .tu (.lk n) [1, 0]
  | .node .mul l r => .bt (.bo (pl l) (pl r) 0 0) 0 1
  | .node .bar l r => .tu (.bt (.bo (pl l) (pl r) 1 1) 0 1) [1, 0]
  | .node .amp l r => .tu (.of (.ch (pl l) 1 0 (cnt r)) (.ch (pl r) 1 1 (cnt l)) 0 0) [1, 0]
  | .node .plus l r => .of (.ch (pl l) 0 0 r) (.ch (pl r) 0 1 l) 0 0
theorem pl_data : ∀ t : FT, (pl t).data = plS t
  | .leaf false n => rfl
  | .leaf true n => rfl
  | .node .mul l r => by rw [pl, plS, data, data, pl_data l, pl_data r]
  | .node .bar l r => by rw [pl, plS, data, data, data, pl_data l, pl_data r]; rfl
  | .node .amp l r => by rw [pl, plS, data, data, data, data, pl_data l, pl_data r]; rfl
  | .node .plus l r => by rw [pl, plS, data, data, data, pl_data l, pl_data r]
theorem pl_ends : ∀ t : FT, (pl t).ends = [t, cnt t]
  | .leaf false n => rfl
  | .leaf true n => rfl
  | .node .mul l r => by rw [pl, ends, ends, pl_ends l, pl_ends r]; rfl
  | .node .bar l r => by rw [pl, ends, ends, ends, pl_ends l, pl_ends r]; rfl
  | .node .amp l r => by rw [pl, ends, ends, ends, ends, pl_ends l, pl_ends r]; rfl
  | .node .plus l r => by rw [pl, ends, ends, ends, pl_ends l, pl_ends r]; rfl
theorem pl_size (t : FT) : (pl t).size + 4 ≤ 6 * t.lvs := by
  have := cnt_pl t
  rwa [← pl_data, cnt_st] at this
theorem cnt_dp : ∀ t : FT, (cnt t).dep = t.dep
  | .leaf _ _ => rfl
  | .node s l r => by
    have a := cnt_dp l
    have b := cnt_dp r
    cases s <;> simp only [cnt, node_dep, a, b]
theorem pl_dpt : ∀ t : FT, (pl t).dpt ≤ 3 * t.dep + 2
  | .leaf false n => by simp only [pl, dpt]; omega
  | .leaf true n => by simp only [pl, dpt]; omega
  | .node .mul l r => by have := pl_dpt l; have := pl_dpt r; simp only [pl, dpt, node_dep]; omega
  | .node .bar l r => by have := pl_dpt l; have := pl_dpt r; simp only [pl, dpt, node_dep]; omega
  | .node .amp l r => by have := pl_dpt l; have := pl_dpt r; simp only [pl, dpt, node_dep, cnt_dp]; omega
  | .node .plus l r => by have := pl_dpt l; have := pl_dpt r; simp only [pl, dpt, node_dep]; omega
theorem dep_lvs : ∀ t : FT, t.dep < t.lvs
  | .leaf _ _ => Nat.one_pos
  | .node s l r => by
    have a := dep_lvs l
    have b := dep_lvs r
    rw [node_dep, node_lvs]
    omega
end My

set_option Elab.async false
set_option linter.all false
set_option maxRecDepth 100000
namespace My
open PySem L2
/-! ### lists without some of their places -/
def lessN {α : Type} (l : List α) (ns : List Nat) : List α := (l.zipIdx.filter fun p => !(ns.any fun n => p.2 == n)).map (·.1)
def pos (n : Nat) (ns : List Nat) : List Nat := (List.range n).filter fun m => !(ns.any fun k => m == k)
theorem zip_range {α : Type} (n : Nat) (g : Nat → α) : ((List.range n).map g).zipIdx = (List.range n).map fun m => (g m, m) := by
  apply List.ext_getElem?
  intro i
  rw [List.getElem?_zipIdx, List.getElem?_map, List.getElem?_map]
  by_cases h : i < n
  · rw [List.getElem?_range h]
    simp
  · rw [List.getElem?_eq_none (by rw [List.length_range]; omega)]
    rfl
theorem lessN_map {α : Type} (n : Nat) (g : Nat → α) (ns : List Nat) : lessN ((List.range n).map g) ns = (pos n ns).map g := by
  unfold lessN pos
  rw [zip_range, List.filter_map, List.map_map]
  rfl
theorem eq_range (xs : List FT) : (List.range xs.length).map (ST.nth xs) = xs := by
  apply List.ext_getElem?
  intro i
  rw [List.getElem?_map]
  by_cases h : i < xs.length
  · rw [List.getElem?_range h, nth_get h]
    rfl
  · rw [List.getElem?_eq_none (by rw [List.length_range]; omega), List.getElem?_eq_none (by omega)]
    rfl
theorem lessN_pos (xs : List FT) (ns : List Nat) : lessN xs ns = (pos xs.length ns).map (ST.nth xs) := by
  have := lessN_map xs.length (ST.nth xs) ns
  rwa [eq_range] at this
theorem mem_pos {n m : Nat} {ns : List Nat} : m ∈ pos n ns ↔ m < n ∧ m ∉ ns := by
  unfold pos
  rw [List.mem_filter, List.mem_range, Bool.not_eq_true', List.any_eq_false]
  refine and_congr Iff.rfl ⟨fun h z => h m z (beq_self_eq_true m), fun h x hx z => ?_⟩
  rw [beq_iff_eq] at z
  exact h (z ▸ hx)
theorem pos_nodup (n : Nat) (ns : List Nat) : (pos n ns).Nodup := List.nodup_range.filter _
theorem less_cons {α : Type} (x : α) (l : List α) (i : Nat) : less (x :: l) (i + 1) = x :: less l i := by simp [less]
theorem less_nodup : ∀ {l : List Nat} {k x : Nat}, l.Nodup → l[k]? = some x → less l k = l.filter fun m => !(m == x)
  | [], k, x, _, h => by simp at h
  | y :: l, 0, x, nd, h => by
    simp at h
    subst h
    have n1 := (List.nodup_cons.mp nd).1
    have e : (l.filter fun m => !(m == y)) = l := List.filter_eq_self.mpr fun a ha => by
      rw [Bool.not_eq_true', beq_eq_false_iff_ne]
      exact fun z => n1 (z ▸ ha)
    simp only [List.filter_cons, beq_self_eq_true, Bool.not_true, Bool.false_eq_true, if_false, e]
    simp [less]
  | y :: l, k + 1, x, nd, h => by
    have nd2 := List.nodup_cons.mp nd
    have h' : l[k]? = some x := by simpa using h
    have ne : (!(y == x)) = true := by
      rw [Bool.not_eq_true', beq_eq_false_iff_ne]
      exact fun z => nd2.1 (z ▸ List.mem_of_getElem? h')
    rw [less_cons, less_nodup nd2.2 h']
    simp only [List.filter_cons, ne, if_true]
theorem less_map {α β : Type} (f : α → β) (l : List α) (k : Nat) : less (l.map f) k = (less l k).map f := by
  unfold less
  rw [List.map_append, List.map_take, List.map_drop]
theorem pos_less {n k x : Nat} {ns : List Nat} (h : (pos n ns)[k]? = some x) : less (pos n ns) k = pos n (x :: ns) := by
  rw [less_nodup (pos_nodup n ns) h]
  unfold pos
  rw [List.filter_filter]
  congr 1
  funext m
  simp only [List.any_cons, Bool.not_or]
theorem less_lessN {xs : List FT} {ns : List Nat} {k x : Nat} (h : (pos xs.length ns)[k]? = some x) : less (lessN xs ns) k = lessN xs (x :: ns) := by
  rw [lessN_pos, less_map, pos_less h, ← lessN_pos]
def sh (k j : Nat) : Nat := if j < k then j else j + 1
def un (k a : Nat) : Nat := a - (if k < a then 1 else 0)
theorem less_get {α : Type} (l : List α) (k i : Nat) (h : k < l.length) : (less l k)[i]? = l[sh k i]? := by
  unfold less sh
  by_cases c : i < k
  · rw [if_pos c, List.getElem?_append_left (by rw [List.length_take]; omega), List.getElem?_take_of_lt c]
  · rw [if_neg c, List.getElem?_append_right (by rw [List.length_take]; omega), List.getElem?_drop]
    congr 1
    rw [List.length_take]
    omega
theorem nth_less {l : List FT} {k i : Nat} (h : k < l.length) : ST.nth (less l k) i = ST.nth l (sh k i) := by
  unfold ST.nth
  rw [List.getD_eq_getElem?_getD, List.getD_eq_getElem?_getD, less_get l k i h]
theorem range_sh {n k : Nat} (h : k < n) : (List.range (n - 1)).map (sh k) = pos n [k] := by
  have e2 : pos n [] = List.range n := by
    unfold pos
    exact List.filter_eq_self.mpr fun a _ => rfl
  have e : (pos n [])[k]? = some k := by
    rw [e2]
    exact List.getElem?_range h
  rw [← pos_less e, e2]
  apply List.ext_getElem?
  intro i
  rw [less_get _ _ _ (by rw [List.length_range]; exact h), List.getElem?_map]
  by_cases c : i < n - 1
  · rw [List.getElem?_range c, List.getElem?_range (by unfold sh; split <;> omega)]
    rfl
  · rw [List.getElem?_eq_none (by rw [List.length_range]; omega), List.getElem?_eq_none (by rw [List.length_range]; unfold sh; split <;> omega)]
    rfl
theorem un_sh {k a j : Nat} (h : a ≠ k) : (j == un k a) = (sh k j == a) := by
  rw [Bool.eq_iff_iff, beq_iff_eq, beq_iff_eq]
  unfold un sh
  split <;> split <;> omega
theorem sh_un {k a : Nat} (h : a ≠ k) : sh k (un k a) = a := by
  unfold un sh
  split <;> split <;> omega
theorem pos_sh {n k : Nat} {ns : List Nat} (h : k < n) (hk : k ∉ ns) : (pos (n - 1) (ns.map (un k))).map (sh k) = pos n (k :: ns) := by
  have e : (fun m => !((ns.map (un k)).any fun x => m == x)) = (fun m => !(ns.any fun x => m == x)) ∘ sh k := by
    funext m
    simp only [Function.comp, List.any_map]
    congr 1
    have : ∀ l : List Nat, k ∉ l → (l.any ((fun x => m == x) ∘ un k)) = l.any fun x => sh k m == x := fun l hl => by
      induction l with
      | nil => rfl
      | cons a l ih =>
        simp only [List.any_cons, Function.comp]
        rw [List.mem_cons, not_or] at hl
        rw [un_sh (fun z => hl.1 z.symm)]
        congr 1
        exact ih hl.2
    exact this ns hk
  have e1 : pos (n - 1) (ns.map (un k)) = (List.range (n - 1)).filter ((fun m => !(ns.any fun x => m == x)) ∘ sh k) := by
    rw [← e]
    rfl
  rw [e1, ← List.filter_map, range_sh h]
  unfold pos
  rw [List.filter_filter]
  congr 1
  funext m
  simp only [List.any_cons, List.any_nil, Bool.or_false, Bool.not_or]
  rw [Bool.and_comm]
theorem lessN_less {xs : List FT} {ns : List Nat} {k : Nat} (h : k < xs.length) (hk : k ∉ ns) : lessN (less xs k) (ns.map (un k)) = lessN xs (k :: ns) := by
  have l1 := less_len1 h
  rw [lessN_pos, lessN_pos, ← pos_sh h hk, List.map_map]
  have : (less xs k).length = xs.length - 1 := by omega
  rw [this]
  congr 1
  funext m
  exact nth_less h
theorem lessN_app {α : Type} : ∀ (A T : List α) (k : Nat) (ns : List Nat), (∀ n, n ∈ ns → n < k + A.length) → (((A ++ T).zipIdx k).filter fun p => !(ns.any fun n => p.2 == n)).map (·.1) = ((A.zipIdx k).filter fun p => !(ns.any fun n => p.2 == n)).map (·.1) ++ T
  | [], T, k, ns, h => by
    simp only [List.nil_append, List.zipIdx_nil, List.filter_nil, List.map_nil]
    have : ∀ (T : List α) (j : Nat), k ≤ j → ((T.zipIdx j).filter fun p => !(ns.any fun n => p.2 == n)).map (·.1) = T := by
      intro T
      induction T with
      | nil => intro j _; simp
      | cons x T ih =>
        intro j hj
        have e : (!(ns.any fun n => j == n)) = true := by
          rw [Bool.not_eq_true', List.any_eq_false]
          intro n hn z
          have := h n hn
          rw [beq_iff_eq] at z
          simp at this
          omega
        rw [List.zipIdx_cons]
        simp only [List.filter_cons, e, if_true, List.map_cons]
        rw [ih (j + 1) (by omega)]
    exact this T k (Nat.le_refl _)
  | x :: A, T, k, ns, h => by
    have ih := lessN_app A T (k + 1) ns (fun n hn => by have := h n hn; simp at this; omega)
    rw [List.cons_append, List.zipIdx_cons, List.zipIdx_cons]
    by_cases c : (!(ns.any fun n => k == n)) = true
    · simp only [List.filter_cons, c, if_true, List.map_cons, List.cons_append]
      rw [ih]
    · rw [Bool.not_eq_true] at c
      simp only [List.filter_cons, c, Bool.false_eq_true, if_false]
      rw [ih]
theorem lessN_apd {α : Type} (A T : List α) (ns : List Nat) (h : ∀ n, n ∈ ns → n < A.length) : lessN (A ++ T) ns = lessN A ns ++ T := lessN_app A T 0 ns (fun n hn => by rw [Nat.zero_add]; exact h n hn)
theorem less_apd {α : Type} (A T : List α) (k : Nat) (h : k < A.length) : less (A ++ T) k = less A k ++ T := by
  unfold less
  rw [List.take_append_of_le_length (by omega), List.drop_append_of_le_length (by omega), List.append_assoc]
theorem nth_apd (A T : List FT) (k : Nat) (h : k < A.length) : ST.nth (A ++ T) k = ST.nth A k := by
  unfold ST.nth
  rw [List.getD_eq_getElem?_getD, List.getD_eq_getElem?_getD, List.getElem?_append_left h]
theorem nth_at (A : List FT) (x : FT) (T : List FT) : ST.nth (A ++ x :: T) A.length = x := by
  unfold ST.nth
  rw [List.getD_eq_getElem?_getD, List.getElem?_append_right (Nat.le_refl _)]
  simp
end My

set_option Elab.async false
set_option linter.all false
set_option maxRecDepth 100000
namespace My
open PySem L2
theorem lessN_one {α : Type} (l : List α) (i : Nat) : lessN l [i] = less l i := by
  unfold lessN
  simp only [List.any_cons, List.any_nil, Bool.or_false]
  have : ∀ (l : List α) (k i : Nat), ((l.zipIdx k).filter fun p => !(p.2 == k + i)).map (·.1) = less l i := by
    intro l
    induction l with
    | nil => intro k i; simp [less]
    | cons x l ih =>
      intro k i
      rw [List.zipIdx_cons]
      cases i with
      | zero =>
        have e : (!(k == k + 0)) = false := by simp
        have up : ∀ (l : List α) (m j : Nat), j < m → ((l.zipIdx m).filter fun p => !(p.2 == j)).map (·.1) = l := by
          intro l
          induction l with
          | nil => intro m j _; simp
          | cons y l ih2 =>
            intro m j h
            have e2 : (!(m == j)) = true := by
              rw [Bool.not_eq_true', beq_eq_false_iff_ne]
              omega
            rw [List.zipIdx_cons]
            simp only [List.filter_cons, e2, if_true, List.map_cons]
            rw [ih2 (m + 1) j (by omega)]
        simp only [List.filter_cons, e, Bool.false_eq_true, if_false]
        rw [show k + 0 = k from rfl, up l (k + 1) k (by omega)]
        simp [less]
      | succ i =>
        have e : (!(k == k + (i + 1))) = true := by
          rw [Bool.not_eq_true', beq_eq_false_iff_ne]
          omega
        simp only [List.filter_cons, e, if_true, List.map_cons]
        have := ih (k + 1) i
        rw [show k + 1 + i = k + (i + 1) by omega] at this
        rw [this]
        simp [less]
  have h := this l 0 i
  rwa [Nat.zero_add] at h
theorem lessN_two {α : Type} (l : List α) (i j : Nat) : lessN l [i, j] = less2 l i j := by
  unfold lessN less2
  simp only [List.any_cons, List.any_nil, Bool.or_false]
/-! ### what fits -/
theorem lvsL_cons (t : FT) (l : List FT) : lvsL (t :: l) = t.lvs + lvsL l := by
  unfold lvsL
  rw [List.map_cons, List.sum_cons]
theorem lvsL_app (l m : List FT) : lvsL (l ++ m) = lvsL l + lvsL m := by
  unfold lvsL
  rw [List.map_append, List.sum_append]
theorem lvsL_perm {l m : List FT} (h : l.Perm m) : lvsL l = lvsL m := by
  induction h with
  | nil => rfl
  | cons x _ ih => rw [lvsL_cons, lvsL_cons, ih]
  | swap x y l => rw [lvsL_cons, lvsL_cons, lvsL_cons, lvsL_cons]; omega
  | trans _ _ a b => rw [a, b]
theorem len_lvsL : ∀ l : List FT, l.length ≤ lvsL l
  | [] => Nat.le_refl _
  | t :: l => by
    have := len_lvsL l
    have := lvs_pos t
    rw [lvsL_cons, List.length_cons]
    omega
theorem fit_by {l : List FT} (h : ∀ t, t ∈ l → Fits t) (ne : l ≠ []) (s : lvsL l ≤ 40) : Fit l := by
  have := len_lvsL l
  refine ⟨?_, by omega, h, s⟩
  cases l with
  | nil => exact absurd rfl ne
  | cons _ _ => exact Nat.succ_le_succ (Nat.zero_le _)
theorem Fit.perm {l m : List FT} (h : Fit l) (p : l.Perm m) : Fit m := by
  obtain ⟨h1, h2, h3, h4⟩ := h
  exact ⟨by rw [← p.length_eq]; exact h1, by rw [← p.length_eq]; exact h2, fun t ht => h3 t (p.mem_iff.mpr ht), by rw [← lvsL_perm p]; exact h4⟩
theorem nth_mem {l : List FT} {i : Nat} (h : i < l.length) : ST.nth l i ∈ l := List.mem_of_getElem? (nth_get h)
theorem lvsL_less {l : List FT} {i : Nat} (h : i < l.length) : lvsL (less l i) + (ST.nth l i).lvs = lvsL l := by
  have e : l = l.take i ++ ST.nth l i :: l.drop (i + 1) := by
    rw [← drop_get (nth_get h), List.take_append_drop]
  have e2 : lvsL l = lvsL (l.take i) + (ST.nth l i).lvs + lvsL (l.drop (i + 1)) := by
    conv => lhs; rw [e]
    rw [lvsL_app, lvsL_cons]
    omega
  rw [e2]
  unfold less
  rw [lvsL_app]
  omega
theorem less2_less {l : List FT} {i j : Nat} (hi : i < l.length) (n : i ≠ j) : less2 l i j = less (less l i) (un i j) := by
  rw [← lessN_one (less l i), ← lessN_two]
  exact (lessN_less (ns := [j]) hi (by simpa using n)).symm
theorem un_lt {n i j : Nat} (hi : i < n) (hj : j < n) (h : i ≠ j) : un i j < n - 1 := by
  unfold un
  split <;> omega
theorem lvsL_less2 {l : List FT} {i j : Nat} (hi : i < l.length) (hj : j < l.length) (n : i ≠ j) : lvsL (less2 l i j) + (ST.nth l i).lvs + (ST.nth l j).lvs = lvsL l := by
  have l1 := less_len1 hi
  have hu : un i j < (less l i).length := by
    have := un_lt hi hj n
    omega
  have a := lvsL_less hu
  have b := lvsL_less hi
  rw [nth_less hi, sh_un (fun z => n z.symm)] at a
  rw [less2_less hi n]
  omega
theorem less2_mem {l : List FT} {i j : Nat} {t : FT} (h : t ∈ less2 l i j) : t ∈ l := by
  unfold less2 at h
  obtain ⟨p, hp, rfl⟩ := List.mem_map.mp h
  have := (List.mem_filter.mp hp).1
  rw [List.mem_iff_getElem?] at this
  obtain ⟨k, hk⟩ := this
  rw [List.getElem?_zipIdx] at hk
  cases e : l[k]? with
  | none => rw [e] at hk; simp at hk
  | some x =>
    rw [e] at hk
    simp at hk
    rw [← hk]
    exact List.mem_of_getElem? e
/-! ### ends in another order -/
def mvd (s : ST) (os : List Nat) : ST := if os = List.range os.length then s else .tu s os
theorem mvd_ends {s : ST} {os : List Nat} (h : os.Perm (List.range s.ends.length)) : (mvd s os).ends = os.map (ST.nth s.ends) := by
  unfold mvd
  split
  · rename_i e
    rw [e, perm_len h, eq_range]
  · rfl
theorem mvd_right {s : ST} {os : List Nat} (r : s.Right) (h : os.Perm (List.range s.ends.length)) : (mvd s os).Right := by
  unfold mvd
  split
  · exact r
  · exact ⟨r, h⟩
theorem perm_map {l : List FT} {os : List Nat} (h : os.Perm (List.range l.length)) : (os.map (ST.nth l)).Perm l := by
  have := h.map (ST.nth l)
  rwa [eq_range] at this
theorem mvd_fit {s : ST} {os : List Nat} (r : s.FitA) (h : os.Perm (List.range s.ends.length)) : (mvd s os).FitA := by
  unfold mvd
  split
  · exact r
  · exact ⟨(FitsA.fit r).perm (perm_map h).symm, r⟩
theorem mvd_size (s : ST) (os : List Nat) : (mvd s os).size ≤ s.size + 1 := by
  unfold mvd
  split
  · omega
  · exact Nat.le_refl _
theorem mvd_dpt (s : ST) (os : List Nat) : (mvd s os).dpt ≤ s.dpt + 1 := by
  unfold mvd
  split
  · omega
  · show 1 + s.dpt ≤ _
    omega
/-- the last one put at place r, of m -/
def ordL (r m : Nat) : List Nat := List.range r ++ [m - 1] ++ List.range' r (m - 1 - r)
theorem range_split {r m : Nat} (h : r < m) : List.range m = List.range r ++ List.range' r (m - 1 - r) ++ [m - 1] := by
  have e : m = r + (m - 1 - r) + 1 := by omega
  conv => lhs; rw [e]
  rw [List.range_succ, List.range_add, ← List.range'_eq_map_range]
  congr 2
  omega
theorem ordL_perm {r m : Nat} (h : r < m) : (ordL r m).Perm (List.range m) := by
  rw [range_split h]
  unfold ordL
  rw [List.append_assoc, List.append_assoc]
  exact List.Perm.append_left _ (List.perm_append_comm)
theorem ordL_map (A T : List FT) (X : FT) : (ordL A.length (A.length + T.length + 1)).map (ST.nth (A ++ T ++ [X])) = A ++ [X] ++ T := by
  unfold ordL
  rw [List.map_append, List.map_append]
  congr 1
  · congr 1
    · have : (List.range A.length).map (ST.nth (A ++ T ++ [X])) = (List.range A.length).map (ST.nth A) := by
        apply List.map_congr_left
        intro i hi
        rw [List.append_assoc]
        exact nth_apd A _ i (List.mem_range.mp hi)
      rw [this, eq_range]
    · have e : A.length + T.length + 1 - 1 = (A ++ T).length := by rw [List.length_append]; omega
      rw [e]
      show [ST.nth (A ++ T ++ [X]) (A ++ T).length] = [X]
      rw [nth_at]
  · have e : A.length + T.length + 1 - 1 - A.length = T.length := by omega
    rw [e, List.range'_eq_map_range, List.map_map]
    have : (List.range T.length).map (ST.nth (A ++ T ++ [X]) ∘ fun x => A.length + x) = (List.range T.length).map (ST.nth T) := by
      apply List.map_congr_left
      intro i hi
      have hi' := List.mem_range.mp hi
      show ST.nth (A ++ T ++ [X]) (A.length + i) = ST.nth T i
      rw [nth_apd (A ++ T) [X] _ (by rw [List.length_append]; omega)]
      unfold ST.nth
      rw [List.getD_eq_getElem?_getD, List.getD_eq_getElem?_getD, List.getElem?_append_right (by omega), Nat.add_sub_cancel_left]
    rw [this, eq_range]
end My

set_option Elab.async false
set_option linter.all false
set_option maxRecDepth 100000
namespace My
open PySem L2
open ST
/-! ### a both or a hand on put behind the first step within -/
def ou (b : Bool) (p q : ST) (k l : Nat) : ST := if b then .bo p q k l else .ha p q k l
def tl (b : Bool) (x : FT) (q : ST) (l : Nat) : List FT := less q.ends l ++ (if b then [.node .mul x (nth q.ends l)] else [])
theorem ou_ends (b : Bool) (p q : ST) (k l : Nat) : (ou b p q k l).ends = less p.ends k ++ tl b (nth p.ends k) q l := by
  cases b
  · show less p.ends k ++ less q.ends l = _
    unfold tl
    simp
  · show less p.ends k ++ less q.ends l ++ [_] = _
    unfold tl
    simp
theorem ou_right (b : Bool) (p q : ST) (k l : Nat) : (ou b p q k l).Right ↔ p.Right ∧ k < p.ends.length ∧ q.Right ∧ l < q.ends.length ∧ (b = false → cnt (nth p.ends k) = nth q.ends l) := by
  cases b
  · exact ⟨fun h => ⟨h.1, h.2.2.1, h.2.1, h.2.2.2.1, fun _ => h.2.2.2.2⟩, fun h => ⟨h.1, h.2.2.1, h.2.1, h.2.2.2.1, h.2.2.2.2 rfl⟩⟩
  · exact ⟨fun h => ⟨h.1, h.2.2.1, h.2.1, h.2.2.2, fun z => by cases z⟩, fun h => ⟨h.1, h.2.2.1, h.2.1, h.2.2.2.1⟩⟩
theorem ou_fit (b : Bool) (p q : ST) (k l : Nat) : (ou b p q k l).FitA ↔ Fit (ou b p q k l).ends ∧ p.FitA ∧ q.FitA := by
  cases b <;> exact Iff.rfl
theorem ou_size (b : Bool) (p q : ST) (k l : Nat) : (ou b p q k l).size = p.size + q.size + 1 := by cases b <;> rfl
theorem ou_dpt (b : Bool) (p q : ST) (k l : Nat) : (ou b p q k l).dpt = 1 + max p.dpt q.dpt := by cases b <;> rfl
theorem core {xs T : List FT} {ns : List Nat} {k m : Nat} (hn : ∀ i, i ∈ ns → i < xs.length) (h : (pos xs.length ns)[k]? = some m) :
    m < xs.length ∧ m ∉ ns ∧ nth (lessN xs ns) k = nth xs m ∧ lessN (less xs m ++ T) (ns.map (un m)) = less (lessN xs ns) k ++ T ∧ ∀ i, i ∈ ns → un m i < (less xs m).length ∧ nth (less xs m ++ T) (un m i) = nth xs i := by
  obtain ⟨h1, h2⟩ := mem_pos.mp (List.mem_of_getElem? h)
  have l1 := less_len1 h1
  have hu : ∀ i, i ∈ ns → un m i < (less xs m).length := fun i hi => by
    have := un_lt h1 (hn i hi) (fun e => h2 (e ▸ hi))
    omega
  refine ⟨h1, h2, ?_, ?_, fun i hi => ⟨hu i hi, ?_⟩⟩
  · rw [lessN_pos]
    unfold nth
    rw [List.getD_eq_getElem?_getD, List.getElem?_map, h]
    rfl
  · rw [lessN_apd, lessN_less h1 h2, less_lessN h]
    intro n hn2
    obtain ⟨i, hi, rfl⟩ := List.mem_map.mp hn2
    exact hu i hi
  · rw [nth_apd _ _ _ (hu i hi), nth_less h1, sh_un (fun e : i = m => h2 (e ▸ hi))]
theorem below_fit {b : Bool} {p q : ST} {m l k : Nat} {A0 : List FT} {X : FT} (fp : p.FitA) (fq : q.FitA) (hm : m < p.ends.length) (hk : k < A0.length) (e : nth A0 k = nth p.ends m)
    (hl : lvsL p.ends ≤ lvsL A0 + X.lvs) (ne : 0 < (less p.ends m).length) (hs : Fit (less A0 k ++ [X] ++ tl b (nth A0 k) q l)) : (ou b p q m l).FitA := by
  rw [ou_fit]
  refine ⟨?_, fp, fq⟩
  rw [ou_ends]
  obtain ⟨_, _, s3, s4⟩ := hs
  rw [e] at s3 s4
  have a := lvsL_less hm
  have c := lvsL_less hk
  rw [e] at c
  refine fit_by (fun t ht => ?_) (fun z => ?_) ?_
  · rcases List.mem_append.mp ht with h | h
    · exact (FitsA.fit fp).2.2.1 t (less_mem h)
    · exact s3 t (List.mem_append_right _ h)
  · rw [List.append_eq_nil_iff] at z
    rw [z.1] at ne
    exact absurd ne (by decide)
  · rw [lvsL_app, lvsL_app, lvsL_cons] at s4
    rw [lvsL_app]
    have : lvsL ([] : List FT) = 0 := rfl
    omega
/-- what a step is that is put in another's place -/
structure LiftOk (s f : ST) (r : Nat) : Prop where
  right : f.Right
  fit : f.FitA
  lt : r < f.ends.length
  ends : (mvd f (ordL r f.ends.length)).ends = s.ends
  size : f.size ≤ 2 * s.size
  dpt : f.dpt ≤ s.dpt + 1
theorem liftOk {s f : ST} {A T : List FT} {X : FT} {r : Nat} (hr : r = A.length) (e1 : s.ends = A ++ [X] ++ T) (e2 : f.ends = A ++ T ++ [X]) (right : f.Right) (fit : Fit s.ends → f.FitA) (hs : Fit s.ends) (size : f.size ≤ 2 * s.size) (dpt : f.dpt ≤ s.dpt + 1) : LiftOk s f r := by
  subst hr
  have lf : f.ends.length = A.length + T.length + 1 := by rw [e2, List.length_append, List.length_append]; rfl
  refine ⟨right, fit hs, by omega, ?_, size, dpt⟩
  rw [mvd_ends (ordL_perm (by omega)), lf, e2, e1]
  exact ordL_map A T X
theorem less_one {α : Type} {A : List α} {X : α} {k : Nat} (h : k < A.length) : less (A ++ [X]) k = less A k ++ [X] := less_apd A [X] k h
theorem lift_bt {b : Bool} {p q : ST} {i j k l : Nat} (h : (ou b (.bt p i j) q k l).Right) (f : (ou b (.bt p i j) q k l).FitA) (hk : k + 1 < (ST.bt p i j).ends.length) :
    ∃ m, (pos p.ends.length [i, j])[k]? = some m ∧ LiftOk (ou b (.bt p i j) q k l) (.bt (ou b p q m l) (un m i) (un m j)) ((ST.bt p i j).ends.length - 2) := by
  have r := (ou_right ..).mp h
  have fa := (ou_fit ..).mp f
  obtain ⟨⟨rp, hi, hj, hij⟩, _, rq, hl, hc⟩ := r
  have eA : (ST.bt p i j).ends = lessN p.ends [i, j] ++ [.node .bar (nth p.ends i) (nth p.ends j)] := by rw [lessN_two]; rfl
  have kA : k < (lessN p.ends [i, j]).length := by rw [eA, List.length_append] at hk; simp at hk; omega
  have kp : k < (pos p.ends.length [i, j]).length := by rw [lessN_pos, List.length_map] at kA; exact kA
  refine ⟨_, List.getElem?_eq_getElem kp, ?_⟩
  have g : (pos p.ends.length [i, j])[k]? = some _ := List.getElem?_eq_getElem kp
  generalize (pos p.ends.length [i, j])[k] = m at g ⊢
  have hn : ∀ a, a ∈ [i, j] → a < p.ends.length := fun a ha => by
    rcases List.mem_cons.mp ha with rfl | h2
    · exact hi
    · rw [List.mem_singleton.mp h2]; exact hj
  obtain ⟨h1, h2, h3, h4, h5⟩ := core (T := tl b (nth p.ends m) q l) hn g
  obtain ⟨ui, ni⟩ := h5 i List.mem_cons_self
  obtain ⟨uj, nj⟩ := h5 j (List.mem_cons_of_mem _ List.mem_cons_self)
  have nA : nth (ST.bt p i j).ends k = nth p.ends m := by rw [eA, nth_apd _ _ _ kA, h3]
  have l1 := less_len1 kA
  have eS : (ou b (.bt p i j) q k l).ends = less (lessN p.ends [i, j]) k ++ [.node .bar (nth p.ends i) (nth p.ends j)] ++ tl b (nth p.ends m) q l := by
    rw [ou_ends, nA, eA, less_one kA]
  rw [List.map_cons, List.map_cons, List.map_nil, lessN_two] at h4
  have mi : i ≠ m := fun e => h2 (e ▸ List.mem_cons_self)
  have mj : j ≠ m := fun e => h2 (e ▸ List.mem_cons_of_mem _ List.mem_cons_self)
  have lb : (less p.ends m).length ≤ (ou b p q m l).ends.length := by rw [ou_ends, List.length_append]; omega
  have eF : (ST.bt (ou b p q m l) (un m i) (un m j)).ends = less (lessN p.ends [i, j]) k ++ tl b (nth p.ends m) q l ++ [.node .bar (nth p.ends i) (nth p.ends j)] := by
    show less2 (ou b p q m l).ends (un m i) (un m j) ++ [.node .bar (nth (ou b p q m l).ends (un m i)) (nth (ou b p q m l).ends (un m j))] = _
    rw [ou_ends, h4, ni, nj]
  refine liftOk (A := less (lessN p.ends [i, j]) k) (T := tl b (nth p.ends m) q l) (X := .node .bar (nth p.ends i) (nth p.ends j)) ?_ eS eF ?_ ?_ (FitsA.fit f) ?_ ?_
  · rw [eA, List.length_append]
    show _ + 1 - 2 = _
    omega
  · refine ⟨(ou_right ..).mpr ⟨rp, h1, rq, hl, fun z => by rw [← hc z, nA]⟩, by omega, by omega, fun e => hij ?_⟩
    have e1 := sh_un mi
    have e2 := sh_un mj
    rw [e] at e1
    exact e1.symm.trans e2
  · intro hs
    have hs2 := hs
    rw [eS, ← h3] at hs2
    have fp : p.FitA := fa.2.1.2
    have ll := lvsL_less2 hi hj hij
    have fb := below_fit (b := b) (q := q) (l := l) fp fa.2.2 h1 kA h3 (by rw [lessN_two, node_lvs]; omega) (by omega) hs2
    refine ⟨?_, fb⟩
    refine hs.perm ?_
    rw [eF, eS, List.append_assoc, List.append_assoc]
    exact List.Perm.append_left _ List.perm_append_comm
  · rw [ou_size]
    show (ou b p q m l).size + 1 ≤ 2 * (p.size + 1 + q.size + 1)
    rw [ou_size]
    omega
  · rw [ou_dpt]
    show 1 + (ou b p q m l).dpt ≤ 1 + max (1 + p.dpt) q.dpt + 1
    rw [ou_dpt]
    omega
theorem lift_ch {b : Bool} {p q : ST} {i d k l : Nat} {g : FT} (h : (ou b (.ch p i d g) q k l).Right) (f : (ou b (.ch p i d g) q k l).FitA) (hk : k + 1 < (ST.ch p i d g).ends.length) :
    ∃ m, (pos p.ends.length [i])[k]? = some m ∧ LiftOk (ou b (.ch p i d g) q k l) (.ch (ou b p q m l) (un m i) d g) ((ST.ch p i d g).ends.length - 2) := by
  have r := (ou_right ..).mp h
  have fa := (ou_fit ..).mp f
  obtain ⟨⟨rp, hi, hd, hg⟩, _, rq, hl, hc⟩ := r
  have eX : ∃ X, (ST.ch p i d g).ends = lessN p.ends [i] ++ [X] ∧ X = (if d = 0 then .node .plus (nth p.ends i) g else .node .plus g (nth p.ends i)) ∧ (nth p.ends i).lvs ≤ X.lvs := by
    refine ⟨_, by rw [lessN_one]; rfl, rfl, ?_⟩
    split <;> rw [node_lvs] <;> omega
  obtain ⟨X, eA, hX, lX⟩ := eX
  have kA : k < (lessN p.ends [i]).length := by rw [eA, List.length_append] at hk; simp at hk; omega
  have kp : k < (pos p.ends.length [i]).length := by rw [lessN_pos, List.length_map] at kA; exact kA
  refine ⟨_, List.getElem?_eq_getElem kp, ?_⟩
  have g0 : (pos p.ends.length [i])[k]? = some _ := List.getElem?_eq_getElem kp
  generalize (pos p.ends.length [i])[k] = m at g0 ⊢
  have hn : ∀ a, a ∈ [i] → a < p.ends.length := fun a ha => by
    rw [List.mem_singleton.mp ha]; exact hi
  obtain ⟨h1, h2, h3, h4, h5⟩ := core (T := tl b (nth p.ends m) q l) hn g0
  obtain ⟨ui, ni⟩ := h5 i List.mem_cons_self
  have nA : nth (ST.ch p i d g).ends k = nth p.ends m := by rw [eA, nth_apd _ _ _ kA, h3]
  have l1 := less_len1 kA
  have eS : (ou b (.ch p i d g) q k l).ends = less (lessN p.ends [i]) k ++ [X] ++ tl b (nth p.ends m) q l := by
    rw [ou_ends, nA, eA, less_one kA]
  rw [List.map_cons, List.map_nil, lessN_one] at h4
  have lb : (less p.ends m).length ≤ (ou b p q m l).ends.length := by rw [ou_ends, List.length_append]; omega
  have eF : (ST.ch (ou b p q m l) (un m i) d g).ends = less (lessN p.ends [i]) k ++ tl b (nth p.ends m) q l ++ [X] := by
    show less (ou b p q m l).ends (un m i) ++ [if d = 0 then .node .plus (nth (ou b p q m l).ends (un m i)) g else .node .plus g (nth (ou b p q m l).ends (un m i))] = _
    rw [ou_ends, h4, ni, ← hX]
  refine liftOk (A := less (lessN p.ends [i]) k) (T := tl b (nth p.ends m) q l) (X := X) ?_ eS eF ?_ ?_ (FitsA.fit f) ?_ ?_
  · rw [eA, List.length_append]
    show _ + 1 - 2 = _
    omega
  · exact ⟨(ou_right ..).mpr ⟨rp, h1, rq, hl, fun z => by rw [← hc z, nA]⟩, by omega, hd, hg⟩
  · intro hs
    have hs2 := hs
    rw [eS, ← h3] at hs2
    have fp : p.FitA := fa.2.1.2
    have ll := lvsL_less hi
    have fb := below_fit (b := b) (q := q) (l := l) fp fa.2.2 h1 kA h3 (by rw [lessN_one]; omega) (by omega) hs2
    refine ⟨?_, fb⟩
    refine hs.perm ?_
    rw [eF, eS, List.append_assoc, List.append_assoc]
    exact List.Perm.append_left _ List.perm_append_comm
  · rw [ou_size]
    show (ou b p q m l).size + 1 ≤ 2 * (p.size + 1 + q.size + 1)
    rw [ou_size]
    omega
  · rw [ou_dpt]
    show 1 + max (ou b p q m l).dpt (g.dep + 1) ≤ 1 + max (1 + max p.dpt (g.dep + 1)) q.dpt + 1
    rw [ou_dpt]
    omega
theorem pos_one {n i k : Nat} (hi : i < n) (hk : k < n - 1) : (pos n [i])[k]? = some (sh i k) := by
  rw [← range_sh hi, List.getElem?_map, List.getElem?_range hk]
  rfl
theorem lift_of {b : Bool} {p p2 q : ST} {i j k l : Nat} (h : (ou b (.of p p2 i j) q k l).Right) (f : (ou b (.of p p2 i j) q k l).FitA) (hk : k + 1 < (ST.of p p2 i j).ends.length) :
    LiftOk (ou b (.of p p2 i j) q k l) (.of (ou b p q (sh i k) l) (ou b p2 q (sh j k) l) (un (sh i k) i) (un (sh j k) j)) ((ST.of p p2 i j).ends.length - 2) := by
  have r := (ou_right ..).mp h
  have fa := (ou_fit ..).mp f
  obtain ⟨⟨rp, rp2, hi, hj, hpp⟩, _, rq, hl, hc⟩ := r
  have eA : (ST.of p p2 i j).ends = lessN p.ends [i] ++ [.node .amp (nth p.ends i) (nth p2.ends j)] := by rw [lessN_one]; rfl
  have kA : k < (lessN p.ends [i]).length := by rw [eA, List.length_append] at hk; simp at hk; omega
  have eAA : lessN p2.ends [j] = lessN p.ends [i] := by rw [lessN_one, lessN_one]; exact hpp.symm
  have kA2 : k < (lessN p2.ends [j]).length := by rw [eAA]; exact kA
  have li := less_len1 hi
  have lj := less_len1 hj
  have kp : k < p.ends.length - 1 := by rw [lessN_one] at kA; omega
  have kp2 : k < p2.ends.length - 1 := by rw [lessN_one] at kA2; omega
  have g := pos_one hi kp
  have g2 := pos_one hj kp2
  generalize sh i k = m at g ⊢
  generalize sh j k = m2 at g2 ⊢
  have hn : ∀ a, a ∈ [i] → a < p.ends.length := fun a ha => by rw [List.mem_singleton.mp ha]; exact hi
  have hn2 : ∀ a, a ∈ [j] → a < p2.ends.length := fun a ha => by rw [List.mem_singleton.mp ha]; exact hj
  obtain ⟨h1, h2, h3, h4, h5⟩ := core (T := tl b (nth p.ends m) q l) hn g
  obtain ⟨x1, x2, x3, x4, x5⟩ := core (T := tl b (nth p2.ends m2) q l) hn2 g2
  have em : nth p2.ends m2 = nth p.ends m := by rw [← x3, ← h3, eAA]
  obtain ⟨ui, ni⟩ := h5 i List.mem_cons_self
  obtain ⟨uj, nj⟩ := x5 j List.mem_cons_self
  have nA : nth (ST.of p p2 i j).ends k = nth p.ends m := by rw [eA, nth_apd _ _ _ kA, h3]
  have l1 := less_len1 kA
  have eS : (ou b (.of p p2 i j) q k l).ends = less (lessN p.ends [i]) k ++ [.node .amp (nth p.ends i) (nth p2.ends j)] ++ tl b (nth p.ends m) q l := by
    rw [ou_ends, nA, eA, less_one kA]
  rw [List.map_cons, List.map_nil, lessN_one] at h4 x4
  rw [eAA, em] at x4
  rw [em] at nj
  have lb : (less p.ends m).length ≤ (ou b p q m l).ends.length := by rw [ou_ends, List.length_append]; omega
  have lb2 : (less p2.ends m2).length ≤ (ou b p2 q m2 l).ends.length := by rw [ou_ends, List.length_append]; omega
  have eF : (ST.of (ou b p q m l) (ou b p2 q m2 l) (un m i) (un m2 j)).ends = less (lessN p.ends [i]) k ++ tl b (nth p.ends m) q l ++ [.node .amp (nth p.ends i) (nth p2.ends j)] := by
    show less (ou b p q m l).ends (un m i) ++ [.node .amp (nth (ou b p q m l).ends (un m i)) (nth (ou b p2 q m2 l).ends (un m2 j))] = _
    rw [ou_ends, ou_ends, em, h4, ni, nj]
  refine liftOk (A := less (lessN p.ends [i]) k) (T := tl b (nth p.ends m) q l) (X := .node .amp (nth p.ends i) (nth p2.ends j)) ?_ eS eF ?_ ?_ (FitsA.fit f) ?_ ?_
  · rw [eA, List.length_append]
    show _ + 1 - 2 = _
    omega
  · refine ⟨(ou_right ..).mpr ⟨rp, h1, rq, hl, fun z => by rw [← hc z, nA]⟩, (ou_right ..).mpr ⟨rp2, x1, rq, hl, fun z => by rw [← hc z, nA, em]⟩, by omega, by omega, ?_⟩
    rw [ou_ends, ou_ends, em, h4, x4]
  · intro hs
    have hs2 := hs
    rw [eS, ← h3] at hs2
    have fp : p.FitA := fa.2.1.2.1
    have fp2 : p2.FitA := fa.2.1.2.2
    have ll := lvsL_less hi
    have ll2 := lvsL_less hj
    have fb := below_fit (b := b) (q := q) (l := l) fp fa.2.2 h1 kA h3 (by rw [lessN_one, node_lvs]; omega) (by omega) hs2
    have fb2 := below_fit (b := b) (p := p2) (q := q) (l := l) fp2 fa.2.2 x1 kA (by rw [← eAA]; exact x3) (by rw [← eAA, lessN_one, node_lvs]; omega) (by omega) hs2
    refine ⟨?_, fb, fb2⟩
    refine hs.perm ?_
    rw [eF, eS, List.append_assoc, List.append_assoc]
    exact List.Perm.append_left _ List.perm_append_comm
  · rw [ou_size]
    show (ou b p q m l).size + (ou b p2 q m2 l).size + 1 ≤ 2 * (p.size + p2.size + 1 + q.size + 1)
    rw [ou_size, ou_size]
    omega
  · rw [ou_dpt]
    show 1 + max (ou b p q m l).dpt (ou b p2 q m2 l).dpt ≤ 1 + max (1 + max p.dpt p2.dpt) q.dpt + 1
    rw [ou_dpt, ou_dpt]
    omega
end My

set_option Elab.async false
set_option linter.all false
set_option maxRecDepth 100000
namespace My
open PySem L2
open ST
/-! ### right deeds that need not fit -/
inductive DerU : PyData → List FT → Prop
  | mk {D : PyData} {ls : List (List FT)} {ts : List FT} : Stp D ls ts → ts.length ≤ 400 → (kids D).length = ls.length → (∀ (i : Nat) (d : PyData) (l : List FT), (kids D)[i]? = some d → ls[i]? = some l → DerU d l) → DerU D ts
theorem DerU.few {D : PyData} {ts : List FT} (h : DerU D ts) : ts.length ≤ 400 := by
  cases h with | mk _ h _ _ => exact h
theorem deru0 {D : PyData} {ts : List FT} (h : Stp D [] ts) (k : kids D = []) (f : ts.length ≤ 400) : DerU D ts :=
  .mk h f (by rw [k]; rfl) fun i d l e1 _ => by rw [k] at e1; cases e1
theorem deru1 {D p : PyData} {us ts : List FT} (h : Stp D [us] ts) (k : kids D = [p]) (f : ts.length ≤ 400) (d1 : DerU p us) : DerU D ts :=
  .mk h f (by rw [k]; rfl) fun i d l e1 e2 => by
    rw [k] at e1
    match i with
    | 0 => cases e1; cases e2; exact d1
    | i + 1 => cases e1
theorem deru2 {D p q : PyData} {us ws ts : List FT} (h : Stp D [us, ws] ts) (k : kids D = [p, q]) (f : ts.length ≤ 400) (d1 : DerU p us) (d2 : DerU q ws) : DerU D ts :=
  .mk h f (by rw [k]; rfl) fun i d l e1 e2 => by
    rw [k] at e1
    match i with
    | 0 => cases e1; cases e2; exact d1
    | 1 => cases e1; cases e2; exact d2
    | i + 2 => cases e1
theorem der_u : ∀ s : ST, s.Right → s.size ≤ 399 → DerU s.data s.ends
  | .lk n, h, f => deru0 stp_lk (kids_lk n) (by have := ends_len _ h; omega)
  | .bo p q i j, h, f => by
    have f' : p.size + q.size + 1 ≤ 399 := f
    exact deru2 (stp_bo h) (kids_bo _ _ _ _) (by have := ends_len _ h; omega) (der_u p h.1 (by omega)) (der_u q h.2.1 (by omega))
  | .bt p i j, h, f => by
    have f' : p.size + 1 ≤ 399 := f
    exact deru1 (stp_bt h) (kids_bt _ _ _) (by have := ends_len _ h; omega) (der_u p h.1 (by omega))
  | .of p q i j, h, f => by
    have f' : p.size + q.size + 1 ≤ 399 := f
    exact deru2 (stp_of h) (kids_of' _ _ _ _) (by have := ends_len _ h; omega) (der_u p h.1 (by omega)) (der_u q h.2.1 (by omega))
  | .ch p i d g, h, f => by
    have f' : p.size + 1 ≤ 399 := f
    exact deru1 (stp_ch h) (kids_ch _ _ _ _) (by have := ends_len _ h; omega) (der_u p h.1 (by omega))
  | .ha p q i j, h, f => by
    have f' : p.size + q.size + 1 ≤ 399 := f
    exact deru2 (stp_ha h) (kids_ha _ _ _ _) (by have := ends_len _ h; omega) (der_u p h.1 (by omega)) (der_u q h.2.1 (by omega))
  | .tu p os, h, f => by
    have f' : p.size + 1 ≤ 399 := f
    exact deru1 (stp_tu h (by have := ends_len _ h.1; omega)) (kids_tu _ _) (by have := ends_len _ h; omega) (der_u p h.1 (by omega))
end My

set_option Elab.async false
set_option linter.all false
set_option maxRecDepth 100000
namespace My
open PySem L2
/-! ### the law's own ends of steps -/
abbrev s_law_without : Stmt := top 81
abbrev N_law_without : List Str := ["_law_some", "_law_numbers", "_law_at", "_law_one"]
abbrev P_law_without : List Str := ["_law_some", "_law_numbers"]
theorem sc_law_without : FnScope N_law_without P_law_without (defScope s_law_without) := ⟨rfl, rfl, rfl, by decide +kernel, rfl, by decide +kernel, by decide +kernel⟩
abbrev s_law_ends_of : Stmt := top 82
abbrev N_law_ends_of : List Str := ["_law_step", "_law_one", "_law_halves", "_law_other", "_law_here", "_law_there", "_law_at"]
abbrev P_law_ends_of : List Str := ["_law_step"]
theorem sc_law_ends_of : FnScope N_law_ends_of P_law_ends_of (defScope s_law_ends_of) := ⟨rfl, rfl, rfl, by decide +kernel, rfl, by decide +kernel, by decide +kernel⟩
def lessM {α : Type} (l : List α) (ns : List Nat) (m : Nat) : List α := ((l.zipIdx.take m).filter fun p => !(ns.any fun n => p.2 == n)).map (·.1)
theorem lessM_next {α : Type} {l : List α} {m : Nat} {y : α} (ns : List Nat) (h : l[m]? = some y) : lessM l ns (m + 1) = lessM l ns m ++ (if (!(ns.any fun n => m == n)) = true then [y] else []) := by
  have hz : l.zipIdx[m]? = some (y, m) := by
    rw [List.getElem?_zipIdx, h]
    simp
  unfold lessM
  rw [take_next hz, List.filter_append, List.map_append]
  congr 1
  by_cases c : (!(ns.any fun n => m == n)) = true
  · simp only [List.filter_cons, List.filter_nil, c, if_true, List.map_cons, List.map_nil]
  · rw [Bool.not_eq_true] at c
    simp only [List.filter_cons, List.filter_nil, c, Bool.false_eq_true, if_false, List.map_nil]
theorem lessM_len {α : Type} (l : List α) (ns : List Nat) (m : Nat) : (lessM l ns m).length ≤ l.length := by
  unfold lessM
  rw [List.length_map]
  refine Nat.le_trans (List.length_filter_le _ _) ?_
  rw [List.length_take, List.length_zipIdx]
  omega
theorem lessM_all {α : Type} (l : List α) (ns : List Nat) : lessM l ns l.length = lessN l ns := by
  unfold lessM lessN
  rw [List.take_of_length_le (by rw [List.length_zipIdx]; exact Nat.le_refl _)]
def natV (ns : List Nat) : List V := ns.map fun n => V.int (n : Nat)
def spWithoutL (K : PySem.W.Frag) : Sp := fun vs H Q _ => ∃ (a b : Addr) (us : List V) (ns : List Nat), vs = [.ref a, .ref b] ∧ SqL K H a us ∧ SqL K H b (natV ns) ∧ us.length ≤ 400 ∧ ∀ H' p, Same H H' → H' p = some (.lst (lessN us ns)) → Q (.ref p) H'
theorem inV_nat (m : Nat) (ns : List Nat) : inV (V.int m) (natV ns) = ns.any fun n => m == n := by
  unfold inV natV
  rw [List.any_map]
  congr 1
  funext n
  show ((n : Int) == (m : Int)) = (m == n)
  rw [Bool.eq_iff_iff]
  simp
  omega
theorem flat_nat (ns : List Nat) : (natV ns).all flatV = true := by
  rw [List.all_eq_true]
  intro x hx
  obtain ⟨n, _, rfl⟩ := List.mem_map.mp hx
  rfl
/-- the ends in a list -/
def LtE (K : PySem.W.Frag) (H : Hp) (p : Addr) (ts : List FT) : Prop := ∃ us, H p = some (.lst us) ∧ Paired (fun v t => Fm K H t v) us ts
def spEndsOfL (K : PySem.W.Frag) (n : Nat) : Sp := fun vs H Q _ => ∃ v D ts, vs = [v] ∧ Dp K H v D ∧ DerU D ts ∧ depS D ≤ n ∧ ∀ H' p, Same H H' → LtE K H' p ts → Q (.ref p) H'
section
variable {P : Program} {w : World} {K : PySem.W.Frag} {mg : Str → Option Value} {base : Heap} {f : Addr} {fd : FuncData}
theorem ok_law_without (he : mg "enumerate" = none) (F : Fun K "_law_without" "_law_without" s_law_without f fd) : FnOk P w K mg base CX0 1 f fd P_law_without (spWithoutL K) := by
  refine F.ok sc_law_without (fun vs H Q E h => ?_) (fun cdv A outer s H vs Q E hr h => ?_)
  · obtain ⟨a, b, us, ns, rfl, _⟩ := h
    rfl
  obtain ⟨a, b, us, ns, rfl, ha, hb, hl, q⟩ := h
  refine ⟨_, (pss_one (ps_ret (pe_lc (own := [("_law_at", 2), ("_law_one", 3)]) (g := gTup K 2 (gCons (gName 2) (gCons (gName 3) gNil))) rfl sc_law_without.nd (pi_enum rfl he (pa_cons (pv 0) pa_nil)) (blkOk_by (own := [("_law_at", 2), ("_law_one", 3)]) (N := N_law_without) (sc := defScope s_law_without) (by decide +kernel)) (fun _ _ _ _ _ => (pg_tup rfl (pgs_cons (pg_name (i := 2) sc_law_without.nd rfl (Or.inl rfl)) (pgs_cons (pg_name (i := 3) sc_law_without.nd rfl (Or.inl rfl)) pgs_nil)))) (fun _ _ _ _ _ => (pts_one (pt_cmpR (show OpR _ _ (rIn K true) from op_notIn_seq) (pv 2) (pv 1) rfl))) (fun _ _ _ _ _ => (pv 3))))), ?_⟩
  refine ⟨_, rfl, a, us, rfl, ha, fun D nD => lc_it walk_enum (fun m H' => Same H H' ∧ H' D = some (.lst (lessM us ns m))) ⟨same_new nD _, upd_same⟩ (fun m H' _ z => z.1.seq ha) (fun m v0 H2 H3 hm z yy => ?_) (fun H' z => ?_)⟩
  · obtain ⟨T0, x0, y0, rfl, nT, rfl, ex0, ey0⟩ := yy
    have ex1 : some (V.int m) = some x0 := ex0
    cases ex1
    have nDT : D ≠ T0 := fun e => by rw [← e, z.2] at nT; cases nT
    have s3 := same_new nT (.tup [V.int m, y0])
    have kk : Same H (upd H2 T0 (.tup [V.int m, y0])) := z.1.trans s3
    refine ⟨T0, _, rfl, SqT.of upd_same, rfl, _, _, rfl, _, _, rfl, rfl, rfl, ?_⟩
    refine ⟨_, rfl, _, rfl, b, _, rfl, .inl (kk.seq hb), rfl, flat_nat ns, _, rfl, ?_⟩
    have eD : upd H2 T0 (.tup [V.int m, y0]) D = some (.lst (lessM us ns m)) := s3 _ _ z.2
    have ey1 : us[m]? = some y0 := ey0
    have hn := lessM_next ns ey1
    show if (!inV (V.int m) (natV ns)) = true then _ else _
    rw [inV_nat]
    have hlm := lessM_len us ns m
    refine ite2 (fun c => ?_) (fun c => ?_)
    · rw [if_pos c] at hn
      exact ⟨_, rfl, _, eD, small1000 (by omega), same_fresh kk nD, by rw [upd_same, hn]⟩
    · rw [if_neg c, List.append_nil] at hn
      exact ⟨kk, by rw [hn]; exact eD⟩
  · obtain ⟨k, e⟩ := z
    rw [lessM_all] at e
    exact q H' D k e
theorem wid_hand : widOf "hand" = 2 := by decide +kernel
theorem ok_law_ends_of {n : Nat} (C_law_without : Cal P w K mg base "_law_without" 1 P_law_without (spWithoutL K)) (F : Fun K "_law_ends_of" "_law_ends_of" s_law_ends_of f fd) (C_law_ends_of : Cal P w K mg base "_law_ends_of" (1 + n) P_law_ends_of (spEndsOfL K n)) :
    FnOk P w K mg base CX0 (1 + n + 1) f fd P_law_ends_of (spEndsOfL K (n + 1)) := by
  refine F.ok sc_law_ends_of (fun vs H Q E h => ?_) (fun cdv A outer s H vs Q E hr h => ?_)
  · obtain ⟨v, D, ts, rfl, _⟩ := h
    rfl
  obtain ⟨v, D, ts, rfl, hv, hD, hdep, q⟩ := h
  refine ⟨_, (pss_cons (ps_if (pt_cmpR op_eq (pe_ix ix_tup (pv 0) pe_int (fun _ _ => rfl)) pe_str (nomark _))
    (pss_one (ps_ret (pe_lstN (pa_cons (pe_tupN (pa_cons pe_str (pa_cons (pe_ix ix_tup (pv 0) pe_int (fun _ _ => rfl)) pa_nil))) (pa_cons (pe_tupN (pa_cons pe_str (pa_cons (pe_ix ix_tup (pv 0) pe_int (fun _ _ => rfl)) pa_nil))) pa_nil)))))
    pss_nil)
  (pss_cons (ps_set (i := 1) sc_law_ends_of.nd rfl (Or.inr rfl) (pe_callC C_law_ends_of hr (pa_cons (pe_ix ix_tup (pv 0) pe_int (fun _ _ => rfl)) pa_nil)))
  (pss_cons (ps_if (pt_cmpR op_eq (pe_ix ix_tup (pv 0) pe_int (fun _ _ => rfl)) pe_str (nomark _))
    (pss_one (ps_ret (pe_lc (own := [("_law_at", 6)]) (g := (gName 6)) rfl sc_law_ends_of.nd (pi_tup (pe_ix ix_tup (pv 0) pe_int (fun _ _ => rfl))) (blkOk_by (own := [("_law_at", 6)]) (N := N_law_ends_of) (sc := defScope s_law_ends_of) (by decide +kernel)) (fun _ _ _ _ _ => (pg_name (i := 6) sc_law_ends_of.nd rfl (Or.inl rfl))) (fun _ _ _ _ _ => pts_nil) (fun _ _ _ _ _ => (pe_ix (show IxR _ (rIxL K) from ix_list) (pv 1) (pv 6) (fun _ _ => rfl))))))
    pss_nil)
  (pss_cons (ps_if (pt_cmpR op_eq (pe_ix ix_tup (pv 0) pe_int (fun _ _ => rfl)) pe_str (nomark _))
    (pss_one (ps_ret (pe_op op_catLN (pe_callC C_law_without hr (pa_cons (pv 1) (pa_cons (pe_lstN (pa_cons (pe_ix ix_tup (pv 0) pe_int (fun _ _ => rfl)) (pa_cons (pe_ix ix_tup (pv 0) pe_int (fun _ _ => rfl)) pa_nil))) pa_nil))) (pe_lstN (pa_cons (pe_tupN (pa_cons pe_str (pa_cons (pe_ix ix_list (pv 1) (pe_ix ix_tup (pv 0) pe_int (fun _ _ => rfl)) (fun _ _ => rfl)) (pa_cons (pe_ix ix_list (pv 1) (pe_ix ix_tup (pv 0) pe_int (fun _ _ => rfl)) (fun _ _ => rfl)) pa_nil)))) pa_nil)))))
    pss_nil)
  (pss_cons (ps_if (pt_cmpR op_eq (pe_ix ix_tup (pv 0) pe_int (fun _ _ => rfl)) pe_str (nomark _))
    (pss_cons (ps_set (i := 2) sc_law_ends_of.nd rfl (Or.inl rfl) (pe_lstN (pa_cons (pe_ix ix_list (pv 1) (pe_ix ix_tup (pv 0) pe_int (fun _ _ => rfl)) (fun _ _ => rfl)) (pa_cons (pe_ix ix_tup (pv 0) pe_int (fun _ _ => rfl)) pa_nil))))
    (pss_one (ps_ret (pe_op op_catLN (pe_callC C_law_without hr (pa_cons (pv 1) (pa_cons (pe_lstN (pa_cons (pe_ix ix_tup (pv 0) pe_int (fun _ _ => rfl)) pa_nil)) pa_nil))) (pe_lstN (pa_cons (pe_tupN (pa_cons pe_str (pa_cons (pe_ix ix_list (pv 2) (pe_ix ix_tup (pv 0) pe_int (fun _ _ => rfl)) (fun _ _ => rfl)) (pa_cons (pe_ix ix_list (pv 2) (pe_op op_sub pe_int (pe_ix ix_tup (pv 0) pe_int (fun _ _ => rfl))) (fun _ _ => rfl)) pa_nil)))) pa_nil))))))
    pss_nil)
  (pss_cons (ps_set (i := 3) sc_law_ends_of.nd rfl (Or.inl rfl) (pe_callC C_law_ends_of hr (pa_cons (pe_ix ix_tup (pv 0) pe_int (fun _ _ => rfl)) pa_nil)))
  (pss_cons (ps_par (i := 4) (j := 5) (by rfl) sc_law_ends_of.nd rfl rfl (by decide) rfl rfl (pa_cons (pe_callC C_law_without hr (pa_cons (pv 1) (pa_cons (pe_lstN (pa_cons (pe_ix ix_tup (pv 0) pe_int (fun _ _ => rfl)) pa_nil)) pa_nil))) (pa_cons (pe_callC C_law_without hr (pa_cons (pv 3) (pa_cons (pe_lstN (pa_cons (pe_ix ix_tup (pv 0) pe_int (fun _ _ => rfl)) pa_nil)) pa_nil))) pa_nil)) (by rfl))
  (pss_cons (ps_if (pt_cmpR op_eq (pe_ix ix_tup (pv 0) pe_int (fun _ _ => rfl)) pe_str (nomark _))
    (pss_one (ps_ret (pe_op op_catLN (pe_op op_catLN (pv 4) (pv 5)) (pe_lstN (pa_cons (pe_tupN (pa_cons pe_str (pa_cons (pe_ix ix_list (pv 1) (pe_ix ix_tup (pv 0) pe_int (fun _ _ => rfl)) (fun _ _ => rfl)) (pa_cons (pe_ix ix_list (pv 3) (pe_ix ix_tup (pv 0) pe_int (fun _ _ => rfl)) (fun _ _ => rfl)) pa_nil)))) pa_nil)))))
    pss_nil)
  (pss_one (ps_ret (pe_ifExp (pt_cmpR op_eq (pe_ix ix_tup (pv 0) pe_int (fun _ _ => rfl)) pe_str (nomark _)) (pe_op op_catLN (pv 4) (pv 5)) (pe_op op_catLN (pv 4) (pe_lstN (pa_cons (pe_tupN (pa_cons pe_str (pa_cons (pe_ix ix_list (pv 1) (pe_ix ix_tup (pv 0) pe_int (fun _ _ => rfl)) (fun _ _ => rfl)) (pa_cons (pe_ix ix_list (pv 3) (pe_ix ix_tup (pv 0) pe_int (fun _ _ => rfl)) (fun _ _ => rfl)) pa_nil)))) pa_nil)))))))))))))), ?_⟩
  obtain ⟨hS, hF, hkl, hd⟩ := hD
  cases hS with
  | link n =>
    obtain ⟨a, rfl, hT⟩ := dp_t2 hv
    refine ⟨_, rfl, a, _, 0, _, rfl, rfl, hT, rfl, rfl, _, rfl, ?_⟩
    refine ite2 (fun _ => ?_) (fun c => absurd (by decide +kernel) c)
    refine ⟨_, rfl, a, _, 1, _, rfl, rfl, hT, rfl, le1k, fun p1 H1 s1 e1 => ⟨_, rfl, a, _, 1, _, rfl, rfl, (Same.kt s1).seq hT, rfl, le1k, fun p2 H2 s2 e2 => ⟨le1k, fun p3 H3 s3 e3 => ?_⟩⟩⟩
    exact q H3 p3 ((s1.trans s2).trans s3) ⟨_, e3, .cons (show Fm K H3 (.leaf false n) (.ref p1) from ⟨p1, rfl, (Same.kt (s2.trans s3)).seq e1⟩) (.cons (show Fm K H3 (.leaf true n) (.ref p2) from ⟨p2, rfl, (Same.kt s3).seq e2⟩) .nil)⟩
  | @both p q' us ws' i j u v' hu hw =>
    have hk : kids (.tuple [.str "both", p, q', .int i, .int j]) = [p, q'] := kids_of len_both wid_both
    have dd := depS2 hk
    have g1 := hd 0 p us (by rw [hk]; rfl) rfl
    have g2 := hd 1 q' ws' (by rw [hk]; rfl) rfl
    obtain ⟨a, vp, vq, rfl, hT, hvp, hvq⟩ := dp_t5 hv
    refine ⟨_, rfl, a, _, 0, _, rfl, rfl, hT, rfl, rfl, _, rfl, ?_⟩
    refine ite2 (fun c => absurd c (by decide +kernel)) (fun _ => ?_)
    refine ⟨_, rfl, a, _, 1, _, rfl, rfl, hT, rfl, vp, p, us, rfl, hvp, g1, by omega, fun H1 p1 s1 ⟨vs1, e1, pr1⟩ => ?_⟩
    have hT1 := (Same.kt s1).seq hT
    refine ⟨_, rfl, a, _, 0, _, rfl, rfl, hT1, rfl, rfl, _, rfl, ?_⟩
    refine ite2 (fun c => absurd c (by decide +kernel)) (fun _ => ?_)
    refine ⟨_, rfl, a, _, 0, _, rfl, rfl, hT1, rfl, rfl, _, rfl, ?_⟩
    refine ite2 (fun c => absurd c (by decide +kernel)) (fun _ => ?_)
    refine ⟨_, rfl, a, _, 0, _, rfl, rfl, hT1, rfl, rfl, _, rfl, ?_⟩
    refine ite2 (fun c => absurd c (by decide +kernel)) (fun _ => ?_)
    refine ⟨_, rfl, a, _, 2, _, rfl, rfl, hT1, rfl, vq, q', ws', rfl, dp_same s1 _ _ hvq, g2, by omega, fun H2 p2 s2 ⟨vs2, e2, pr2⟩ => ?_⟩
    have l1 := paired_len pr1
    have l2 := paired_len pr2
    have f1 := g1.few
    have f2 := g2.few
    have hT2 := (Same.kt s2).seq hT1
    refine ⟨_, rfl, _, rfl, a, _, 3, _, rfl, rfl, hT2, rfl, le1k, fun p3 H3 s3 e3 => ⟨p1, p3, vs1, [i], rfl, SqL.of (s3 _ _ (s2 _ _ e1)), SqL.of e3, by omega, fun H4 p4 s4 e4 => ?_⟩⟩
    have s34 := s3.trans s4
    have hT4 := (Same.kt s34).seq hT2
    refine ⟨_, rfl, _, rfl, a, _, 4, _, rfl, rfl, hT4, rfl, le1k, fun p5 H5 s5 e5 => ⟨p2, p5, vs2, [j], rfl, SqL.of (s5 _ _ (s34 _ _ e2)), SqL.of e5, by omega, fun H6 p6 s6 e6 => ?_⟩⟩
    rw [lessN_one] at e4 e6
    have s56 := s5.trans s6
    have s16 := s2.trans (s34.trans s56)
    have hT6 := (Same.kt s56).seq hT4
    have ll1 := less_len vs1 i
    have ll2 := less_len vs2 j
    obtain ⟨u1, hu1, fu⟩ := paired_un pr1 hu
    obtain ⟨v1, hw1, fv⟩ := paired_un pr2 hw
    refine ⟨_, _, rfl, ?_⟩
    refine ⟨_, rfl, a, _, 0, _, rfl, rfl, hT6, rfl, rfl, _, rfl, ?_⟩
    refine ite2 (fun _ => ?_) (fun c => absurd (by decide +kernel) c)
    refine ⟨_, rfl, _, rfl, p4, p6, _, _, rfl, rfl, s56 _ _ e4, e6, by omega, fun p7 H7 s7 e7 => ?_⟩
    refine ⟨_, rfl, _, rfl, a, _, 3, _, rfl, rfl, ((Same.kt s7).seq hT6), rfl, p1, vs1, i, u1, rfl, rfl, SqL.of (s7 _ _ (s16 _ _ e1)), atI_nat hu1, _, rfl, _, rfl, a, _, 4, _, rfl, rfl, ((Same.kt s7).seq hT6), rfl, p2, vs2, j, v1, rfl, rfl, SqL.of (s7 _ _ ((s34.trans s56) _ _ e2)), atI_nat hw1, le1k, fun p8 H8 s8 e8 => ⟨le1k, fun p9 H9 s9 e9 => ?_⟩⟩
    refine ⟨p7, p9, _, _, rfl, rfl, s9 _ _ (s8 _ _ e7), e9, (by rw [List.length_append]; show _ + 1 ≤ 1000; omega), fun p10 H10 s10 e10 => ?_⟩
    have s710 := s7.trans (s8.trans (s9.trans s10))
    have sF := s16.trans s710
    exact q H10 p10 (s1.trans sF) ⟨_, e10, paired_app (paired_app (fm_paired sF (paired_less i pr1)) (fm_paired ((s34.trans s56).trans s710) (paired_less j pr2))) (.cons (show Fm K H10 (.node .mul u v') (.ref p8) from ⟨p8, u1, v1, rfl, (Same.kt (s9.trans s10)).seq e8, (Same.kt sF).fm _ fu, (Same.kt ((s34.trans s56).trans s710)).fm _ fv⟩) .nil)⟩
  | @offer p q' us ws' i j u v' hu hw hel =>
    have hk : kids (.tuple [.str "offer", p, q', .int i, .int j]) = [p, q'] := kids_of len_offer wid_offer
    have dd := depS2 hk
    have g1 := hd 0 p us (by rw [hk]; rfl) rfl
    have g2 := hd 1 q' ws' (by rw [hk]; rfl) rfl
    obtain ⟨a, vp, vq, rfl, hT, hvp, hvq⟩ := dp_t5 hv
    refine ⟨_, rfl, a, _, 0, _, rfl, rfl, hT, rfl, rfl, _, rfl, ?_⟩
    refine ite2 (fun c => absurd c (by decide +kernel)) (fun _ => ?_)
    refine ⟨_, rfl, a, _, 1, _, rfl, rfl, hT, rfl, vp, p, us, rfl, hvp, g1, by omega, fun H1 p1 s1 ⟨vs1, e1, pr1⟩ => ?_⟩
    have hT1 := (Same.kt s1).seq hT
    refine ⟨_, rfl, a, _, 0, _, rfl, rfl, hT1, rfl, rfl, _, rfl, ?_⟩
    refine ite2 (fun c => absurd c (by decide +kernel)) (fun _ => ?_)
    refine ⟨_, rfl, a, _, 0, _, rfl, rfl, hT1, rfl, rfl, _, rfl, ?_⟩
    refine ite2 (fun c => absurd c (by decide +kernel)) (fun _ => ?_)
    refine ⟨_, rfl, a, _, 0, _, rfl, rfl, hT1, rfl, rfl, _, rfl, ?_⟩
    refine ite2 (fun c => absurd c (by decide +kernel)) (fun _ => ?_)
    refine ⟨_, rfl, a, _, 2, _, rfl, rfl, hT1, rfl, vq, q', ws', rfl, dp_same s1 _ _ hvq, g2, by omega, fun H2 p2 s2 ⟨vs2, e2, pr2⟩ => ?_⟩
    have l1 := paired_len pr1
    have l2 := paired_len pr2
    have f1 := g1.few
    have f2 := g2.few
    have hT2 := (Same.kt s2).seq hT1
    refine ⟨_, rfl, _, rfl, a, _, 3, _, rfl, rfl, hT2, rfl, le1k, fun p3 H3 s3 e3 => ⟨p1, p3, vs1, [i], rfl, SqL.of (s3 _ _ (s2 _ _ e1)), SqL.of e3, by omega, fun H4 p4 s4 e4 => ?_⟩⟩
    have s34 := s3.trans s4
    have hT4 := (Same.kt s34).seq hT2
    refine ⟨_, rfl, _, rfl, a, _, 4, _, rfl, rfl, hT4, rfl, le1k, fun p5 H5 s5 e5 => ⟨p2, p5, vs2, [j], rfl, SqL.of (s5 _ _ (s34 _ _ e2)), SqL.of e5, by omega, fun H6 p6 s6 e6 => ?_⟩⟩
    rw [lessN_one] at e4 e6
    have s56 := s5.trans s6
    have s16 := s2.trans (s34.trans s56)
    have hT6 := (Same.kt s56).seq hT4
    have ll1 := less_len vs1 i
    have ll2 := less_len vs2 j
    obtain ⟨u1, hu1, fu⟩ := paired_un pr1 hu
    obtain ⟨v1, hw1, fv⟩ := paired_un pr2 hw
    refine ⟨_, _, rfl, ?_⟩
    refine ⟨_, rfl, a, _, 0, _, rfl, rfl, hT6, rfl, rfl, _, rfl, ?_⟩
    refine ite2 (fun c => absurd c (by decide +kernel)) (fun _ => ?_)
    refine ⟨_, rfl, a, _, 0, _, rfl, rfl, hT6, rfl, rfl, _, rfl, ?_⟩
    refine ite2 (fun c => absurd c (by decide +kernel)) (fun _ => ?_)
    refine ⟨_, rfl, _, rfl, _, rfl, a, _, 3, _, rfl, rfl, hT6, rfl, p1, vs1, i, u1, rfl, rfl, SqL.of ( (s16 _ _ e1)), atI_nat hu1, _, rfl, _, rfl, a, _, 4, _, rfl, rfl, hT6, rfl, p2, vs2, j, v1, rfl, rfl, SqL.of ( ((s34.trans s56) _ _ e2)), atI_nat hw1, le1k, fun p8 H8 s8 e8 => ⟨le1k, fun p9 H9 s9 e9 => ?_⟩⟩
    refine ⟨p4, p9, _, _, rfl, rfl, s9 _ _ (s8 _ _ (s56 _ _ e4)), e9, (by show _ + 1 ≤ 1000; omega), fun p10 H10 s10 e10 => ?_⟩
    have s710 := s8.trans (s9.trans s10)
    have sF := s16.trans s710
    exact q H10 p10 (s1.trans sF) ⟨_, e10, paired_app (fm_paired sF (paired_less i pr1)) (.cons (show Fm K H10 (.node .amp u v') (.ref p8) from ⟨p8, u1, v1, rfl, (Same.kt (s9.trans s10)).seq e8, (Same.kt sF).fm _ fu, (Same.kt ((s34.trans s56).trans s710)).fm _ fv⟩) .nil)⟩
  | @hand p q' us ws' i j u v' hu hw hel =>
    have hk : kids (.tuple [.str "hand", p, q', .int i, .int j]) = [p, q'] := kids_of len_hand wid_hand
    have dd := depS2 hk
    have g1 := hd 0 p us (by rw [hk]; rfl) rfl
    have g2 := hd 1 q' ws' (by rw [hk]; rfl) rfl
    obtain ⟨a, vp, vq, rfl, hT, hvp, hvq⟩ := dp_t5 hv
    refine ⟨_, rfl, a, _, 0, _, rfl, rfl, hT, rfl, rfl, _, rfl, ?_⟩
    refine ite2 (fun c => absurd c (by decide +kernel)) (fun _ => ?_)
    refine ⟨_, rfl, a, _, 1, _, rfl, rfl, hT, rfl, vp, p, us, rfl, hvp, g1, by omega, fun H1 p1 s1 ⟨vs1, e1, pr1⟩ => ?_⟩
    have hT1 := (Same.kt s1).seq hT
    refine ⟨_, rfl, a, _, 0, _, rfl, rfl, hT1, rfl, rfl, _, rfl, ?_⟩
    refine ite2 (fun c => absurd c (by decide +kernel)) (fun _ => ?_)
    refine ⟨_, rfl, a, _, 0, _, rfl, rfl, hT1, rfl, rfl, _, rfl, ?_⟩
    refine ite2 (fun c => absurd c (by decide +kernel)) (fun _ => ?_)
    refine ⟨_, rfl, a, _, 0, _, rfl, rfl, hT1, rfl, rfl, _, rfl, ?_⟩
    refine ite2 (fun c => absurd c (by decide +kernel)) (fun _ => ?_)
    refine ⟨_, rfl, a, _, 2, _, rfl, rfl, hT1, rfl, vq, q', ws', rfl, dp_same s1 _ _ hvq, g2, by omega, fun H2 p2 s2 ⟨vs2, e2, pr2⟩ => ?_⟩
    have l1 := paired_len pr1
    have l2 := paired_len pr2
    have f1 := g1.few
    have f2 := g2.few
    have hT2 := (Same.kt s2).seq hT1
    refine ⟨_, rfl, _, rfl, a, _, 3, _, rfl, rfl, hT2, rfl, le1k, fun p3 H3 s3 e3 => ⟨p1, p3, vs1, [i], rfl, SqL.of (s3 _ _ (s2 _ _ e1)), SqL.of e3, by omega, fun H4 p4 s4 e4 => ?_⟩⟩
    have s34 := s3.trans s4
    have hT4 := (Same.kt s34).seq hT2
    refine ⟨_, rfl, _, rfl, a, _, 4, _, rfl, rfl, hT4, rfl, le1k, fun p5 H5 s5 e5 => ⟨p2, p5, vs2, [j], rfl, SqL.of (s5 _ _ (s34 _ _ e2)), SqL.of e5, by omega, fun H6 p6 s6 e6 => ?_⟩⟩
    rw [lessN_one] at e4 e6
    have s56 := s5.trans s6
    have s16 := s2.trans (s34.trans s56)
    have hT6 := (Same.kt s56).seq hT4
    have ll1 := less_len vs1 i
    have ll2 := less_len vs2 j
    obtain ⟨u1, hu1, fu⟩ := paired_un pr1 hu
    obtain ⟨v1, hw1, fv⟩ := paired_un pr2 hw
    refine ⟨_, _, rfl, ?_⟩
    refine ⟨_, rfl, a, _, 0, _, rfl, rfl, hT6, rfl, rfl, _, rfl, ?_⟩
    refine ite2 (fun c => absurd c (by decide +kernel)) (fun _ => ?_)
    refine ⟨_, rfl, a, _, 0, _, rfl, rfl, hT6, rfl, rfl, _, rfl, ?_⟩
    refine ite2 (fun _ => ?_) (fun c => absurd (by decide +kernel) c)
    refine ⟨_, rfl, _, rfl, p4, p6, _, _, rfl, rfl, s56 _ _ e4, e6, by omega, fun p7 H7 s7 e7 => ?_⟩
    have sF := s16.trans s7
    exact q H7 p7 (s1.trans sF) ⟨_, e7, paired_app (fm_paired sF (paired_less i pr1)) (fm_paired ((s34.trans s56).trans s7) (paired_less j pr2))⟩
  | @between p us i j u v' hu hw hij =>
    have hk : kids (.tuple [.str "between", p, .int i, .int j]) = [p] := kids_of len_between wid_between
    have dd := depS1 hk
    have g1 := hd 0 p us (by rw [hk]; rfl) rfl
    obtain ⟨a, vp, rfl, hT, hvp⟩ := dp_t4 hv
    refine ⟨_, rfl, a, _, 0, _, rfl, rfl, hT, rfl, rfl, _, rfl, ?_⟩
    refine ite2 (fun c => absurd c (by decide +kernel)) (fun _ => ?_)
    refine ⟨_, rfl, a, _, 1, _, rfl, rfl, hT, rfl, vp, p, us, rfl, hvp, g1, by omega, fun H1 p1 s1 ⟨vs1, e1, pr1⟩ => ?_⟩
    have hT1 := (Same.kt s1).seq hT
    have l1 := paired_len pr1
    have f1 := g1.few
    refine ⟨_, rfl, a, _, 0, _, rfl, rfl, hT1, rfl, rfl, _, rfl, ?_⟩
    refine ite2 (fun c => absurd c (by decide +kernel)) (fun _ => ?_)
    refine ⟨_, rfl, a, _, 0, _, rfl, rfl, hT1, rfl, rfl, _, rfl, ?_⟩
    refine ite2 (fun _ => ?_) (fun c => absurd (by decide +kernel) c)
    obtain ⟨u1, hu1, fu⟩ := paired_un pr1 hu
    obtain ⟨v1, hw1, fv⟩ := paired_un pr1 hw
    refine ⟨_, rfl, _, rfl, a, _, 2, _, rfl, rfl, hT1, rfl, _, rfl, a, _, 3, _, rfl, rfl, hT1, rfl, le1k, fun p2 H2 s2 e2 => ⟨p1, p2, vs1, [i, j], rfl, SqL.of (s2 _ _ e1), SqL.of e2, by omega, fun H3 p3 s3 e3 => ?_⟩⟩
    rw [lessN_two] at e3
    have s23 := s2.trans s3
    have hT3 := (Same.kt s23).seq hT1
    have ll : (less2 vs1 i j).length ≤ vs1.length := by rw [← lessN_two, ← lessM_all]; exact lessM_len _ _ _
    refine ⟨_, rfl, _, rfl, a, _, 2, _, rfl, rfl, hT3, rfl, p1, vs1, i, u1, rfl, rfl, SqL.of (s23 _ _ e1), atI_nat hu1, _, rfl, _, rfl, a, _, 3, _, rfl, rfl, hT3, rfl, p1, vs1, j, v1, rfl, rfl, SqL.of (s23 _ _ e1), atI_nat hw1, le1k, fun p4 H4 s4 e4 => ⟨le1k, fun p5 H5 s5 e5 => ?_⟩⟩
    refine ⟨p3, p5, _, _, rfl, rfl, s5 _ _ (s4 _ _ e3), e5, (by show _ + 1 ≤ 1000; omega), fun p6 H6 s6 e6 => ?_⟩
    have sF := s23.trans (s4.trans (s5.trans s6))
    exact q H6 p6 (s1.trans sF) ⟨_, e6, paired_app (fm_paired sF (paired_less2 i j pr1)) (.cons (show Fm K H6 (.node .bar u v') (.ref p4) from ⟨p4, u1, v1, rfl, (Same.kt (s5.trans s6)).seq e4, (Same.kt sF).fm _ fu, (Same.kt sF).fm _ fv⟩) .nil)⟩
  | @choose p us i j u ff hu hj =>
    have hk : kids (.tuple [.str "choose", p, .int i, .int j, ff.data]) = [p] := kids_of len_choose wid_choose
    have dd := depS1 hk
    have g1 := hd 0 p us (by rw [hk]; rfl) rfl
    obtain ⟨a, vp, vf, rfl, hT, hvp, hvf⟩ := dp_c5 hv
    refine ⟨_, rfl, a, _, 0, _, rfl, rfl, hT, rfl, rfl, _, rfl, ?_⟩
    refine ite2 (fun c => absurd c (by decide +kernel)) (fun _ => ?_)
    refine ⟨_, rfl, a, _, 1, _, rfl, rfl, hT, rfl, vp, p, us, rfl, hvp, g1, by omega, fun H1 p1 s1 ⟨vs1, e1, pr1⟩ => ?_⟩
    have hT1 := (Same.kt s1).seq hT
    have l1 := paired_len pr1
    have f1 := g1.few
    refine ⟨_, rfl, a, _, 0, _, rfl, rfl, hT1, rfl, rfl, _, rfl, ?_⟩
    refine ite2 (fun c => absurd c (by decide +kernel)) (fun _ => ?_)
    refine ⟨_, rfl, a, _, 0, _, rfl, rfl, hT1, rfl, rfl, _, rfl, ?_⟩
    refine ite2 (fun c => absurd c (by decide +kernel)) (fun _ => ?_)
    refine ⟨_, rfl, a, _, 0, _, rfl, rfl, hT1, rfl, rfl, _, rfl, ?_⟩
    refine ite2 (fun _ => ?_) (fun c => absurd (by decide +kernel) c)
    obtain ⟨u1, hu1, fu⟩ := paired_un pr1 hu
    have hff := (Same.kt s1).fm _ (fm_of_dp _ hvf)
    have ll := less_len vs1 i
    refine ⟨_, rfl, _, rfl, a, _, 2, _, rfl, rfl, hT1, rfl, p1, vs1, i, u1, rfl, rfl, SqL.of e1, atI_nat hu1, _, rfl, a, _, 4, _, rfl, rfl, hT1, rfl, le1k, fun p2 H2 s2 e2 => ?_⟩
    have hT2 := (Same.kt s2).seq hT1
    refine ⟨_, rfl, _, rfl, a, _, 2, _, rfl, rfl, hT2, rfl, le1k, fun p3 H3 s3 e3 => ⟨p1, p3, vs1, [i], rfl, SqL.of (s3 _ _ (s2 _ _ e1)), SqL.of e3, by omega, fun H4 p4 s4 e4 => ?_⟩⟩
    rw [lessN_one] at e4
    have s34 := s3.trans s4
    have hT4 := (Same.kt s34).seq hT2
    have e24 := s34 _ _ e2
    obtain rfl | rfl : j = 0 ∨ j = 1 := by omega
    · refine ⟨_, rfl, _, rfl, a, _, 3, _, rfl, rfl, hT4, rfl, p2, _, _, u1, rfl, rfl, SqL.of e24, rfl, _, rfl, _, rfl, a, _, 3, _, rfl, rfl, hT4, rfl, _, _, rfl, rfl, p2, _, _, vf, rfl, rfl, SqL.of e24, rfl, le1k, fun p5 H5 s5 e5 => ⟨le1k, fun p6 H6 s6 e6 => ?_⟩⟩
      refine ⟨p4, p6, _, _, rfl, rfl, s6 _ _ (s5 _ _ e4), e6, (by show _ + 1 ≤ 1000; omega), fun p7 H7 s7 e7 => ?_⟩
      have sF := s2.trans (s34.trans (s5.trans (s6.trans s7)))
      exact q H7 p7 (s1.trans sF) ⟨_, e7, paired_app (fm_paired sF (paired_less i pr1)) (.cons (show Fm K H7 (.node .plus u ff) (.ref p5) from ⟨p5, u1, vf, rfl, (Same.kt (s6.trans s7)).seq e5, (Same.kt sF).fm _ fu, (Same.kt sF).fm _ hff⟩) .nil)⟩
    · refine ⟨_, rfl, _, rfl, a, _, 3, _, rfl, rfl, hT4, rfl, p2, _, _, vf, rfl, rfl, SqL.of e24, rfl, _, rfl, _, rfl, a, _, 3, _, rfl, rfl, hT4, rfl, _, _, rfl, rfl, p2, _, _, u1, rfl, rfl, SqL.of e24, rfl, le1k, fun p5 H5 s5 e5 => ⟨le1k, fun p6 H6 s6 e6 => ?_⟩⟩
      refine ⟨p4, p6, _, _, rfl, rfl, s6 _ _ (s5 _ _ e4), e6, (by show _ + 1 ≤ 1000; omega), fun p7 H7 s7 e7 => ?_⟩
      have sF := s2.trans (s34.trans (s5.trans (s6.trans s7)))
      exact q H7 p7 (s1.trans sF) ⟨_, e7, paired_app (fm_paired sF (paired_less i pr1)) (.cons (show Fm K H7 (.node .plus ff u) (.ref p5) from ⟨p5, vf, u1, rfl, (Same.kt (s6.trans s7)).seq e5, (Same.kt sF).fm _ hff, (Same.kt sF).fm _ fu⟩) .nil)⟩
  | @turn p us os ho h1000 =>
    have hk : kids (.tuple [.str "turn", p, .tuple os]) = [p] := kids_of len_turn wid_turn
    have dd := depS1 hk
    have g1 := hd 0 p us (by rw [hk]; rfl) rfl
    obtain ⟨a, vp, vo, rfl, hT, hvp, hvo⟩ := dp_t3 hv
    refine ⟨_, rfl, a, _, 0, _, rfl, rfl, hT, rfl, rfl, _, rfl, ?_⟩
    refine ite2 (fun c => absurd c (by decide +kernel)) (fun _ => ?_)
    refine ⟨_, rfl, a, _, 1, _, rfl, rfl, hT, rfl, vp, p, us, rfl, hvp, g1, by omega, fun H1 p1 s1 ⟨vs1, e1, pr1⟩ => ?_⟩
    have hT1 := (Same.kt s1).seq hT
    have l1 := paired_len pr1
    have f1 := g1.few
    refine ⟨_, rfl, a, _, 0, _, rfl, rfl, hT1, rfl, rfl, _, rfl, ?_⟩
    refine ite2 (fun _ => ?_) (fun c => absurd (by decide +kernel) c)
    have hvo1 := dp_same s1 _ _ hvo
    cases hvo1 with
    | @tup po xo _ hpo hxo =>
    have lo := dpAll_len hxo
    have ho' : orderD os vs1.length = true := by rw [l1]; exact ho
    refine ⟨_, rfl, a, _, 2, _, rfl, rfl, hT1, rfl, po, rfl, ⟨xo, hpo⟩, fun B nB => ?_⟩
    refine lc_it (walk_tup (xs := xo)) (fun i H' => Same H1 H' ∧ H' B = some (.lst ((turned vs1 os).take i))) ⟨same_new nB _, upd_same⟩ (fun i H' _ z => (Same.kt z.1).seq hpo) (fun i y H2 H3 hi z yy => ?_) (fun H' z => ?_)
    · obtain ⟨rfl, hy⟩ := yy
      obtain ⟨k1, eB⟩ := z
      obtain ⟨d, hdd, hyd⟩ := dpAll_get hxo hy
      obtain ⟨k, rfl, hk2⟩ := order_at ho' hdd
      cases hyd
      have gk : vs1[k]? = some vs1[k] := List.getElem?_eq_getElem hk2
      have gt : (turned vs1 os)[i]? = some vs1[k] := by
        unfold turned
        rw [List.getElem?_map, hdd]
        show some (vs1.getD (k : Int).toNat .non) = _
        rw [Int.toNat_natCast, List.getD_eq_getElem?_getD, gk]
        rfl
      refine ⟨rfl, _, rfl, _, rfl, p1, vs1, k, _, rfl, rfl, SqL.of (k1 _ _ e1), atI_nat gk, _, eB, small1000 (by rw [List.length_take]; omega), same_fresh k1 nB, by rw [upd_same, take_next gt]⟩
    · obtain ⟨k1, eB⟩ := z
      rw [List.take_of_length_le (by unfold turned; rw [List.length_map]; omega)] at eB
      exact q H' B (s1.trans k1) ⟨_, eB, fm_paired k1 (paired_turn pr1 fun d hdm => (let ⟨m, hm⟩ := List.mem_iff_getElem?.mp hdm; order_at ho' hm))⟩
end
end My

set_option Elab.async false
set_option linter.all false
set_option maxRecDepth 100000
namespace My
open PySem L2
/-! ### how many steps, as the law counts -/
abbrev s_law_within : Stmt := top 84
theorem sc_law_within : FnScope P_law_ends_of P_law_ends_of (defScope s_law_within) := ⟨rfl, rfl, rfl, by decide +kernel, rfl, by decide +kernel, by decide +kernel⟩
abbrev s_law_size : Stmt := top 85
abbrev N_law_size : List Str := ["_law_step", "_law_part"]
theorem sc_law_size : FnScope N_law_size P_law_ends_of (defScope s_law_size) := ⟨rfl, rfl, rfl, by decide +kernel, rfl, by decide +kernel, by decide +kernel⟩
def withR : List (Key × V) := [(.inr "link", .int 0), (.inr "both", .int 2), (.inr "offer", .int 2), (.inr "hand", .int 2), (.inr "between", .int 1), (.inr "choose", .int 1), (.inr "turn", .int 1)]
def spWithinL (K : PySem.W.Frag) : Sp := fun vs H Q _ => ∃ v z r, vs = [v] ∧ Dp K H v (.tuple (.str z :: r)) ∧ (lenOf z).isSome = true ∧ ∀ H', Same H H' → Q (.int (widOf z : Nat)) H'
def spSizeL (K : PySem.W.Frag) (n : Nat) : Sp := fun vs H Q _ => ∃ v D ts, vs = [v] ∧ Dp K H v D ∧ DerU D ts ∧ depS D ≤ n ∧ ∀ H', Same H H' → Q (.int (cntS D : Nat)) H'
theorem with_at {z : Str} (h : (lenOf z).isSome = true) : some (V.int (widOf z : Nat)) = valV (mergeK [] withR) (.inr z) := by
  unfold lenOf at h
  split at h
  · subst_vars; decide +kernel
  split at h
  · subst_vars; decide +kernel
  split at h
  · subst_vars; decide +kernel
  split at h
  · subst_vars; decide +kernel
  split at h
  · subst_vars; decide +kernel
  split at h
  · subst_vars; decide +kernel
  split at h
  · subst_vars; decide +kernel
  cases h
theorem cntS_sum (D : PyData) : cntS D = ((kids D).map cntS).sum + 1 := by
  unfold cntS
  rw [post_eq, List.length_append, List.length_flatMap]
  rfl
section
variable {P : Program} {w : World} {K : PySem.W.Frag} {mg : Str → Option Value} {base : Heap} {f : Addr} {fd : FuncData}
theorem ok_law_within (F : Fun K "_law_within" "_law_within" s_law_within f fd) : FnOk P w K mg base CX0 1 f fd P_law_ends_of (spWithinL K) := by
  refine F.ok sc_law_within (fun vs H Q E h => ?_) (fun cdv A outer s H vs Q E hr h => ?_)
  · obtain ⟨v, z, r, rfl, _⟩ := h
    rfl
  obtain ⟨v, z, r, rfl, hv, hz, q⟩ := h
  refine ⟨_, (pss_one (ps_ret (pe_dget (hu_of hr) (pe_disp (pps_cons pe_str pe_int (pps_cons pe_str pe_int (pps_cons pe_str pe_int (pps_cons pe_str pe_int (pps_cons pe_str pe_int (pps_cons pe_str pe_int (pps_cons pe_str pe_int pps_nil))))))) (by rfl) (by rfl) (fun z => by cases z) (by decide)) (pe_ix ix_tup (pv 0) pe_int (fun _ _ => rfl)) (fun _ _ => rfl)))), ?_⟩
  cases hv with
  | @tup a xs _ hT hA =>
  cases hA with
  | cons h1 hA =>
  cases h1
  intro W nW
  refine ⟨upd_same, withR, rfl, by decide, ?_⟩
  have s1 : Same H (upd (upd H W (.dK [])) W (.dK (mergeK [] withR))) := same_disp nW
  have eW : upd (upd H W (.dK [])) W (.dK (mergeK [] withR)) W = some (.dK (mergeK [] withR)) := upd_same
  generalize upd (upd H W (.dK [])) W (.dK (mergeK [] withR)) = H1 at *
  refine ⟨_, rfl, a, _, 0, _, rfl, rfl, (Same.kt s1).seq hT, at0, W, .int (widOf z : Nat), rfl, ?_, q H1 s1⟩
  rw [with_at hz]
  exact DGet.k (k := Sum.inr z) eW
theorem ok_law_size {n : Nat} (hs : mg "sum" = none) (C_law_within : Cal P w K mg base "_law_within" 1 P_law_ends_of (spWithinL K)) (F : Fun K "_law_size" "_law_size" s_law_size f fd) (C_law_size : Cal P w K mg base "_law_size" (1 + n) P_law_ends_of (spSizeL K n)) :
    FnOk P w K mg base CX0 (1 + n + 1) f fd P_law_ends_of (spSizeL K (n + 1)) := by
  refine F.ok sc_law_size (fun vs H Q E h => ?_) (fun cdv A outer s H vs Q E hr h => ?_)
  · obtain ⟨v, D, ts, rfl, _⟩ := h
    rfl
  obtain ⟨v, D, ts, rfl, hv, hD, hdep, q⟩ := h
  refine ⟨_, (pss_one (ps_ret (pe_op op_add pe_int (pe_callB (cr_sum rfl) rfl hs (by decide +kernel) (pa_cons (pe_lc (own := [("_law_part", 1)]) (g := (gName 1)) (te := tCall (spSizeL K n) [] E0 (tCons (tVar 1) tNil)) rfl sc_law_size.nd (pi_tup (pe_slice sl_tupN (pv 0) (po_some pe_int) (po_some (pe_op op_add pe_int (pe_callC C_law_within hr (pa_cons (pv 0) pa_nil)))))) (blkOk_by (own := [("_law_part", 1)]) (N := N_law_size) (sc := defScope s_law_size) (by decide +kernel)) (fun _ _ _ _ _ => (pg_name (i := 1) sc_law_size.nd rfl (Or.inl rfl))) (fun _ _ _ _ _ => pts_nil) (fun _ _ _ _ _ => (pe_callC C_law_size hr (pa_cons (pv 1) pa_nil)))) pa_nil))))), ?_⟩
  obtain ⟨hS, hF, hkl, hd⟩ := hD
  rename_i ls
  obtain ⟨z, r, eD, hl⟩ : ∃ z r, D = .tuple (.str z :: r) ∧ lenOf z = some (r.length + 1) := by
    cases hS
    · exact ⟨_, _, rfl, len_link⟩
    · exact ⟨_, _, rfl, len_both⟩
    · exact ⟨_, _, rfl, len_between⟩
    · exact ⟨_, _, rfl, len_offer⟩
    · exact ⟨_, _, rfl, len_choose⟩
    · exact ⟨_, _, rfl, len_hand⟩
    · exact ⟨_, _, rfl, len_turn⟩
  subst eD
  have ek : kids (.tuple (.str z :: r)) = r.take (widOf z) := kids_of hl rfl
  cases hv with
  | @tup a xs _ hT hA =>
  cases hA with
  | cons h1 hA =>
  rename_i xs
  cases h1
  have hlen := dpAll_len hA
  refine ⟨_, rfl, 1, rfl, _, rfl, .ref a, z, r, rfl, .tup hT (.cons (.str _) hA), by rw [hl]; rfl, fun H1 s1 => ⟨1, _, rfl, rfl, _, rfl, a, _, rfl, (Same.kt s1).seq hT, fun p H2 s2 e2 => ?_⟩⟩
  rw [cut1 (by rw [hlen]; exact wid_le hl)] at e2
  have s12 := s1.trans s2
  have hk : DpAll K H2 (xs.take (widOf z)) (r.take (widOf z)) := dpAll_take _ (dpAll_same s12 _ _ hA)
  rw [← ek] at hk
  have hkk := dpAll_len hk
  have few := kids_len (.tuple (.str z :: r))
  refine ⟨p, rfl, ⟨_, e2⟩, fun B nB => ?_⟩
  refine lc_it (walk_tup (xs := xs.take (widOf z))) (fun i H' => Same H2 H' ∧ H' B = some (.lst ((((kids (.tuple (.str z :: r))).take i).map fun d => (cntS d : Int)).map V.int))) ⟨same_new nB _, upd_same⟩ (fun i H' _ y => (Same.kt y.1).seq e2) (fun i y H3 H4 hi yy y2 => ?_) (fun H' yy => ?_)
  · obtain ⟨rfl, hy⟩ := y2
    obtain ⟨k1, eB⟩ := yy
    obtain ⟨d, hdd, hyd⟩ := dpAll_get hk hy
    have il : i < (kids (.tuple (.str z :: r))).length := (List.getElem?_eq_some_iff.mp hdd).1
    have gl : ls[i]? = some (ls[i]'(by omega)) := List.getElem?_eq_getElem (by omega)
    have g := hd i d _ hdd gl
    have dl : depS d ≤ n := by
      have e := depS_eq (.tuple (.str z :: r))
      have := (fm_ge ((kids (.tuple (.str z :: r))).map depS) 0).2 (depS d) (List.mem_map.mpr ⟨d, List.mem_of_getElem? hdd, rfl⟩)
      omega
    refine ⟨rfl, y, rfl, y, d, _, rfl, dp_same k1 _ _ hyd, g, dl, fun H5 s5 => ⟨_, s5 _ _ eB, small1000 ?_, same_fresh (k1.trans s5) nB, ?_⟩⟩
    · rw [List.length_map, List.length_map, List.length_take]
      omega
    · rw [upd_same, take_next hdd, List.map_append, List.map_append]
      rfl
  · obtain ⟨k1, eB⟩ := yy
    rw [List.take_of_length_le (by omega)] at eB
    refine ⟨B, _, rfl, SqL.of eB, 1, _, rfl, rfl, ?_⟩
    have e := cntS_sum (.tuple (.str z :: r))
    have es : ∀ l : List PyData, (l.map fun d => (cntS d : Int)).sum = ((l.map cntS).sum : Nat) := fun l => by
      induction l with
      | nil => rfl
      | cons x l ih => rw [List.map_cons, List.sum_cons, ih, List.map_cons, List.sum_cons]; omega
    rw [es]
    have := q H' (s12.trans k1)
    rw [e] at this
    have e3 : V.int ((1 : Int) + (((kids (.tuple (.str z :: r))).map cntS).sum : Nat)) = V.int ((((kids (.tuple (.str z :: r))).map cntS).sum + 1 : Nat) : Int) := congrArg V.int (by omega)
    show Q (V.int ((1 : Int) + (((kids (.tuple (.str z :: r))).map cntS).sum : Nat))) H'
    rw [e3]
    exact this
end
end My

set_option Elab.async false
set_option linter.all false
set_option maxRecDepth 100000
namespace My
open PySem L2 Gd
/-! ### what the law shows -/
structure Mth (P : Program) (w : World) (K : PySem.W.Frag) (mg : Str → Option Value) (base : Heap) (C : Addr) (m : Str) (k : Nat) (ps : List Str) (sp : Sp) where
  f : Addr
  fd : FuncData
  me : Meth K C m f
  ok : FnOk P w K mg base CX0 k f fd ps sp
  b : Binds K fd ps []
section
variable {X : Cx} {k j : Nat} {ps : List Str} {sp : Sp} {C : Addr} {m : Str} {o : Expr} {ta : TE} {pos apos : Pos} {pl : Sem Bool}
theorem pe_methM0 (M : Mth X.prog X.w X.K X.mg X.base C m k ps sp) (he : PE X o ta) (c : Cls X.K C) (hr : Room j X.A) (hk : k ≤ j := by omega)
    (ht : eval (.Call (.Attribute o m apos) [] [] pos) X.env = (do
      let ov ← eval o X.env
      standAt apos.atName
      let (f, first) ← holding [ov] (getMethod ov m pl)
      callWith pos f first (backTo pos (starEach [] X.env)) (backToKw pos (keywordEach [] X.env))) := by rfl) :
    PE X (.Call (.Attribute o m apos) [] [] pos) (tMeth C m sp [] E0 ta tNil) := pe_meth0 (pl := pl) he c M.me M.ok (hr.mono hk) M.b .nil pass0 ht
end
abbrev s_law_same : Stmt := top 100
abbrev N_law_same' : List Str := ["_law_one", "_law_other"]
theorem sc_law_same : FnScope N_law_same' N_law_same' (defScope s_law_same) := ⟨rfl, rfl, rfl, by decide +kernel, rfl, by decide +kernel, by decide +kernel⟩
abbrev N_law_deed_right : List Str := ["_law_deed", "_law_step"]
/-- what may be compared and shown -/
structure Plain (D : PyData) : Prop where
  sh : SeqAt.shaped D = true
  can : D.showable = true
  nod : D.hasDict = false
  dp : D.depth ≤ 60
  few : D.shown.length ≤ sizeLine
theorem Plain.eq {D : PyData} (p : Plain D) : PyData.eqv D D = true := SeqAt.eqv_refl _ (SeqAt.canLay_of_shaped p.sh)
theorem plain_pl {t : FT} (h : Fits t) (d : t.dep ≤ 4) : Plain (plS t) := by
  have h1 := deep_pl t
  exact ⟨shaped_of (short_pl t h) (by omega), (showD_pl t).1, (showD_pl t).2, by omega, (small_shown h.1 d).1⟩
theorem shaped_pl {t : FT} (h : Fits t) : SeqAt.shaped (plS t) = true := by
  have h1 := deep_pl t
  have h2 := h.2
  exact shaped_of (short_pl t h) (by omega)
theorem shaped_list {l : List FT} (h : ∀ t, t ∈ l → Fits t) : SeqAt.shaped (.list (l.map FT.data)) = true := by
  refine shaped_of ?_ ?_
  · unfold shortD
    refine short_all fun d hd => ?_
    obtain ⟨t, ht, rfl⟩ := List.mem_map.mp hd
    exact short_form (ft_isForm t (h t ht).1 (h t ht).2)
  · have : ∀ l : List FT, (∀ t, t ∈ l → Fits t) → PyData.depthAll (l.map FT.data) ≤ 13 := by
      intro l
      induction l with
      | nil => exact fun _ => by decide
      | cons t l ih =>
        intro h
        have h1 := ih fun x hx => h x (List.mem_cons_of_mem _ hx)
        have h2 := FT.deep t
        have h3 := (h t List.mem_cons_self).2
        simp only [List.map_cons, PyData.depthAll]
        omega
    have := this l h
    simp only [PyData.depth]
    omega
def spLSame (K : PySem.W.Frag) : Sp := fun vs H Q _ => ∃ a b z x y D, vs = [.ref a, .ref b] ∧ SqT K H a [.str z, x] ∧ SqT K H b [.str z, y] ∧ Dp K H x D ∧ Dp K H y D ∧ Plain D ∧ Q (.bl true) H
def spDeedRight (K : PySem.W.Frag) (C : Addr) : Sp := fun vs H Q _ => ∃ v u t, vs = [v, u] ∧ Dd K C H v (plS t) [t, cnt t] ∧ Dp K H u (plS t) ∧ Fits t ∧ t.dep ≤ 4 ∧ t.lvs ≤ 20 ∧ ∀ H', Same H H' → Q (.bl true) H'
section
variable {P : Program} {w : World} {K : PySem.W.Frag} {mg : Str → Option Value} {base : Heap} {f : Addr} {fd : FuncData}
theorem ok_law_same (hrep : mg "repr" = none) (F : Fun K "_law_same" "_law_same" s_law_same f fd) : FnG P w K mg base CX0 2 f fd N_law_same' (spLSame K) := by
  refine okG F sc_law_same (fun vs H Q E h => ?_) (fun cdv A outer s H vs Q E hr g0 h => ?_)
  · obtain ⟨a, b, z, x, y, D, rfl, _⟩ := h
    rfl
  obtain ⟨a, b, z, x, y, D, rfl, ha, hb, hx, hy, p, q⟩ := h
  refine ⟨_, (pss_one (ps_ret (pe_and (pe_cmpR op_eq (pe_ix ix_tup (pv 0) pe_int (fun _ _ => rfl)) (pe_ix ix_tup (pv 1) pe_int (fun _ _ => rfl)) (nomark _)) (pe_and (pe_cmpR (op_eqD hr.units) (pe_ix ix_tup (pv 0) pe_int (fun _ _ => rfl)) (pe_ix ix_tup (pv 1) pe_int (fun _ _ => rfl)) (nomark _)) (pe_one (pe_cmpR op_eq (pe_callB (call_show g0 hr) rfl hrep (by decide +kernel) (pa_cons (pe_ix ix_tup (pv 0) pe_int (fun _ _ => rfl)) pa_nil)) (pe_callB (call_show g0 hr) rfl hrep (by decide +kernel) (pa_cons (pe_ix ix_tup (pv 1) pe_int (fun _ _ => rfl)) pa_nil)) (nomark _))))))), ?_⟩
  refine ⟨_, rfl, a, _, 0, _, rfl, rfl, ha, rfl, _, rfl, b, _, 0, _, rfl, rfl, hb, rfl, rfl, _, rfl, ?_⟩
  refine ite2 (fun _ => ?_) (fun c => absurd (decide_eq_true rfl) c)
  refine ⟨_, rfl, a, _, 1, x, rfl, rfl, ha, rfl, _, rfl, b, _, 1, y, rfl, rfl, hb, rfl, D, D, hx, hy, p.sh, p.sh, _, rfl, ?_⟩
  rw [p.eq]
  refine iteT ?_
  refine ⟨_, rfl, a, _, 1, x, rfl, rfl, ha, rfl, x, D, rfl, hx, p.can, p.nod, p.dp, p.few, _, rfl, b, _, 1, y, rfl, rfl, hb, rfl, y, D, rfl, hy, p.can, p.nod, p.dp, p.few, rfl, ?_⟩
  have e : decide (V.str D.shown = V.str D.shown) = true := decide_eq_true rfl
  rw [e]
  exact q
end
end My

set_option Elab.async false
set_option linter.all false
set_option maxRecDepth 100000
namespace My
open PySem L2
open ST
/-! ### the law's counts -/
abbrev s_law_forks : Stmt := top 78
abbrev P_law_forks : List Str := ["_law_form_here"]
theorem sc_law_forks : FnScope P_law_forks P_law_forks (defScope s_law_forks) := ⟨rfl, rfl, rfl, by decide +kernel, rfl, by decide +kernel, by decide +kernel⟩
abbrev s_law_leaf_many : Stmt := top 83
abbrev N_law_leaf_many : List Str := ["_law_ends", "_law_form_here"]
abbrev P_law_leaf_many : List Str := ["_law_ends"]
theorem sc_law_leaf_many : FnScope N_law_leaf_many P_law_leaf_many (defScope s_law_leaf_many) := ⟨rfl, rfl, rfl, by decide +kernel, rfl, by decide +kernel, by decide +kernel⟩
abbrev s_law_links : Stmt := top 86
abbrev N_law_links : List Str := ["_law_step", "_law_part"]
abbrev P_law_links : List Str := ["_law_step"]
theorem sc_law_links : FnScope N_law_links P_law_links (defScope s_law_links) := ⟨rfl, rfl, rfl, by decide +kernel, rfl, by decide +kernel, by decide +kernel⟩
abbrev s_law_count_words : Stmt := top 94
abbrev N_law_count_words : List Str := ["_law_step", "_law_word", "_law_part"]
abbrev P_law_count_words : List Str := ["_law_step", "_law_word"]
theorem sc_law_count_words : FnScope N_law_count_words P_law_count_words (defScope s_law_count_words) := ⟨rfl, rfl, rfl, by decide +kernel, rfl, by decide +kernel, by decide +kernel⟩
abbrev s_law_in_order : Stmt := top 101
abbrev N_law_in_order : List Str := ["_law_step", "_law_found", "_law_part"]
abbrev P_law_in_order : List Str := ["_law_step"]
theorem sc_law_in_order : FnScope N_law_in_order P_law_in_order (defScope s_law_in_order) := ⟨rfl, rfl, rfl, by decide +kernel, rfl, by decide +kernel, by decide +kernel⟩
theorem paired_ex {α β : Type} {r : α → β → Prop} : ∀ {xs : List α} {ys : List β} {i : Nat} {x : α}, Paired r xs ys → xs[i]? = some x → ∃ y, ys[i]? = some y ∧ r x y
  | _, _, _, _, .nil, h => by simp at h
  | _, _, 0, _, .cons h _, e => by
    simp at e
    subst e
    exact ⟨_, rfl, h⟩
  | _, _, i + 1, _, .cons _ t, e => by
    obtain ⟨y, h1, h2⟩ := paired_ex (i := i) t (by simpa using e)
    exact ⟨y, by simpa using h1, h2⟩
/-- the steps right within -/
def subST : ST → List ST
  | .lk _ => []
  | .bo p q _ _ => [p, q]
  | .bt p _ _ => [p]
  | .of p q _ _ => [p, q]
  | .ch p _ _ _ => [p]
  | .ha p q _ _ => [p, q]
  | .tu p _ => [p]
theorem kids_st (s : ST) : kids s.data = (subST s).map data := by
  cases s
  · exact kids_lk _
  · exact kids_bo _ _ _ _
  · exact kids_bt _ _ _
  · exact kids_of' _ _ _ _
  · exact kids_ch _ _ _ _
  · exact kids_ha _ _ _ _
  · exact kids_tu _ _
theorem shape_st (s : ST) : ∃ z r, s.data = .tuple (.str z :: r) ∧ lenOf z = some (r.length + 1) := by
  cases s
  · exact ⟨_, _, rfl, len_link⟩
  · exact ⟨_, _, rfl, len_both⟩
  · exact ⟨_, _, rfl, len_between⟩
  · exact ⟨_, _, rfl, len_offer⟩
  · exact ⟨_, _, rfl, len_choose⟩
  · exact ⟨_, _, rfl, len_hand⟩
  · exact ⟨_, _, rfl, len_turn⟩
theorem sub_right {s : ST} (h : s.Right) : ∀ t, t ∈ subST s → t.Right := by
  cases s <;> intro t ht <;> simp only [subST, List.mem_cons, List.not_mem_nil, or_false] at ht
  · rcases ht with rfl | rfl
    · exact h.1
    · exact h.2.1
  · subst ht; exact h.1
  · rcases ht with rfl | rfl
    · exact h.1
    · exact h.2.1
  · subst ht; exact h.1
  · rcases ht with rfl | rfl
    · exact h.1
    · exact h.2.1
  · subst ht; exact h.1
theorem sub_fit {s : ST} (h : s.FitA) : ∀ t, t ∈ subST s → t.FitA := by
  cases s <;> intro t ht <;> simp only [subST, List.mem_cons, List.not_mem_nil, or_false] at ht
  · rcases ht with rfl | rfl
    · exact h.2.1
    · exact h.2.2
  · subst ht; exact h.2
  · rcases ht with rfl | rfl
    · exact h.2.1
    · exact h.2.2
  · subst ht; exact h.2
  · rcases ht with rfl | rfl
    · exact h.2.1
    · exact h.2.2
  · subst ht; exact h.2
theorem sub_size (s : ST) : s.size = ((subST s).map ST.size).sum + 1 := by
  cases s <;> simp [subST, ST.size]
theorem sub_dpt {s : ST} : ∀ t, t ∈ subST s → t.dpt + 1 ≤ s.dpt := by
  cases s <;> intro t ht <;> simp only [subST, List.mem_cons, List.not_mem_nil, or_false] at ht
  · rcases ht with rfl | rfl <;> simp only [ST.dpt] <;> omega
  · subst ht; simp only [ST.dpt]; omega
  · rcases ht with rfl | rfl <;> simp only [ST.dpt] <;> omega
  · subst ht; simp only [ST.dpt]; omega
  · rcases ht with rfl | rfl <;> simp only [ST.dpt] <;> omega
  · subst ht; simp only [ST.dpt]; omega
theorem le_sum {l : List Nat} {n : Nat} (h : n ∈ l) : n ≤ l.sum := by
  induction l with
  | nil => cases h
  | cons x l ih =>
    rw [List.sum_cons]
    rcases List.mem_cons.mp h with rfl | h
    · omega
    · have := ih h
      omega
theorem sub_le {s : ST} : ∀ t, t ∈ subST s → t.size < s.size := fun t ht => by
  have := le_sum (List.mem_map.mpr ⟨t, ht, rfl⟩ : t.size ∈ (subST s).map ST.size)
  rw [sub_size s]
  omega
/-- a step's value, its tuple and the values of the steps within -/
theorem dp_st {K : PySem.W.Frag} {H : Hp} {v : V} {s : ST} (h : Dp K H v s.data) : ∃ (a : Addr) (z : Str) (r : List PyData) (xs : List V), v = .ref a ∧ s.data = .tuple (.str z :: r) ∧ (lenOf z).isSome = true ∧ SqT K H a (.str z :: xs) ∧ xs.length = r.length ∧ DpAll K H xs r ∧ widOf z ≤ r.length ∧ DpAll K H (xs.take (widOf z)) ((subST s).map data) := by
  obtain ⟨z, r, e, hl⟩ := shape_st s
  have ek : kids s.data = r.take (widOf z) := by rw [e]; exact kids_of hl rfl
  rw [kids_st] at ek
  rw [e] at h
  cases h with
  | @tup a xs _ hT hA =>
  cases hA with
  | cons h1 hA =>
  rename_i xs
  cases h1
  have hlen := dpAll_len hA
  refine ⟨a, z, r, xs, rfl, e, by rw [hl]; rfl, hT, hlen, hA, wid_le hl, ?_⟩
  rw [ek]
  exact dpAll_take _ hA
def hd : ST → Str
  | .lk _ => "link"
  | .bo .. => "both"
  | .bt .. => "between"
  | .of .. => "offer"
  | .ch .. => "choose"
  | .ha .. => "hand"
  | .tu .. => "turn"
theorem data_hd (s : ST) : ∃ r, s.data = .tuple (.str (hd s) :: r) := by cases s <;> exact ⟨_, rfl⟩
/-- how many offers -/
def cwO : ST → Nat
  | .lk _ => 0
  | .bo p q _ _ => cwO p + cwO q
  | .bt p _ _ => cwO p
  | .of p q _ _ => 1 + (cwO p + cwO q)
  | .ch p _ _ _ => cwO p
  | .ha p q _ _ => cwO p + cwO q
  | .tu p _ => cwO p
theorem cw_sub (s : ST) : (if decide (V.str (hd s) = V.str "offer") = true then (1 : Int) else 0) + ((subST s).map fun t => ((cwO t : Nat) : Int)).sum = ((cwO s : Nat) : Int) := by
  have n : ∀ z : Str, z = "link" ∨ z = "both" ∨ z = "between" ∨ z = "choose" ∨ z = "hand" ∨ z = "turn" → ¬ decide (V.str z = V.str "offer") = true := fun z h c => by
    have e := of_decide_eq_true c
    injection e with e
    subst e
    revert h
    decide +kernel
  cases s with
  | lk m => rw [show hd (.lk m) = "link" from rfl, if_neg (n _ (.inl rfl))]; simp [subST, cwO]
  | bo p q i j => rw [show hd (.bo p q i j) = "both" from rfl, if_neg (n _ (.inr (.inl rfl)))]; simp [subST, cwO]
  | bt p i j => rw [show hd (.bt p i j) = "between" from rfl, if_neg (n _ (.inr (.inr (.inl rfl))))]; simp [subST, cwO]
  | of p q i j => rw [show hd (.of p q i j) = "offer" from rfl, if_pos (decide_eq_true rfl)]; simp [subST, cwO]
  | ch p i d f => rw [show hd (.ch p i d f) = "choose" from rfl, if_neg (n _ (.inr (.inr (.inr (.inl rfl)))))]; simp [subST, cwO]
  | ha p q i j => rw [show hd (.ha p q i j) = "hand" from rfl, if_neg (n _ (.inr (.inr (.inr (.inr (.inl rfl))))))]; simp [subST, cwO]
  | tu p os => rw [show hd (.tu p os) = "turn" from rfl, if_neg (n _ (.inr (.inr (.inr (.inr (.inr rfl))))))]; simp [subST, cwO]
def spForks (K : PySem.W.Frag) (n : Nat) : Sp := fun vs H Q _ => ∃ v t, vs = [v] ∧ Fm K H t v ∧ t.dep < n ∧ t.lvs ≤ 500 ∧ ∀ H' p us, Same H H' → H' p = some (.lst us) → us.length < t.lvs → Q (.ref p) H'
def spLeafMany (K : PySem.W.Frag) (n : Nat) : Sp := fun vs H Q _ => ∃ p ts, vs = [.ref p] ∧ LtE K H p ts ∧ ts.length ≤ 400 ∧ (∀ t, t ∈ ts → t.dep < n ∧ t.lvs ≤ 500) ∧ ∀ H', Same H H' → Q (.int (lvsL ts : Nat)) H'
def spLinks (K : PySem.W.Frag) (n : Nat) : Sp := fun vs H Q _ => ∃ (v : V) (s : ST), vs = [v] ∧ Dp K H v s.data ∧ s.dpt ≤ n ∧ ∀ H' (m : Int), Same H H' → Q (.int m) H'
def spCountW (K : PySem.W.Frag) (n : Nat) : Sp := fun vs H Q _ => ∃ (v : V) (y : Str) (s : ST), vs = [v, .str y] ∧ Dp K H v s.data ∧ s.dpt ≤ n ∧ ∀ H' (m : Int), Same H H' → (y = "offer" → m = ((cwO s : Nat) : Int)) → Q (.int m) H'
/-- all steps of a step, in the order of their numbers -/
def ordS : ST → List ST
  | .lk n => [.lk n]
  | .bo p q i j => ordS p ++ ordS q ++ [.bo p q i j]
  | .bt p i j => ordS p ++ [.bt p i j]
  | .of p q i j => ordS p ++ ordS q ++ [.of p q i j]
  | .ch p i d f => ordS p ++ [.ch p i d f]
  | .ha p q i j => ordS p ++ ordS q ++ [.ha p q i j]
  | .tu p os => ordS p ++ [.tu p os]
theorem ordS_eq (s : ST) : ordS s = (subST s).flatMap ordS ++ [s] := by
  cases s <;> simp [ordS, subST]
theorem ordS_len : ∀ s : ST, (ordS s).length = s.size
  | .lk n => rfl
  | .bo p q i j => by simp [ordS, ST.size, ordS_len p, ordS_len q]; omega
  | .bt p i j => by simp [ordS, ST.size, ordS_len p]
  | .of p q i j => by simp [ordS, ST.size, ordS_len p, ordS_len q]; omega
  | .ch p i d f => by simp [ordS, ST.size, ordS_len p]
  | .ha p q i j => by simp [ordS, ST.size, ordS_len p, ordS_len q]; omega
  | .tu p os => by simp [ordS, ST.size, ordS_len p]
/-- a step within -/
structure Wth (t s : ST) : Prop where
  right : s.Right → t.Right
  fit : s.FitA → t.FitA
  size : t.size ≤ s.size
  dpt : t.dpt ≤ s.dpt
theorem Wth.trans {a b c : ST} (h : Wth a b) (g : Wth b c) : Wth a c := ⟨fun z => h.right (g.right z), fun z => h.fit (g.fit z), Nat.le_trans h.size g.size, Nat.le_trans h.dpt g.dpt⟩
theorem wth_sub {t s : ST} (h : t ∈ subST s) : Wth t s := ⟨fun z => sub_right z t h, fun z => sub_fit z t h, Nat.le_of_lt (sub_le t h), by have := sub_dpt t h; omega⟩
theorem ordS_in : ∀ (n : Nat) (s : ST), s.size ≤ n → ∀ t, t ∈ ordS s → Wth t s
  | 0, s, h => by have := sub_size s; omega
  | n + 1, s, h => fun t ht => by
    rw [ordS_eq] at ht
    rcases List.mem_append.mp ht with z | z
    · obtain ⟨u, hu, hz⟩ := List.mem_flatMap.mp z
      have := sub_le u hu
      exact (ordS_in n u (by omega) t hz).trans (wth_sub hu)
    · rw [List.mem_singleton.mp z]
      exact ⟨id, id, Nat.le_refl _, Nat.le_refl _⟩
theorem ordS_mem {s t : ST} (h : t ∈ ordS s) : Wth t s := ordS_in s.size s (Nat.le_refl _) t h
theorem post_st : ∀ (n : Nat) (s : ST), s.size ≤ n → post s.data = (ordS s).map data
  | 0, s, h => by have := sub_size s; omega
  | n + 1, s, h => by
    rw [post_eq, kids_st, ordS_eq, List.map_append, List.map_flatMap, List.flatMap_map]
    congr 1
    have : ∀ l : List ST, (∀ t, t ∈ l → t.size ≤ n) → l.flatMap (fun a => post a.data) = l.flatMap fun a => (ordS a).map data := by
      intro l
      induction l with
      | nil => exact fun _ => rfl
      | cons a l ih => exact fun g => by rw [List.flatMap_cons, List.flatMap_cons, post_st n a (g a List.mem_cons_self), ih fun t z => g t (List.mem_cons_of_mem _ z)]
    exact this _ fun t ht => by have := sub_le t ht; omega
theorem post_ord (s : ST) : post s.data = (ordS s).map data := post_st s.size s (Nat.le_refl _)
def spInOrd (K : PySem.W.Frag) (n : Nat) : Sp := fun vs H Q _ => ∃ (v : V) (s : ST), vs = [v] ∧ Dp K H v s.data ∧ s.dpt ≤ n ∧ s.size ≤ 400 ∧ ∀ H' p us, Same H H' → H' p = some (.lst us) → DpAll K H' us ((ordS s).map data) → Q (.ref p) H'
section
variable {P : Program} {w : World} {K : PySem.W.Frag} {mg : Str → Option Value} {base : Heap} {f : Addr} {fd : FuncData}
theorem ok_law_forks {n : Nat} (T : Txt K mg) (F : Fun K "_law_forks" "_law_forks" s_law_forks f fd) (C_law_forks : Cal P w K mg base "_law_forks" n P_law_forks (spForks K n)) : FnOk P w K mg base CX0 (n + 1) f fd P_law_forks (spForks K (n + 1)) := by
  refine F.ok sc_law_forks (fun vs H Q E h => ?_) (fun cdv A outer s H vs Q E hr h => ?_)
  · obtain ⟨v, t, rfl, _⟩ := h
    rfl
  obtain ⟨v, t, rfl, hf, hd, hl, q⟩ := h
  refine ⟨_, (pss_cons (ps_if (pt_cmpR op_eq (pe_callB call_len rfl T.len (by decide +kernel) (pa_cons (pv 0) pa_nil)) pe_int (nomark _))
    (pss_one (ps_ret (pe_lstN pa_nil)))
    pss_nil)
  (pss_one (ps_ret (pe_op op_catLN (pe_op op_catLN (pe_ifExp (pt_cmpR op_in_seq (pe_ix ix_tup (pv 0) pe_int (fun _ _ => rfl)) (pe_lstN (pa_cons pe_str (pa_cons pe_str pa_nil))) rfl) (pe_lstN (pa_cons (pe_ix ix_tup (pv 0) pe_int (fun _ _ => rfl)) pa_nil)) (pe_lstN pa_nil)) (pe_callC C_law_forks hr (pa_cons (pe_ix ix_tup (pv 0) pe_int (fun _ _ => rfl)) pa_nil))) (pe_callC C_law_forks hr (pa_cons (pe_ix ix_tup (pv 0) pe_int (fun _ _ => rfl)) pa_nil)))))), ?_⟩
  cases t with
  | leaf co m =>
    obtain ⟨a, rfl, ha⟩ := hf
    exact ⟨_, rfl, _, _, rfl, .inr ⟨_, ha, rfl⟩, rfl, true, rfl, le1k, fun o H1 s1 e1 => q H1 o _ s1 e1 (Nat.one_pos)⟩
  | node s l r =>
    obtain ⟨a, x, y, rfl, ha, hx, hy⟩ := hf
    have hd' : 1 + max l.dep r.dep < n + 1 := hd
    have hl' : l.lvs + r.lvs ≤ 500 := hl
    have pn : ∃ b : Bool, (if false = true then !inV (V.str s.word) [V.str "offered", V.str "chosen"] else inV (V.str s.word) [V.str "offered", V.str "chosen"]) = b := ⟨_, rfl⟩
    obtain ⟨b, hb⟩ := pn
    have rest : ∀ (p0 : Addr) (us0 : List V) H0, Same H H0 → H0 p0 = some (.lst us0) → us0.length ≤ 1 → ∀ H1 p1 us1, Same H0 H1 → H1 p1 = some (.lst us1) → us1.length < l.lvs → nCatL (.ref p0) (.ref p1) H1 (fun x2 H2 => ∀ H3 p3 us3, Same H2 H3 → H3 p3 = some (.lst us3) → us3.length < r.lvs → nCatL x2 (.ref p3) H3 Q) := by
      intro p0 us0 H0 s0 e0 l0 H1 p1 us1 s1 e1 l1
      refine ⟨p0, p1, us0, us1, rfl, rfl, s1 _ _ e0, e1, by omega, fun o2 H2 s2 e2 H3 p3 us3 s3 e3 l3 => ?_⟩
      refine ⟨o2, p3, us0 ++ us1, us3, rfl, rfl, s3 _ _ e2, e3, by rw [List.length_append]; omega, fun o4 H4 s4 e4 => ?_⟩
      refine q H4 o4 _ (s0.trans (s1.trans (s2.trans (s3.trans s4)))) e4 ?_
      rw [List.length_append, List.length_append]
      show _ < l.lvs + r.lvs
      omega
    refine ⟨_, rfl, _, _, rfl, .inr ⟨_, ha, rfl⟩, rfl, false, rfl, ?_⟩
    refine ⟨_, rfl, a, _, 0, _, rfl, rfl, ha, rfl, le1k, fun p0 H0 s0 e0 => ⟨p0, _, rfl, .inl (SqL.of e0), rfl, rfl, _, rfl, ?_⟩⟩
    have ha0 := (Same.kt s0).seq ha
    have hx0 := (Same.kt s0).fm _ hx
    have hy0 := (Same.kt s0).fm _ hy
    refine ite2 (fun c => ?_) (fun c => ?_)
    · refine ⟨_, rfl, a, _, 0, _, rfl, rfl, ha0, rfl, le1k, fun p1 H1 s1 e1 => ?_⟩
      have ha1 := (Same.kt s1).seq ha0
      refine ⟨_, rfl, a, _, 1, _, rfl, rfl, ha1, rfl, x, l, rfl, (Same.kt s1).fm _ hx0, by omega, by omega, fun H2 p2 us2 s2 e2 l2 => ?_⟩
      obtain ⟨xl, xb, xus, xzs, h1, h2, h3, h4, h5, h6⟩ := rest p1 _ H1 (s0.trans s1) e1 (Nat.le_refl _) H2 p2 us2 s2 e2 l2
      refine ⟨xl, xb, xus, xzs, h1, h2, h3, h4, h5, fun o3 H3 s3 e3 => ?_⟩
      have k := Same.kt (s1.trans (s2.trans s3))
      refine ⟨_, rfl, a, _, 2, _, rfl, rfl, k.seq ha0, rfl, y, r, rfl, k.fm _ hy0, by omega, by omega, fun H4 p4 us4 s4 e4 l4 => ?_⟩
      exact h6 o3 H3 s3 e3 H4 p4 us4 s4 e4 l4
    · refine ⟨le1k, fun p1 H1 s1 e1 => ?_⟩
      have ha1 := (Same.kt s1).seq ha0
      refine ⟨_, rfl, a, _, 1, _, rfl, rfl, ha1, rfl, x, l, rfl, (Same.kt s1).fm _ hx0, by omega, by omega, fun H2 p2 us2 s2 e2 l2 => ?_⟩
      obtain ⟨xl, xb, xus, xzs, h1, h2, h3, h4, h5, h6⟩ := rest p1 _ H1 (s0.trans s1) e1 (Nat.zero_le _) H2 p2 us2 s2 e2 l2
      refine ⟨xl, xb, xus, xzs, h1, h2, h3, h4, h5, fun o3 H3 s3 e3 => ?_⟩
      have k := Same.kt (s1.trans (s2.trans s3))
      refine ⟨_, rfl, a, _, 2, _, rfl, rfl, k.seq ha0, rfl, y, r, rfl, k.fm _ hy0, by omega, by omega, fun H4 p4 us4 s4 e4 l4 => ?_⟩
      exact h6 o3 H3 s3 e3 H4 p4 us4 s4 e4 l4
theorem ok_law_leaf_many {n : Nat} (T : Txt K mg) (hs : mg "sum" = none) (C_law_leaves : Cal P w K mg base "_law_leaves" n P_law_counter' (spLeavesL K n)) (F : Fun K "_law_leaf_many" "_law_leaf_many" s_law_leaf_many f fd) : FnOk P w K mg base CX0 (n + 1) f fd P_law_leaf_many (spLeafMany K n) := by
  refine F.ok sc_law_leaf_many (fun vs H Q E h => ?_) (fun cdv A outer s H vs Q E hr h => ?_)
  · obtain ⟨p, ts, rfl, _⟩ := h
    rfl
  obtain ⟨p, ts, rfl, ⟨us, hp, pr⟩, hl, ht, q⟩ := h
  refine ⟨_, (pss_one (ps_ret (pe_callB (cr_sum rfl) rfl hs (by decide +kernel) (pa_cons (pe_lc (own := [("_law_form_here", 1)]) (g := (gName 1)) (te := tCB (fun xs H Q => ∃ x n, xs = [x] ∧ LenV K x H n ∧ Q (.int n) H) (tCons (tCall (spLeavesL K n) [] E0 (tCons (tVar 1) tNil)) tNil)) rfl sc_law_leaf_many.nd (pi_list (pv 0)) (blkOk_by (own := [("_law_form_here", 1)]) (N := N_law_leaf_many) (sc := defScope s_law_leaf_many) (by decide +kernel)) (fun _ _ _ _ _ => (pg_name (i := 1) sc_law_leaf_many.nd rfl (Or.inl rfl))) (fun _ _ _ _ _ => pts_nil) (fun _ _ _ _ _ => (pe_callB call_len rfl T.len (by decide +kernel) (pa_cons (pe_callC C_law_leaves hr (pa_cons (pv 1) pa_nil)) pa_nil)))) pa_nil)))), ?_⟩
  have lu := paired_len pr
  refine ⟨_, rfl, p, rfl, ⟨_, SqL.of hp⟩, fun D nD => lc_it (walk_list (xs := us)) (fun m H' => Same H H' ∧ H' D = some (.lst (((ts.take m).map fun t => ((t.lvs : Nat) : Int)).map V.int))) ⟨same_new nD _, upd_same⟩ (fun m H' _ z => SqL.of (z.1 _ _ hp)) (fun m v0 H2 H3 hm z yy => ?_) (fun H' z => ?_)⟩
  · obtain ⟨rfl, hy⟩ := yy
    obtain ⟨k1, eD⟩ := z
    obtain ⟨t, htm, hf⟩ := paired_ex pr hy
    have := ht t (List.mem_of_getElem? htm)
    refine ⟨rfl, _, rfl, v0, t, rfl, (Same.kt k1).fm _ hf, this.1, by omega, fun H4 p4 us4 s4 e4 l4 => ?_⟩
    refine ⟨_, _, rfl, .inl ⟨us4, SqL.of e4, rfl⟩, _, s4 _ _ eD, small1000 ?_, same_fresh (k1.trans s4) nD, ?_⟩
    · rw [List.length_map, List.length_map, List.length_take]
      omega
    · rw [upd_same, take_next htm, List.map_append, List.map_append, l4]
      rfl
  · obtain ⟨k1, eD⟩ := z
    rw [List.take_of_length_le (by omega)] at eD
    refine ⟨D, _, rfl, SqL.of eD, ?_⟩
    have es : ∀ l : List FT, (l.map fun t => ((t.lvs : Nat) : Int)).sum = ((lvsL l : Nat) : Int) := fun l => by
      induction l with
      | nil => rfl
      | cons x l ih => rw [List.map_cons, List.sum_cons, ih, lvsL_cons]; omega
    rw [es]
    exact q H' k1
theorem ok_law_links {n : Nat} (hs : mg "sum" = none) (C_law_within : Cal P w K mg base "_law_within" 1 P_law_ends_of (spWithinL K)) (F : Fun K "_law_links" "_law_links" s_law_links f fd) (C_law_links : Cal P w K mg base "_law_links" (1 + n) P_law_links (spLinks K n)) :
    FnOk P w K mg base CX0 (1 + n + 1) f fd P_law_links (spLinks K (n + 1)) := by
  refine F.ok sc_law_links (fun vs H Q E h => ?_) (fun cdv A outer s H vs Q E hr h => ?_)
  · obtain ⟨v, t, rfl, _⟩ := h
    rfl
  obtain ⟨v, t, rfl, hv, hdep, q⟩ := h
  refine ⟨_, (pss_cons (ps_if (pt_cmpR op_eq (pe_ix ix_tup (pv 0) pe_int (fun _ _ => rfl)) pe_str (nomark _))
    (pss_one (ps_ret pe_int))
    pss_nil)
  (pss_one (ps_ret (pe_callB (cr_sum rfl) rfl hs (by decide +kernel) (pa_cons (pe_lc (own := [("_law_part", 1)]) (g := (gName 1)) (te := tCall (spLinks K n) [] E0 (tCons (tVar 1) tNil)) rfl sc_law_links.nd (pi_tup (pe_slice sl_tupN (pv 0) (po_some pe_int) (po_some (pe_op op_add pe_int (pe_callC C_law_within hr (pa_cons (pv 0) pa_nil)))))) (blkOk_by (own := [("_law_part", 1)]) (N := N_law_links) (sc := defScope s_law_links) (by decide +kernel)) (fun _ _ _ _ _ => (pg_name (i := 1) sc_law_links.nd rfl (Or.inl rfl))) (fun _ _ _ _ _ => pts_nil) (fun _ _ _ _ _ => (pe_callC C_law_links hr (pa_cons (pv 1) pa_nil)))) pa_nil))))), ?_⟩
  obtain ⟨a, z, r, xs, rfl, eD, hz, hT, hlen, hA, hw, hk⟩ := dp_st hv
  have hv' := hv
  rw [eD] at hv'
  refine ⟨_, rfl, a, _, 0, _, rfl, rfl, hT, at0, rfl, _, rfl, ?_⟩
  refine ite2 (fun _ => q H 1 (Same.refl H)) (fun _ => ?_)
  refine ⟨_, rfl, 1, rfl, _, rfl, .ref a, z, r, rfl, hv', hz, fun H1 s1 => ⟨1, _, rfl, rfl, _, rfl, a, _, rfl, (Same.kt s1).seq hT, fun p H2 s2 e2 => ?_⟩⟩
  rw [cut1 (by rw [hlen]; exact hw)] at e2
  have s12 := s1.trans s2
  have hk2 := dpAll_same s12 _ _ hk
  have hl2 := dpAll_len hk2
  rw [List.length_map] at hl2
  have few : (subST t).length ≤ 2 := by cases t <;> simp [subST]
  refine ⟨p, rfl, ⟨_, e2⟩, fun B nB => ?_⟩
  refine lc_it (walk_tup (xs := xs.take (widOf z))) (fun i H' => Same H2 H' ∧ ∃ l : List Int, l.length = i ∧ H' B = some (.lst (l.map V.int))) ⟨same_new nB _, [], rfl, upd_same⟩ (fun i H' _ y => (Same.kt y.1).seq e2) (fun i y H3 H4 hi yy y2 => ?_) (fun H' yy => ?_)
  · obtain ⟨rfl, hy⟩ := y2
    obtain ⟨k1, l, hl, eB⟩ := yy
    obtain ⟨d, hdd, hyd⟩ := dpAll_get hk2 hy
    rw [List.getElem?_map] at hdd
    obtain ⟨t', ht', rfl⟩ := Option.map_eq_some_iff.mp hdd
    have := sub_dpt t' (List.mem_of_getElem? ht')
    refine ⟨rfl, y, rfl, y, t', rfl, dp_same k1 _ _ hyd, by omega, fun H5 m s5 => ⟨_, s5 _ _ eB, small1000 ?_, same_fresh (k1.trans s5) nB, l ++ [m], ?_, ?_⟩⟩
    · rw [List.length_map]
      omega
    · rw [List.length_append, hl]
      rfl
    · rw [upd_same, List.map_append]
      rfl
  · obtain ⟨k1, l, hl, eB⟩ := yy
    exact ⟨B, l, rfl, SqL.of eB, q H' _ (s12.trans k1)⟩
theorem ok_law_count_words {n : Nat} (T : Txt K mg) (hs : mg "sum" = none) (C_law_within : Cal P w K mg base "_law_within" 1 P_law_ends_of (spWithinL K)) (F : Fun K "_law_count_words" "_law_count_words" s_law_count_words f fd) (C_law_count_words : Cal P w K mg base "_law_count_words" (1 + n) P_law_count_words (spCountW K n)) :
    FnOk P w K mg base CX0 (1 + n + 1) f fd P_law_count_words (spCountW K (n + 1)) := by
  refine F.ok sc_law_count_words (fun vs H Q E h => ?_) (fun cdv A outer s H vs Q E hr h => ?_)
  · obtain ⟨v, y, t, rfl, _⟩ := h
    rfl
  obtain ⟨v, y0, t, rfl, hv, hdep, q⟩ := h
  refine ⟨_, (pss_one (ps_ret (pe_op op_add (pe_callTy call_int1 rfl T.int (by decide +kernel) (pa_cons (pe_cmpR op_eq (pe_ix ix_tup (pv 0) pe_int (fun _ _ => rfl)) (pv 1) (nomark _)) pa_nil)) (pe_callB (cr_sum rfl) rfl hs (by decide +kernel) (pa_cons (pe_lc (own := [("_law_part", 2)]) (g := (gName 2)) (te := tCall (spCountW K n) [] E0 (tCons (tVar 2) (tCons (tVar 1) tNil))) rfl sc_law_count_words.nd (pi_tup (pe_slice sl_tupN (pv 0) (po_some pe_int) (po_some (pe_op op_add pe_int (pe_callC C_law_within hr (pa_cons (pv 0) pa_nil)))))) (blkOk_by (own := [("_law_part", 2)]) (N := N_law_count_words) (sc := defScope s_law_count_words) (by decide +kernel)) (fun _ _ _ _ _ => (pg_name (i := 2) sc_law_count_words.nd rfl (Or.inl rfl))) (fun _ _ _ _ _ => pts_nil) (fun _ _ _ _ _ => (pe_callC C_law_count_words hr (pa_cons (pv 2) (pa_cons (pv 1) pa_nil))))) pa_nil))))), ?_⟩
  obtain ⟨a, z, r, xs, rfl, eD, hz, hT, hlen, hA, hw, hk⟩ := dp_st hv
  have hv' := hv
  rw [eD] at hv'
  refine ⟨_, rfl, a, _, 0, _, rfl, rfl, hT, at0, _, rfl, rfl, .inr ⟨_, rfl, ?_⟩⟩
  refine ⟨_, rfl, 1, rfl, _, rfl, .ref a, z, r, rfl, hv', hz, fun H1 s1 => ⟨1, _, rfl, rfl, _, rfl, a, _, rfl, (Same.kt s1).seq hT, fun p H2 s2 e2 => ?_⟩⟩
  rw [cut1 (by rw [hlen]; exact hw)] at e2
  have s12 := s1.trans s2
  have hk2 := dpAll_same s12 _ _ hk
  have hl2 := dpAll_len hk2
  rw [List.length_map] at hl2
  have few : (subST t).length ≤ 2 := by cases t <;> simp [subST]
  refine ⟨p, rfl, ⟨_, e2⟩, fun B nB => ?_⟩
  refine lc_it (walk_tup (xs := xs.take (widOf z))) (fun i H' => Same H2 H' ∧ ∃ l : List Int, l.length = i ∧ (y0 = "offer" → l = ((subST t).take i).map fun t => ((cwO t : Nat) : Int)) ∧ H' B = some (.lst (l.map V.int))) ⟨same_new nB _, [], rfl, fun _ => rfl, upd_same⟩ (fun i H' _ y => (Same.kt y.1).seq e2) (fun i y H3 H4 hi yy y2 => ?_) (fun H' yy => ?_)
  · obtain ⟨rfl, hy⟩ := y2
    obtain ⟨k1, l, hl, hlo, eB⟩ := yy
    obtain ⟨d, hdd, hyd⟩ := dpAll_get hk2 hy
    rw [List.getElem?_map] at hdd
    obtain ⟨t', ht', rfl⟩ := Option.map_eq_some_iff.mp hdd
    have := sub_dpt t' (List.mem_of_getElem? ht')
    refine ⟨rfl, y, rfl, _, rfl, y, y0, t', rfl, dp_same k1 _ _ hyd, by omega, fun H5 m s5 hm => ⟨_, s5 _ _ eB, small1000 ?_, same_fresh (k1.trans s5) nB, l ++ [m], ?_, ?_, ?_⟩⟩
    · rw [List.length_map]
      omega
    · rw [List.length_append, hl]
      rfl
    · intro z
      rw [take_next ht', List.map_append, hlo z, hm z]
      rfl
    · rw [upd_same, List.map_append]
      rfl
  · obtain ⟨k1, l, hl, hlo, eB⟩ := yy
    refine ⟨B, l, rfl, SqL.of eB, _, _, rfl, rfl, q H' _ (s12.trans k1) fun z' => ?_⟩
    have hl3 := hlo z'
    rw [List.take_of_length_le (by omega)] at hl3
    obtain ⟨r2, e2'⟩ := data_hd t
    rw [eD] at e2'
    injection e2' with e2'
    injection e2' with e2' _
    injection e2' with e2'
    rw [hl3, z', e2']
    exact cw_sub t
theorem ok_law_in_order {n : Nat} (C_law_within : Cal P w K mg base "_law_within" 1 P_law_ends_of (spWithinL K)) (F : Fun K "_law_in_order" "_law_in_order" s_law_in_order f fd) (C_law_in_order : Cal P w K mg base "_law_in_order" (1 + n) P_law_in_order (spInOrd K n)) :
    FnOk P w K mg base CX0 (1 + n + 1) f fd P_law_in_order (spInOrd K (n + 1)) := by
  refine F.ok sc_law_in_order (fun vs H Q E h => ?_) (fun cdv A outer s H vs Q E hr h => ?_)
  · obtain ⟨v, t, rfl, _⟩ := h
    rfl
  obtain ⟨v, t, rfl, hv, hdep, hsz, q⟩ := h
  refine ⟨_, (pss_cons (ps_set (i := 1) sc_law_in_order.nd rfl (Or.inl rfl) (pe_lstN pa_nil))
  (pss_cons (ps_for PassesOwn.never rfl (pi_tup (pe_slice sl_tupN (pv 0) (po_some pe_int) (po_some (pe_op op_add pe_int (pe_callC C_law_within hr (pa_cons (pv 0) pa_nil)))))) (pg_name (i := 2) sc_law_in_order.nd rfl (Or.inl rfl))
    (pss_one (ps_set (i := 1) sc_law_in_order.nd rfl (Or.inl rfl) (pe_op op_catLN (pv 1) (pe_callC C_law_in_order hr (pa_cons (pv 2) pa_nil))))))
  (pss_one (ps_ret (pe_op op_catLN (pv 1) (pe_lstN (pa_cons (pv 0) pa_nil))))))), ?_⟩
  obtain ⟨a, z, r, xs, rfl, eD, hz, hT, hlen, hA, hw, hk⟩ := dp_st hv
  refine ⟨le1k, fun p0 H0 s0 e0 => ?_⟩
  have hT0 := (Same.kt s0).seq hT
  have hv' := dp_same s0 _ _ hv
  rw [eD] at hv'
  refine ⟨_, rfl, 1, rfl, _, rfl, .ref a, z, r, rfl, hv', hz, fun H1 s1 => ⟨1, _, rfl, rfl, _, rfl, a, _, rfl, (Same.kt s1).seq hT0, fun p H2 s2 e2 => ?_⟩⟩
  rw [cut1 (by rw [hlen]; exact hw)] at e2
  have s12 := s1.trans s2
  have hk2 := dpAll_same (s0.trans s12) _ _ hk
  have hl2 := dpAll_len hk2
  rw [List.length_map] at hl2
  refine ⟨p, rfl, ⟨_, e2⟩, ?_⟩
  have hs := sub_size t
  refine for_it (walk_tup (xs := xs.take (widOf z))) (fun i σ H' => Same H2 H' ∧ ∃ (o : Option V) (p1 : Addr) (us : List V), σ = [some (.ref a), some (.ref p1), o] ∧ H' p1 = some (.lst us) ∧ DpAll K H' us ((((subST t).take i).flatMap ordS).map data))
    ⟨Same.refl _, none, p0, [], rfl, s12 _ _ e0, .nil⟩ (fun i σ H' _ y => (Same.kt y.1).seq e2) (fun i y σ H3 H4 hi yy y2 => ?_) (fun σ H' yy => ?_)
  · obtain ⟨rfl, hy⟩ := y2
    obtain ⟨k1, o, p1, us, rfl, e1, hm⟩ := yy
    obtain ⟨d, hdd, hyd⟩ := dpAll_get hk2 hy
    rw [List.getElem?_map] at hdd
    obtain ⟨t', ht', rfl⟩ := Option.map_eq_some_iff.mp hdd
    have mt := List.mem_of_getElem? ht'
    have := sub_dpt t' mt
    have tl := sub_le t' mt
    have hl := dpAll_len hm
    have tk : ((subST t).take (i + 1)).flatMap ordS = ((subST t).take i).flatMap ordS ++ ordS t' := by
      rw [take_next ht', List.flatMap_append]
      simp
    have tle : (((subST t).take (i + 1)).flatMap ordS).length < t.size := by
      rw [← ordS_len t, ordS_eq]
      conv => rhs; rw [← List.take_append_drop (i + 1) (subST t)]
      rw [List.flatMap_append, List.length_append, List.length_append, List.length_singleton]
      omega
    rw [tk, List.length_append, ordS_len] at tle
    rw [List.length_map] at hl
    refine ⟨_, rfl, _, rfl, y, t', rfl, dp_same k1 _ _ hyd, by omega, by omega, fun H5 p5 us5 s5 e5 m5 => ?_⟩
    have h5 := dpAll_len m5
    rw [List.length_map, ordS_len] at h5
    refine ⟨p1, p5, us, us5, rfl, rfl, s5 _ _ e1, e5, by omega, fun p6 H6 s6 e6 => ?_⟩
    refine ⟨k1.trans (s5.trans s6), some y, p6, us ++ us5, rfl, e6, ?_⟩
    rw [tk, List.map_append]
    exact dpAll_app (dpAll_same (s5.trans s6) _ _ hm) (dpAll_same s6 _ _ m5)
  · obtain ⟨k1, o, p1, us, rfl, e1, hm⟩ := yy
    rw [List.take_of_length_le (by omega)] at hm
    have hl := dpAll_len hm
    have tle : ((subST t).flatMap ordS).length < t.size := by
      rw [← ordS_len t, ordS_eq, List.length_append, List.length_singleton]
      omega
    rw [List.length_map] at hl
    refine ⟨_, rfl, _, rfl, le1k, fun p5 H5 s5 e5 => ⟨p1, p5, us, _, rfl, rfl, s5 _ _ e1, e5, (by show _ + 1 ≤ 1000; omega), fun p6 H6 s6 e6 => ?_⟩⟩
    have sF := s0.trans (s12.trans (k1.trans (s5.trans s6)))
    refine q H6 p6 _ sF e6 ?_
    rw [ordS_eq, List.map_append]
    exact dpAll_app (dpAll_same (s5.trans s6) _ _ hm) (.cons (dp_same sF _ _ hv) .nil)
end
end My

set_option Elab.async false
set_option linter.all false
set_option maxRecDepth 100000
namespace My
open PySem PySem.Spec PyProof.Rows L2 SX
/-! ### lists of numbers -/
def tLstRgN (te : L2.St → Hp → (Int → Int → Hp → Prop) → Prop) : TE := fun σ H Q => te σ H fun a b H1 => RgOk a b ∧ New (.lst (rgV a b)) Q H1
section
variable {X : Cx} {e : Expr} {te : L2.St → Hp → (Int → Int → Hp → Prop) → Prop}
theorem pe_listRgN {p pos : Pos} (hc : X.calm = true) (hg : Gl X "list") (hm : X.mg "list" = none) (he : PRg X e te) (na : starEach [e] X.env = (false, eval e X.env) :: starEach [] X.env := by rfl) : PE X (.Call (.Name "list" p) [e] [] pos) (tLstRgN te) := by
  refine ⟨fun pins s σ H Q I h => ?_⟩
  refine Call_ (ld_blt I hg hm boot_list (PyProof.Rows.callWith_type1 (args_cons (thn (he pins s σ H _ I h) fun x s1 ⟨r, a, b, t, u, v, H1, ex, hr, I1, ok, q⟩ => args_nil ?_) na) na))
  subst ex
  obtain ⟨b1, b2, b3, b4, b5⟩ := ok
  refine call_list_range (n := (b - a).toNat) (I1.ok.hd hc) hr (small_one b1 b2 b3 b4) (rangeSize_nat a b) b5 fun h' tk acc c' hk e' hi => ?_
  refine ⟨.ref s1.heap.objs.size, upd H1 s1.heap.objs.size (.lst (rgV a b)), I1.laid hk (Nat.le_refl _) (show ObjOk X.prog X.w _ _ _ (.lst (rgV a b)) from ⟨?_, acc.toList, c', vals_rg hi, ?_⟩), rfl, q.go _ (I1.hok.fresh (Nat.le_refl _))⟩
  · rw [rgV_length, sizeLine_eq]; omega
  · rw [Array.toArray_toList]; exact e'
def nTupOf (K : PySem.W.Frag) : List V → Hp → VK → Prop := fun xs H Q => ∃ p ys, xs = [.ref p] ∧ SqL K H p ys ∧ NewT K ys Q H
theorem call_tupLN : CallR X (.type "tuple") (nTupOf X.K) := by
  intro pins s σ H xs us Q I r ⟨p, ys, ex, hy, q⟩
  exact call_tuple_of pins s σ H xs us Q I r ⟨p, ys, ex, .inl ⟨hy, q.go⟩⟩
def nSlL (K : PySem.W.Frag) : V → Option Int → Option Int → Hp → VK → Prop := fun x lo hi H Q => ∃ a xs, x = .ref a ∧ SqL K H a xs ∧ New (.lst (cutV xs lo hi)) Q H
theorem sl_listN : SlR X (nSlL X.K) := by
  intro pins s σ H x v vl vu lo hi sl Q I rx hs pl pu ⟨a, xs, ex, hx, q⟩
  exact sl_list pins s σ H x v vl vu lo hi sl Q I rx hs pl pu ⟨a, xs, ex, hx, q.go⟩
end
open ST
theorem rg_nat (n : Nat) : rgV 0 (n : Nat) = natV (List.range n) := by
  unfold rgV natV
  rw [Int.sub_zero, Int.toNat_natCast]
  refine List.map_congr_left fun i _ => ?_
  show V.int (0 + (i : Int)) = V.int i
  rw [Int.zero_add]
theorem rg_nat2 (a b : Nat) (h : a ≤ b) : rgV (a : Nat) (b : Nat) = natV (List.range' a (b - a)) := by
  unfold rgV natV
  rw [List.range'_eq_map_range, List.map_map]
  have : ((b : Int) - (a : Int)).toNat = b - a := by omega
  rw [this]
  refine List.map_congr_left fun i _ => ?_
  show V.int ((a : Int) + (i : Int)) = V.int ((a + i : Nat) : Int)
  congr 1
theorem natV_eq (os : List Nat) : natV os = (os.map fun n : Nat => (n : Int)).map V.int := by
  unfold natV
  rw [List.map_map]
  rfl
theorem natD_eq (os : List Nat) : natD os = (os.map fun n : Nat => (n : Int)).map PyData.int := by
  unfold natD
  rw [List.map_map]
  rfl
theorem dpAll_nat {K : PySem.W.Frag} {H : Hp} (os : List Nat) : DpAll K H (natV os) (natD os) := by
  rw [natV_eq, natD_eq]
  exact dpAll_intsL _
theorem natV_app (a b : List Nat) : natV (a ++ b) = natV a ++ natV b := by
  unfold natV
  rw [List.map_append]
theorem natV_len (a : List Nat) : (natV a).length = a.length := by
  unfold natV
  rw [List.length_map]
theorem natV_get {a : List Nat} {i k : Nat} (h : a[i]? = some k) : (natV a)[i]? = some (.int (k : Nat)) := by
  unfold natV
  rw [List.getElem?_map, h]
  rfl
theorem nat_inj {l m : List Nat} : (l.map fun n : Nat => (n : Int)) = (m.map fun n : Nat => (n : Int)) ↔ l = m := by
  constructor
  · intro h
    have h2 := congrArg (List.map Int.toNat) h
    rw [List.map_map, List.map_map] at h2
    have e : (Int.toNat ∘ fun n : Nat => (n : Int)) = id := by
      funext n
      simp
    rwa [e, List.map_id, List.map_id] at h2
  · intro h
    rw [h]
theorem eqv_nat (l m : List Nat) : PyData.eqv (.list (natD l)) (.list (natD m)) = decide (l = m) := by
  rw [PyData.eqv, natD_eq, natD_eq, eqv_ints, Bool.eq_iff_iff, decide_eq_true_iff, decide_eq_true_iff]
  exact nat_inj
theorem shaped_nat (l : List Nat) : SeqAt.shaped (.list (natD l)) = true := by
  rw [natD_eq]
  exact shaped_intsL _
theorem map_eraseN : ∀ (xs : List Nat) (k : Nat), (natV xs).eraseIdx k = natV (xs.eraseIdx k)
  | [], _ => rfl
  | _ :: _, 0 => rfl
  | x :: r, k + 1 => by
    show V.int x :: (natV r).eraseIdx k = V.int x :: natV (r.eraseIdx k)
    rw [map_eraseN r k]
theorem z_inj {n m : List Nat} (h : Z n = Z m) : n = m := by
  have := congrArg (fun z : Str => z.cps.toList) h
  simpa [Z] using this
theorem eqv_str (x y : Str) : PyData.eqv (.str x) (.str y) = (x == y) := by rw [PyData.eqv]
theorem eqv_tup (xs ys : List PyData) : PyData.eqv (.tuple xs) (.tuple ys) = PyData.eqvAll xs ys := by rw [PyData.eqv]
theorem eqvAll_cons (x y : PyData) (xs ys : List PyData) : PyData.eqvAll (x :: xs) (y :: ys) = (PyData.eqv x y && PyData.eqvAll xs ys) := by rw [PyData.eqvAll]
theorem eqvAll_nc (y : PyData) (ys : List PyData) : PyData.eqvAll [] (y :: ys) = false := by rw [PyData.eqvAll]; all_goals simp
theorem eqvAll_cn (y : PyData) (ys : List PyData) : PyData.eqvAll (y :: ys) [] = false := by rw [PyData.eqvAll]; all_goals simp
theorem ft_eqv (t : FT) : ∀ u : FT, PyData.eqv t.data u.data = true → t = u := by
  induction t with
  | leaf c n =>
    intro u h
    cases u with
    | leaf d m =>
      rw [FT.data, FT.data, eqv_tup, eqvAll_cons, eqvAll_cons, eqv_str, eqv_str, Bool.and_eq_true, Bool.and_eq_true, beq_iff_eq, beq_iff_eq] at h
      have h1 : c = d := by
        revert h
        cases c <;> cases d <;> intro h <;> first | rfl | exact absurd h.1 (by decide +kernel)
      rw [h1, z_inj h.2.1]
    | node s l r =>
      rw [FT.data, FT.data, eqv_tup, eqvAll_cons, eqvAll_cons, eqvAll_nc, Bool.and_false, Bool.and_false] at h
      cases h
  | node s l r ihl ihr =>
    intro u h
    cases u with
    | leaf d m =>
      rw [FT.data, FT.data, eqv_tup, eqvAll_cons, eqvAll_cons, eqvAll_cn, Bool.and_false, Bool.and_false] at h
      cases h
    | node s' l' r' =>
      rw [FT.data, FT.data, eqv_tup, eqvAll_cons, eqvAll_cons, eqvAll_cons, eqv_str, Bool.and_eq_true, Bool.and_eq_true, Bool.and_eq_true, beq_iff_eq] at h
      have h1 : s = s' := by
        revert h
        cases s <;> cases s' <;> intro h <;> first | rfl | exact absurd h.1 (by decide +kernel)
      rw [h1, ihl l' h.2.1, ihr r' h.2.2.1]
/-- another step with the same ends -/
structure Ex (s s' : ST) (a b : Nat) : Prop where
  right : s'.Right
  fit : s'.FitA
  ends : s'.ends = s.ends
  size : s'.size ≤ a
  dpt : s'.dpt ≤ b
theorem dp_tu {K : PySem.W.Frag} {H : Hp} {p q : Addr} {v : V} {s : ST} {os : List Nat} (hv : Dp K H v s.data) (hp : SqT K H p (natV os)) (hq : SqT K H q [.str "turn", v, .ref p]) : Dp K H (.ref q) (ST.tu s os).data :=
  .tup hq (.cons (.str _) (.cons hv (.cons (.tup hp (dpAll_nat os)) .nil)))
end My

set_option Elab.async false
set_option linter.all false
set_option maxRecDepth 100000
namespace My
open PySem L2
open ST
/-! ### ends put in another order -/
abbrev s_law_shuffled : Stmt := top 75
abbrev N_law_shuffled : List Str := ["_law_pen", "_law_some", "_law_left", "_law_out", "_law_k"]
abbrev P_law_shuffled : List Str := ["_law_pen", "_law_some"]
theorem sc_law_shuffled : FnScope N_law_shuffled P_law_shuffled (defScope s_law_shuffled) := ⟨rfl, rfl, rfl, by decide +kernel, rfl, by decide +kernel, by decide +kernel⟩
abbrev s_law_turned : Stmt := top 88
abbrev N_law_turned : List Str := ["_law_step", "_law_order"]
abbrev P_law_turned : List Str := ["_law_step", "_law_order"]
theorem sc_law_turned : FnScope N_law_turned P_law_turned (defScope s_law_turned) := ⟨rfl, rfl, rfl, by decide +kernel, rfl, by decide +kernel, by decide +kernel⟩
abbrev s_law_last_at : Stmt := top 89
abbrev N_law_last_at : List Str := ["_law_step", "_law_at", "_law_many", "_law_order"]
abbrev P_law_last_at : List Str := ["_law_step", "_law_at"]
theorem sc_law_last_at : FnScope N_law_last_at P_law_last_at (defScope s_law_last_at) := ⟨rfl, rfl, rfl, by decide +kernel, rfl, by decide +kernel, by decide +kernel⟩
abbrev s_law_crossed : Stmt := top 91
abbrev N_law_crossed : List Str := ["_law_pen", "_law_step", "_law_ends", "_law_lap", "_law_i", "_law_j", "_law_order"]
abbrev P_law_crossed : List Str := ["_law_pen", "_law_step"]
theorem sc_law_crossed : FnScope N_law_crossed P_law_crossed (defScope s_law_crossed) := ⟨rfl, rfl, rfl, by decide +kernel, rfl, by decide +kernel, by decide +kernel⟩
def spShufN (K : PySem.W.Frag) : Sp := fun vs H Q _ => ∃ (d L a : Addr) (ns : List Int) (n : Nat) (zs : List Nat), vs = [.ref d, .ref a] ∧ Pen K H d L ns n ∧ n + zs.length < 2 ^ 40 ∧ SqL K H a (natV zs) ∧ zs.length ≤ 400 ∧
  ∀ H' p (zs' : List Nat), Keep d H H' → Pen K H' d L ns (n + zs.length) → H' p = some (.lst (natV zs')) → zs'.Perm zs → Q (.ref p) H'
def spTurned (K : PySem.W.Frag) : Sp := fun vs H Q _ => ∃ (v : V) (p : Addr) (s : ST) (os : List Nat), vs = [v, .ref p] ∧ Dp K H v s.data ∧ SqL K H p (natV os) ∧ os.length ≤ 400 ∧ ∀ H' u, Same H H' → Dp K H' u (mvd s os).data → Q u H'
def spLastAt (K : PySem.W.Frag) (n : Nat) : Sp := fun vs H Q _ => ∃ (v : V) (i : Nat) (s : ST), vs = [v, .int i] ∧ Dp K H v s.data ∧ s.Right ∧ s.size ≤ 399 ∧ s.dpt ≤ n ∧ i < s.ends.length ∧ ∀ H' u, Same H H' → Dp K H' u (mvd s (ordL i s.ends.length)).data → Q u H'
def spCrossed (K : PySem.W.Frag) (n : Nat) : Sp := fun vs H Q _ => ∃ (d L : Addr) (ns : List Int) (m : Nat) (v : V) (s : ST), vs = [.ref d, v] ∧ Pen K H d L ns m ∧ m + 10 < 2 ^ 40 ∧ Dp K H v s.data ∧ s.Right ∧ s.FitA ∧ s.size ≤ 399 ∧ s.dpt ≤ n ∧
  ∀ H' u s', Keep d H H' → Pen K H' d L ns (m + 8) → Dp K H' u s'.data → Ex s s' (s.size + 1) (s.dpt + 1) → Q u H'
/-- a and b exchanged -/
def swp (n i j : Nat) : List Nat := ((List.range n).set i j).set j i
theorem swp_map {l : List FT} {i j : Nat} (hi : i < l.length) (hj : j < l.length) (e : nth l i = nth l j) : (swp l.length i j).map (nth l) = l := by
  unfold swp
  apply List.ext_getElem?
  intro k
  rw [List.getElem?_map, List.getElem?_set, List.getElem?_set, List.length_set, List.length_range]
  by_cases hk : k < l.length
  · by_cases c1 : j = k
    · subst c1
      rw [if_pos rfl, if_pos hj]
      show some (nth l i) = _
      rw [e, nth_get hj]
    · rw [if_neg c1]
      by_cases c2 : i = k
      · subst c2
        rw [if_pos rfl, if_pos hi]
        show some (nth l j) = _
        rw [← e, nth_get hi]
      · rw [if_neg c2, List.getElem?_range hk, nth_get hk]
        rfl
  · have h1 : ¬ j = k := by omega
    have h2 : ¬ i = k := by omega
    rw [if_neg h1, if_neg h2, List.getElem?_eq_none (by rw [List.length_range]; omega), List.getElem?_eq_none (by omega)]
    rfl
theorem all_perm : ∀ {n : Nat} {l : List Nat}, l.length = n → (∀ k, k < n → k ∈ l) → l.Perm (List.range n)
  | 0, l, hl, _ => by
    rw [List.eq_nil_of_length_eq_zero hl]
    exact List.Perm.refl _
  | n + 1, l, hl, hm => by
    have h1 := List.perm_cons_erase (hm n (by omega))
    have h2 : (l.erase n).Perm (List.range n) := all_perm (by rw [List.length_erase_of_mem (hm n (by omega)), hl]; rfl) fun k hk => (List.mem_erase_of_ne (by omega)).mpr (hm k (by omega))
    rw [List.range_succ]
    exact h1.trans ((h2.cons n).trans (List.perm_append_comm (l₁ := [n])))
theorem swp_get {n i j k : Nat} (hi : i < n) (hj : j < n) (hk : k < n) : (swp n i j)[k]? = some (if k = j then i else if k = i then j else k) := by
  unfold swp
  rw [List.getElem?_set, List.getElem?_set, List.length_set, List.length_range]
  by_cases c1 : j = k
  · subst c1
    rw [if_pos rfl, if_pos hj, if_pos rfl]
  · rw [if_neg c1, if_neg (fun z : k = j => c1 z.symm)]
    by_cases c2 : i = k
    · subst c2
      rw [if_pos rfl, if_pos hi, if_pos rfl]
    · rw [if_neg c2, if_neg (fun z : k = i => c2 z.symm), List.getElem?_range hk]
theorem swp_len (n i j : Nat) : (swp n i j).length = n := by
  unfold swp
  rw [List.length_set, List.length_set, List.length_range]
theorem swp_perm {n i j : Nat} (hi : i < n) (hj : j < n) : (swp n i j).Perm (List.range n) := by
  refine all_perm (swp_len n i j) fun k hk => ?_
  refine List.mem_of_getElem? (i := if k = j then i else if k = i then j else k) ?_
  rw [swp_get hi hj (by split <;> (try split) <;> omega)]
  congr 1
  by_cases c1 : k = j
  · subst c1
    rw [if_pos rfl]
    by_cases c3 : i = k
    · rw [if_pos c3, c3]
    · rw [if_neg c3, if_pos rfl]
  · rw [if_neg c1]
    by_cases c2 : k = i
    · subst c2
      rw [if_pos rfl, if_pos rfl]
    · rw [if_neg c2, if_neg c1, if_neg c2]
theorem erase_perm : ∀ (l : List Nat) (k : Nat) (h : k < l.length), (l[k] :: l.eraseIdx k).Perm l
  | [], _, h => by simp at h
  | x :: l, 0, _ => List.Perm.refl _
  | x :: l, k + 1, h => by
    have h' : k < l.length := by simpa using h
    have := erase_perm l k h'
    show List.Perm (l[k] :: x :: l.eraseIdx k) (x :: l)
    exact (List.Perm.swap x _ _).trans (this.cons x)
theorem seqL_same {K : PySem.W.Frag} {H H' : Hp} {a : Addr} {xs : List V} (k : Same H H') (r : SqL K H a xs) : SqL K H' a xs := by
  rcases r with r | r
  · exact .inl (r.imp (k _ _) fun ⟨ob, r⟩ => ⟨ob, k _ _ r⟩)
  · exact .inr r
section
variable {P : Program} {w : World} {K : PySem.W.Frag} {mg : Str → Option Value} {base : Heap} {f : Addr} {fd : FuncData}
theorem ok_law_shuffled (T : Txt K mg) (F : Fun K "_law_shuffled" "_law_shuffled" s_law_shuffled f fd) (C_law_draw : Cal P w K mg base "_law_draw" 1 P_law_draw (spDraw K)) : FnOk P w K mg base CX0 2 f fd P_law_shuffled (spShufN K) := by
  refine F.ok sc_law_shuffled (fun vs H Q E h => ?_) (fun cdv A outer s H vs Q E hr h => ?_)
  · obtain ⟨d, L, a, ns, n, zs, rfl, _⟩ := h
    rfl
  obtain ⟨d, L, a, ns, n, zs, rfl, hp, hn, ha, hz, q⟩ := h
  refine ⟨_, (pss_cons (ps_par (i := 2) (j := 3) (by rfl) sc_law_shuffled.nd rfl rfl (by decide) rfl rfl (pa_cons (pe_callTy call_list_of rfl T.list (by decide +kernel) (pa_cons (pv 1) pa_nil)) (pa_cons (pe_lst pa_nil) pa_nil)) (by rfl))
  (pss_cons (ps_for PassesOwn.never rfl (pi_range1 rfl T.range (pa_cons (pe_callB call_len rfl T.len (by decide +kernel) (pa_cons (pv 1) pa_nil)) pa_nil)) (pg_name (i := 4) sc_law_shuffled.nd rfl (Or.inl rfl))
    (pss_one (ps_expr (pe_bm PySem.F.plainAttrs_list PySem.F.slot_list_append PySem.F.type_list_append mt_append (pv 3) (pa_cons (pe_bm PySem.F.plainAttrs_list PySem.F.slot_list_pop PySem.F.type_list_pop mt_popAt (pv 2) (pa_cons (pe_callC C_law_draw hr (pa_cons (pv 0) (pa_cons (pe_callB call_len rfl T.len (by decide +kernel) (pa_cons (pv 2) pa_nil)) pa_nil))) pa_nil)) pa_nil)))))
  (pss_one (ps_ret (pv 3))))), ?_⟩
  refine ⟨_, rfl, a, _, rfl, .inl ha, fun l1 n1 => ⟨Nat.zero_le _, fun o1 n2 => ⟨_, _, rfl, ?_⟩⟩⟩
  have s1 := same_new n1 (.lst (natV zs))
  have e1 : upd H l1 (.lst (natV zs)) l1 = some (.lst (natV zs)) := upd_same
  generalize upd H l1 (.lst (natV zs)) = H1 at *
  have s2 := same_new n2 (.lst [])
  have e2 : upd H1 o1 (.lst []) o1 = some (.lst []) := upd_same
  have nlo : l1 ≠ o1 := fun z => by
    rw [← z, e1] at n2
    cases n2
  have nd1 : l1 ≠ d := fun z => by
    obtain ⟨kvs, h⟩ := hp.isDk
    rw [z, h] at n1
    cases n1
  have no : H o1 = none := none_of s1 n2
  have nd2 : o1 ≠ d := fun z => by
    obtain ⟨kvs, h⟩ := hp.isDk
    rw [z, h] at no
    cases no
  have p2 := hp.same (s1.trans s2)
  have s12 := s1.trans s2
  have el := s2 _ _ e1
  have ha2 := seqL_keep hp.isDk (Same.toKeep s12) ha
  generalize upd H1 o1 (.lst []) = H2 at *
  refine ⟨_, rfl, .ref a, (natV zs).length, rfl, .inl ⟨_, ha2, rfl⟩, _, rfl, by omega, by rw [natV_len]; omega, ?_⟩
  rw [natV_len]
  refine for_range (lo := 0) (n := ((zs.length : Nat) : Int).toNat) (fun i σ H' => Keep d H H' ∧ Pen K H' d L ns (n + i) ∧ ∃ x left out, σ = [some (.ref d), some (.ref a), some (.ref l1), some (.ref o1), x] ∧ H' l1 = some (.lst (natV left)) ∧ H' o1 = some (.lst (natV out)) ∧ left.length + i = zs.length ∧ out.length = i ∧ (left ++ out).Perm zs) ⟨Same.toKeep s12, p2, none, zs, [], rfl, el, e2, rfl, rfl, by rw [List.append_nil]⟩
    (fun i σ H3 hi ⟨k3, p3, x, left, out, eσ, eL, eO, hl, ho, pm⟩ => ?_) (fun σ H3 ⟨k3, p3, x, left, out, eσ, eL, eO, hl, ho, pm⟩ => ?_)
  · subst eσ
    have hll : 0 < left.length := by omega
    refine ⟨_, rfl, .inl ⟨rfl, _, SqL.of eO⟩, _, rfl, .inl ⟨rfl, _, SqL.of eL⟩, _, rfl, _, rfl, .ref l1, (natV left).length, rfl, .inl ⟨_, SqL.of eL, rfl⟩, ?_⟩
    refine ⟨d, L, ns, n + i, _, rfl, p3, by omega, by rw [natV_len]; omega, by rw [natV_len]; omega, fun r H4 r0 r1 k4 p4 => ?_⟩
    rw [natV_len] at r1
    have hk : r.toNat < left.length := by omega
    have eL4 := k4 l1 _ nd1 eL
    have eO4 := k4 o1 _ nd2 eO
    refine ⟨l1, _, r, r.toNat, .int (left[r.toNat] : Nat), rfl, rfl, eL4, by omega, by omega, PySem.seqIndex_of r0 (by rw [natV_len]; omega), natV_get (List.getElem?_eq_getElem hk), ?_⟩
    refine ⟨o1, _, _, rfl, rfl, by rw [upd_ne nlo.symm]; exact eO4, small1000 (by rw [natV_len]; omega), ?_⟩
    have k5 : Keep d H (upd H4 l1 (.lst ((natV left).eraseIdx r.toNat))) := keep_fresh (k3.trans k4) n1
    have p5 := p4.fresh (o := .lst ((natV left).eraseIdx r.toNat)) (k3.trans k4) hp.cells hp.isDk n1
    refine ⟨keep_fresh k5 no, (p5.fresh k5 hp.cells hp.isDk no).mono (by omega), _, left.eraseIdx r.toNat, out ++ [left[r.toNat]], rfl, ?_, ?_, ?_, ?_, ?_⟩
    · rw [upd_ne nlo, upd_same, map_eraseN]
    · rw [upd_same, natV_app]
      rfl
    · rw [List.length_eraseIdx_of_lt hk]
      omega
    · rw [List.length_append, ho]
      rfl
    · refine List.Perm.trans ?_ pm
      rw [← List.append_assoc]
      refine List.Perm.trans List.perm_append_comm ?_
      rw [← List.append_assoc]
      refine List.Perm.append_right out ?_
      exact erase_perm left _ hk
  · subst eσ
    have hl0 : left = [] := List.eq_nil_of_length_eq_zero (by omega)
    subst hl0
    rw [List.nil_append] at pm
    exact ⟨_, rfl, q H3 o1 out k3 (p3.mono (by omega)) eO pm⟩
theorem ok_law_turned (T : Txt K mg) (F : Fun K "_law_turned" "_law_turned" s_law_turned f fd) : FnOk P w K mg base CX0 1 f fd P_law_turned (spTurned K) := by
  refine F.ok sc_law_turned (fun vs H Q E h => ?_) (fun cdv A outer s H vs Q E hr h => ?_)
  · obtain ⟨v, p, t, os, rfl, _⟩ := h
    rfl
  obtain ⟨v, p, t, os, rfl, hv, hp, hl, q⟩ := h
  refine ⟨_, (pss_one (ps_ret (pe_ifExp (pt_cmpR (op_eqD hr.units) (pe_callTy call_listN rfl T.list (by decide +kernel) (pa_cons (pv 1) pa_nil)) (pe_listRgN rfl rfl T.list (prg_1 rfl T.range (pe_callB call_len rfl T.len (by decide +kernel) (pa_cons (pv 1) pa_nil)))) (nomark _)) (pv 0) (pe_tupN (pa_cons pe_str (pa_cons (pv 0) (pa_cons (pe_callTy call_tupLN rfl T.tuple (by decide +kernel) (pa_cons (pv 1) pa_nil)) pa_nil))))))), ?_⟩
  have nl := natV_len os
  refine ⟨_, rfl, p, _, rfl, .inl hp, fun p1 H1 s1 e1 => ?_⟩
  have hp1 : SqL K H1 p (natV os) := seqL_same s1 hp
  refine ⟨_, rfl, _, _, rfl, .inl ⟨_, hp1, rfl⟩, _, rfl, RgOk.of_le (by omega) (by omega) (by omega) (by omega), fun p2 H2 s2 e2 => ?_⟩
  rw [nl, rg_nat] at e2
  refine ⟨_, _, .lst (SqL.of (s2 _ _ e1)) (dpAll_nat os), .lst (SqL.of e2) (dpAll_nat _), shaped_nat _, shaped_nat _, _, rfl, ?_⟩
  rw [eqv_nat]
  have hv2 := dp_same (s1.trans s2) _ _ hv
  by_cases c : os = List.range os.length
  · rw [decide_eq_true c]
    refine ⟨_, rfl, q H2 v (s1.trans s2) ?_⟩
    unfold mvd
    rw [if_pos c]
    exact hv2
  · rw [decide_eq_false c]
    refine ⟨_, rfl, _, rfl, p, _, rfl, seqL_same s2 hp1, fun p3 H3 s3 e3 => ⟨le1k, fun p4 H4 s4 e4 => ?_⟩⟩
    refine q H4 _ ((s1.trans s2).trans (s3.trans s4)) ?_
    unfold mvd
    rw [if_neg c]
    exact dp_tu (dp_same (s3.trans s4) _ _ hv2) ((Same.kt s4).seq e3) e4
end
end My

set_option Elab.async false
set_option linter.all false
set_option maxRecDepth 100000
namespace My
open PySem L2
open ST
theorem cut_toN {l : List Nat} {a : Nat} (h : a ≤ l.length) : cutV (natV l) none (some (a : Int)) = natV (l.take a) := by
  rw [cut_to rfl (by rw [natV_len]; exact h)]
  unfold natV
  rw [List.map_take]
theorem cut_fromN {l : List Nat} {a : Nat} (h : a ≤ l.length) : cutV (natV l) (some (a : Int)) none = natV (l.drop a) := by
  rw [cutFrom _ a (by rw [natV_len]; exact h)]
  unfold natV
  rw [List.map_drop]
theorem ordL_cut {r m : Nat} (h : r < m) : natV ((List.range (m - 1)).take r) ++ [V.int ((m - 1 : Nat) : Int)] ++ natV ((List.range (m - 1)).drop r) = natV (ordL r m) := by
  unfold ordL
  rw [natV_app, natV_app]
  congr 1
  · congr 1
    rw [List.take_range, Nat.min_eq_left (by omega)]
  · congr 1
    rw [List.range_eq_range', List.drop_range', Nat.zero_add, Nat.mul_one]
theorem set_nat (l : List Nat) (i x : Nat) : (natV l).set i (.int (x : Nat)) = natV (l.set i x) := by
  unfold natV
  rw [List.map_set]
theorem fm_eqv {K : PySem.W.Frag} {H : Hp} {v u : V} {t r : FT} (hv : Fm K H t v) (hu : Fm K H r u) (ht : Fits t) (hr : Fits r) : ∃ D E, Dp K H v D ∧ Dp K H u E ∧ SeqAt.shaped D = true ∧ SeqAt.shaped E = true ∧ (PyData.eqv D E = true → t = r) := by
  have sh : ∀ t : FT, Fits t → SeqAt.shaped t.data = true := fun t h => shaped_of (short_form (ft_isForm t h.1 h.2)) (by have := FT.deep t; have := h.2; omega)
  exact ⟨_, _, FT.of_fm _ hv, FT.of_fm _ hu, sh t ht, sh r hr, ft_eqv t r⟩
theorem ex_refl {s : ST} {a b : Nat} (r : s.Right) (f : s.FitA) (ha : s.size ≤ a) (hb : s.dpt ≤ b) : Ex s s a b := ⟨r, f, rfl, ha, hb⟩
theorem ex_tu {s : ST} {os : List Nat} (r : s.Right) (f : s.FitA) (p : os.Perm (List.range s.ends.length)) (e : os.map (nth s.ends) = s.ends) : Ex s (.tu s os) (s.size + 1) (s.dpt + 1) := by
  refine ⟨⟨r, p⟩, ⟨?_, f⟩, e, Nat.le_refl _, by show 1 + s.dpt ≤ _; omega⟩
  have : (ST.tu s os).ends = s.ends := e
  rw [this]
  exact FitsA.fit f
section
variable {P : Program} {w : World} {K : PySem.W.Frag} {mg : Str → Option Value} {base : Heap} {f : Addr} {fd : FuncData}
theorem ok_law_last_at {n : Nat} (T : Txt K mg) (C_law_ends_of : Cal P w K mg base "_law_ends_of" (1 + n) P_law_ends_of (spEndsOfL K n)) (C_law_turned : Cal P w K mg base "_law_turned" 1 P_law_turned (spTurned K)) (F : Fun K "_law_last_at" "_law_last_at" s_law_last_at f fd) : FnOk P w K mg base CX0 (1 + n + 1) f fd P_law_last_at (spLastAt K n) := by
  refine F.ok sc_law_last_at (fun vs H Q E h => ?_) (fun cdv A outer s H vs Q E hr h => ?_)
  · obtain ⟨v, i, t, rfl, _⟩ := h
    rfl
  obtain ⟨v, i, t, rfl, hv, hR, hS, hD, hi, q⟩ := h
  refine ⟨_, (pss_cons (ps_set (i := 2) sc_law_last_at.nd rfl (Or.inl rfl) (pe_callB call_len rfl T.len (by decide +kernel) (pa_cons (pe_callC C_law_ends_of hr (pa_cons (pv 0) pa_nil)) pa_nil)))
  (pss_cons (ps_set (i := 3) sc_law_last_at.nd rfl (Or.inl rfl) (pe_listRgN rfl rfl T.list (prg_1 rfl T.range (pe_op op_sub (pv 2) pe_int))))
  (pss_one (ps_ret (pe_callC C_law_turned hr (pa_cons (pv 0) (pa_cons (pe_op op_catLN (pe_op op_catLN (pe_slice sl_listN (pv 3) po_none (po_some (pv 1))) (pe_lstN (pa_cons (pe_op op_sub (pv 2) pe_int) pa_nil))) (pe_slice sl_listN (pv 3) (po_some (pv 1)) po_none)) pa_nil))))))), ?_⟩
  have du := der_u t hR hS
  have hl := ends_len t hR
  refine ⟨_, rfl, v, _, _, rfl, hv, du, Nat.le_trans (dep_st _) hD, fun H1 p1 s1 ⟨us1, e1, pr1⟩ => ⟨_, _, rfl, .inl ⟨us1, SqL.of e1, rfl⟩, ?_⟩⟩
  have l1 := paired_len pr1
  refine ⟨_, rfl, _, _, rfl, rfl, _, rfl, RgOk.of_le (by omega) (by omega) (by omega) (by omega), fun p2 H2 s2 e2 => ?_⟩
  have em : (us1.length : Int) - 1 = ((t.ends.length - 1 : Nat) : Int) := by omega
  rw [em, rg_nat] at e2
  refine ⟨_, rfl, _, rfl, _, rfl, _, rfl, p2, _, rfl, SqL.of e2, fun p3 H3 s3 e3 => ?_⟩
  rw [cut_toN (by rw [List.length_range]; omega)] at e3
  refine ⟨_, rfl, _, _, rfl, rfl, le1k, fun p4 H4 s4 e4 => ?_⟩
  have e4 : H4 p4 = some (.lst [V.int ((t.ends.length - 1 : Nat) : Int)]) := by
    rw [← em]
    exact e4
  have n3 : (natV ((List.range (t.ends.length - 1)).take i)).length ≤ 399 := by rw [natV_len, List.length_take, List.length_range]; omega
  refine ⟨p3, p4, _, _, rfl, rfl, s4 _ _ e3, e4, (by show _ + 1 ≤ 1000; omega), fun p5 H5 s5 e5 => ?_⟩
  refine ⟨_, rfl, _, rfl, _, rfl, p2, _, rfl, SqL.of (s5 _ _ (s4 _ _ (s3 _ _ e2))), fun p6 H6 s6 e6 => ?_⟩
  rw [cut_fromN (by rw [List.length_range]; omega)] at e6
  refine ⟨p5, p6, _, _, rfl, rfl, s6 _ _ e5, e6, ?_, fun p7 H7 s7 e7 => ?_⟩
  · rw [List.length_append, natV_len (List.drop _ _), List.length_drop, List.length_range]
    show _ + 1 + _ ≤ 1000
    omega
  rw [ordL_cut hi] at e7
  have sA := s1.trans (s2.trans (s3.trans (s4.trans (s5.trans (s6.trans s7)))))
  refine ⟨v, p7, t, _, rfl, dp_same sA _ _ hv, SqL.of e7, ?_, fun H8 u s8 h8 => q H8 u (sA.trans s8) h8⟩
  have := (ordL_perm hi).length_eq
  rw [List.length_range] at this
  omega
theorem ok_law_crossed {n : Nat} (T : Txt K mg) (C_law_draw : Cal P w K mg base "_law_draw" 1 P_law_draw (spDraw K)) (C_law_ends_of : Cal P w K mg base "_law_ends_of" (1 + n) P_law_ends_of (spEndsOfL K n)) (F : Fun K "_law_crossed" "_law_crossed" s_law_crossed f fd) : FnOk P w K mg base CX0 (1 + n + 1) f fd P_law_crossed (spCrossed K n) := by
  refine F.ok sc_law_crossed (fun vs H Q E h => ?_) (fun cdv A outer s H vs Q E hr h => ?_)
  · obtain ⟨d, L, ns, m, v, t, rfl, _⟩ := h
    rfl
  obtain ⟨d, L, ns, m, v, t, rfl, hp, hm, hv, hR, hF, hS, hD, q⟩ := h
  refine ⟨_, (pss_cons (ps_set (i := 2) sc_law_crossed.nd rfl (Or.inl rfl) (pe_callC C_law_ends_of hr (pa_cons (pv 1) pa_nil)))
  (pss_cons (ps_for PassesOwn.never rfl (pi_range1 rfl T.range (pa_cons pe_int pa_nil)) (pg_name (i := 3) sc_law_crossed.nd rfl (Or.inl rfl))
    (pss_cons (ps_par (i := 4) (j := 5) (by rfl) sc_law_crossed.nd rfl rfl (by decide) rfl rfl (pa_cons (pe_callC C_law_draw hr (pa_cons (pv 0) (pa_cons (pe_callB call_len rfl T.len (by decide +kernel) (pa_cons (pv 2) pa_nil)) pa_nil))) (pa_cons (pe_callC C_law_draw hr (pa_cons (pv 0) (pa_cons (pe_callB call_len rfl T.len (by decide +kernel) (pa_cons (pv 2) pa_nil)) pa_nil))) pa_nil)) (by rfl))
    (pss_one (ps_if (PW.pt (pw_and (pt_cmpR op_ne (pv 4) (pv 5) (nomark _)) (pw_and1 (pt_cmpR (op_eqD hr.units) (pe_ix ix_list (pv 2) (pv 4) (fun _ _ => rfl)) (pe_ix ix_list (pv 2) (pv 5) (fun _ _ => rfl)) (nomark _)))))
      (pss_cons (ps_set (i := 6) sc_law_crossed.nd rfl (Or.inl rfl) (pe_listRg rfl rfl T.list (prg_1 rfl T.range (pe_callB call_len rfl T.len (by decide +kernel) (pa_cons (pv 2) pa_nil)))))
      (pss_cons (ps_asg (pe_tupN (pa_cons (pv 5) (pa_cons (pv 4) pa_nil))) (pg_tup rfl (pgs_cons (pg_sub (pv 6) (pv 4) set_list) (pgs_cons (pg_sub (pv 6) (pv 5) set_list) pgs_nil))))
      (pss_one (ps_ret (pe_tupN (pa_cons pe_str (pa_cons (pv 1) (pa_cons (pe_callTy call_tupLN rfl T.tuple (by decide +kernel) (pa_cons (pv 6) pa_nil)) pa_nil))))))))
      pss_nil))))
  (pss_one (ps_ret (pv 1))))), ?_⟩
  have du := der_u t hR hS
  have hl := ends_len t hR
  have hf := FitsA.fit hF
  have hf1 := hf.1
  refine ⟨_, rfl, v, _, _, rfl, hv, du, Nat.le_trans (dep_st _) hD, fun H1 p1 s1 ⟨us1, e1, pr1⟩ => ?_⟩
  have l1 := paired_len pr1
  have nd : p1 ≠ d := fun z => by
    obtain ⟨kvs, h⟩ := (hp.same s1).isDk
    rw [z, h] at e1
    cases e1
  refine ⟨_, rfl, by omega, by omega, ?_⟩
  refine for_range (lo := 0) (n := 4) (fun i σ H' => Keep d H H' ∧ Pen K H' d L ns (m + 2 * i) ∧ H' p1 = some (.lst us1) ∧ KT H1 H' ∧ ∃ o3 o4 o5 o6, σ = [some (.ref d), some v, some (.ref p1), o3, o4, o5, o6])
    ⟨Same.toKeep s1, hp.same s1, e1, KT.refl _, none, none, none, none, rfl⟩ (fun i σ H2 hi ⟨k2, pp2, e2, t2, o3, o4, o5, o6, eσ⟩ => ?_) (fun σ H2 ⟨k2, pp2, e2, t2, o3, o4, o5, o6, eσ⟩ => ?_)
  · subst eσ
    refine ⟨_, rfl, _, rfl, _, _, rfl, .inl ⟨us1, SqL.of e2, rfl⟩, d, L, ns, _, _, rfl, pp2, by omega, by omega, by omega, fun r H3 r0 r1 k3 pp3 => ?_⟩
    have e3 := k3 _ _ nd e2
    refine ⟨_, rfl, _, rfl, _, _, rfl, .inl ⟨us1, SqL.of e3, rfl⟩, d, L, ns, _, _, rfl, pp3, by omega, by omega, by omega, fun c H4 c0 c1 k4 pp4 => ⟨_, _, rfl, ?_⟩⟩
    have e4 := k4 _ _ nd e3
    have k24 := k2.trans (k3.trans k4)
    have t4 : KT H1 H4 := (t2.trans (kt_pen pp2 k3)).trans (kt_pen pp3 k4)
    obtain ⟨i', rfl⟩ : ∃ i' : Nat, r = (i' : Nat) := ⟨r.toNat, by omega⟩
    obtain ⟨j', rfl⟩ : ∃ j' : Nat, c = (j' : Nat) := ⟨c.toNat, by omega⟩
    have hi' : i' < t.ends.length := by omega
    have hj' : j' < t.ends.length := by omega
    have skip : Keep d H H4 ∧ Pen K H4 d L ns (m + 2 * (i + 1)) ∧ H4 p1 = some (.lst us1) ∧ KT H1 H4 ∧ ∃ p3 p4 p5 p6, [some (V.ref d), some v, some (V.ref p1), some (V.int (0 + (i : Nat))), some (V.int (i' : Nat)), some (V.int (j' : Nat)), o6] = [some (V.ref d), some v, some (V.ref p1), p3, p4, p5, p6] :=
      ⟨k24, pp4.mono (by omega), e4, t4, _, _, _, _, rfl⟩
    refine ⟨_, rfl, _, rfl, rfl, _, rfl, ?_⟩
    refine ite2 (fun c2 => ?_) (fun _ => skip)
    obtain ⟨x, hx, fx⟩ := paired_un pr1 (nth_get hi')
    obtain ⟨y, hy, fy⟩ := paired_un pr1 (nth_get hj')
    obtain ⟨D, E, hD1, hE1, sD, sE, heq⟩ := fm_eqv (t4.fm _ fx) (t4.fm _ fy) (hf.2.2.1 _ (nth_mem hi')) (hf.2.2.1 _ (nth_mem hj'))
    refine ⟨_, rfl, _, rfl, p1, us1, _, x, rfl, rfl, SqL.of e4, atI_nat hx, _, rfl, _, rfl, p1, us1, _, y, rfl, rfl, SqL.of e4, atI_nat hy, D, E, hD1, hE1, sD, sE, _, rfl, ?_⟩
    refine ite2 (fun c3 => ?_) (fun _ => skip)
    have heq := heq c3
    refine ⟨_, rfl, _, _, rfl, .inl ⟨us1, SqL.of e4, rfl⟩, _, rfl, RgOk.of_le (by omega) (by omega) (by omega) (by omega), fun p5 np5 => ?_⟩
    rw [l1, rg_nat]
    have s5 := same_new np5 (.lst (natV (List.range t.ends.length)))
    have e5 : upd H4 p5 (.lst (natV (List.range t.ends.length))) p5 = some (.lst (natV (List.range t.ends.length))) := upd_same
    generalize upd H4 p5 (.lst (natV (List.range t.ends.length))) = H5 at s5 e5 ⊢
    refine ⟨_, rfl, _, rfl, le1k, fun p6 H6 s6 e6 => ⟨p6, _, rfl, e6, rfl, ?_⟩⟩
    have e56 := s6 _ _ e5
    have k46 : Same H4 H6 := s5.trans s6
    have ln : (natV (List.range t.ends.length)).length = t.ends.length := by rw [natV_len, List.length_range]
    have ixn : ∀ a b : Nat, a < b → ixN b (a : Int) = some a := fun a b h => by
      unfold ixN
      rw [if_pos (by omega), if_pos (by omega), Int.toNat_natCast]
    refine ⟨_, _, rfl, _, rfl, _, rfl, p5, _, i', i', rfl, rfl, e56, ixn _ _ (by omega), ?_⟩
    refine ⟨_, _, rfl, _, rfl, _, rfl, p5, _, j', j', rfl, rfl, upd_same, ixn _ _ (by rw [List.length_set]; omega), ?_⟩
    rw [set_nat, set_nat]
    have eS : ((List.range t.ends.length).set i' j').set j' i' = swp t.ends.length i' j' := rfl
    rw [eS]
    have k6 : Keep d H H6 := k24.trans (Same.toKeep k46)
    have nH : H p5 = none := by
      cases e : H p5 with
      | none => rfl
      | some o =>
        by_cases c : p5 = d
        · obtain ⟨kvs, h⟩ := pp4.isDk
          rw [c, h] at np5
          cases np5
        · rw [k24 _ _ c e] at np5
          cases np5
    generalize hH8 : upd (upd H6 p5 (.lst (natV ((List.range t.ends.length).set i' j')))) p5 (.lst (natV (swp t.ends.length i' j'))) = H8
    have e8 : H8 p5 = some (.lst (natV (swp t.ends.length i' j'))) := by rw [← hH8]; exact upd_same
    have k8 : Keep d H H8 := by rw [← hH8]; exact keep_fresh (keep_fresh k6 nH) nH
    have pp8 : Pen K H8 d L ns (m + 2 * i + 1 + 1) := by
      rw [← hH8]
      exact ((pp4.same k46).fresh k6 hp.cells hp.isDk nH).fresh (keep_fresh k6 nH) hp.cells hp.isDk nH
    refine ⟨rfl, ?_⟩
    refine ⟨_, rfl, _, rfl, p5, _, rfl, SqL.of e8, fun p9 H9 s9 e9 => ⟨le1k, fun p10 H10 s10 e10 => ?_⟩⟩
    have s8 := s9.trans s10
    refine q H10 _ _ (k8.trans (Same.toKeep s8)) ((pp8.same s8).mono (by omega)) (dp_tu (dp_keep hp.isDk (k8.trans (Same.toKeep s8)) _ _ hv) ((Same.kt s10).seq e9) e10) ?_
    exact ex_tu hR hF (swp_perm hi' hj') (swp_map hi' hj' heq)
  · subst eσ
    exact ⟨_, rfl, q H2 v t k2 (pp2.mono (by omega)) (dp_keep hp.isDk k2 _ _ hv) (ex_refl hR hF (by omega) (by omega))⟩
end
end My

set_option Elab.async false
set_option linter.all false
set_option maxRecDepth 100000
namespace My
open PySem L2
open ST
/-! ### a step lifted out -/
abbrev s_law_lifted : Stmt := top 97
abbrev N_law_lifted : List Str := ["_law_step", "_law_inner", "_law_last", "_law_parts", "_law_part", "_law_used", "_law_k", "_law_fresh", "_law_rest", "_law_below", "_law_moved", "_law_many", "_law_at"]
abbrev P_law_lifted : List Str := ["_law_step"]
theorem sc_law_lifted : FnScope N_law_lifted P_law_lifted (defScope s_law_lifted) := ⟨rfl, rfl, rfl, by decide +kernel, rfl, by decide +kernel, by decide +kernel⟩
theorem dp_hd {K : PySem.W.Frag} {H : Hp} {v : V} {s : ST} (h : Dp K H v s.data) : ∃ (a : Addr) (xs : List V), v = .ref a ∧ SqT K H a (.str (hd s) :: xs) := by
  obtain ⟨r, e⟩ := data_hd s
  rw [e] at h
  cases h with
  | @tup a xs _ hT hA =>
  cases hA with
  | cons h1 hA =>
  cases h1
  exact ⟨a, _, rfl, hT⟩
def wd (b : Bool) : Str := if b then "both" else "hand"
theorem ou_data (b : Bool) (p q : ST) (k l : Nat) : (ou b p q k l).data = .tuple [.str (wd b), p.data, q.data, .int k, .int l] := by cases b <;> rfl
theorem dp_ou {K : PySem.W.Frag} {H : Hp} {b : Bool} {p q : ST} {k l : Nat} {a : Addr} {vp vq : V} (h : SqT K H a [.str (wd b), vp, vq, .int k, .int l]) (h1 : Dp K H vp p.data) (h2 : Dp K H vq q.data) : Dp K H (.ref a) (ou b p q k l).data := by
  rw [ou_data]
  exact .tup h (.cons (.str _) (.cons h1 (.cons h2 (.cons (.int _) (.cons (.int _) .nil)))))
theorem is_ou (t : ST) : (∃ b p q k l, t = ou b p q k l) ∨ inV (V.str (hd t)) [V.str "both", V.str "hand"] = false := by
  cases t with
  | bo p q k l => exact .inl ⟨true, p, q, k, l, rfl⟩
  | ha p q k l => exact .inl ⟨false, p, q, k, l, rfl⟩
  | lk _ => exact .inr (show inV (V.str "link") [V.str "both", V.str "hand"] = false by decide +kernel)
  | bt _ _ _ => exact .inr (show inV (V.str "between") [V.str "both", V.str "hand"] = false by decide +kernel)
  | of _ _ _ _ => exact .inr (show inV (V.str "offer") [V.str "both", V.str "hand"] = false by decide +kernel)
  | ch _ _ _ _ => exact .inr (show inV (V.str "choose") [V.str "both", V.str "hand"] = false by decide +kernel)
  | tu _ _ => exact .inr (show inV (V.str "turn") [V.str "both", V.str "hand"] = false by decide +kernel)
theorem cut_mid {xs : List V} {x y : Int} {a b : Nat} (hx : x = (a : Nat)) (hy : y = (b : Nat)) (h : a ≤ b) (hb : b ≤ xs.length) : cutV xs (some x) (some y) = (xs.drop a).take (b - a) := by
  subst hx
  subst hy
  unfold cutV
  rw [HT.sIx_nat, HT.sIx_nat, Nat.min_eq_left (by omega), Nat.min_eq_left (by omega)]
theorem pos_perm {n : Nat} {l m : List Nat} (h : l.Perm m) : pos n l = pos n m := by
  unfold pos
  congr 1
  funext k
  congr 1
  rw [Bool.eq_iff_iff, List.any_eq_true, List.any_eq_true]
  exact ⟨fun ⟨x, hx, e⟩ => ⟨x, h.mem_iff.mp hx, e⟩, fun ⟨x, hx, e⟩ => ⟨x, h.mem_iff.mpr hx, e⟩⟩
theorem less_range (n : Nat) (ns : List Nat) : lessN (natV (List.range n)) ns = natV (pos n ns) := lessN_map n _ ns
theorem un_int {k a : Nat} (h : a ≠ k) : (a : Int) - (if decide ((k : Int) < (a : Int)) = true then 1 else 0) = ((un k a : Nat) : Int) := by
  unfold un
  by_cases c : k < a
  · rw [if_pos c, if_pos (decide_eq_true (by omega))]
    omega
  · rw [if_neg c, if_neg (fun z => c (by have := of_decide_eq_true z; omega))]
    omega
theorem ints_nat : ∀ l : List Int, (∀ x, x ∈ l → 0 ≤ x) → l.map V.int = natV (l.map Int.toNat)
  | [], _ => rfl
  | x :: l, h => by
    have := h x List.mem_cons_self
    have e : ((x.toNat : Nat) : Int) = x := by omega
    have ih := ints_nat l fun y hy => h y (List.mem_cons_of_mem _ hy)
    show V.int x :: l.map V.int = V.int ((x.toNat : Nat) : Int) :: natV (l.map Int.toNat)
    rw [e, ih]
def spLifted (K : PySem.W.Frag) : Sp := fun vs H Q _ => ∃ (v : V) (s : ST), vs = [v] ∧ Dp K H v s.data ∧ s.Right ∧ s.FitA ∧ s.size ≤ 180 ∧ s.dpt ≤ 50 ∧ ∀ H' u, Same H H' → (u = .non ∨ ∃ s', Dp K H' u s'.data ∧ Ex s s' (2 * s.size + 1) (s.dpt + 2)) → Q u H'
section
variable {P : Program} {w : World} {K : PySem.W.Frag} {mg : Str → Option Value} {base : Heap} {f : Addr} {fd : FuncData}
set_option maxHeartbeats 4000000 in
theorem ok_law_lifted (T : Txt K mg) (hs : mg "sorted" = none) (C_law_ends_of : Cal P w K mg base "_law_ends_of" 61 P_law_ends_of (spEndsOfL K 60)) (C_law_without : Cal P w K mg base "_law_without" 1 P_law_without (spWithoutL K)) (C_law_turned : Cal P w K mg base "_law_turned" 1 P_law_turned (spTurned K)) (F : Fun K "_law_lifted" "_law_lifted" s_law_lifted f fd) : FnOk P w K mg base CX0 62 f fd P_law_lifted (spLifted K) := by
  refine F.ok sc_law_lifted (fun vs H Q E h => ?_) (fun cdv A outer s H vs Q E hr h => ?_)
  · obtain ⟨v, t, rfl, _⟩ := h
    rfl
  obtain ⟨v, t, rfl, hv, hR, hF, hS, hD, q0⟩ := h
  have q1 : ∀ H', Same H H' → Q .non H' := fun H' s => q0 H' _ s (.inl rfl)
  have q2 : ∀ H' u s', Same H H' → Dp K H' u s'.data → Ex t s' (2 * t.size + 1) (t.dpt + 2) → Q u H' := fun H' u s' s h e => q0 H' u s (.inr ⟨s', h, e⟩)
  clear q0
  refine ⟨_, (pss_cons (ps_if (PW.pt (pw_or (pt_cmpR op_notIn_seq (pe_ix ix_tup (pv 0) pe_int (fun _ _ => rfl)) (pe_lstN (pa_cons pe_str (pa_cons pe_str pa_nil))) rfl) (pw_or1 (pt_cmpR op_notIn_seq (pe_ix ix_tup (pe_ix ix_tup (pv 0) pe_int (fun _ _ => rfl)) pe_int (fun _ _ => rfl)) (pe_lstN (pa_cons pe_str (pa_cons pe_str (pa_cons pe_str pa_nil)))) rfl))))
    (pss_one (ps_ret pe_non))
    pss_nil)
  (pss_cons (ps_par (i := 1) (j := 2) (by rfl) sc_law_lifted.nd rfl rfl (by decide) rfl rfl (pa_cons (pe_ix ix_tup (pv 0) pe_int (fun _ _ => rfl)) (pa_cons (pe_op op_sub (pe_callB call_len rfl T.len (by decide +kernel) (pa_cons (pe_callC C_law_ends_of hr (pa_cons (pe_ix ix_tup (pv 0) pe_int (fun _ _ => rfl)) pa_nil)) pa_nil)) pe_int) pa_nil)) (by rfl))
  (pss_cons (ps_if (pt_cmpR op_eq (pe_ix ix_tup (pv 0) pe_int (fun _ _ => rfl)) (pv 2) (nomark _))
    (pss_one (ps_ret pe_non))
    pss_nil)
  (pss_cons (ps_if (pt_cmpR op_eq (pe_ix ix_tup (pv 1) pe_int (fun _ _ => rfl)) pe_str (nomark _))
    (pss_cons (ps_set (i := 3) sc_law_lifted.nd rfl (Or.inl rfl) (pe_lst pa_nil))
    (pss_cons (ps_for PassesOwn.never rfl (pi_list (pe_lstN (pa_cons (pe_tupN (pa_cons (pe_ix ix_tup (pv 1) pe_int (fun _ _ => rfl)) (pa_cons (pe_ix ix_tup (pv 1) pe_int (fun _ _ => rfl)) pa_nil))) (pa_cons (pe_tupN (pa_cons (pe_ix ix_tup (pv 1) pe_int (fun _ _ => rfl)) (pa_cons (pe_ix ix_tup (pv 1) pe_int (fun _ _ => rfl)) pa_nil))) pa_nil)))) (pg_tup rfl (pgs_cons (pg_name (i := 4) sc_law_lifted.nd rfl (Or.inl rfl)) (pgs_cons (pg_name (i := 5) sc_law_lifted.nd rfl (Or.inl rfl)) pgs_nil)))
      (pss_cons (ps_set (i := 6) sc_law_lifted.nd rfl (Or.inr rfl) (pe_ifExp (pt_cmpR op_lt (pe_ix ix_tup (pv 0) pe_int (fun _ _ => rfl)) (pv 5) (nomark _)) (pe_ix ix_tup (pv 0) pe_int (fun _ _ => rfl)) (pe_op op_add (pe_ix ix_tup (pv 0) pe_int (fun _ _ => rfl)) pe_int)))
      (pss_one (ps_expr (pe_bm PySem.F.plainAttrs_list PySem.F.slot_list_append PySem.F.type_list_append mt_append (pv 3) (pa_cons (pe_tupN (pa_cons (pe_tupN (pa_cons (pe_ix ix_tup (pv 0) pe_int (fun _ _ => rfl)) (pa_cons (pv 4) (pa_cons (pe_ix ix_tup (pv 0) pe_int (fun _ _ => rfl)) (pa_cons (pv 6) (pa_cons (pe_ix ix_tup (pv 0) pe_int (fun _ _ => rfl)) pa_nil)))))) (pa_cons (pe_op op_sub (pv 5) (pe_callTy call_int1 rfl T.int (by decide +kernel) (pa_cons (pe_cmpR op_lt (pv 6) (pv 5) (nomark _)) pa_nil))) pa_nil))) pa_nil))))))
    (pss_one (ps_set (i := 7) sc_law_lifted.nd rfl (Or.inl rfl) (pe_tupN (pa_cons pe_str (pa_cons (pe_ix ix_tup (pe_ix ix_list (pv 3) pe_int (fun _ _ => rfl)) pe_int (fun _ _ => rfl)) (pa_cons (pe_ix ix_tup (pe_ix ix_list (pv 3) pe_int (fun _ _ => rfl)) pe_int (fun _ _ => rfl)) (pa_cons (pe_ix ix_tup (pe_ix ix_list (pv 3) pe_int (fun _ _ => rfl)) pe_int (fun _ _ => rfl)) (pa_cons (pe_ix ix_tup (pe_ix ix_list (pv 3) pe_int (fun _ _ => rfl)) pe_int (fun _ _ => rfl)) pa_nil))))))))))
    (pss_cons (ps_set (i := 5) sc_law_lifted.nd rfl (Or.inl rfl) (pe_ifExp (pt_cmpR op_eq (pe_ix ix_tup (pv 1) pe_int (fun _ _ => rfl)) pe_str (nomark _)) (pe_callB cr_sortedI rfl hs (by decide +kernel) (pa_cons (pe_lstN (pa_cons (pe_ix ix_tup (pv 1) pe_int (fun _ _ => rfl)) (pa_cons (pe_ix ix_tup (pv 1) pe_int (fun _ _ => rfl)) pa_nil))) pa_nil)) (pe_lstN (pa_cons (pe_ix ix_tup (pv 1) pe_int (fun _ _ => rfl)) pa_nil))))
    (pss_cons (ps_set (i := 8) sc_law_lifted.nd rfl (Or.inl rfl) (pe_callC C_law_without hr (pa_cons (pe_listRgN rfl rfl T.list (prg_1 rfl T.range (pe_callB call_len rfl T.len (by decide +kernel) (pa_cons (pe_callC C_law_ends_of hr (pa_cons (pe_ix ix_tup (pv 1) pe_int (fun _ _ => rfl)) pa_nil)) pa_nil)))) (pa_cons (pv 5) pa_nil))))
    (pss_cons (ps_set (i := 6) sc_law_lifted.nd rfl (Or.inr rfl) (pe_ix ix_list (pv 8) (pe_ix ix_tup (pv 0) pe_int (fun _ _ => rfl)) (fun _ _ => rfl)))
    (pss_cons (ps_set (i := 9) sc_law_lifted.nd rfl (Or.inl rfl) (pe_tupN (pa_cons (pe_ix ix_tup (pv 0) pe_int (fun _ _ => rfl)) (pa_cons (pe_ix ix_tup (pv 1) pe_int (fun _ _ => rfl)) (pa_cons (pe_ix ix_tup (pv 0) pe_int (fun _ _ => rfl)) (pa_cons (pv 6) (pa_cons (pe_ix ix_tup (pv 0) pe_int (fun _ _ => rfl)) pa_nil)))))))
    (pss_cons (ps_setLc (i := 10) (own := [("_law_at", 12)]) (g := (gName 12)) rfl sc_law_lifted.nd rfl rfl (sw_true rfl rfl rfl (by decide +kernel)) (pi_tup (pe_slice sl_tupN (pv 1) (po_some pe_int) (po_some (pe_op op_add pe_int (pe_callB call_len rfl T.len (by decide +kernel) (pa_cons (pv 5) pa_nil)))))) (blkOk_by (own := [("_law_at", 12)]) (N := N_law_lifted) (sc := defScope s_law_lifted) (by decide +kernel)) (fun _ _ _ _ _ => (pg_name (i := 12) sc_law_lifted.nd rfl (Or.inl rfl))) (fun _ _ _ _ _ => pts_nil) (fun _ _ _ _ _ => (pe_op op_sub (pv 12) (pe_callTy call_int1 rfl T.int (by decide +kernel) (pa_cons (pe_cmpR op_lt (pv 6) (pv 12) (nomark _)) pa_nil)))))
    (pss_one (ps_set (i := 7) sc_law_lifted.nd rfl (Or.inl rfl) (pe_op op_catTN (pe_op op_catTN (pe_tupN (pa_cons (pe_ix ix_tup (pv 1) pe_int (fun _ _ => rfl)) (pa_cons (pv 9) pa_nil))) (pe_callTy call_tupLN rfl T.tuple (by decide +kernel) (pa_cons (pv 10) pa_nil))) (pe_slice sl_tupN (pv 1) (po_some (pe_op op_add pe_int (pe_callB call_len rfl T.len (by decide +kernel) (pa_cons (pv 5) pa_nil)))) po_none))))))))))
  (pss_cons (ps_set (i := 11) sc_law_lifted.nd rfl (Or.inl rfl) (pe_callB call_len rfl T.len (by decide +kernel) (pa_cons (pe_callC C_law_ends_of hr (pa_cons (pv 7) pa_nil)) pa_nil)))
  (pss_one (ps_ret (pe_callC C_law_turned hr (pa_cons (pv 7) (pa_cons (pe_op op_catLN (pe_op op_catLN (pe_listRgN rfl rfl T.list (prg_1 rfl T.range (pe_op op_sub (pv 2) pe_int))) (pe_lstN (pa_cons (pe_op op_sub (pv 11) pe_int) pa_nil))) (pe_listRgN rfl rfl T.list (prg_2 rfl T.range (pe_op op_sub (pv 2) pe_int) (pe_op op_sub (pv 11) pe_int)))) pa_nil)))))))))), ?_⟩
  obtain ⟨a0, xs0, rfl, hT0⟩ := dp_hd hv
  refine ⟨_, rfl, a0, _, 0, _, rfl, rfl, hT0, at0, le1k, fun p0 H0 s0 e0 => ⟨p0, _, rfl, .inl (SqL.of e0), rfl, rfl, _, rfl, ?_⟩⟩
  rcases is_ou t with ⟨b, p, q, k, l, rfl⟩ | hno
  case inr =>
    refine ite2 (fun _ => q1 H0 s0) (fun c => absurd (by rw [if_pos rfl, hno]; rfl) c)
  have hyes : inV (V.str (hd (ou b p q k l))) [V.str "both", V.str "hand"] = true := by
    cases b
    · exact (show inV (V.str "hand") [V.str "both", V.str "hand"] = true by decide +kernel)
    · exact (show inV (V.str "both") [V.str "both", V.str "hand"] = true by decide +kernel)
  refine ite2 (fun c => by rw [if_pos rfl, hyes] at c; cases c) (fun _ => ?_)
  rw [ou_data] at hv
  obtain ⟨a, vp, vq, ea, hT, hvp, hvq⟩ := dp_t5 hv
  cases ea
  obtain ⟨ap, xsp, rfl, hTp⟩ := dp_hd hvp
  have kt0 := Same.kt s0
  have ds : ∀ {v : V} {D : PyData} {H1 H2 : Hp}, Same H1 H2 → Dp K H1 v D → Dp K H2 v D := fun s h => dp_same s _ _ h
  obtain ⟨rp, hk, rq, hl, hc⟩ := (ou_right b p q k l).mp hR
  have hsz : p.size + q.size + 1 ≤ 180 := by rw [← ou_size b p q k l]; exact hS
  have hdp : 1 + max p.dpt q.dpt ≤ 50 := by rw [← ou_dpt b p q k l]; exact hD
  have lp := ends_len p rp
  have dup := der_u p rp (by omega)
  refine ⟨_, rfl, a0, _, 1, _, rfl, rfl, kt0.seq hT, rfl, ap, _, 0, _, rfl, rfl, kt0.seq hTp, at0, le1k, fun p1 H1 s1 e1 => ⟨p1, _, rfl, .inl (SqL.of e1), rfl, rfl, _, rfl, ?_⟩⟩
  have s01 := s0.trans s1
  have hT1 := (Same.kt s01).seq hT
  have hTp1 := (Same.kt s01).seq hTp
  by_cases hin : inV (V.str (hd p)) [V.str "between", V.str "choose", V.str "offer"] = true
  case neg =>
    refine ite2 (fun _ => q1 H1 s01) (fun c => absurd (by rw [if_pos rfl, Bool.eq_false_iff.mpr hin]; rfl) c)
  refine ite2 (fun c => by rw [if_pos rfl, hin] at c; cases c) (fun _ => ?_)
  refine ⟨_, rfl, a0, _, 1, _, rfl, rfl, hT1, rfl, _, rfl, a0, _, 1, _, rfl, rfl, hT1, rfl, .ref ap, p.data, p.ends, rfl, ds s01 hvp, dup, Nat.le_trans (dep_st _) (by omega), fun H2 p2 s2 ⟨us2, e2, pr2⟩ => ⟨_, _, rfl, .inl ⟨us2, SqL.of e2, rfl⟩, _, _, rfl, rfl, _, _, rfl, ?_⟩⟩
  have l2 := paired_len pr2
  have s02 := s01.trans s2
  have hT2 := (Same.kt s02).seq hT
  have hTp2 := (Same.kt s02).seq hTp
  refine ⟨_, rfl, a0, _, 3, _, rfl, rfl, hT2, rfl, _, rfl, rfl, _, rfl, ?_⟩
  refine ite2 (fun _ => q1 H2 s02) (fun c => ?_)
  have hk1 : k + 1 < p.ends.length := by
    have : ¬ ((k : Int) = (us2.length : Int) - 1) := fun z => c (decide_eq_true (by rw [z]))
    omega
  refine ⟨_, rfl, ap, _, 0, _, rfl, rfl, hTp2, at0, rfl, _, rfl, ?_⟩
  have elast : (us2.length : Int) - 1 - 1 = ((p.ends.length - 2 : Nat) : Int) := by omega
  cases p with
  | lk n => exact absurd hin (show ¬ inV (V.str "link") [V.str "between", V.str "choose", V.str "offer"] = true by decide +kernel)
  | bo p1 q1' i j => exact absurd hin (show ¬ inV (V.str "both") [V.str "between", V.str "choose", V.str "offer"] = true by decide +kernel)
  | ha p1 q1' i j => exact absurd hin (show ¬ inV (V.str "hand") [V.str "between", V.str "choose", V.str "offer"] = true by decide +kernel)
  | tu p1 os => exact absurd hin (show ¬ inV (V.str "turn") [V.str "between", V.str "choose", V.str "offer"] = true by decide +kernel)
  | bt pp i j =>
    refine ite2 (fun c => absurd (show V.str "between" = V.str "offer" from of_decide_eq_true c) (fun z => by injection z with z; exact absurd z (by decide +kernel))) (fun _ => ?_)
    obtain ⟨ap', va, eap, hTi, hva⟩ := dp_t4 hvp
    cases eap
    obtain ⟨m, hm, LK⟩ := lift_bt hR hF hk1
    obtain ⟨⟨ra, hi, hj, hij⟩, _⟩ := (ou_right b (.bt pp i j) q k l).mp hR
    have hTi2 := (Same.kt s02).seq hTi
    refine ⟨_, rfl, ap, _, 0, _, rfl, rfl, hTi2, rfl, rfl, true, rfl, ?_⟩
    refine ⟨_, rfl, ap, _, 2, _, rfl, rfl, hTi2, rfl, _, rfl, ap, _, 3, _, rfl, rfl, hTi2, rfl, le1k, fun r1 H3 s3 e3 => ?_⟩
    refine ⟨r1, [(i : Int), (j : Int)], rfl, SqL.of e3, fun ns' r2 pm _ nr2 => ?_⟩
    have s4 := same_new nr2 (.lst (ns'.map V.int))
    have e4 : upd H3 r2 (.lst (ns'.map V.int)) r2 = some (.lst (ns'.map V.int)) := upd_same
    generalize upd H3 r2 (.lst (ns'.map V.int)) = H4 at *
    obtain ⟨nu, hnu, pnu⟩ : ∃ nu : List Nat, ns'.map V.int = natV nu ∧ nu.Perm [i, j] := by
      have hmem : ∀ x, x ∈ ns' → 0 ≤ x := fun x hx => by
        have := pm.mem_iff.mp hx
        simp only [List.mem_cons, List.not_mem_nil, or_false] at this
        omega
      exact ⟨ns'.map Int.toNat, ints_nat _ hmem, pm.map Int.toNat⟩
    rw [hnu] at e4
    have lnu : nu.length = 2 := pnu.length_eq
    have hmn : m ∉ [i, j] := (mem_pos.mp (List.mem_of_getElem? hm)).2
    have hmi : i ≠ m := fun z => hmn (z ▸ List.mem_cons_self)
    have hmj : j ≠ m := fun z => hmn (z ▸ List.mem_cons_of_mem _ List.mem_cons_self)
    rw [← pos_perm pnu] at hm
    have s04 := s02.trans (s3.trans s4)
    have lpp := ends_len pp ra
    have hszp : pp.size + 1 + q.size + 1 ≤ 180 := hsz
    have hdpp : 1 + max (1 + pp.dpt) q.dpt ≤ 50 := hdp
    have dupp := der_u pp ra (by omega)
    have hTi4 := (Same.kt s04).seq hTi
    have lnn := natV_len nu
    refine ⟨_, rfl, ap, _, 1, _, rfl, rfl, hTi4, rfl, va, pp.data, pp.ends, rfl, ds s04 hva, dupp, Nat.le_trans (dep_st _) (by omega), fun H5 p5 s5 ⟨us5, e5, pr5⟩ => ⟨_, _, rfl, .inl ⟨us5, SqL.of e5, rfl⟩, _, rfl, RgOk.of_le (by omega) (by have := paired_len pr5; omega) (by omega) (by omega), fun p6 H6 s6 e6 => ?_⟩⟩
    have l5 := paired_len pr5
    rw [l5, rg_nat] at e6
    have s46 := s5.trans s6
    refine ⟨_, rfl, p6, r2, _, nu, rfl, SqL.of e6, SqL.of (s46 _ _ e4), by rw [natV_len, List.length_range]; omega, fun H7 p7 s7 e7 => ?_⟩
    rw [less_range] at e7
    have s47 := s46.trans s7
    have s07 := s04.trans s47
    have hT7 := (Same.kt s07).seq hT
    have hTi7 := (Same.kt s07).seq hTi
    refine ⟨_, rfl, _, rfl, a0, _, 3, _, rfl, rfl, hT7, rfl, p7, _, (k : Int), _, rfl, rfl, SqL.of e7, atI_nat (natV_get hm), ?_⟩
    refine ⟨_, rfl, a0, _, 0, _, rfl, rfl, hT7, at0, _, rfl, ap, _, 1, _, rfl, rfl, hTi7, rfl, _, rfl, a0, _, 2, _, rfl, rfl, hT7, rfl, _, rfl, _, rfl, a0, _, 4, _, rfl, rfl, hT7, rfl, le1k, fun p8 H8 s8 e8 => ?_⟩
    have s48 := s47.trans s8
    have s08 := s07.trans s8
    have hTi8 := (Same.kt s08).seq hTi
    have e48 := s48 _ _ e4
    refine ⟨_, rfl, 2, rfl, _, rfl, _, _, rfl, .inl ⟨_, SqL.of e48, rfl⟩, 2, _, rfl, rfl, _, rfl, ap, _, rfl, hTi8, fun p9 H9 s9 e9 => ?_⟩
    rw [cut_mid (x := 2) (a := 2) (b := 2 + nu.length) rfl (by omega) (by omega) (by rw [lnu]; exact Nat.le_of_ble_eq_true rfl), Nat.add_sub_cancel_left, lnu] at e9
    have e9 : SqT K H9 p9 (natV [i, j]) := e9
    have s89 := s8.trans s9
    refine ⟨p9, rfl, ⟨_, e9⟩, fun D nD => lc_it (walk_tup (xs := natV [i, j])) (fun n H' => Same H9 H' ∧ H' D = some (.lst (natV (([i, j].map (un m)).take n)))) ⟨same_new nD _, upd_same⟩ (fun n H' _ z => (Same.kt z.1).seq e9) (fun n x H2' H3' hn z yy => ?_) (fun H10 z => ?_)⟩
    · obtain ⟨rfl, hy⟩ := yy
      obtain ⟨k1, eD⟩ := z
      obtain ⟨y, hyn, rfl⟩ : ∃ y : Nat, [i, j][n]? = some y ∧ x = .int (y : Nat) := by
        unfold natV at hy
        rw [List.getElem?_map] at hy
        obtain ⟨y, h1, h2⟩ := Option.map_eq_some_iff.mp hy
        exact ⟨y, h1, h2.symm⟩
      have hym : y ≠ m := fun z => hmn (z ▸ List.mem_of_getElem? hyn)
      refine ⟨rfl, _, rfl, _, rfl, _, rfl, _, _, rfl, rfl, .inr ⟨_, rfl, _, _, rfl, rfl, ?_⟩⟩
      refine ⟨_, eD, small1000 (by rw [natV_len, List.length_take]; exact Nat.le_trans (Nat.min_le_right _ _) (Nat.le_trans (Nat.le_of_ble_eq_true rfl : _ ≤ 2) (by omega))), same_fresh k1 nD, ?_⟩
      have hg : ([i, j].map (un m))[n]? = some (un m y) := by rw [List.getElem?_map, hyn]; rfl
      rw [upd_same, take_next hg, natV_app]
      congr 3
      show [V.int _] = [V.int _]
      congr 2
      exact un_int hym
    · obtain ⟨k10, eD⟩ := z
      rw [List.take_of_length_le (by rw [List.length_map]; exact Nat.le_of_eq (natV_len [i, j]).symm)] at eD
      have s810 := s9.trans k10
      have s010 := s08.trans s810
      have hTi10 := (Same.kt s010).seq hTi
      refine ⟨_, rfl, ap, _, 0, _, rfl, rfl, hTi10, rfl, _, rfl, le1k, fun p11 H11 s11 e11 => ⟨_, rfl, D, _, rfl, SqL.of (s11 _ _ eD), fun p12 H12 s12 e12 => ⟨p11, p12, _, _, rfl, rfl, (Same.kt s12).seq e11, e12, le1k, fun p13 H13 s13 e13 => ?_⟩⟩⟩
      have s1013 := s11.trans (s12.trans s13)
      have s813 := s810.trans s1013
      have s013 := s08.trans s813
      have hTi13 := (Same.kt s013).seq hTi
      refine ⟨_, rfl, _, rfl, _, _, rfl, .inl ⟨_, SqL.of (s813 _ _ e48), rfl⟩, 2, _, rfl, rfl, _, rfl, ap, _, rfl, hTi13, fun p14 H14 s14 e14 => ?_⟩
      have ef : (2 : Int) + ((natV nu).length : Nat) = ((2 + nu.length : Nat) : Int) := by omega
      rw [ef, cutFrom _ _ (by rw [lnu]; exact Nat.le_of_ble_eq_true rfl), lnu] at e14
      refine ⟨p13, p14, _, _, rfl, rfl, (Same.kt s14).seq e13, e14, le1k, fun p15 H15 s15 e15 => ?_⟩
      obtain ⟨u7, hu7e⟩ : ∃ u7 : V, u7 = .ref p15 := ⟨_, rfl⟩
      have s07 := s013.trans (s14.trans s15)
      generalize hFR : (ST.bt (ou b pp q m l) (un m i) (un m j)) = FR at LK
      have hu7 : Dp K H15 u7 FR.data := by
        rw [← hFR, hu7e]
        have hb := dp_ou (b := b) ((Same.kt (s813.trans (s14.trans s15))).seq e8) (ds s07 hva) (ds s07 hvq)
        exact .tup e15 (.cons (.str _) (.cons hb (.cons (.int _) (.cons (.int _) .nil))))
      rw [← hu7e]
      -- the tail
      have ll := ends_len FR LK.right
      have hlt := LK.lt
      have lsz := LK.size
      have ldp := LK.dpt
      rw [ou_size] at lsz
      rw [ou_dpt] at ldp
      refine ⟨_, rfl, u7, _, _, rfl, hu7, der_u FR LK.right (by omega), Nat.le_trans (dep_st _) (by omega), fun HA pA sA ⟨usA, eA, prA⟩ => ⟨_, _, rfl, .inl ⟨usA, SqL.of eA, rfl⟩, ?_⟩⟩
      have lA := paired_len prA
      refine ⟨_, rfl, _, rfl, _, _, rfl, rfl, _, rfl, RgOk.of_le (by omega) (by omega) (by omega) (by omega), fun pB HB sB eB => ?_⟩
      rw [elast, rg_nat] at eB
      have eM : (usA.length : Int) - 1 = ((FR.ends.length - 1 : Nat) : Int) := by omega
      refine ⟨_, rfl, _, _, rfl, rfl, le1k, fun pC HC sC eC => ?_⟩
      have eC : HC pC = some (.lst [V.int ((FR.ends.length - 1 : Nat) : Int)]) := by
        rw [← eM]
        exact eC
      refine ⟨pB, pC, _, _, rfl, rfl, sC _ _ eB, eC, ?_, fun pE HE sE eE => ?_⟩
      · rw [natV_len, List.length_range]
        show _ + 1 ≤ 1000
        omega
      refine ⟨_, rfl, _, _, rfl, rfl, _, rfl, _, _, rfl, rfl, _, _, rfl, rfl, RgOk.of_le (by omega) (by omega) (by omega) (by omega), fun pG HG sG eG => ?_⟩
      rw [elast, eM, rg_nat2 _ _ (by omega)] at eG
      refine ⟨pE, pG, _, _, rfl, rfl, sG _ _ eE, eG, ?_, fun pI HI sI eI => ?_⟩
      · rw [List.length_append, natV_len, natV_len, List.length_range, List.length_range']
        show _ + 1 + _ ≤ 1000
        omega
      have eO : natV (List.range ((ST.bt pp i j).ends.length - 2)) ++ [V.int ((FR.ends.length - 1 : Nat) : Int)] ++ natV (List.range' ((ST.bt pp i j).ends.length - 2) (FR.ends.length - 1 - ((ST.bt pp i j).ends.length - 2))) = natV (ordL ((ST.bt pp i j).ends.length - 2) FR.ends.length) := by
        unfold ordL
        rw [natV_app, natV_app]
        rfl
      rw [eO] at eI
      have sF := sA.trans (sB.trans (sC.trans (sE.trans (sG.trans sI))))
      have pO := ordL_perm hlt
      refine ⟨u7, pI, FR, _, rfl, ds sF hu7, SqL.of eI, ?_, fun HJ uJ sJ hJ => ?_⟩
      · have := perm_len pO
        omega
      refine q2 HJ uJ _ (s07.trans (sF.trans sJ)) hJ ⟨mvd_right LK.right pO, mvd_fit LK.fit pO, LK.ends, ?_, ?_⟩
      · have := mvd_size FR (ordL ((ST.bt pp i j).ends.length - 2) FR.ends.length)
        rw [ou_size]
        omega
      · have := mvd_dpt FR (ordL ((ST.bt pp i j).ends.length - 2) FR.ends.length)
        rw [ou_dpt]
        omega
  | ch pp i d g =>
    refine ite2 (fun c => absurd (show V.str "choose" = V.str "offer" from of_decide_eq_true c) (fun z => by injection z with z; exact absurd z (by decide +kernel))) (fun _ => ?_)
    obtain ⟨ap', va, vf, eap, hTi, hva, hvf⟩ := dp_c5 hvp
    cases eap
    obtain ⟨m, hm, LK⟩ := lift_ch hR hF hk1
    obtain ⟨⟨ra, hi, hd', hg⟩, _⟩ := (ou_right b (.ch pp i d g) q k l).mp hR
    have hTi2 := (Same.kt s02).seq hTi
    refine ⟨_, rfl, ap, _, 0, _, rfl, rfl, hTi2, rfl, rfl, false, rfl, ?_⟩
    refine ⟨_, rfl, ap, _, 2, _, rfl, rfl, hTi2, rfl, le1k, fun r2 H4 s4 e4 => ?_⟩
    obtain ⟨nu, hnu, pnu⟩ : ∃ nu : List Nat, [V.int (i : Nat)] = natV nu ∧ nu.Perm [i] := ⟨[i], rfl, List.Perm.refl _⟩
    rw [hnu] at e4
    have lnu : nu.length = 1 := pnu.length_eq
    have hmn : m ∉ [i] := (mem_pos.mp (List.mem_of_getElem? hm)).2
    have hmi : i ≠ m := fun z => hmn (z ▸ List.mem_cons_self)
    rw [← pos_perm pnu] at hm
    have s04 := s02.trans s4
    have lpp := ends_len pp ra
    have hszp : pp.size + 1 + q.size + 1 ≤ 180 := hsz
    have hdpp : 1 + max (1 + max pp.dpt (g.dep + 1)) q.dpt ≤ 50 := hdp
    have dupp := der_u pp ra (by omega)
    have hTi4 := (Same.kt s04).seq hTi
    have lnn := natV_len nu
    refine ⟨_, rfl, ap, _, 1, _, rfl, rfl, hTi4, rfl, va, pp.data, pp.ends, rfl, ds s04 hva, dupp, Nat.le_trans (dep_st _) (by omega), fun H5 p5 s5 ⟨us5, e5, pr5⟩ => ⟨_, _, rfl, .inl ⟨us5, SqL.of e5, rfl⟩, _, rfl, RgOk.of_le (by omega) (by have := paired_len pr5; omega) (by omega) (by omega), fun p6 H6 s6 e6 => ?_⟩⟩
    have l5 := paired_len pr5
    rw [l5, rg_nat] at e6
    have s46 := s5.trans s6
    refine ⟨_, rfl, p6, r2, _, nu, rfl, SqL.of e6, SqL.of (s46 _ _ e4), by rw [natV_len, List.length_range]; omega, fun H7 p7 s7 e7 => ?_⟩
    rw [less_range] at e7
    have s47 := s46.trans s7
    have s07 := s04.trans s47
    have hT7 := (Same.kt s07).seq hT
    have hTi7 := (Same.kt s07).seq hTi
    refine ⟨_, rfl, _, rfl, a0, _, 3, _, rfl, rfl, hT7, rfl, p7, _, (k : Int), _, rfl, rfl, SqL.of e7, atI_nat (natV_get hm), ?_⟩
    refine ⟨_, rfl, a0, _, 0, _, rfl, rfl, hT7, at0, _, rfl, ap, _, 1, _, rfl, rfl, hTi7, rfl, _, rfl, a0, _, 2, _, rfl, rfl, hT7, rfl, _, rfl, _, rfl, a0, _, 4, _, rfl, rfl, hT7, rfl, le1k, fun p8 H8 s8 e8 => ?_⟩
    have s48 := s47.trans s8
    have s08 := s07.trans s8
    have hTi8 := (Same.kt s08).seq hTi
    have e48 := s48 _ _ e4
    refine ⟨_, rfl, 2, rfl, _, rfl, _, _, rfl, .inl ⟨_, SqL.of e48, rfl⟩, 2, _, rfl, rfl, _, rfl, ap, _, rfl, hTi8, fun p9 H9 s9 e9 => ?_⟩
    rw [cut_mid (x := 2) (a := 2) (b := 2 + nu.length) rfl (by omega) (by omega) (by rw [lnu]; exact Nat.le_of_ble_eq_true rfl), Nat.add_sub_cancel_left, lnu] at e9
    have e9 : SqT K H9 p9 (natV [i]) := e9
    have s89 := s8.trans s9
    refine ⟨p9, rfl, ⟨_, e9⟩, fun D nD => lc_it (walk_tup (xs := natV [i])) (fun n H' => Same H9 H' ∧ H' D = some (.lst (natV (([i].map (un m)).take n)))) ⟨same_new nD _, upd_same⟩ (fun n H' _ z => (Same.kt z.1).seq e9) (fun n x H2' H3' hn z yy => ?_) (fun H10 z => ?_)⟩
    · obtain ⟨rfl, hy⟩ := yy
      obtain ⟨k1, eD⟩ := z
      obtain ⟨y, hyn, rfl⟩ : ∃ y : Nat, [i][n]? = some y ∧ x = .int (y : Nat) := by
        unfold natV at hy
        rw [List.getElem?_map] at hy
        obtain ⟨y, h1, h2⟩ := Option.map_eq_some_iff.mp hy
        exact ⟨y, h1, h2.symm⟩
      have hym : y ≠ m := fun z => hmn (z ▸ List.mem_of_getElem? hyn)
      refine ⟨rfl, _, rfl, _, rfl, _, rfl, _, _, rfl, rfl, .inr ⟨_, rfl, _, _, rfl, rfl, ?_⟩⟩
      refine ⟨_, eD, small1000 (by rw [natV_len, List.length_take]; exact Nat.le_trans (Nat.min_le_right _ _) (Nat.le_trans (Nat.le_of_ble_eq_true rfl : _ ≤ 2) (by omega))), same_fresh k1 nD, ?_⟩
      have hg : ([i].map (un m))[n]? = some (un m y) := by rw [List.getElem?_map, hyn]; rfl
      rw [upd_same, take_next hg, natV_app]
      congr 3
      show [V.int _] = [V.int _]
      congr 2
      exact un_int hym
    · obtain ⟨k10, eD⟩ := z
      rw [List.take_of_length_le (by rw [List.length_map]; exact Nat.le_of_eq (natV_len [i]).symm)] at eD
      have s810 := s9.trans k10
      have s010 := s08.trans s810
      have hTi10 := (Same.kt s010).seq hTi
      refine ⟨_, rfl, ap, _, 0, _, rfl, rfl, hTi10, rfl, _, rfl, le1k, fun p11 H11 s11 e11 => ⟨_, rfl, D, _, rfl, SqL.of (s11 _ _ eD), fun p12 H12 s12 e12 => ⟨p11, p12, _, _, rfl, rfl, (Same.kt s12).seq e11, e12, le1k, fun p13 H13 s13 e13 => ?_⟩⟩⟩
      have s1013 := s11.trans (s12.trans s13)
      have s813 := s810.trans s1013
      have s013 := s08.trans s813
      have hTi13 := (Same.kt s013).seq hTi
      refine ⟨_, rfl, _, rfl, _, _, rfl, .inl ⟨_, SqL.of (s813 _ _ e48), rfl⟩, 2, _, rfl, rfl, _, rfl, ap, _, rfl, hTi13, fun p14 H14 s14 e14 => ?_⟩
      have ef : (2 : Int) + ((natV nu).length : Nat) = ((2 + nu.length : Nat) : Int) := by omega
      rw [ef, cutFrom _ _ (by rw [lnu]; exact Nat.le_of_ble_eq_true rfl), lnu] at e14
      refine ⟨p13, p14, _, _, rfl, rfl, (Same.kt s14).seq e13, e14, le1k, fun p15 H15 s15 e15 => ?_⟩
      obtain ⟨u7, hu7e⟩ : ∃ u7 : V, u7 = .ref p15 := ⟨_, rfl⟩
      have s07 := s013.trans (s14.trans s15)
      generalize hFR : (ST.ch (ou b pp q m l) (un m i) d g) = FR at LK
      have hu7 : Dp K H15 u7 FR.data := by
        rw [← hFR, hu7e]
        have hb := dp_ou (b := b) ((Same.kt (s813.trans (s14.trans s15))).seq e8) (ds s07 hva) (ds s07 hvq)
        exact .tup e15 (.cons (.str _) (.cons hb (.cons (.int _) (.cons (.int _) (.cons (ds s07 hvf) .nil)))))
      rw [← hu7e]
      -- the tail
      have ll := ends_len FR LK.right
      have hlt := LK.lt
      have lsz := LK.size
      have ldp := LK.dpt
      rw [ou_size] at lsz
      rw [ou_dpt] at ldp
      refine ⟨_, rfl, u7, _, _, rfl, hu7, der_u FR LK.right (by omega), Nat.le_trans (dep_st _) (by omega), fun HA pA sA ⟨usA, eA, prA⟩ => ⟨_, _, rfl, .inl ⟨usA, SqL.of eA, rfl⟩, ?_⟩⟩
      have lA := paired_len prA
      refine ⟨_, rfl, _, rfl, _, _, rfl, rfl, _, rfl, RgOk.of_le (by omega) (by omega) (by omega) (by omega), fun pB HB sB eB => ?_⟩
      rw [elast, rg_nat] at eB
      have eM : (usA.length : Int) - 1 = ((FR.ends.length - 1 : Nat) : Int) := by omega
      refine ⟨_, rfl, _, _, rfl, rfl, le1k, fun pC HC sC eC => ?_⟩
      have eC : HC pC = some (.lst [V.int ((FR.ends.length - 1 : Nat) : Int)]) := by
        rw [← eM]
        exact eC
      refine ⟨pB, pC, _, _, rfl, rfl, sC _ _ eB, eC, ?_, fun pE HE sE eE => ?_⟩
      · rw [natV_len, List.length_range]
        show _ + 1 ≤ 1000
        omega
      refine ⟨_, rfl, _, _, rfl, rfl, _, rfl, _, _, rfl, rfl, _, _, rfl, rfl, RgOk.of_le (by omega) (by omega) (by omega) (by omega), fun pG HG sG eG => ?_⟩
      rw [elast, eM, rg_nat2 _ _ (by omega)] at eG
      refine ⟨pE, pG, _, _, rfl, rfl, sG _ _ eE, eG, ?_, fun pI HI sI eI => ?_⟩
      · rw [List.length_append, natV_len, natV_len, List.length_range, List.length_range']
        show _ + 1 + _ ≤ 1000
        omega
      have eO : natV (List.range ((ST.ch pp i d g).ends.length - 2)) ++ [V.int ((FR.ends.length - 1 : Nat) : Int)] ++ natV (List.range' ((ST.ch pp i d g).ends.length - 2) (FR.ends.length - 1 - ((ST.ch pp i d g).ends.length - 2))) = natV (ordL ((ST.ch pp i d g).ends.length - 2) FR.ends.length) := by
        unfold ordL
        rw [natV_app, natV_app]
        rfl
      rw [eO] at eI
      have sF := sA.trans (sB.trans (sC.trans (sE.trans (sG.trans sI))))
      have pO := ordL_perm hlt
      refine ⟨u7, pI, FR, _, rfl, ds sF hu7, SqL.of eI, ?_, fun HJ uJ sJ hJ => ?_⟩
      · have := perm_len pO
        omega
      refine q2 HJ uJ _ (s07.trans (sF.trans sJ)) hJ ⟨mvd_right LK.right pO, mvd_fit LK.fit pO, LK.ends, ?_, ?_⟩
      · have := mvd_size FR (ordL ((ST.ch pp i d g).ends.length - 2) FR.ends.length)
        rw [ou_size]
        omega
      · have := mvd_dpt FR (ordL ((ST.ch pp i d g).ends.length - 2) FR.ends.length)
        rw [ou_dpt]
        omega
  | of pa pb i j =>
    refine ite2 (fun _ => ?_) (fun c => absurd (decide_eq_true rfl) c)
    obtain ⟨ap', va, vb, eap, hTi, hva, hvb⟩ := dp_t5 hvp
    cases eap
    have LK := lift_of hR hF hk1
    obtain ⟨⟨ra, rb, hi, hj, hab⟩, _⟩ := (ou_right b (.of pa pb i j) q k l).mp hR
    refine ⟨Nat.zero_le _, fun L3 nL3 => ?_⟩
    have s3 := same_new nL3 (.lst [])
    have e3 : upd H2 L3 (.lst []) L3 = some (.lst []) := upd_same
    generalize upd H2 L3 (.lst []) = H3 at *
    have s03 := s02.trans s3
    have nH : H L3 = none := none_of s02 nL3
    have hTi3 := (Same.kt s03).seq hTi
    refine ⟨_, rfl, ap, _, 1, _, rfl, rfl, hTi3, rfl, _, rfl, ap, _, 3, _, rfl, rfl, hTi3, rfl, le1k, fun r1 H4 s4 e4 => ?_⟩
    have hTi4 := (Same.kt s4).seq hTi3
    refine ⟨_, rfl, ap, _, 2, _, rfl, rfl, hTi4, rfl, _, rfl, ap, _, 4, _, rfl, rfl, hTi4, rfl, le1k, fun r2 H5 s5 e5 => ⟨le1k, fun pl H6 s6 e6 => ?_⟩⟩
    have s36 := s4.trans (s5.trans s6)
    have s06 := s03.trans s36
    refine ⟨pl, rfl, ⟨_, SqL.of e6⟩, ?_⟩
    have eL6 : H6 L3 = some (.lst []) := s36 _ _ e3
    have npl : pl ≠ L3 := fun z => by
      rw [z, eL6] at e6
      injection e6 with h
      injection h with h
      cases h
    have hTo : KT H6 H6 := KT.refl _
    refine for_it walk_list (fun n σ H' => Same H2 H' ∧ KT H6 H' ∧ H' pl = some (.lst [.ref r1, .ref r2]) ∧ ∃ (o4 o5 o6 : Option V) (prs : List V), σ = [some (.ref a0), some (.ref ap), some (.int ((us2.length : Int) - 1)), some (.ref L3), o4, o5, o6, none, none, none, none, none, none] ∧ H' L3 = some (.lst prs) ∧
      Paired (fun (x : V) (e : V × Nat) => ∃ r r' : Addr, x = .ref r ∧ SqT K H' r [.ref r', .int (un (sh e.2 k) e.2 : Nat)] ∧ SqT K H' r' [.str (wd b), e.1, vq, .int (sh e.2 k : Nat), .int l]) prs ([(va, i), (vb, j)].take n))
      ⟨s3.trans s36, hTo, e6, none, none, none, [], rfl, eL6, .nil⟩ (fun n σ H' _ y => SqL.of y.2.2.1) (fun n x σ H7 H8 hn yy y2 => ?_) (fun σ H7 yy => ?_)
    · obtain ⟨rfl, hy⟩ := y2
      obtain ⟨s27, k67, ePl, o4, o5, o6, prs, rfl, eL7, pr7⟩ := yy
      obtain ⟨r, e, rfl, hLn, hr6⟩ : ∃ (r : Addr) (e : V × Nat), x = .ref r ∧ [(va, i), (vb, j)][n]? = some e ∧ SqT K H6 r [e.1, .int e.2] := by
        have hn2 : n < 2 := hn
        obtain rfl | rfl : n = 0 ∨ n = 1 := by omega
        · exact ⟨r1, _, (Option.some.inj hy).symm, rfl, (Same.kt (s5.trans s6)).seq e4⟩
        · exact ⟨r2, _, (Option.some.inj hy).symm, rfl, (Same.kt s6).seq e5⟩
      have hr7 := k67.seq hr6
      refine ⟨r, _, rfl, hr7, rfl, _, _, rfl, _, _, rfl, rfl, ?_⟩
      have kt27 := (Same.kt (s02.trans s27))
      have hT7 := kt27.seq hT
      have hne : sh e.2 k ≠ e.2 := by unfold sh; split <;> omega
      refine ⟨_, rfl, a0, _, 3, _, rfl, rfl, hT7, rfl, _, rfl, _, _, rfl, rfl, _, rfl, ?_⟩
      have sgn : (k : Int) < (e.2 : Int) → (k : Int) = ((sh e.2 k : Nat) : Int) := fun z => by
        unfold sh
        rw [if_pos (by omega)]
      have sgp : ¬ (k : Int) < (e.2 : Int) → (k : Int) + 1 = ((sh e.2 k : Nat) : Int) := fun z => by
        unfold sh
        rw [if_neg (by omega)]
        omega
      refine ite2 (fun c => ?b1) (fun c => ?b2)
      case' b1 =>
        have hm := sgn (of_decide_eq_true c)
        refine ⟨_, rfl, a0, _, 3, _, rfl, rfl, hT7, rfl, ?_⟩
      case' b2 =>
        have hm := sgp (fun z => c (decide_eq_true z))
        refine ⟨_, rfl, a0, _, 3, _, rfl, rfl, hT7, rfl, _, _, rfl, rfl, ?_⟩
      all_goals
        refine ⟨_, rfl, .inl ⟨rfl, _, SqL.of eL7⟩, _, rfl, a0, _, 0, _, rfl, rfl, hT7, at0, _, rfl, _, rfl, a0, _, 2, _, rfl, rfl, hT7, rfl, _, rfl, _, rfl, a0, _, 4, _, rfl, rfl, hT7, rfl, le1k, fun t1 H9 s9 e9 => ?_⟩
        refine ⟨_, rfl, _, rfl, _, rfl, _, _, rfl, rfl, .inr ⟨_, rfl, _, _, rfl, rfl, le1k, fun t2 H10 s10 e10 => ?_⟩⟩
        have e9' : SqT K H9 t1 [.str (wd b), e.1, vq, .int (sh e.2 k : Nat), .int l] := by
          rw [← hm]
          exact e9
        have e10' : SqT K H10 t2 [.ref t1, .int (un (sh e.2 k) e.2 : Nat)] := by
          rw [← un_int hne.symm, ← hm]
          exact e10
        have s810 := s9.trans s10
        have eL10 := s810 _ _ eL7
        have len1 : prs.length ≤ 2 := by
          have := paired_len pr7
          rw [List.length_take] at this
          simp at this
          omega
        refine ⟨L3, _, _, rfl, rfl, eL10, small1000 (by omega), ?_⟩
        have kL : KT H10 (upd H10 L3 (.lst (prs ++ [.ref t2]))) := same_ktL eL10
        refine ⟨same_fresh (s27.trans s810) nL3, (k67.trans (Same.kt s810)).trans kL, by rw [upd_ne npl]; exact s810 _ _ ePl, _, _, _, prs ++ [.ref t2], rfl, upd_same, ?_⟩
        rw [take_next hLn]
        refine paired_app (paired_imp (fun _ _ ⟨r, r', h1, h2, h3⟩ => ⟨r, r', h1, ((Same.kt s810).trans kL).seq h2, ((Same.kt s810).trans kL).seq h3⟩) pr7) (.cons ⟨t2, t1, rfl, kL.seq e10', kL.seq ((Same.kt s10).seq e9')⟩ .nil)
    · obtain ⟨s27, k67, ePl, o4, o5, o6, prs, rfl, eL7, pr7⟩ := yy
      cases pr7 with
      | cons g1 pr7 =>
      cases pr7 with
      | cons g2 pr7 =>
      cases pr7
      obtain ⟨g1r, g1t, rfl, g1a, g1b⟩ := g1
      obtain ⟨g2r, g2t, rfl, g2a, g2b⟩ := g2
      have s07 := s02.trans s27
      refine ⟨_, rfl, L3, _, 0, _, rfl, rfl, SqL.of eL7, rfl, g1r, _, 0, _, rfl, rfl, g1a, rfl, _, rfl, L3, _, 1, _, rfl, rfl, SqL.of eL7, rfl, g2r, _, 0, _, rfl, rfl, g2a, rfl, _, rfl, L3, _, 0, _, rfl, rfl, SqL.of eL7, rfl, g1r, _, 1, _, rfl, rfl, g1a, rfl, _, rfl, L3, _, 1, _, rfl, rfl, SqL.of eL7, rfl, g2r, _, 1, _, rfl, rfl, g2a, rfl, le1k, fun r9 H9 s9 e9 => ?_⟩
      obtain ⟨u7, hu7e⟩ : ∃ u7 : V, u7 = .ref r9 := ⟨_, rfl⟩
      generalize hFR : ST.of (ou b pa q (sh i k) l) (ou b pb q (sh j k) l) (un (sh i k) i) (un (sh j k) j) = FR at LK
      have kt9 := Same.kt s9
      have s09 := s07.trans s9
      have hu7 : Dp K H9 u7 FR.data := by
        rw [← hFR, hu7e]
        exact .tup e9 (.cons (.str _) (.cons (dp_ou (kt9.seq g1b) (ds s09 hva) (ds s09 hvq)) (.cons (dp_ou (kt9.seq g2b) (ds s09 hvb) (ds s09 hvq)) (.cons (.int _) (.cons (.int _) .nil)))))
      rw [← hu7e]
      have s07 := s09
      -- the tail
      have ll := ends_len FR LK.right
      have hlt := LK.lt
      have lsz := LK.size
      have ldp := LK.dpt
      rw [ou_size] at lsz
      rw [ou_dpt] at ldp
      refine ⟨_, rfl, u7, _, _, rfl, hu7, der_u FR LK.right (by omega), Nat.le_trans (dep_st _) (by omega), fun HA pA sA ⟨usA, eA, prA⟩ => ⟨_, _, rfl, .inl ⟨usA, SqL.of eA, rfl⟩, ?_⟩⟩
      have lA := paired_len prA
      refine ⟨_, rfl, _, rfl, _, _, rfl, rfl, _, rfl, RgOk.of_le (by omega) (by omega) (by omega) (by omega), fun pB HB sB eB => ?_⟩
      rw [elast, rg_nat] at eB
      have eM : (usA.length : Int) - 1 = ((FR.ends.length - 1 : Nat) : Int) := by omega
      refine ⟨_, rfl, _, _, rfl, rfl, le1k, fun pC HC sC eC => ?_⟩
      have eC : HC pC = some (.lst [V.int ((FR.ends.length - 1 : Nat) : Int)]) := by
        rw [← eM]
        exact eC
      refine ⟨pB, pC, _, _, rfl, rfl, sC _ _ eB, eC, ?_, fun pE HE sE eE => ?_⟩
      · rw [natV_len, List.length_range]
        show _ + 1 ≤ 1000
        omega
      refine ⟨_, rfl, _, _, rfl, rfl, _, rfl, _, _, rfl, rfl, _, _, rfl, rfl, RgOk.of_le (by omega) (by omega) (by omega) (by omega), fun pG HG sG eG => ?_⟩
      rw [elast, eM, rg_nat2 _ _ (by omega)] at eG
      refine ⟨pE, pG, _, _, rfl, rfl, sG _ _ eE, eG, ?_, fun pI HI sI eI => ?_⟩
      · rw [List.length_append, natV_len, natV_len, List.length_range, List.length_range']
        show _ + 1 + _ ≤ 1000
        omega
      have eO : natV (List.range ((ST.of pa pb i j).ends.length - 2)) ++ [V.int ((FR.ends.length - 1 : Nat) : Int)] ++ natV (List.range' ((ST.of pa pb i j).ends.length - 2) (FR.ends.length - 1 - ((ST.of pa pb i j).ends.length - 2))) = natV (ordL ((ST.of pa pb i j).ends.length - 2) FR.ends.length) := by
        unfold ordL
        rw [natV_app, natV_app]
        rfl
      rw [eO] at eI
      have sF := sA.trans (sB.trans (sC.trans (sE.trans (sG.trans sI))))
      have pO := ordL_perm hlt
      refine ⟨u7, pI, FR, _, rfl, ds sF hu7, SqL.of eI, ?_, fun HJ uJ sJ hJ => ?_⟩
      · have := perm_len pO
        omega
      refine q2 HJ uJ _ (s07.trans (sF.trans sJ)) hJ ⟨mvd_right LK.right pO, mvd_fit LK.fit pO, LK.ends, ?_, ?_⟩
      · have := mvd_size FR (ordL ((ST.of pa pb i j).ends.length - 2) FR.ends.length)
        rw [ou_size]
        omega
      · have := mvd_dpt FR (ordL ((ST.of pa pb i j).ends.length - 2) FR.ends.length)
        rw [ou_dpt]
        omega
end
end My

set_option Elab.async false
set_option linter.all false
set_option maxRecDepth 100000
namespace My
open PySem L2
open ST
/-! ### the plain deed is right, and fits if its form is small -/
theorem fits_l {s : Sg} {l r : FT} (h : Fits (.node s l r)) : Fits l := ⟨h.1.1, by have := h.2; rw [node_dep] at this; omega⟩
theorem fits_r {s : Sg} {l r : FT} (h : Fits (.node s l r)) : Fits r := ⟨h.1.2, by have := h.2; rw [node_dep] at this; omega⟩
theorem fits_c {t : FT} (h : Fits t) : Fits (cnt t) := ⟨cnt_ok t h.1, by rw [cnt_dep]; exact h.2⟩
theorem fits_n {s s' : Sg} {l r l' r' : FT} (h : Fits (.node s l r)) (h1 : l'.Ok) (h2 : r'.Ok) (e1 : l'.dep = l.dep) (e2 : r'.dep = r.dep) : Fits (.node s' l' r') := ⟨⟨h1, h2⟩, by have := h.2; rw [node_dep] at this ⊢; omega⟩
theorem e_bo0 (l r : FT) : (ST.bo (pl l) (pl r) 0 0).ends = [cnt l, cnt r, .node .mul l r] := by rw [ends, pl_ends, pl_ends]; rfl
theorem e_bo1 (l r : FT) : (ST.bo (pl l) (pl r) 1 1).ends = [l, r, .node .mul (cnt l) (cnt r)] := by rw [ends, pl_ends, pl_ends]; rfl
theorem e_bt0 (l r : FT) : (ST.bt (.bo (pl l) (pl r) 0 0) 0 1).ends = [.node .mul l r, .node .bar (cnt l) (cnt r)] := by rw [ends, e_bo0]; rfl
theorem e_bt1 (l r : FT) : (ST.bt (.bo (pl l) (pl r) 1 1) 0 1).ends = [.node .mul (cnt l) (cnt r), .node .bar l r] := by rw [ends, e_bo1]; rfl
theorem e_ch10 (l r : FT) : (ST.ch (pl l) 1 0 (cnt r)).ends = [l, .node .plus (cnt l) (cnt r)] := by rw [ends, pl_ends]; rfl
theorem e_ch11 (l r : FT) : (ST.ch (pl r) 1 1 (cnt l)).ends = [r, .node .plus (cnt l) (cnt r)] := by rw [ends, pl_ends]; rfl
theorem e_ch00 (l r : FT) : (ST.ch (pl l) 0 0 r).ends = [cnt l, .node .plus l r] := by rw [ends, pl_ends]; rfl
theorem e_ch01 (l r : FT) : (ST.ch (pl r) 0 1 l).ends = [cnt r, .node .plus l r] := by rw [ends, pl_ends]; rfl
theorem e_of1 (l r : FT) : (ST.of (.ch (pl l) 1 0 (cnt r)) (.ch (pl r) 1 1 (cnt l)) 0 0).ends = [.node .plus (cnt l) (cnt r), .node .amp l r] := by rw [ends, e_ch10, e_ch11]; rfl
theorem e_of0 (l r : FT) : (ST.of (.ch (pl l) 0 0 r) (.ch (pl r) 0 1 l) 0 0).ends = [.node .plus l r, .node .amp (cnt l) (cnt r)] := by rw [ends, e_ch00, e_ch01]; rfl
theorem perm10 : [1, 0].Perm (List.range 2) := List.Perm.swap 0 1 []
theorem pl_right : ∀ t : FT, Fits t → (pl t).Right
  | .leaf false n, h => h.1
  | .leaf true n, h => ⟨h.1, perm10⟩
  | .node .mul l r, h => ⟨⟨pl_right l (fits_l h), pl_right r (fits_r h), by rw [pl_ends]; exact Nat.le_of_ble_eq_true rfl, by rw [pl_ends]; exact Nat.le_of_ble_eq_true rfl⟩, by rw [e_bo0]; exact Nat.le_of_ble_eq_true rfl, by rw [e_bo0]; exact Nat.le_of_ble_eq_true rfl, by decide⟩
  | .node .bar l r, h => ⟨⟨⟨pl_right l (fits_l h), pl_right r (fits_r h), by rw [pl_ends]; exact Nat.le_of_ble_eq_true rfl, by rw [pl_ends]; exact Nat.le_of_ble_eq_true rfl⟩, by rw [e_bo1]; exact Nat.le_of_ble_eq_true rfl, by rw [e_bo1]; exact Nat.le_of_ble_eq_true rfl, by decide⟩, by rw [e_bt1]; exact perm10⟩
  | .node .amp l r, h => ⟨⟨⟨pl_right l (fits_l h), by rw [pl_ends]; exact Nat.le_of_ble_eq_true rfl, by decide, fits_c (fits_r h)⟩, ⟨pl_right r (fits_r h), by rw [pl_ends]; exact Nat.le_of_ble_eq_true rfl, by decide, fits_c (fits_l h)⟩, by rw [e_ch10]; exact Nat.le_of_ble_eq_true rfl, by rw [e_ch11]; exact Nat.le_of_ble_eq_true rfl, by rw [e_ch10, e_ch11]; rfl⟩, by rw [e_of1]; exact perm10⟩
  | .node .plus l r, h => ⟨⟨pl_right l (fits_l h), by rw [pl_ends]; exact Nat.le_of_ble_eq_true rfl, by decide, fits_r h⟩, ⟨pl_right r (fits_r h), by rw [pl_ends]; exact Nat.le_of_ble_eq_true rfl, by decide, fits_l h⟩, by rw [e_ch00]; exact Nat.le_of_ble_eq_true rfl, by rw [e_ch01]; exact Nat.le_of_ble_eq_true rfl, by rw [e_ch00, e_ch01]; rfl⟩
theorem lv2 (a b : FT) : lvsL [a, b] = a.lvs + b.lvs := by rw [lvsL_cons, lvsL_cons]; show _ + (_ + 0) = _; omega
theorem lv3 (a b c : FT) : lvsL [a, b, c] = a.lvs + b.lvs + c.lvs := by rw [lvsL_cons, lv2]; omega
theorem fitA2 {a b : FT} (ha : Fits a) (hb : Fits b) (h : a.lvs + b.lvs ≤ 40) : Fit [a, b] := fit_by (fun t ht => by
    simp only [List.mem_cons, List.not_mem_nil, or_false] at ht
    rcases ht with rfl | rfl
    · exact ha
    · exact hb) (by simp) (by rw [lv2]; exact h)
theorem fitA3 {a b c : FT} (ha : Fits a) (hb : Fits b) (hc : Fits c) (h : a.lvs + b.lvs + c.lvs ≤ 40) : Fit [a, b, c] := fit_by (fun t ht => by
    simp only [List.mem_cons, List.not_mem_nil, or_false] at ht
    rcases ht with rfl | rfl | rfl
    · exact ha
    · exact hb
    · exact hc) (by simp) (by rw [lv3]; exact h)
theorem pl_fit : ∀ t : FT, Fits t → t.lvs ≤ 20 → (pl t).FitA
  | .leaf false n, h, _ => fitA2 (a := .leaf false n) (b := .leaf true n) h h (Nat.le_of_ble_eq_true rfl)
  | .leaf true n, h, _ => ⟨fitA2 (a := .leaf true n) (b := .leaf false n) h h (Nat.le_of_ble_eq_true rfl), fitA2 (a := .leaf false n) (b := .leaf true n) h h (Nat.le_of_ble_eq_true rfl)⟩
  | .node .mul l r, h, v => by
    rw [node_lvs] at v
    have c1 := cnt_lvs l
    have c2 := cnt_lvs r
    refine ⟨?_, ?_, pl_fit l (fits_l h) (by omega), pl_fit r (fits_r h) (by omega)⟩
    · rw [e_bt0]
      exact fitA2 h (fits_n h (cnt_ok l h.1.1) (cnt_ok r h.1.2) (cnt_dep l) (cnt_dep r)) (by rw [node_lvs, node_lvs]; omega)
    · rw [e_bo0]
      exact fitA3 (fits_c (fits_l h)) (fits_c (fits_r h)) h (by rw [node_lvs]; omega)
  | .node .bar l r, h, v => by
    rw [node_lvs] at v
    have c1 := cnt_lvs l
    have c2 := cnt_lvs r
    have hc : Fits (.node .mul (cnt l) (cnt r)) := fits_n h (cnt_ok l h.1.1) (cnt_ok r h.1.2) (cnt_dep l) (cnt_dep r)
    have f1 : Fit (ST.bt (.bo (pl l) (pl r) 1 1) 0 1).ends := by
      rw [e_bt1]
      exact fitA2 hc h (by rw [node_lvs, node_lvs]; omega)
    refine ⟨?_, f1, ?_, pl_fit l (fits_l h) (by omega), pl_fit r (fits_r h) (by omega)⟩
    · refine f1.perm ?_
      show List.Perm (ST.bt (.bo (pl l) (pl r) 1 1) 0 1).ends ([1, 0].map (nth (ST.bt (.bo (pl l) (pl r) 1 1) 0 1).ends))
      rw [e_bt1]
      exact List.Perm.swap _ _ []
    · rw [e_bo1]
      exact fitA3 (fits_l h) (fits_r h) hc (by rw [node_lvs]; omega)
  | .node .amp l r, h, v => by
    rw [node_lvs] at v
    have c1 := cnt_lvs l
    have c2 := cnt_lvs r
    have hc : Fits (.node .plus (cnt l) (cnt r)) := fits_n h (cnt_ok l h.1.1) (cnt_ok r h.1.2) (cnt_dep l) (cnt_dep r)
    have f1 : Fit (ST.of (.ch (pl l) 1 0 (cnt r)) (.ch (pl r) 1 1 (cnt l)) 0 0).ends := by
      rw [e_of1]
      exact fitA2 hc h (by rw [node_lvs, node_lvs]; omega)
    refine ⟨?_, f1, ⟨?_, pl_fit l (fits_l h) (by omega)⟩, ?_, pl_fit r (fits_r h) (by omega)⟩
    · refine f1.perm ?_
      show List.Perm (ST.of (.ch (pl l) 1 0 (cnt r)) (.ch (pl r) 1 1 (cnt l)) 0 0).ends ([1, 0].map (nth (ST.of (.ch (pl l) 1 0 (cnt r)) (.ch (pl r) 1 1 (cnt l)) 0 0).ends))
      rw [e_of1]
      exact List.Perm.swap _ _ []
    · rw [e_ch10]
      exact fitA2 (fits_l h) hc (by rw [node_lvs]; omega)
    · rw [e_ch11]
      exact fitA2 (fits_r h) hc (by rw [node_lvs]; omega)
  | .node .plus l r, h, v => by
    rw [node_lvs] at v
    have c1 := cnt_lvs l
    have c2 := cnt_lvs r
    have hc : Fits (.node .amp (cnt l) (cnt r)) := fits_n h (cnt_ok l h.1.1) (cnt_ok r h.1.2) (cnt_dep l) (cnt_dep r)
    refine ⟨?_, ⟨?_, pl_fit l (fits_l h) (by omega)⟩, ?_, pl_fit r (fits_r h) (by omega)⟩
    · rw [e_of0]
      exact fitA2 h hc (by rw [node_lvs, node_lvs]; omega)
    · rw [e_ch00]
      exact fitA2 (fits_c (fits_l h)) h (by rw [node_lvs]; omega)
    · rw [e_ch01]
      exact fitA2 (fits_c (fits_r h)) h (by rw [node_lvs]; omega)
/-! ### a hand on to the plain deed of an end -/
theorem less_split {l : List FT} {i : Nat} (h : i < l.length) : l = l.take i ++ [nth l i] ++ l.drop (i + 1) := by
  rw [List.append_assoc, List.singleton_append, ← drop_get (nth_get h), List.take_append_drop]
theorem ha_ends {s : ST} {i : Nat} : (ST.ha s (pl (nth s.ends i)) i 1).ends = s.ends.take i ++ s.ends.drop (i + 1) ++ [nth s.ends i] := by
  rw [ends, pl_ends]
  rfl
theorem ha_right {s : ST} {i : Nat} (h : s.Right) (f : s.FitA) (hi : i < s.ends.length) : (ST.ha s (pl (nth s.ends i)) i 1).Right :=
  ⟨h, pl_right _ ((FitsA.fit f).2.2.1 _ (nth_mem hi)), hi, by rw [pl_ends]; exact Nat.le_of_ble_eq_true rfl, by rw [pl_ends]; rfl⟩
theorem ha_len {s : ST} {i : Nat} (hi : i < s.ends.length) : (ST.ha s (pl (nth s.ends i)) i 1).ends.length = s.ends.length := by
  rw [ha_ends, List.length_append, List.length_append, List.length_take, List.length_drop]
  show _ + 1 = _
  omega
theorem ha_fit {s : ST} {i : Nat} (f : s.FitA) (hi : i < s.ends.length) (v : (nth s.ends i).lvs ≤ 20) : (ST.ha s (pl (nth s.ends i)) i 1).FitA := by
  refine ⟨?_, f, pl_fit _ ((FitsA.fit f).2.2.1 _ (nth_mem hi)) v⟩
  refine (FitsA.fit f).perm ?_
  rw [ha_ends]
  conv => lhs; rw [less_split hi]
  rw [List.append_assoc, List.append_assoc]
  exact List.Perm.append_left _ List.perm_append_comm
theorem ha_back {s : ST} {i : Nat} (hi : i < s.ends.length) : (mvd (ST.ha s (pl (nth s.ends i)) i 1) (ordL i s.ends.length)).ends = s.ends := by
  have e1 : (s.ends.take i).length = i := by rw [List.length_take]; omega
  have e2 : s.ends.length = (s.ends.take i).length + (s.ends.drop (i + 1)).length + 1 := by rw [e1, List.length_drop]; omega
  rw [mvd_ends (by rw [ha_len hi]; exact ordL_perm hi), ha_ends]
  have := ordL_map (s.ends.take i) (s.ends.drop (i + 1)) (nth s.ends i)
  rw [← e2, e1] at this
  rw [this]
  exact (less_split hi).symm
theorem ex_ha {s : ST} {i : Nat} (h : s.Right) (f : s.FitA) (hi : i < s.ends.length) (v : (nth s.ends i).lvs ≤ 4) : Ex s (mvd (ST.ha s (pl (nth s.ends i)) i 1) (ordL i s.ends.length)) (s.size + 22) (s.dpt + 12) := by
  have po : (ordL i s.ends.length).Perm (List.range (ST.ha s (pl (nth s.ends i)) i 1).ends.length) := by rw [ha_len hi]; exact ordL_perm hi
  have h1 := pl_size (nth s.ends i)
  have h2 := pl_dpt (nth s.ends i)
  have h3 := dep_lvs (nth s.ends i)
  have h4 := dpt_pos s
  have m1 := mvd_size (ST.ha s (pl (nth s.ends i)) i 1) (ordL i s.ends.length)
  have m2 := mvd_dpt (ST.ha s (pl (nth s.ends i)) i 1) (ordL i s.ends.length)
  simp only [size, dpt] at m1 m2
  exact ⟨mvd_right (ha_right h f hi) po, mvd_fit (ha_fit f hi (by omega)) po, ha_back hi, by omega, by omega⟩
end My

set_option Elab.async false
set_option linter.all false
set_option maxRecDepth 100000
namespace My
open PySem L2
open ST
/-! ### a step within put for another, and orders undone -/
def repl : ST → Nat → ST → ST
  | .lk n, _, _ => .lk n
  | .bo p q i j, r, x => if r = 0 then .bo x q i j else .bo p x i j
  | .bt p i j, _, x => .bt x i j
  | .of p q i j, r, x => if r = 0 then .of x q i j else .of p x i j
  | .ch p i d f, _, x => .ch x i d f
  | .ha p q i j, r, x => if r = 0 then .ha x q i j else .ha p x i j
  | .tu p os, _, x => .tu x os
theorem repl_data {t x : ST} {r : Nat} {ds : List PyData} (h : t.data = .tuple ds) (hr : r < (subST t).length) : (repl t r x).data = .tuple (ds.set (r + 1) x.data) := by
  cases t with
  | lk n => exact absurd hr (Nat.not_lt_zero _)
  | bo p q i j =>
    obtain rfl | rfl : r = 0 ∨ r = 1 := by
      have : r < 2 := hr
      omega
    all_goals (injection h with h; subst h; rfl)
  | bt p i j =>
    obtain rfl : r = 0 := by
      have : r < 1 := hr
      omega
    injection h with h; subst h; rfl
  | of p q i j =>
    obtain rfl | rfl : r = 0 ∨ r = 1 := by
      have : r < 2 := hr
      omega
    all_goals (injection h with h; subst h; rfl)
  | ch p i d f =>
    obtain rfl : r = 0 := by
      have : r < 1 := hr
      omega
    injection h with h; subst h; rfl
  | ha p q i j =>
    obtain rfl | rfl : r = 0 ∨ r = 1 := by
      have : r < 2 := hr
      omega
    all_goals (injection h with h; subst h; rfl)
  | tu p os =>
    obtain rfl : r = 0 := by
      have : r < 1 := hr
      omega
    injection h with h; subst h; rfl
theorem repl_ex {t p x : ST} {r a b : Nat} (hp : (subST t)[r]? = some p) (hR : t.Right) (hF : t.FitA) (h : Ex p x a b) : Ex t (repl t r x) (t.size - p.size + a) (max t.dpt (1 + b)) := by
  have e := h.ends
  have hr : r < (subST t).length := (List.getElem?_eq_some_iff.mp hp).1
  have hs := h.size
  have hd := h.dpt
  have ef : ∀ y : ST, y.ends = t.ends → Fit y.ends := fun y z => z ▸ FitsA.fit hF
  cases t with
  | lk n => exact absurd hr (Nat.not_lt_zero _)
  | bo u w i j =>
    obtain rfl | rfl : r = 0 ∨ r = 1 := by
      have : r < 2 := hr
      omega
    all_goals
      obtain rfl := Option.some.inj hp
    · have e2 : (ST.bo x w i j).ends = (ST.bo u w i j).ends := by simp only [ends, e]
      exact ⟨⟨h.right, hR.2.1, by rw [e]; exact hR.2.2.1, hR.2.2.2⟩, ⟨ef _ e2, h.fit, hF.2.2⟩, e2, by simp only [repl, if_true, size]; omega, by simp only [repl, if_true, dpt]; omega⟩
    · have e2 : (ST.bo u x i j).ends = (ST.bo u w i j).ends := by simp only [ends, e]
      exact ⟨⟨hR.1, h.right, hR.2.2.1, by rw [e]; exact hR.2.2.2⟩, ⟨ef _ e2, hF.2.1, h.fit⟩, e2, by simp only [repl, Nat.one_ne_zero, if_false, size]; omega, by simp only [repl, Nat.one_ne_zero, if_false, dpt]; omega⟩
  | of u w i j =>
    obtain rfl | rfl : r = 0 ∨ r = 1 := by
      have : r < 2 := hr
      omega
    all_goals
      obtain rfl := Option.some.inj hp
    · have e2 : (ST.of x w i j).ends = (ST.of u w i j).ends := by simp only [ends, e]
      exact ⟨⟨h.right, hR.2.1, by rw [e]; exact hR.2.2.1, hR.2.2.2.1, by rw [e]; exact hR.2.2.2.2⟩, ⟨ef _ e2, h.fit, hF.2.2⟩, e2, by simp only [repl, if_true, size]; omega, by simp only [repl, if_true, dpt]; omega⟩
    · have e2 : (ST.of u x i j).ends = (ST.of u w i j).ends := by simp only [ends, e]
      exact ⟨⟨hR.1, h.right, hR.2.2.1, by rw [e]; exact hR.2.2.2.1, by rw [e]; exact hR.2.2.2.2⟩, ⟨ef _ e2, hF.2.1, h.fit⟩, e2, by simp only [repl, Nat.one_ne_zero, if_false, size]; omega, by simp only [repl, Nat.one_ne_zero, if_false, dpt]; omega⟩
  | ha u w i j =>
    obtain rfl | rfl : r = 0 ∨ r = 1 := by
      have : r < 2 := hr
      omega
    all_goals
      obtain rfl := Option.some.inj hp
    · have e2 : (ST.ha x w i j).ends = (ST.ha u w i j).ends := by simp only [ends, e]
      exact ⟨⟨h.right, hR.2.1, by rw [e]; exact hR.2.2.1, hR.2.2.2.1, by rw [e]; exact hR.2.2.2.2⟩, ⟨ef _ e2, h.fit, hF.2.2⟩, e2, by simp only [repl, if_true, size]; omega, by simp only [repl, if_true, dpt]; omega⟩
    · have e2 : (ST.ha u x i j).ends = (ST.ha u w i j).ends := by simp only [ends, e]
      exact ⟨⟨hR.1, h.right, hR.2.2.1, by rw [e]; exact hR.2.2.2.1, by rw [e]; exact hR.2.2.2.2⟩, ⟨ef _ e2, hF.2.1, h.fit⟩, e2, by simp only [repl, Nat.one_ne_zero, if_false, size]; omega, by simp only [repl, Nat.one_ne_zero, if_false, dpt]; omega⟩
  | bt u i j =>
    obtain rfl : r = 0 := by
      have : r < 1 := hr
      omega
    obtain rfl := Option.some.inj hp
    have e2 : (ST.bt x i j).ends = (ST.bt u i j).ends := by simp only [ends, e]
    exact ⟨⟨h.right, by rw [e]; exact hR.2.1, by rw [e]; exact hR.2.2.1, hR.2.2.2⟩, ⟨ef _ e2, h.fit⟩, e2, by simp only [repl, size]; omega, by simp only [repl, dpt]; omega⟩
  | ch u i d f =>
    obtain rfl : r = 0 := by
      have : r < 1 := hr
      omega
    obtain rfl := Option.some.inj hp
    have e2 : (ST.ch x i d f).ends = (ST.ch u i d f).ends := by simp only [ends, e]
    exact ⟨⟨h.right, by rw [e]; exact hR.2.1, hR.2.2⟩, ⟨ef _ e2, h.fit⟩, e2, by simp only [repl, size]; omega, by simp only [repl, dpt]; omega⟩
  | tu u os =>
    obtain rfl : r = 0 := by
      have : r < 1 := hr
      omega
    obtain rfl := Option.some.inj hp
    have e2 : (ST.tu x os).ends = (ST.tu u os).ends := by simp only [ends, e]
    exact ⟨⟨h.right, by rw [e]; exact hR.2⟩, ⟨ef _ e2, h.fit⟩, e2, by simp only [repl, size]; omega, by simp only [repl, dpt]; omega⟩
/-- the places of 0, 1, .. in an order -/
def Back (os bl : List Nat) : Prop := ∀ a, a < bl.length → ∃ j : Nat, bl[a]? = some j ∧ os[j]? = some a
theorem back_perm {os bl : List Nat} {m : Nat} (h : os.Perm (List.range m)) (hb : Back os bl) (hl : bl.length = m) : bl.Perm (List.range m) := by
  refine all_perm hl fun k hk => ?_
  have hk' : k < os.length := by rw [perm_len h]; exact hk
  have ha : os[k] < m := List.mem_range.mp (h.mem_iff.mp (List.getElem_mem hk'))
  obtain ⟨j, h1, h2⟩ := hb os[k] (by omega)
  have nd : os.Nodup := h.symm.nodup List.nodup_range
  have e : j = k := (List.getElem?_inj (List.getElem?_eq_some_iff.mp h2).1 nd).mp (h2.trans (List.getElem?_eq_getElem hk').symm)
  subst e
  exact List.mem_of_getElem? h1
theorem back_map {os bl : List Nat} {xs : List FT} (h : os.Perm (List.range xs.length)) (hb : Back os bl) (hl : bl.length = xs.length) : bl.map (nth (os.map (nth xs))) = xs := by
  apply List.ext_getElem?
  intro a
  rw [List.getElem?_map]
  by_cases ha : a < bl.length
  · obtain ⟨j, h1, h2⟩ := hb a ha
    rw [h1, nth_get (by omega : a < xs.length)]
    show some (nth (os.map (nth xs)) j) = _
    unfold nth
    rw [List.getD_eq_getElem?_getD, List.getElem?_map, h2]
    rfl
  · rw [List.getElem?_eq_none (by omega), List.getElem?_eq_none (by omega)]
    rfl
theorem ex_tt {s : ST} {os bl : List Nat} (r : s.Right) (f : s.FitA) (p : os.Perm (List.range s.ends.length)) (hb : Back os bl) (hl : bl.length = s.ends.length) : Ex s (.tu (.tu s os) bl) (s.size + 2) (s.dpt + 2) := by
  have e : (ST.tu (.tu s os) bl).ends = s.ends := back_map p hb hl
  have l1 : (ST.tu s os).ends.length = s.ends.length := by
    show (os.map _).length = _
    rw [List.length_map, perm_len p]
  have f1 : Fit (ST.tu s os).ends := (FitsA.fit f).perm (perm_map p).symm
  exact ⟨⟨⟨r, p⟩, by rw [l1]; exact back_perm p hb hl⟩, ⟨by rw [e]; exact FitsA.fit f, f1, f⟩, e, by simp only [size]; omega, by simp only [dpt]; omega⟩
theorem idx_ex {os : List Nat} {m a : Nat} (h : os.Perm (List.range m)) (ha : a < m) : ∃ j : Nat, os[j]? = some a ∧ ∀ i : Nat, i < j → os[i]? ≠ some a := by
  have hm : a ∈ os := h.mem_iff.mpr (List.mem_range.mpr ha)
  obtain ⟨j, hj⟩ := List.mem_iff_getElem?.mp hm
  have nd : os.Nodup := h.symm.nodup List.nodup_range
  refine ⟨j, hj, fun i hi e => ?_⟩
  have : j = i := (List.getElem?_inj (List.getElem?_eq_some_iff.mp hj).1 nd).mp (hj.trans e.symm)
  omega
theorem Ex.le {s s' : ST} {a b a' b' : Nat} (h : Ex s s' a b) (ha : a ≤ a') (hb : b ≤ b') : Ex s s' a' b' := ⟨h.right, h.fit, h.ends, Nat.le_trans h.size ha, Nat.le_trans h.dpt hb⟩
theorem data_len {t : ST} {d : PyData} {r : List PyData} (h : t.data = .tuple (d :: r)) : r.length ≤ 4 := by
  cases t <;> (injection h with h; injection h with _ h; subst h; exact Nat.le_of_ble_eq_true rfl)
theorem dpAll_set {K : PySem.W.Frag} {H : Hp} {v : V} {d : PyData} (h : Dp K H v d) : ∀ {xs : List V} {ds : List PyData} (n : Nat), DpAll K H xs ds → DpAll K H (xs.set n v) (ds.set n d)
  | _, _, _, .nil => .nil
  | _, _, 0, .cons _ t => .cons h t
  | _, _, n + 1, .cons h1 t => .cons h1 (dpAll_set h n t)
theorem set_split : ∀ (xs : List V) (n : Nat) (v : V), n < xs.length → xs.take n ++ [v] ++ xs.drop (n + 1) = xs.set n v
  | [], _, _, h => absurd h (Nat.not_lt_zero _)
  | x :: xs, 0, v, _ => by simp
  | x :: xs, n + 1, v, h => by
    have := set_split xs n v (by simpa using h)
    show x :: (xs.take n ++ [v] ++ xs.drop (n + 1)) = x :: xs.set n v
    rw [this]
end My

set_option Elab.async false
set_option linter.all false
set_option maxRecDepth 100000
namespace My
open PySem L2
open ST
abbrev s_law_exchanged : Stmt := top 98
abbrev N_law_exchanged : List Str := ["_law_pen", "_law_step", "_law_ends", "_law_way", "_law_part", "_law_lifted_here", "_law_i", "_law_order", "_law_back", "_law_at"]
abbrev P_law_exchanged : List Str := ["_law_pen", "_law_step"]
theorem sc_law_exchanged : FnScope N_law_exchanged P_law_exchanged (defScope s_law_exchanged) := ⟨rfl, rfl, rfl, by decide +kernel, rfl, by decide +kernel, by decide +kernel⟩
abbrev s_law_handed : Stmt := top 92
abbrev N_law_handed : List Str := ["_law_pen", "_law_step", "_law_goods", "_law_i", "_law_ends", "_law_other"]
abbrev P_law_handed : List Str := ["_law_pen", "_law_step", "_law_goods", "_law_i"]
theorem sc_law_handed : FnScope N_law_handed P_law_handed (defScope s_law_handed) := ⟨rfl, rfl, rfl, by decide +kernel, rfl, by decide +kernel, by decide +kernel⟩
def spExch (K : PySem.W.Frag) (n : Nat) : Sp := fun vs H Q _ => ∃ (d L : Addr) (ns : List Int) (m : Nat) (v : V) (s : ST), vs = [.ref d, v] ∧ Pen K H d L ns m ∧ m + (3 * n + 1000) < 2 ^ 40 ∧ Dp K H v s.data ∧ s.Right ∧ s.FitA ∧ s.size ≤ 180 ∧ s.dpt ≤ n ∧ n ≤ 50 ∧
  ∀ H' u s', Keep d H H' → Pen K H' d L ns (m + (3 * n + 50)) → Dp K H' u s'.data → Ex s s' (2 * s.size + 40) (s.dpt + 12) → Q u H'
theorem mem_int {us : List V} : natV [] = us → us = [] := fun h => h.symm
section
variable {P : Program} {w : World} {K : PySem.W.Frag} {mg : Str → Option Value} {base : Heap} {f : Addr} {fd : FuncData}
set_option maxHeartbeats 4000000 in
theorem ok_law_exchanged {n : Nat} (T : Txt K mg) (C_law_draw : Cal P w K mg base "_law_draw" 1 P_law_draw (spDraw K)) (C_law_ends_of : Cal P w K mg base "_law_ends_of" 61 P_law_ends_of (spEndsOfL K 60)) (C_law_within : Cal P w K mg base "_law_within" 1 P_law_ends_of (spWithinL K))
    (C_law_lifted : Cal P w K mg base "_law_lifted" 62 P_law_lifted (spLifted K)) (C_law_leaves : Cal P w K mg base "_law_leaves" 13 P_law_counter' (spLeavesL K 13)) (C_law_plain : Cal P w K mg base "_law_plain" 26 P_law_counter' (spPlain K 13)) (C_law_last_at : Cal P w K mg base "_law_last_at" 62 P_law_last_at (spLastAt K 60)) (C_law_shuffled : Cal P w K mg base "_law_shuffled" 2 P_law_shuffled (spShufN K))
    (F : Fun K "_law_exchanged" "_law_exchanged" s_law_exchanged f fd) (C_law_exchanged : Cal P w K mg base "_law_exchanged" (62 + n) P_law_exchanged (spExch K n)) : FnOk P w K mg base CX0 (62 + n + 1) f fd P_law_exchanged (spExch K (n + 1)) := by
  refine F.ok sc_law_exchanged (fun vs H Q E h => ?_) (fun cdv A outer s H vs Q E hr h => ?_)
  · obtain ⟨d, L, ns, m, v, t, rfl, _⟩ := h
    rfl
  obtain ⟨d, L, ns, m, v, t, rfl, hp, hm, hv, hR, hF, hS, hD, hn, q⟩ := h
  refine ⟨_, (pss_cons (ps_par (i := 2) (j := 3) (by rfl) sc_law_exchanged.nd rfl rfl (by decide) rfl rfl (pa_cons (pe_callC C_law_ends_of hr (pa_cons (pv 1) pa_nil)) (pa_cons (pe_callC C_law_draw hr (pa_cons (pv 0) (pa_cons pe_int pa_nil))) pa_nil)) (by rfl))
  (pss_cons (ps_if (PW.pt (pw_and (pt_cmpR op_lt (pv 3) pe_int (nomark _)) (pw_and (pt_cmpR op_gt (pe_callC C_law_within hr (pa_cons (pv 1) pa_nil)) pe_int (nomark _)) (pw_and1 (pt_cmpR op_eq (pe_callC C_law_draw hr (pa_cons (pv 0) (pa_cons pe_int pa_nil))) pe_int (nomark _))))))
    (pss_cons (ps_set (i := 4) sc_law_exchanged.nd rfl (Or.inl rfl) (pe_op op_add pe_int (pe_callC C_law_draw hr (pa_cons (pv 0) (pa_cons (pe_callC C_law_within hr (pa_cons (pv 1) pa_nil)) pa_nil)))))
    (pss_one (ps_ret (pe_op op_catTN (pe_op op_catTN (pe_slice sl_tupN (pv 1) po_none (po_some (pv 4))) (pe_tupN (pa_cons (pe_callC C_law_exchanged hr (pa_cons (pv 0) (pa_cons (pe_ix ix_tup (pv 1) (pv 4) (fun _ _ => rfl)) pa_nil))) pa_nil))) (pe_slice sl_tupN (pv 1) (po_some (pe_op op_add (pv 4) pe_int)) po_none)))))
    pss_nil)
  (pss_cons (ps_set (i := 5) sc_law_exchanged.nd rfl (Or.inl rfl) (pe_callC C_law_lifted hr (pa_cons (pv 1) pa_nil)))
  (pss_cons (ps_if (PW.pt (pw_and (pt_cmpR op_notN (pv 5) pe_non (nomark _)) (pw_and1 (pt_cmpR op_lt (pv 3) pe_int (nomark _)))))
    (pss_one (ps_ret (pv 5)))
    pss_nil)
  (pss_cons (ps_set (i := 6) sc_law_exchanged.nd rfl (Or.inl rfl) (pe_callC C_law_draw hr (pa_cons (pv 0) (pa_cons (pe_callB call_len rfl T.len (by decide +kernel) (pa_cons (pv 2) pa_nil)) pa_nil))))
  (pss_cons (ps_if (PW.pt (pw_and (pt_cmpR op_eq (pv 3) pe_int (nomark _)) (pw_and1 (pt_cmpR op_lt (pe_callB call_len rfl T.len (by decide +kernel) (pa_cons (pe_callC C_law_leaves hr (pa_cons (pe_ix ix_list (pv 2) (pv 6) (fun _ _ => rfl)) pa_nil)) pa_nil)) pe_int (nomark _)))))
    (pss_one (ps_ret (pe_callC C_law_last_at hr (pa_cons (pe_tupN (pa_cons pe_str (pa_cons (pv 1) (pa_cons (pe_callC C_law_plain hr (pa_cons (pe_ix ix_list (pv 2) (pv 6) (fun _ _ => rfl)) pa_nil)) (pa_cons (pv 6) (pa_cons pe_int pa_nil)))))) (pa_cons (pv 6) pa_nil)))))
    pss_nil)
  (pss_cons (ps_set (i := 7) sc_law_exchanged.nd rfl (Or.inr rfl) (pe_callC C_law_shuffled hr (pa_cons (pv 0) (pa_cons (pe_listRgN rfl rfl T.list (prg_1 rfl T.range (pe_callB call_len rfl T.len (by decide +kernel) (pa_cons (pv 2) pa_nil)))) pa_nil))))
  (pss_cons (ps_setLc (i := 8) (own := [("_law_at", 9)]) (g := (gName 9)) (te := tBM K "list" (rIndex K) (tVar 7) (tCons (tVar 9) tNil)) rfl sc_law_exchanged.nd rfl rfl (sw_true rfl rfl rfl (by decide +kernel)) (pi_range1 rfl T.range (pa_cons (pe_callB call_len rfl T.len (by decide +kernel) (pa_cons (pv 2) pa_nil)) pa_nil)) (blkOk_by (own := [("_law_at", 9)]) (N := N_law_exchanged) (sc := defScope s_law_exchanged) (by decide +kernel)) (fun _ _ _ _ _ => (pg_name (i := 9) sc_law_exchanged.nd rfl (Or.inl rfl))) (fun _ _ _ _ _ => pts_nil) (fun _ _ _ _ _ => (pe_bm PySem.F.plainAttrs_list PySem.F.slot_list_index PySem.F.type_list_index mt_index (pv 7) (pa_cons (pv 9) pa_nil))))
  (pss_one (ps_ret (pe_tupN (pa_cons pe_str (pa_cons (pe_tupN (pa_cons pe_str (pa_cons (pv 1) (pa_cons (pe_callTy call_tupLN rfl T.tuple (by decide +kernel) (pa_cons (pv 7) pa_nil)) pa_nil)))) (pa_cons (pe_callTy call_tupLN rfl T.tuple (by decide +kernel) (pa_cons (pv 8) pa_nil)) pa_nil)))))))))))))), ?_⟩
  have du := der_u t hR (by omega)
  have hl := ends_len t hR
  have hf := FitsA.fit hF
  have hf1 := hf.1
  have hf40 := hf.2.1
  have hpos := dpt_pos t
  refine ⟨_, rfl, v, _, _, rfl, hv, du, Nat.le_trans (dep_st _) (by omega), fun H1 p1 s1 ⟨us1, e1, pr1⟩ => ?_⟩
  have l1 := paired_len pr1
  have nd : p1 ≠ d := fun z => by
    obtain ⟨kvs, h⟩ := (hp.same s1).isDk
    rw [z, h] at e1
    cases e1
  refine ⟨_, rfl, d, L, ns, _, 4, rfl, hp.same s1, by omega, by decide, by decide, fun r3 H2 r30 r31 k2 pp2 => ⟨_, _, rfl, ?_⟩⟩
  have e2 := k2 _ _ nd e1
  have k02 : Keep d H H2 := (Same.toKeep s1).trans k2
  have t12 : KT H1 H2 := kt_pen (hp.same s1) k2
  have hv2 := dp_keep hp.isDk k02 _ _ hv
  obtain ⟨a, z, r, xs, rfl, eD, hz, hT, hlen, hA, hw, hk⟩ := dp_st hv2
  have hkl := dpAll_len hk
  rw [List.length_map, List.length_take, hlen, Nat.min_eq_left hw] at hkl
  refine ⟨_, rfl, _, _, rfl, rfl, _, rfl, ?_⟩
  refine ite2 (fun c1 => ?a1) (fun c1 => ?b1)
  case' a1 =>
    refine ⟨_, rfl, .ref a, z, r, rfl, by rw [← eD]; exact hv2, hz, fun H3 s3 => ⟨_, _, rfl, rfl, _, rfl, ?_⟩⟩
    refine ite2 (fun c2 => ?a2) (fun c2 => ?b2)
  case' a2 =>
    refine ⟨_, rfl, d, L, ns, _, 2, rfl, pp2.same s3, by omega, by decide, by decide, fun r4 H4 r40 r41 k4 pp4 => ⟨rfl, _, rfl, ?_⟩⟩
    refine ite2 (fun c3 => ?a3) (fun c3 => ?b3)
  case a3 =>
    have hw0 : 0 < widOf z := by
      have := of_decide_eq_true c2
      omega
    have hw2 : widOf z ≤ 2 := by
      rw [hkl]
      cases t <;> simp [subST]
    have k24 : Keep d H2 H4 := (Same.toKeep s3).trans k4
    have t24 : KT H2 H4 := (Same.kt s3).trans (kt_pen (pp2.same s3) k4)
    have k04 := k02.trans k24
    have hv4 := dp_keep hp.isDk k04 _ _ hv
    refine ⟨_, rfl, _, rfl, .ref a, z, r, rfl, by rw [← eD]; exact hv4, hz, fun H5 s5 => ?_⟩
    refine ⟨d, L, ns, _, _, rfl, pp4.same s5, by omega, by omega, by omega, fun r6 H6 r60 r61 k6 pp6 => ⟨_, _, rfl, rfl, ?_⟩⟩
    obtain ⟨i, rfl⟩ : ∃ i : Nat, r6 = (i : Nat) := ⟨r6.toNat, by omega⟩
    have hi : i < (subST t).length := by omega
    have k06 := k04.trans ((Same.toKeep s5).trans k6)
    have t26 : KT H2 H6 := t24.trans ((Same.kt s5).trans (kt_pen (pp4.same s5) k6))
    have hT6 := t26.seq hT
    have ea : (1 : Int) + (i : Int) = ((1 + i : Nat) : Int) := by omega
    refine ⟨_, rfl, _, rfl, _, rfl, a, _, rfl, hT6, fun p7 H7 s7 e7 => ?_⟩
    rw [cut_to ea (by rw [List.length_cons]; omega)] at e7
    obtain ⟨x, hx⟩ : ∃ x, xs[i]? = some x := ⟨_, List.getElem?_eq_getElem (by omega)⟩
    have hxp : (xs.take (widOf z))[i]? = some x := by rw [List.getElem?_take_of_lt (by omega)]; exact hx
    obtain ⟨dd, hdd, hxd⟩ := dpAll_get hk hxp
    rw [List.getElem?_map] at hdd
    obtain ⟨t', ht', rfl⟩ := Option.map_eq_some_iff.mp hdd
    have mt := List.mem_of_getElem? ht'
    have hsd := sub_dpt t' mt
    have hss := sub_le t' mt
    have hx6 : Dp K H7 x t'.data := dp_same s7 _ _ (dp_keep (pp2.isDk) ((k24.trans ((Same.toKeep s5).trans k6))) _ _ hxd)
    refine ⟨_, rfl, _, rfl, _, rfl, a, _, _, x, rfl, rfl, (Same.kt s7).seq hT6, at_of ea (by rw [Nat.add_comm]; exact hx), ?_⟩
    refine ⟨d, L, ns, _, x, t', rfl, pp6.same s7, by omega, hx6, sub_right hR t' mt, sub_fit hF t' mt, by omega, by omega, by omega, fun H8 u8 s' k8 pp8 h8 ex => ⟨le1k, fun p9 H9 s9 e9 => ?_⟩⟩
    have t79 : KT H7 H9 := (kt_pen (pp6.same s7) k8).trans (Same.kt s9)
    have lcut : ((V.str z :: xs).take (1 + i)).length ≤ 2 := by rw [List.length_take]; omega
    refine ⟨p7, p9, _, _, rfl, rfl, t79.seq e7, e9, (by show _ + 1 ≤ 1000; omega), fun p10 H10 s10 e10 => ?_⟩
    have t610 : KT H6 H10 := (Same.kt s7).trans (t79.trans (Same.kt s10))
    refine ⟨_, rfl, _, rfl, _, _, rfl, rfl, _, rfl, a, _, rfl, t610.seq hT6, fun p11 H11 s11 e11 => ?_⟩
    have ea2 : (1 : Int) + (i : Int) + 1 = ((1 + i + 1 : Nat) : Int) := by omega
    rw [ea2, cutFrom _ _ (by rw [List.length_cons]; omega)] at e11
    have lz : (V.str z :: xs).length ≤ 6 := by
      have := data_len eD
      rw [List.length_cons]
      omega
    refine ⟨p10, p11, _, _, rfl, rfl, (Same.kt s11).seq e10, e11, ?_, fun p12 H12 s12 e12 => ?_⟩
    · rw [List.length_append, List.length_drop]
      show _ + 1 + _ ≤ 1000
      omega
    rw [set_split _ _ _ (by rw [List.length_cons]; omega)] at e12
    have sF := s9.trans (s10.trans (s11.trans s12))
    have kF := k06.trans ((Same.toKeep s7).trans (k8.trans (Same.toKeep sF)))
    refine q H12 _ (repl t i s') kF ((pp8.same sF).mono (by omega)) ?_ ((repl_ex ht' hR hF ex).le (by omega) (by omega))
    rw [repl_data eD hi]
    refine .tup e12 ?_
    rw [Nat.add_comm 1 i]
    have hA0 : DpAll K H12 (V.str z :: xs) (.str z :: r) := .cons (.str _) (dpAll_keep pp2.isDk (k24.trans ((Same.toKeep s5).trans (k6.trans ((Same.toKeep s7).trans (k8.trans (Same.toKeep sF)))))) r xs hA)
    exact dpAll_set (dp_same sF _ _ h8) (i + 1) hA0
  case' b3 =>
    have k34 : Keep d H2 H4 := (Same.toKeep s3).trans k4
    have kA := k02.trans k34
    have tA : KT H1 H4 := t12.trans ((Same.kt s3).trans (kt_pen (pp2.same s3) k4))
    have eA := k34 _ _ nd e2
    have ppA := pp4.mono (m := m + 2) (by omega)
  case' b2 =>
    have kA := k02.trans (Same.toKeep s3)
    have tA : KT H1 H3 := t12.trans (Same.kt s3)
    have eA := s3 _ _ e2
    have ppA := (pp2.same s3).mono (m := m + 2) (by omega)
  case' b1 =>
    have kA := k02
    have tA := t12
    have eA := e2
    have ppA := pp2.mono (m := m + 2) (by omega)
  all_goals
    refine ⟨_, rfl, .ref a, t, rfl, dp_keep hp.isDk kA _ _ hv, hR, hF, hS, by omega, fun H5 u5 s5 hu5 => ?_⟩
    have kB := kA.trans (Same.toKeep s5)
    have tB := tA.trans (Same.kt s5)
    have eB := s5 _ _ eA
    have ppB := ppA.same s5
    refine ⟨_, rfl, rfl, _, rfl, ?_⟩
    refine ite2 (fun c5 => ?_) (fun c5 => ?_)
    · refine ⟨_, rfl, _, _, rfl, rfl, _, rfl, ?_⟩
      refine ite2 (fun c6 => ?_) (fun c6 => ?_)
      · refine ⟨_, rfl, ?_⟩
        rcases hu5 with rfl | ⟨s', hd5, ex5⟩
        · exact absurd c5 (by decide)
        · exact q H5 u5 s' kB (ppB.mono (by omega)) hd5 (ex5.le (by omega) (by omega))
      · skip
        refine ⟨_, rfl, _, rfl, _, _, rfl, .inl ⟨us1, SqL.of eB, rfl⟩, d, L, ns, _, _, rfl, ppB, by omega, by omega, by omega, fun r6 H6 r60 r61 k6 pp6 => ?_⟩
        obtain ⟨i6, rfl⟩ : ∃ i : Nat, r6 = (i : Nat) := ⟨r6.toNat, by omega⟩
        have hi6 : i6 < t.ends.length := by omega
        have kC := kB.trans k6
        have eC := k6 _ _ nd eB
        have tC : KT H1 H6 := tB.trans (kt_pen ppB k6)
        have ppC := pp6
        obtain ⟨x6, hx6, fx6⟩ := paired_un pr1 (nth_get hi6)
        have hfi := hf.2.2.1 _ (nth_mem hi6)
        have hlv := lvsL_less hi6
        have hl40 := hf.2.2.2
        refine ⟨_, rfl, rfl, _, rfl, ?_⟩
        refine ite2 (fun c7 => ?_) (fun c7 => ?_)
        · refine ⟨_, rfl, _, rfl, p1, us1, _, x6, rfl, rfl, SqL.of eC, atI_nat hx6, x6, nth t.ends i6, rfl, tC.fm _ fx6, by have := hfi.2; omega, by omega, fun H7 p7 us7 sC e7 l7 => ⟨_, _, rfl, .inl ⟨us7, SqL.of e7, rfl⟩, _, _, rfl, rfl, _, rfl, ?_⟩⟩
          refine ite2 (fun c8 => ?_) (fun c8 => ?_)
          · have hlt5 : us7.length < 5 := by
              have := of_decide_eq_true c8
              omega
            have e7' := sC _ _ eC
            have t7 := tC.trans (Same.kt sC)
            refine ⟨_, rfl, _, rfl, _, rfl, p1, us1, _, x6, rfl, rfl, SqL.of e7', atI_nat hx6, x6, nth t.ends i6, rfl, t7.fm _ fx6, by have := hfi.2; omega, fun H8 u8 s8 h8 => ⟨_, rfl, le1k, fun p9 H9 s9 e9 => ⟨_, rfl, ?_⟩⟩⟩
            have s79 := sC.trans (s8.trans s9)
            have k9 := kC.trans (Same.toKeep s79)
            have hv9 := dp_keep hp.isDk k9 _ _ hv
            have h9 : Dp K H9 (.ref p9) (ST.ha t (pl (nth t.ends i6)) i6 1).data := .tup e9 (.cons (.str _) (.cons hv9 (.cons (by rw [pl_data]; exact dp_same s9 _ _ h8) (.cons (.int _) (.cons (.int _) .nil)))))
            have ps := pl_size (nth t.ends i6)
            have pd := pl_dpt (nth t.ends i6)
            have pe := dep_lvs (nth t.ends i6)
            refine ⟨.ref p9, i6, _, rfl, h9, ha_right hR hF hi6, by show t.size + (pl (nth t.ends i6)).size + 1 ≤ 399; omega, by show 1 + max t.dpt (pl (nth t.ends i6)).dpt ≤ 60; omega, by rw [ha_len hi6]; exact hi6, fun H10 u10 s10 h10 => ?_⟩
            rw [ha_len hi6] at h10
            exact q H10 u10 _ (k9.trans (Same.toKeep s10)) (((ppC.same s79).same s10).mono (by omega)) h10 ((ex_ha hR hF hi6 (by omega)).le (by omega) (by omega))
          · skip
            have kD := kC.trans (Same.toKeep sC)
            have tD := tC.trans (Same.kt sC)
            have eD' := sC _ _ eC
            have ppD := ppC.same sC
            refine ⟨_, rfl, _, rfl, _, _, rfl, .inl ⟨us1, SqL.of eD', rfl⟩, _, rfl, RgOk.of_le (by omega) (by omega) (by omega) (by omega), fun p8 H8 s8 e8 => ?_⟩
            rw [l1, rg_nat] at e8
            refine ⟨d, L, p8, ns, _, List.range t.ends.length, rfl, ppD.same s8, by rw [List.length_range]; omega, SqL.of e8, by rw [List.length_range]; omega, fun H9 p9 os k9 pp9 e9 po => ?_⟩
            rw [List.length_range] at pp9
            have k0 := kD.trans ((Same.toKeep s8).trans k9)
            have e10 := k9 _ _ nd (s8 _ _ eD')
            have lo := perm_len po
            refine ⟨_, rfl, _, _, rfl, .inl ⟨us1, SqL.of e10, rfl⟩, _, rfl, by omega, by omega, fun D nD => lc_range (lo := 0) (n := ((us1.length : Nat) : Int).toNat) (fun i H' => Same H9 H' ∧ ∃ bl : List Nat, bl.length = i ∧ H' D = some (.lst (natV bl)) ∧ Back os bl) ?_ (fun i H' hi ⟨k1, bl, hbl, eL, bk⟩ => ?_) (fun H10 ⟨k1, bl, hbl, eL, bk⟩ => ?_)⟩
            · exact ⟨same_new nD _, [], rfl, upd_same, fun a h => absurd h (Nat.not_lt_zero _)⟩
            · have hi2 : i < t.ends.length := by omega
              obtain ⟨j, hj, hno⟩ := idx_ex po hi2
              refine ⟨rfl, _, rfl, .inl ⟨rfl, _, SqL.of (k1 _ _ e9)⟩, _, rfl, p9, natV os, _, j, .int (i : Nat), rfl, rfl, SqL.of (k1 _ _ e9), rfl, flat_nat os, natV_get hj, ?_, ?_, ?_⟩
              · show decide _ = true
                refine decide_eq_true ?_
                omega
              · intro m' z' hm' hz'
                unfold natV at hz'
                rw [List.getElem?_map] at hz'
                obtain ⟨y, h1, h2⟩ := Option.map_eq_some_iff.mp hz'
                subst h2
                have hne : y ≠ i := fun e => hno m' hm' (e ▸ h1)
                show decide _ = false
                refine decide_eq_false ?_
                omega
              · refine ⟨_, eL, small1000 (by rw [natV_len]; omega), same_fresh k1 nD, bl ++ [j], by rw [List.length_append, hbl]; rfl, by rw [upd_same, natV_app]; rfl, fun a ha => ?_⟩
                rw [List.length_append] at ha
                by_cases c : a < bl.length
                · obtain ⟨j2, h1, h2⟩ := bk a c
                  exact ⟨j2, by rw [List.getElem?_append_left c]; exact h1, h2⟩
                · have e : a = i := by
                    have : a < bl.length + 1 := ha
                    omega
                  subst e
                  exact ⟨j, by rw [List.getElem?_append_right (by omega), hbl, Nat.sub_self]; rfl, hj⟩
            · have hbl2 : bl.length = t.ends.length := by omega
              refine ⟨_, rfl, _, rfl, p9, _, rfl, SqL.of (k1 _ _ e9), fun p11 H11 s11 e11 => ⟨le1k, fun p12 H12 s12 e12 => ⟨_, rfl, D, _, rfl, SqL.of (s12 _ _ (s11 _ _ eL)), fun p13 H13 s13 e13 => ⟨le1k, fun p14 H14 s14 e14 => ?_⟩⟩⟩⟩
              have sF := k1.trans (s11.trans (s12.trans (s13.trans s14)))
              have kF := k0.trans (Same.toKeep sF)
              have hd1 : Dp K H14 (.ref p12) (ST.tu t os).data := dp_tu (dp_keep hp.isDk kF _ _ hv) ((Same.kt (s12.trans (s13.trans s14))).seq e11) ((Same.kt (s13.trans s14)).seq e12)
              exact q H14 _ _ kF ((pp9.same sF).mono (by omega)) (dp_tu hd1 ((Same.kt s14).seq e13) e14) ((ex_tt hR hF po bk hbl2).le (by omega) (by omega))
        · have sC := Same.refl H6
          have kD := kC.trans (Same.toKeep sC)
          have tD := tC.trans (Same.kt sC)
          have eD' := sC _ _ eC
          have ppD := ppC.same sC
          refine ⟨_, rfl, _, rfl, _, _, rfl, .inl ⟨us1, SqL.of eD', rfl⟩, _, rfl, RgOk.of_le (by omega) (by omega) (by omega) (by omega), fun p8 H8 s8 e8 => ?_⟩
          rw [l1, rg_nat] at e8
          refine ⟨d, L, p8, ns, _, List.range t.ends.length, rfl, ppD.same s8, by rw [List.length_range]; omega, SqL.of e8, by rw [List.length_range]; omega, fun H9 p9 os k9 pp9 e9 po => ?_⟩
          rw [List.length_range] at pp9
          have k0 := kD.trans ((Same.toKeep s8).trans k9)
          have e10 := k9 _ _ nd (s8 _ _ eD')
          have lo := perm_len po
          refine ⟨_, rfl, _, _, rfl, .inl ⟨us1, SqL.of e10, rfl⟩, _, rfl, by omega, by omega, fun D nD => lc_range (lo := 0) (n := ((us1.length : Nat) : Int).toNat) (fun i H' => Same H9 H' ∧ ∃ bl : List Nat, bl.length = i ∧ H' D = some (.lst (natV bl)) ∧ Back os bl) ?_ (fun i H' hi ⟨k1, bl, hbl, eL, bk⟩ => ?_) (fun H10 ⟨k1, bl, hbl, eL, bk⟩ => ?_)⟩
          · exact ⟨same_new nD _, [], rfl, upd_same, fun a h => absurd h (Nat.not_lt_zero _)⟩
          · have hi2 : i < t.ends.length := by omega
            obtain ⟨j, hj, hno⟩ := idx_ex po hi2
            refine ⟨rfl, _, rfl, .inl ⟨rfl, _, SqL.of (k1 _ _ e9)⟩, _, rfl, p9, natV os, _, j, .int (i : Nat), rfl, rfl, SqL.of (k1 _ _ e9), rfl, flat_nat os, natV_get hj, ?_, ?_, ?_⟩
            · show decide _ = true
              refine decide_eq_true ?_
              omega
            · intro m' z' hm' hz'
              unfold natV at hz'
              rw [List.getElem?_map] at hz'
              obtain ⟨y, h1, h2⟩ := Option.map_eq_some_iff.mp hz'
              subst h2
              have hne : y ≠ i := fun e => hno m' hm' (e ▸ h1)
              show decide _ = false
              refine decide_eq_false ?_
              omega
            · refine ⟨_, eL, small1000 (by rw [natV_len]; omega), same_fresh k1 nD, bl ++ [j], by rw [List.length_append, hbl]; rfl, by rw [upd_same, natV_app]; rfl, fun a ha => ?_⟩
              rw [List.length_append] at ha
              by_cases c : a < bl.length
              · obtain ⟨j2, h1, h2⟩ := bk a c
                exact ⟨j2, by rw [List.getElem?_append_left c]; exact h1, h2⟩
              · have e : a = i := by
                  have : a < bl.length + 1 := ha
                  omega
                subst e
                exact ⟨j, by rw [List.getElem?_append_right (by omega), hbl, Nat.sub_self]; rfl, hj⟩
          · have hbl2 : bl.length = t.ends.length := by omega
            refine ⟨_, rfl, _, rfl, p9, _, rfl, SqL.of (k1 _ _ e9), fun p11 H11 s11 e11 => ⟨le1k, fun p12 H12 s12 e12 => ⟨_, rfl, D, _, rfl, SqL.of (s12 _ _ (s11 _ _ eL)), fun p13 H13 s13 e13 => ⟨le1k, fun p14 H14 s14 e14 => ?_⟩⟩⟩⟩
            have sF := k1.trans (s11.trans (s12.trans (s13.trans s14)))
            have kF := k0.trans (Same.toKeep sF)
            have hd1 : Dp K H14 (.ref p12) (ST.tu t os).data := dp_tu (dp_keep hp.isDk kF _ _ hv) ((Same.kt (s12.trans (s13.trans s14))).seq e11) ((Same.kt (s13.trans s14)).seq e12)
            exact q H14 _ _ kF ((pp9.same sF).mono (by omega)) (dp_tu hd1 ((Same.kt s14).seq e13) e14) ((ex_tt hR hF po bk hbl2).le (by omega) (by omega))
    · skip
      refine ⟨_, rfl, _, rfl, _, _, rfl, .inl ⟨us1, SqL.of eB, rfl⟩, d, L, ns, _, _, rfl, ppB, by omega, by omega, by omega, fun r6 H6 r60 r61 k6 pp6 => ?_⟩
      obtain ⟨i6, rfl⟩ : ∃ i : Nat, r6 = (i : Nat) := ⟨r6.toNat, by omega⟩
      have hi6 : i6 < t.ends.length := by omega
      have kC := kB.trans k6
      have eC := k6 _ _ nd eB
      have tC : KT H1 H6 := tB.trans (kt_pen ppB k6)
      have ppC := pp6
      obtain ⟨x6, hx6, fx6⟩ := paired_un pr1 (nth_get hi6)
      have hfi := hf.2.2.1 _ (nth_mem hi6)
      have hlv := lvsL_less hi6
      have hl40 := hf.2.2.2
      refine ⟨_, rfl, rfl, _, rfl, ?_⟩
      refine ite2 (fun c7 => ?_) (fun c7 => ?_)
      · refine ⟨_, rfl, _, rfl, p1, us1, _, x6, rfl, rfl, SqL.of eC, atI_nat hx6, x6, nth t.ends i6, rfl, tC.fm _ fx6, by have := hfi.2; omega, by omega, fun H7 p7 us7 sC e7 l7 => ⟨_, _, rfl, .inl ⟨us7, SqL.of e7, rfl⟩, _, _, rfl, rfl, _, rfl, ?_⟩⟩
        refine ite2 (fun c8 => ?_) (fun c8 => ?_)
        · have hlt5 : us7.length < 5 := by
            have := of_decide_eq_true c8
            omega
          have e7' := sC _ _ eC
          have t7 := tC.trans (Same.kt sC)
          refine ⟨_, rfl, _, rfl, _, rfl, p1, us1, _, x6, rfl, rfl, SqL.of e7', atI_nat hx6, x6, nth t.ends i6, rfl, t7.fm _ fx6, by have := hfi.2; omega, fun H8 u8 s8 h8 => ⟨_, rfl, le1k, fun p9 H9 s9 e9 => ⟨_, rfl, ?_⟩⟩⟩
          have s79 := sC.trans (s8.trans s9)
          have k9 := kC.trans (Same.toKeep s79)
          have hv9 := dp_keep hp.isDk k9 _ _ hv
          have h9 : Dp K H9 (.ref p9) (ST.ha t (pl (nth t.ends i6)) i6 1).data := .tup e9 (.cons (.str _) (.cons hv9 (.cons (by rw [pl_data]; exact dp_same s9 _ _ h8) (.cons (.int _) (.cons (.int _) .nil)))))
          have ps := pl_size (nth t.ends i6)
          have pd := pl_dpt (nth t.ends i6)
          have pe := dep_lvs (nth t.ends i6)
          refine ⟨.ref p9, i6, _, rfl, h9, ha_right hR hF hi6, by show t.size + (pl (nth t.ends i6)).size + 1 ≤ 399; omega, by show 1 + max t.dpt (pl (nth t.ends i6)).dpt ≤ 60; omega, by rw [ha_len hi6]; exact hi6, fun H10 u10 s10 h10 => ?_⟩
          rw [ha_len hi6] at h10
          exact q H10 u10 _ (k9.trans (Same.toKeep s10)) (((ppC.same s79).same s10).mono (by omega)) h10 ((ex_ha hR hF hi6 (by omega)).le (by omega) (by omega))
        · skip
          have kD := kC.trans (Same.toKeep sC)
          have tD := tC.trans (Same.kt sC)
          have eD' := sC _ _ eC
          have ppD := ppC.same sC
          refine ⟨_, rfl, _, rfl, _, _, rfl, .inl ⟨us1, SqL.of eD', rfl⟩, _, rfl, RgOk.of_le (by omega) (by omega) (by omega) (by omega), fun p8 H8 s8 e8 => ?_⟩
          rw [l1, rg_nat] at e8
          refine ⟨d, L, p8, ns, _, List.range t.ends.length, rfl, ppD.same s8, by rw [List.length_range]; omega, SqL.of e8, by rw [List.length_range]; omega, fun H9 p9 os k9 pp9 e9 po => ?_⟩
          rw [List.length_range] at pp9
          have k0 := kD.trans ((Same.toKeep s8).trans k9)
          have e10 := k9 _ _ nd (s8 _ _ eD')
          have lo := perm_len po
          refine ⟨_, rfl, _, _, rfl, .inl ⟨us1, SqL.of e10, rfl⟩, _, rfl, by omega, by omega, fun D nD => lc_range (lo := 0) (n := ((us1.length : Nat) : Int).toNat) (fun i H' => Same H9 H' ∧ ∃ bl : List Nat, bl.length = i ∧ H' D = some (.lst (natV bl)) ∧ Back os bl) ?_ (fun i H' hi ⟨k1, bl, hbl, eL, bk⟩ => ?_) (fun H10 ⟨k1, bl, hbl, eL, bk⟩ => ?_)⟩
          · exact ⟨same_new nD _, [], rfl, upd_same, fun a h => absurd h (Nat.not_lt_zero _)⟩
          · have hi2 : i < t.ends.length := by omega
            obtain ⟨j, hj, hno⟩ := idx_ex po hi2
            refine ⟨rfl, _, rfl, .inl ⟨rfl, _, SqL.of (k1 _ _ e9)⟩, _, rfl, p9, natV os, _, j, .int (i : Nat), rfl, rfl, SqL.of (k1 _ _ e9), rfl, flat_nat os, natV_get hj, ?_, ?_, ?_⟩
            · show decide _ = true
              refine decide_eq_true ?_
              omega
            · intro m' z' hm' hz'
              unfold natV at hz'
              rw [List.getElem?_map] at hz'
              obtain ⟨y, h1, h2⟩ := Option.map_eq_some_iff.mp hz'
              subst h2
              have hne : y ≠ i := fun e => hno m' hm' (e ▸ h1)
              show decide _ = false
              refine decide_eq_false ?_
              omega
            · refine ⟨_, eL, small1000 (by rw [natV_len]; omega), same_fresh k1 nD, bl ++ [j], by rw [List.length_append, hbl]; rfl, by rw [upd_same, natV_app]; rfl, fun a ha => ?_⟩
              rw [List.length_append] at ha
              by_cases c : a < bl.length
              · obtain ⟨j2, h1, h2⟩ := bk a c
                exact ⟨j2, by rw [List.getElem?_append_left c]; exact h1, h2⟩
              · have e : a = i := by
                  have : a < bl.length + 1 := ha
                  omega
                subst e
                exact ⟨j, by rw [List.getElem?_append_right (by omega), hbl, Nat.sub_self]; rfl, hj⟩
          · have hbl2 : bl.length = t.ends.length := by omega
            refine ⟨_, rfl, _, rfl, p9, _, rfl, SqL.of (k1 _ _ e9), fun p11 H11 s11 e11 => ⟨le1k, fun p12 H12 s12 e12 => ⟨_, rfl, D, _, rfl, SqL.of (s12 _ _ (s11 _ _ eL)), fun p13 H13 s13 e13 => ⟨le1k, fun p14 H14 s14 e14 => ?_⟩⟩⟩⟩
            have sF := k1.trans (s11.trans (s12.trans (s13.trans s14)))
            have kF := k0.trans (Same.toKeep sF)
            have hd1 : Dp K H14 (.ref p12) (ST.tu t os).data := dp_tu (dp_keep hp.isDk kF _ _ hv) ((Same.kt (s12.trans (s13.trans s14))).seq e11) ((Same.kt (s13.trans s14)).seq e12)
            exact q H14 _ _ kF ((pp9.same sF).mono (by omega)) (dp_tu hd1 ((Same.kt s14).seq e13) e14) ((ex_tt hR hF po bk hbl2).le (by omega) (by omega))
      · have sC := Same.refl H6
        have kD := kC.trans (Same.toKeep sC)
        have tD := tC.trans (Same.kt sC)
        have eD' := sC _ _ eC
        have ppD := ppC.same sC
        refine ⟨_, rfl, _, rfl, _, _, rfl, .inl ⟨us1, SqL.of eD', rfl⟩, _, rfl, RgOk.of_le (by omega) (by omega) (by omega) (by omega), fun p8 H8 s8 e8 => ?_⟩
        rw [l1, rg_nat] at e8
        refine ⟨d, L, p8, ns, _, List.range t.ends.length, rfl, ppD.same s8, by rw [List.length_range]; omega, SqL.of e8, by rw [List.length_range]; omega, fun H9 p9 os k9 pp9 e9 po => ?_⟩
        rw [List.length_range] at pp9
        have k0 := kD.trans ((Same.toKeep s8).trans k9)
        have e10 := k9 _ _ nd (s8 _ _ eD')
        have lo := perm_len po
        refine ⟨_, rfl, _, _, rfl, .inl ⟨us1, SqL.of e10, rfl⟩, _, rfl, by omega, by omega, fun D nD => lc_range (lo := 0) (n := ((us1.length : Nat) : Int).toNat) (fun i H' => Same H9 H' ∧ ∃ bl : List Nat, bl.length = i ∧ H' D = some (.lst (natV bl)) ∧ Back os bl) ?_ (fun i H' hi ⟨k1, bl, hbl, eL, bk⟩ => ?_) (fun H10 ⟨k1, bl, hbl, eL, bk⟩ => ?_)⟩
        · exact ⟨same_new nD _, [], rfl, upd_same, fun a h => absurd h (Nat.not_lt_zero _)⟩
        · have hi2 : i < t.ends.length := by omega
          obtain ⟨j, hj, hno⟩ := idx_ex po hi2
          refine ⟨rfl, _, rfl, .inl ⟨rfl, _, SqL.of (k1 _ _ e9)⟩, _, rfl, p9, natV os, _, j, .int (i : Nat), rfl, rfl, SqL.of (k1 _ _ e9), rfl, flat_nat os, natV_get hj, ?_, ?_, ?_⟩
          · show decide _ = true
            refine decide_eq_true ?_
            omega
          · intro m' z' hm' hz'
            unfold natV at hz'
            rw [List.getElem?_map] at hz'
            obtain ⟨y, h1, h2⟩ := Option.map_eq_some_iff.mp hz'
            subst h2
            have hne : y ≠ i := fun e => hno m' hm' (e ▸ h1)
            show decide _ = false
            refine decide_eq_false ?_
            omega
          · refine ⟨_, eL, small1000 (by rw [natV_len]; omega), same_fresh k1 nD, bl ++ [j], by rw [List.length_append, hbl]; rfl, by rw [upd_same, natV_app]; rfl, fun a ha => ?_⟩
            rw [List.length_append] at ha
            by_cases c : a < bl.length
            · obtain ⟨j2, h1, h2⟩ := bk a c
              exact ⟨j2, by rw [List.getElem?_append_left c]; exact h1, h2⟩
            · have e : a = i := by
                have : a < bl.length + 1 := ha
                omega
              subst e
              exact ⟨j, by rw [List.getElem?_append_right (by omega), hbl, Nat.sub_self]; rfl, hj⟩
        · have hbl2 : bl.length = t.ends.length := by omega
          refine ⟨_, rfl, _, rfl, p9, _, rfl, SqL.of (k1 _ _ e9), fun p11 H11 s11 e11 => ⟨le1k, fun p12 H12 s12 e12 => ⟨_, rfl, D, _, rfl, SqL.of (s12 _ _ (s11 _ _ eL)), fun p13 H13 s13 e13 => ⟨le1k, fun p14 H14 s14 e14 => ?_⟩⟩⟩⟩
          have sF := k1.trans (s11.trans (s12.trans (s13.trans s14)))
          have kF := k0.trans (Same.toKeep sF)
          have hd1 : Dp K H14 (.ref p12) (ST.tu t os).data := dp_tu (dp_keep hp.isDk kF _ _ hv) ((Same.kt (s12.trans (s13.trans s14))).seq e11) ((Same.kt (s13.trans s14)).seq e12)
          exact q H14 _ _ kF ((pp9.same sF).mono (by omega)) (dp_tu hd1 ((Same.kt s14).seq e13) e14) ((ex_tt hR hF po bk hbl2).le (by omega) (by omega))
end
end My

set_option Elab.async false
set_option linter.all false
set_option maxRecDepth 100000
namespace My
open PySem L2
open ST
/-! ### how a drawn step grows -/
structure Mid (s : ST) : Prop where
  right : s.Right
  fit : s.FitA
  lvs : lvsL s.ends ≤ 40
  dep : ∀ t, t ∈ s.ends → t.dep ≤ 10
  size : s.size ≤ 63
structure Grw (s g : ST) (off han : Bool) : Prop where
  right : g.Right
  ne : g.ends ≠ []
  fits : ∀ t, t ∈ g.ends → Fits t
  fit : lvsL g.ends ≤ 40 → g.FitA
  lv : ∀ t, t ∈ g.ends → t.lvs ≤ 100
  size : g.size ≤ 250
  cw : cwO s ≤ cwO g
  dpt : g.dpt ≤ max s.dpt (if han = true then 12 else 3) + 1 ∨ (off = true ∧ cwO s < cwO g ∧ g.dpt ≤ s.dpt + 13)
  plain : off = false → han = false → lvsL g.ends ≤ lvsL s.ends + 4 ∧ g.size ≤ s.size + 1 ∧ ∀ D, 2 ≤ D → (∀ u, u ∈ s.ends → u.dep ≤ D) → ∀ t, t ∈ g.ends → t.dep ≤ D + 1
theorem lvs_two : ∀ t : FT, t.lvs ≤ 2 ^ t.dep
  | .leaf _ _ => Nat.le_refl _
  | .node s l r => by
    have a := lvs_two l
    have b := lvs_two r
    have p1 : 2 ^ l.dep ≤ 2 ^ max l.dep r.dep := Nat.pow_le_pow_right (by decide) (Nat.le_max_left _ _)
    have p2 : 2 ^ r.dep ≤ 2 ^ max l.dep r.dep := Nat.pow_le_pow_right (by decide) (Nat.le_max_right _ _)
    rw [node_lvs, node_dep, Nat.pow_add]
    omega
theorem lvs_in {l : List FT} {t : FT} (h : t ∈ l) : t.lvs ≤ lvsL l := le_sum (List.mem_map.mpr ⟨t, h, rfl⟩)
theorem Mid.fits {s : ST} (h : Mid s) : ∀ t, t ∈ s.ends → Fits t := (FitsA.fit h.fit).2.2.1
theorem Mid.ne {s : ST} (h : Mid s) : 1 ≤ s.ends.length := (FitsA.fit h.fit).1
theorem fits_node {s : Sg} {a b : FT} (ha : Fits a) (hb : Fits b) (h1 : a.dep ≤ 11) (h2 : b.dep ≤ 11) : Fits (.node s a b) := ⟨⟨ha.1, hb.1⟩, by rw [node_dep]; omega⟩
theorem grw_self {s : ST} (h : Mid s) (off han : Bool) : Grw s s off han := by
  refine ⟨h.right, fun z => ?_, h.fits, fun _ => h.fit, fun t ht => ?_, by have := h.size; omega, Nat.le_refl _, .inl (by omega), fun _ _ => ⟨by omega, by omega, fun D _ hD t ht => by have := hD t ht; omega⟩⟩
  · have := h.ne
    rw [z] at this
    exact absurd this (by decide)
  · have := lvs_in ht
    have := h.lvs
    omega
theorem grw_bt {s : ST} {i j : Nat} (h : Mid s) (hi : i < s.ends.length) (hj : j < s.ends.length) (hij : i ≠ j) (off han : Bool) : Grw s (.bt s i j) off han := by
  have ll := lvsL_less2 hi hj hij
  have m1 := nth_mem hi
  have m2 := nth_mem hj
  have d1 := h.dep _ m1
  have d2 := h.dep _ m2
  have hl := h.lvs
  have el : lvsL (ST.bt s i j).ends = lvsL s.ends := by
    rw [ends, lvsL_app, lvsL_cons, node_lvs]
    have : lvsL ([] : List FT) = 0 := rfl
    omega
  have mem : ∀ t, t ∈ (ST.bt s i j).ends → t ∈ s.ends ∨ t = .node .bar (nth s.ends i) (nth s.ends j) := fun t ht => by
    rcases List.mem_append.mp ht with z | z
    · exact .inl (less2_mem z)
    · exact .inr (List.mem_singleton.mp z)
  have fits : ∀ t, t ∈ (ST.bt s i j).ends → Fits t := fun t ht => by
    rcases mem t ht with z | rfl
    · exact h.fits t z
    · exact fits_node (h.fits _ m1) (h.fits _ m2) (by omega) (by omega)
  have ne : (ST.bt s i j).ends ≠ [] := by rw [ends]; simp
  refine ⟨⟨h.right, hi, hj, hij⟩, ne, fits, fun z => ⟨fit_by fits ne z, h.fit⟩, fun t ht => ?_, by have := h.size; show s.size + 1 ≤ 250; omega, Nat.le_refl _, .inl (by show 1 + s.dpt ≤ _; omega), fun _ _ => ⟨by omega, Nat.le_refl _, fun D _ hD t ht => ?_⟩⟩
  · have := lvs_in ht
    omega
  · rcases mem t ht with z | rfl
    · have := hD t z
      omega
    · have a := hD _ m1
      have b := hD _ m2
      rw [node_dep]
      omega
def chX (s : ST) (i d : Nat) (f : FT) : FT := if d = 0 then .node .plus (nth s.ends i) f else .node .plus f (nth s.ends i)
theorem chX_lvs (s : ST) (i d : Nat) (f : FT) : (chX s i d f).lvs = (nth s.ends i).lvs + f.lvs := by
  unfold chX
  split <;> rw [node_lvs] <;> omega
theorem chX_dep (s : ST) (i d : Nat) (f : FT) : (chX s i d f).dep = 1 + max (nth s.ends i).dep f.dep := by
  unfold chX
  split <;> rw [node_dep] <;> omega
theorem chX_ok {s : ST} {i d : Nat} {f : FT} (h1 : (nth s.ends i).Ok) (h2 : f.Ok) : (chX s i d f).Ok := by
  unfold chX
  split
  · exact ⟨h1, h2⟩
  · exact ⟨h2, h1⟩
theorem ch_ends (s : ST) (i d : Nat) (f : FT) : (ST.ch s i d f).ends = less s.ends i ++ [chX s i d f] := rfl
theorem grw_ch {s : ST} {i d : Nat} {f : FT} (h : Mid s) (hi : i < s.ends.length) (hd : d < 2) (fo : f.Ok) (fd : f.dep ≤ 2) (off han : Bool) : Grw s (.ch s i d f) off han := by
  have ll := lvsL_less hi
  have m1 := nth_mem hi
  have d1 := h.dep _ m1
  have hl := h.lvs
  have fl : f.lvs ≤ 4 := Nat.le_trans (lvs_two f) (Nat.pow_le_pow_right (n := 2) (by decide) fd)
  have el : lvsL (ST.ch s i d f).ends = lvsL s.ends + f.lvs := by
    rw [ch_ends, lvsL_app, lvsL_cons, chX_lvs]
    have : lvsL ([] : List FT) = 0 := rfl
    omega
  have mem : ∀ t, t ∈ (ST.ch s i d f).ends → t ∈ s.ends ∨ t = chX s i d f := fun t ht => by
    rcases List.mem_append.mp ht with z | z
    · exact .inl (less_mem z)
    · exact .inr (List.mem_singleton.mp z)
  have fits : ∀ t, t ∈ (ST.ch s i d f).ends → Fits t := fun t ht => by
    rcases mem t ht with z | rfl
    · exact h.fits t z
    · exact ⟨chX_ok (h.fits _ m1).1 fo, by rw [chX_dep]; omega⟩
  have ne : (ST.ch s i d f).ends ≠ [] := by rw [ch_ends]; simp
  refine ⟨⟨h.right, hi, hd, fo, by omega⟩, ne, fits, fun z => ⟨fit_by fits ne z, h.fit⟩, fun t ht => ?_, by have := h.size; show s.size + 1 ≤ 250; omega, Nat.le_refl _, .inl (by show 1 + max s.dpt (f.dep + 1) ≤ _; split <;> omega), fun _ _ => ⟨by omega, Nat.le_refl _, fun D hD2 hD t ht => ?_⟩⟩
  · have := lvs_in ht
    omega
  · rcases mem t ht with z | rfl
    · have := hD t z
      omega
    · have a := hD _ m1
      rw [chX_dep]
      omega
theorem grw_tu {s : ST} {os : List Nat} (h : Mid s) (p : os.Perm (List.range s.ends.length)) (off han : Bool) : Grw s (.tu s os) off han := by
  have pm : (ST.tu s os).ends.Perm s.ends := perm_map p
  have hl := h.lvs
  have el := lvsL_perm pm
  refine ⟨⟨h.right, p⟩, fun z => ?_, fun t ht => h.fits t (pm.mem_iff.mp ht), fun _ => ⟨(FitsA.fit h.fit).perm pm.symm, h.fit⟩, fun t ht => ?_, by have := h.size; show s.size + 1 ≤ 250; omega, Nat.le_refl _, .inl (by show 1 + s.dpt ≤ _; omega), fun _ _ => ⟨by omega, Nat.le_refl _, fun D _ hD t ht => by have := hD t (pm.mem_iff.mp ht); omega⟩⟩
  · have := pm.length_eq
    rw [z] at this
    have := h.ne
    simp at *
    omega
  · have := lvs_in ht
    omega
/-- an offer of two with the same rest -/
theorem grw_of {s p q : ST} {i j : Nat} (h : Mid s) (hR : (ST.of p q i j).Right) (fp : p.FitA) (fq : q.FitA) (hs : ∀ t, t ∈ less p.ends i → t ∈ s.ends) (da : (nth p.ends i).dep ≤ 11) (db : (nth q.ends j).dep ≤ 11) (la : (nth p.ends i).lvs ≤ 45) (lb : (nth q.ends j).lvs ≤ 45)
    (sz : (ST.of p q i j).size ≤ 250) (cw : cwO s ≤ cwO p + cwO q) (dp : (ST.of p q i j).dpt ≤ s.dpt + 13) (han : Bool) : Grw s (.of p q i j) true han := by
  have hl := h.lvs
  have fa := (FitsA.fit fp).2.2.1 _ (nth_mem hR.2.2.1)
  have fb := (FitsA.fit fq).2.2.1 _ (nth_mem hR.2.2.2.1)
  have mem : ∀ t, t ∈ (ST.of p q i j).ends → t ∈ s.ends ∨ t = .node .amp (nth p.ends i) (nth q.ends j) := fun t ht => by
    rcases List.mem_append.mp ht with z | z
    · exact .inl (hs t z)
    · exact .inr (List.mem_singleton.mp z)
  have fits : ∀ t, t ∈ (ST.of p q i j).ends → Fits t := fun t ht => by
    rcases mem t ht with z | rfl
    · exact h.fits t z
    · exact fits_node fa fb da db
  have ne : (ST.of p q i j).ends ≠ [] := by rw [ends]; simp
  refine ⟨hR, ne, fits, fun z => ⟨fit_by fits ne z, fp, fq⟩, fun t ht => ?_, sz, by show cwO s ≤ 1 + (cwO p + cwO q); omega, .inr ⟨rfl, by show cwO s < 1 + (cwO p + cwO q); omega, dp⟩, fun z => by cases z⟩
  rcases mem t ht with z | rfl
  · have := lvs_in z
    omega
  · rw [node_lvs]
    omega
theorem less_last {α : Type} (l : List α) (x : α) : less (l ++ [x]) l.length = l := by
  unfold less
  simp
theorem nth_last (l : List FT) (x : FT) : nth (l ++ [x]) l.length = x := nth_at l x []
theorem ch_fit {s : ST} {i d : Nat} {f : FT} (h : Mid s) (hl : lvsL s.ends ≤ 34) (hi : i < s.ends.length) (hd : d < 2) (fo : f.Ok) (fd : f.dep ≤ 1) : (ST.ch s i d f).FitA ∧ (ST.ch s i d f).Right := by
  have g := grw_ch h hi hd fo (by omega) false false
  have ll := lvsL_less hi
  have fl : f.lvs ≤ 2 := Nat.le_trans (lvs_two f) (Nat.pow_le_pow_right (n := 2) (by decide) fd)
  refine ⟨g.fit ?_, g.right⟩
  rw [ch_ends, lvsL_app, lvsL_cons, chX_lvs]
  have : lvsL ([] : List FT) = 0 := rfl
  omega
theorem grw_of1 {s : ST} {i d : Nat} {f : FT} (h : Mid s) (hl : lvsL s.ends ≤ 34) (hi : i < s.ends.length) (hd : d < 2) (fo : f.Ok) (fd : f.dep ≤ 1) (han : Bool) : Grw s (.of s (.ch s i d f) i (s.ends.length - 1)) true han ∧ Grw s (.of (.ch s i d f) s (s.ends.length - 1) i) true han := by
  obtain ⟨cf, cr⟩ := ch_fit h hl hi hd fo fd
  have l1 := less_len1 hi
  have e1 : s.ends.length - 1 = (less s.ends i).length := by omega
  have m1 := nth_mem hi
  have d1 := h.dep _ m1
  have v1 := lvs_in m1
  have fl : f.lvs ≤ 2 := Nat.le_trans (lvs_two f) (Nat.pow_le_pow_right (n := 2) (by decide) fd)
  have eN : nth (ST.ch s i d f).ends (s.ends.length - 1) = chX s i d f := by rw [ch_ends, e1, nth_last]
  have eL : less (ST.ch s i d f).ends (s.ends.length - 1) = less s.ends i := by rw [ch_ends, e1, less_last]
  have hlt : s.ends.length - 1 < (ST.ch s i d f).ends.length := by rw [ch_ends, List.length_append, e1]; exact Nat.lt_succ_self _
  have hs := h.size
  have hp := dpt_pos s
  constructor
  · refine grw_of h ⟨h.right, cr, hi, hlt, eL.symm⟩ h.fit cf (fun t ht => less_mem ht) (by omega) (by rw [eN, chX_dep]; omega) (by omega) (by rw [eN, chX_lvs]; omega) (by simp only [size]; omega) (by simp only [cwO]; omega) (by simp only [dpt]; omega) han
  · refine grw_of h ⟨cr, h.right, hlt, hi, eL⟩ cf h.fit (fun t ht => by rw [eL] at ht; exact less_mem ht) (by rw [eN, chX_dep]; omega) (by omega) (by rw [eN, chX_lvs]; omega) (by omega) (by simp only [size]; omega) (by simp only [cwO]; omega) (by simp only [dpt]; omega) han
theorem grw_ofx {s o : ST} {i : Nat} (h : Mid s) (hl : lvsL s.ends ≤ 34) (hs : s.size ≤ 60) (hi : i < s.ends.length) (e : Ex s o (2 * s.size + 40) (s.dpt + 12)) (han : Bool) : Grw s (.of s o i i) true han := by
  have m1 := nth_mem hi
  have d1 := h.dep _ m1
  have v1 := lvs_in m1
  have es := e.size
  have ed := e.dpt
  exact grw_of h ⟨h.right, e.right, hi, by rw [e.ends]; exact hi, by rw [e.ends]⟩ h.fit e.fit (fun t ht => less_mem ht) (by omega) (by rw [e.ends]; omega) (by omega) (by rw [e.ends]; omega) (by simp only [size]; omega) (by omega) (by simp only [dpt]; omega) han
theorem grw_ha1 {s : ST} {i : Nat} (h : Mid s) (hi : i < s.ends.length) (v : (nth s.ends i).lvs ≤ 4) (off : Bool) : Grw s (.ha s (pl (nth s.ends i)) i 1) off true := by
  have hr := ha_right h.right h.fit hi
  have hf := ha_fit h.fit hi (by omega)
  have ht := FitsA.fit hf
  have h1 := pl_size (nth s.ends i)
  have h2 := pl_dpt (nth s.ends i)
  have h3 := dep_lvs (nth s.ends i)
  have hs := h.size
  refine ⟨hr, fun z => ?_, ht.2.2.1, fun _ => hf, fun t htm => ?_, by simp only [size]; omega, by simp only [cwO]; omega, .inl (by simp only [dpt, if_true]; omega), fun _ z => by cases z⟩
  · have := ht.1
    rw [z] at this
    exact absurd this (by decide)
  · have := lvs_in htm
    have := ht.2.2.2
    omega
theorem grw_ha2 {s : ST} {i r : Nat} {g : List Nat} (h : Mid s) (hl : lvsL s.ends ≤ 34) (hi : i < s.ends.length) (v : (nth s.ends i).lvs ≤ 4) (hg : isName (Z g) = true) (hr : r < 2) (off : Bool) : Grw s (.ha s (.bo (pl (nth s.ends i)) (.lk g) 0 r) i 0) off true := by
  have m1 := nth_mem hi
  have ft := h.fits _ m1
  generalize ht : nth s.ends i = t at *
  have h1 := pl_size t
  have h2 := pl_dpt t
  have h3 := dep_lvs t
  have hs := h.size
  have ll := lvsL_less hi
  rw [ht] at ll
  obtain ⟨Y, X, eY, hY, hX, dX, lY, lX, dY⟩ : ∃ Y X, (ST.bo (pl t) (.lk g) 0 r).ends = [cnt t, Y, .node .mul t X] ∧ Y.Ok ∧ X.Ok ∧ X.dep = 0 ∧ Y.lvs = 1 ∧ X.lvs = 1 ∧ Y.dep = 0 := by
    obtain rfl | rfl : r = 0 ∨ r = 1 := by omega
    · exact ⟨.leaf true g, .leaf false g, by rw [ends, pl_ends]; rfl, hg, hg, rfl, rfl, rfl, rfl⟩
    · exact ⟨.leaf false g, .leaf true g, by rw [ends, pl_ends]; rfl, hg, hg, rfl, rfl, rfl, rfl⟩
  have fY : Fits Y := ⟨hY, by omega⟩
  have fM : Fits (.node .mul t X) := ⟨⟨ft.1, hX⟩, by rw [node_dep]; omega⟩
  have boR : (ST.bo (pl t) (.lk g) 0 r).Right := ⟨pl_right t ft, hg, by rw [pl_ends]; exact Nat.le_of_ble_eq_true rfl, hr⟩
  have c1 := cnt_lvs t
  have boF : (ST.bo (pl t) (.lk g) 0 r).FitA := ⟨by rw [eY]; exact fitA3 (fits_c ft) fY fM (by rw [node_lvs]; omega), pl_fit t ft (by omega), fitA2 (a := .leaf false g) (b := .leaf true g) ⟨hg, Nat.zero_le _⟩ ⟨hg, Nat.zero_le _⟩ (Nat.le_of_ble_eq_true rfl)⟩
  have eE : (ST.ha s (.bo (pl t) (.lk g) 0 r) i 0).ends = less s.ends i ++ [Y, .node .mul t X] := by rw [ends, eY]; rfl
  have eL : lvsL (ST.ha s (.bo (pl t) (.lk g) 0 r) i 0).ends ≤ 40 := by rw [eE, lvsL_app, lv2, node_lvs]; omega
  have fits : ∀ u, u ∈ (ST.ha s (.bo (pl t) (.lk g) 0 r) i 0).ends → Fits u := fun u hu => by
    rw [eE] at hu
    rcases List.mem_append.mp hu with z | z
    · exact h.fits u (less_mem z)
    · simp only [List.mem_cons, List.not_mem_nil, or_false] at z
      rcases z with rfl | rfl
      · exact fY
      · exact fM
  have ne : (ST.ha s (.bo (pl t) (.lk g) 0 r) i 0).ends ≠ [] := by rw [eE]; simp
  refine ⟨⟨h.right, boR, hi, by rw [eY]; exact Nat.le_of_ble_eq_true rfl, by rw [ht, eY]; rfl⟩, ne, fits, fun z => ⟨fit_by fits ne z, h.fit, boF⟩, fun u hu => ?_, by simp only [size]; omega, by simp only [cwO]; omega, .inl (by simp only [dpt, if_true]; omega), fun _ z => by cases z⟩
  have := lvs_in hu
  omega
end My

set_option Elab.async false
set_option linter.all false
set_option maxRecDepth 100000
namespace My
open PySem L2
open ST
abbrev s_law_offer_to : Stmt := top 90
abbrev N_law_offer_to : List Str := ["_law_pen", "_law_step", "_law_i", "_law_goods", "_law_way", "_law_many", "_law_more", "_law_other"]
abbrev P_law_offer_to : List Str := ["_law_pen", "_law_step", "_law_i", "_law_goods"]
theorem sc_law_offer_to : FnScope N_law_offer_to P_law_offer_to (defScope s_law_offer_to) := ⟨rfl, rfl, rfl, by decide +kernel, rfl, by decide +kernel, by decide +kernel⟩
abbrev s_law_grown : Stmt := top 93
abbrev N_law_grown : List Str := ["_law_pen", "_law_step", "_law_goods", "_law_offers", "_law_hands", "_law_ends", "_law_way", "_law_many", "_law_i", "_law_j"]
abbrev P_law_grown : List Str := ["_law_pen", "_law_step", "_law_goods", "_law_offers", "_law_hands"]
theorem sc_law_grown : FnScope N_law_grown P_law_grown (defScope s_law_grown) := ⟨rfl, rfl, rfl, by decide +kernel, rfl, by decide +kernel, by decide +kernel⟩
abbrev s_law_is_small : Stmt := top 96
abbrev N_law_is_small : List Str := ["_law_step", "_law_most", "_law_ends", "_law_form_here"]
abbrev P_law_is_small : List Str := ["_law_step", "_law_most"]
theorem sc_law_is_small : FnScope N_law_is_small P_law_is_small (defScope s_law_is_small) := ⟨rfl, rfl, rfl, by decide +kernel, rfl, by decide +kernel, by decide +kernel⟩
/-- goods to draw from -/
structure Gds (K : PySem.W.Frag) (H : Hp) (g : Addr) (zs : List Str) : Prop where
  sq : SqL K H g (zs.map V.str)
  ne : zs ≠ []
  len : zs.length ≤ 100
  ok : ∀ z, z ∈ zs → isName z = true
theorem Gds.keep {K : PySem.W.Frag} {H H' : Hp} {g d : Addr} {zs : List Str} (h : Gds K H g zs) (hd : IsDk H d) (k : Keep d H H') : Gds K H' g zs := ⟨seqL_keep hd k h.sq, h.ne, h.len, h.ok⟩
def spHanded (K : PySem.W.Frag) : Sp := fun vs H Q _ => ∃ (d L g : Addr) (ns : List Int) (m i : Nat) (zs : List Str) (v : V) (s : ST) (off : Bool), vs = [.ref d, v, .ref g, .int i] ∧ Pen K H d L ns m ∧ m + 10 < 2 ^ 40 ∧ Dp K H v s.data ∧ Mid s ∧ lvsL s.ends ≤ 34 ∧ s.dpt ≤ 50 ∧ i < s.ends.length ∧ (nth s.ends i).lvs ≤ 4 ∧ Gds K H g zs ∧
  ∀ H' u x, Keep d H H' → Pen K H' d L ns (m + 5) → Dp K H' u x.data → Grw s x off true → Q u H'
def spOfferTo (K : PySem.W.Frag) : Sp := fun vs H Q _ => ∃ (d L g : Addr) (ns : List Int) (m i : Nat) (zs : List Str) (v : V) (s : ST) (han : Bool), vs = [.ref d, v, .int i, .ref g] ∧ Pen K H d L ns m ∧ m + 2000 < 2 ^ 38 ∧ Dp K H v s.data ∧ Mid s ∧ lvsL s.ends ≤ 34 ∧ s.size ≤ 60 ∧ s.dpt ≤ 45 ∧ i < s.ends.length ∧ Gds K H g zs ∧
  ∀ H' u x, Keep d H H' → Pen K H' d L ns (m + 200) → Dp K H' u x.data → Grw s x true han → Q u H'
def spGrown (K : PySem.W.Frag) : Sp := fun vs H Q _ => ∃ (d L g : Addr) (ns : List Int) (m : Nat) (zs : List Str) (v : V) (s : ST) (o hh : Int), vs = [.ref d, v, .ref g, .int o, .int hh] ∧ Pen K H d L ns m ∧ m + 3000 < 2 ^ 38 ∧ Dp K H v s.data ∧ Mid s ∧ (0 < o ∨ 0 < hh → lvsL s.ends ≤ 34 ∧ s.size ≤ 60) ∧ s.dpt ≤ 45 ∧ Gds K H g zs ∧
  ∀ H' u x, Keep d H H' → Pen K H' d L ns (m + 300) → Dp K H' u x.data → Grw s x (decide (0 < o)) (decide (0 < hh)) → Q u H'
section
variable {P : Program} {w : World} {K : PySem.W.Frag} {mg : Str → Option Value} {base : Heap} {f : Addr} {fd : FuncData}
theorem ok_law_handed (T : Txt K mg) (C_law_draw : Cal P w K mg base "_law_draw" 1 P_law_draw (spDraw K)) (C_law_pick : Cal P w K mg base "_law_pick" 2 ["_law_pen", "_law_some"] (spPick K)) (C_law_ends_of : Cal P w K mg base "_law_ends_of" 61 P_law_ends_of (spEndsOfL K 60)) (C_law_plain : Cal P w K mg base "_law_plain" 26 P_law_counter' (spPlain K 13))
    (F : Fun K "_law_handed" "_law_handed" s_law_handed f fd) : FnOk P w K mg base CX0 62 f fd P_law_handed (spHanded K) := by
  refine F.ok sc_law_handed (fun vs H Q E h => ?_) (fun cdv A outer s H vs Q E hr h => ?_)
  · obtain ⟨d, L, g, ns, m, i, zs, v, t, off, rfl, _⟩ := h
    rfl
  obtain ⟨d, L, g, ns, m, i, zs, v, t, off, rfl, hp, hm, hv, hM, hl, hD, hi, hlv, hG, q⟩ := h
  refine ⟨_, (pss_cons (ps_set (i := 4) sc_law_handed.nd rfl (Or.inl rfl) (pe_callC C_law_ends_of hr (pa_cons (pv 1) pa_nil)))
  (pss_cons (ps_if (pt_cmpR op_eq (pe_callC C_law_draw hr (pa_cons (pv 0) (pa_cons pe_int pa_nil))) pe_int (nomark _))
    (pss_one (ps_ret (pe_tupN (pa_cons pe_str (pa_cons (pv 1) (pa_cons (pe_callC C_law_plain hr (pa_cons (pe_ix ix_list (pv 4) (pv 3) (fun _ _ => rfl)) pa_nil)) (pa_cons (pv 3) (pa_cons pe_int pa_nil))))))))
    pss_nil)
  (pss_cons (ps_set (i := 5) sc_law_handed.nd rfl (Or.inl rfl) (pe_tupN (pa_cons pe_str (pa_cons (pe_callC C_law_plain hr (pa_cons (pe_ix ix_list (pv 4) (pv 3) (fun _ _ => rfl)) pa_nil)) (pa_cons (pe_tupN (pa_cons pe_str (pa_cons (pe_callC C_law_pick hr (pa_cons (pv 0) (pa_cons (pv 2) pa_nil))) pa_nil))) (pa_cons pe_int (pa_cons (pe_callC C_law_draw hr (pa_cons (pv 0) (pa_cons pe_int pa_nil))) pa_nil)))))))
  (pss_one (ps_ret (pe_tupN (pa_cons pe_str (pa_cons (pv 1) (pa_cons (pv 5) (pa_cons (pv 3) (pa_cons pe_int pa_nil))))))))))), ?_⟩
  have hs := hM.size
  have du := der_u t hM.right (by omega)
  refine ⟨_, rfl, v, _, _, rfl, hv, du, Nat.le_trans (dep_st _) (by omega), fun H1 p1 s1 ⟨us1, e1, pr1⟩ => ?_⟩
  have l1 := paired_len pr1
  have nd : p1 ≠ d := fun z => by
    obtain ⟨kvs, h⟩ := (hp.same s1).isDk
    rw [z, h] at e1
    cases e1
  obtain ⟨x, hx, fx⟩ := paired_un pr1 (nth_get hi)
  have hfi := hM.fits _ (nth_mem hi)
  refine ⟨_, rfl, d, L, ns, _, 2, rfl, hp.same s1, by omega, by decide, by decide, fun r3 H2 r30 r31 k2 pp2 => ⟨rfl, _, rfl, ?_⟩⟩
  have e2 := k2 _ _ nd e1
  have k02 : Keep d H H2 := (Same.toKeep s1).trans k2
  have t12 : KT H1 H2 := kt_pen (hp.same s1) k2
  refine ite2 (fun _ => ?_) (fun _ => ?_)
  · refine ⟨_, rfl, _, rfl, _, rfl, p1, us1, _, x, rfl, rfl, SqL.of e2, atI_nat hx, x, nth t.ends i, rfl, t12.fm _ fx, by have := hfi.2; omega, fun H8 u8 s8 h8 => ⟨_, rfl, le1k, fun p9 H9 s9 e9 => ?_⟩⟩
    have s89 := s8.trans s9
    have k9 := k02.trans (Same.toKeep s89)
    refine q H9 _ (.ha t (pl (nth t.ends i)) i 1) k9 ((pp2.same s89).mono (by omega)) ?_ (grw_ha1 hM hi hlv off)
    exact .tup e9 (.cons (.str _) (.cons (dp_keep hp.isDk k9 _ _ hv) (.cons (by rw [pl_data]; exact dp_same s9 _ _ h8) (.cons (.int _) (.cons (.int _) .nil)))))
  · refine ⟨_, rfl, _, rfl, p1, us1, _, x, rfl, rfl, SqL.of e2, atI_nat hx, x, nth t.ends i, rfl, t12.fm _ fx, by have := hfi.2; omega, fun H8 u8 s8 h8 => ?_⟩
    have k8 := k02.trans (Same.toKeep s8)
    have hG8 := hG.keep hp.isDk k8
    refine ⟨_, rfl, _, rfl, d, L, ns, _, .ref g, rfl, pp2.same s8, by omega, .inl ⟨g, _, rfl, hG8.sq, by simpa using hG.ne, by rw [List.length_map]; have := hG.len; omega, fun y H9 hy k9 pp9 => ⟨le1k, fun p10 H10 s10 e10 => ?_⟩⟩⟩
    obtain ⟨zz, hzz, rfl⟩ := List.mem_map.mp hy
    refine ⟨_, rfl, d, L, ns, _, 2, rfl, pp9.same s10, by omega, by decide, by decide, fun r11 H11 r110 r111 k11 pp11 => ⟨le1k, fun p12 H12 s12 e12 => ⟨_, rfl, _, rfl, _, rfl, le1k, fun p13 H13 s13 e13 => ?_⟩⟩⟩
    obtain ⟨r, rfl⟩ : ∃ r : Nat, r11 = (r : Nat) := ⟨r11.toNat, by omega⟩
    have k811 : Keep d H8 H11 := k9.trans ((Same.toKeep s10).trans k11)
    have s1113 := s12.trans s13
    have k13 := k8.trans (k811.trans (Same.toKeep s1113))
    have t1013 : KT H10 H13 := (kt_pen (pp9.same s10) k11).trans (Same.kt s1113)
    have ez : Z zz.cps.toList = zz := Z_of _
    refine q H13 _ (.ha t (.bo (pl (nth t.ends i)) (.lk zz.cps.toList) 0 r) i 0) k13 ((pp11.same s1113).mono (by omega)) ?_ (grw_ha2 hM hl hi hlv (by rw [ez]; exact hG.ok zz hzz) (by omega) off)
    have hlk : Dp K H13 (.ref p10) (ST.lk zz.cps.toList).data := by
      refine .tup (t1013.seq e10) (.cons (.str _) (.cons ?_ .nil))
      rw [ez]
      exact .str _
    have hpl : Dp K H13 u8 (pl (nth t.ends i)).data := by
      rw [pl_data]
      exact dp_same s1113 _ _ (dp_keep (pp2.same s8).isDk k811 _ _ h8)
    have hbo : Dp K H13 (.ref p12) (ST.bo (pl (nth t.ends i)) (.lk zz.cps.toList) 0 r).data := .tup ((Same.kt s13).seq e12) (.cons (.str _) (.cons hpl (.cons hlk (.cons (.int _) (.cons (.int _) .nil)))))
    exact .tup e13 (.cons (.str _) (.cons (dp_keep hp.isDk k13 _ _ hv) (.cons hbo (.cons (.int _) (.cons (.int _) .nil)))))
theorem ok_law_offer_to (T : Txt K mg) (C_law_draw : Cal P w K mg base "_law_draw" 1 P_law_draw (spDraw K)) (C_law_form : Cal P w K mg base "_law_form" 5 P_law_form (spFormD K 3)) (C_law_ends_of : Cal P w K mg base "_law_ends_of" 61 P_law_ends_of (spEndsOfL K 60)) (C_law_exchanged : Cal P w K mg base "_law_exchanged" 107 P_law_exchanged (spExch K 45)) (C_law_crossed : Cal P w K mg base "_law_crossed" 62 P_law_crossed (spCrossed K 60))
    (F : Fun K "_law_offer_to" "_law_offer_to" s_law_offer_to f fd) : FnOk P w K mg base CX0 108 f fd P_law_offer_to (spOfferTo K) := by
  refine F.ok sc_law_offer_to (fun vs H Q E h => ?_) (fun cdv A outer s H vs Q E hr h => ?_)
  · obtain ⟨d, L, g, ns, m, i, zs, v, t, han, rfl, _⟩ := h
    rfl
  obtain ⟨d, L, g, ns, m, i, zs, v, t, han, rfl, hp, hm, hv, hM, hl, hS, hD, hi, hG, q⟩ := h
  refine ⟨_, (pss_cons (ps_par (i := 4) (j := 5) (by rfl) sc_law_offer_to.nd rfl rfl (by decide) rfl rfl (pa_cons (pe_callC C_law_draw hr (pa_cons (pv 0) (pa_cons pe_int pa_nil))) (pa_cons (pe_callB call_len rfl T.len (by decide +kernel) (pa_cons (pe_callC C_law_ends_of hr (pa_cons (pv 1) pa_nil)) pa_nil)) pa_nil)) (by rfl))
  (pss_cons (ps_if (pt_cmpR op_lt (pv 4) pe_int (nomark _))
    (pss_cons (ps_set (i := 6) sc_law_offer_to.nd rfl (Or.inl rfl) (pe_tupN (pa_cons pe_str (pa_cons (pv 1) (pa_cons (pv 2) (pa_cons (pe_callC C_law_draw hr (pa_cons (pv 0) (pa_cons pe_int pa_nil))) (pa_cons (pe_callC C_law_form hr (pa_cons (pv 0) (pa_cons (pv 3) (pa_cons pe_int pa_nil)))) pa_nil)))))))
    (pss_one (ps_ret (pe_ifExp (pt_cmpR op_eq (pv 4) pe_int (nomark _)) (pe_tupN (pa_cons pe_str (pa_cons (pv 1) (pa_cons (pv 6) (pa_cons (pv 2) (pa_cons (pe_op op_sub (pv 5) pe_int) pa_nil)))))) (pe_tupN (pa_cons pe_str (pa_cons (pv 6) (pa_cons (pv 1) (pa_cons (pe_op op_sub (pv 5) pe_int) (pa_cons (pv 2) pa_nil))))))))))
    pss_nil)
  (pss_cons (ps_set (i := 7) sc_law_offer_to.nd rfl (Or.inl rfl) (pe_ifExp (pt_cmpR op_eq (pv 4) pe_int (nomark _)) (pe_callC C_law_exchanged hr (pa_cons (pv 0) (pa_cons (pv 1) pa_nil))) (pe_callC C_law_crossed hr (pa_cons (pv 0) (pa_cons (pv 1) pa_nil)))))
  (pss_one (ps_ret (pe_tupN (pa_cons pe_str (pa_cons (pv 1) (pa_cons (pv 7) (pa_cons (pv 2) (pa_cons (pv 2) pa_nil))))))))))), ?_⟩
  have du := der_u t hM.right (by omega)
  refine ⟨_, rfl, d, L, ns, m, 4, rfl, hp, by omega, by decide, by decide, fun r1 H1 r10 r11 k1 pp1 => ?_⟩
  have hv1 := dp_keep hp.isDk k1 _ _ hv
  refine ⟨_, rfl, v, _, _, rfl, hv1, du, Nat.le_trans (dep_st _) (by omega), fun H2 p2 s2 ⟨us2, e2, pr2⟩ => ⟨_, _, rfl, .inl ⟨us2, SqL.of e2, rfl⟩, _, _, rfl, ?_⟩⟩
  have l2 := paired_len pr2
  have k02 := k1.trans (Same.toKeep s2)
  have pp2 := pp1.same s2
  have elast : (us2.length : Int) - 1 = ((t.ends.length - 1 : Nat) : Int) := by omega
  refine ⟨_, rfl, _, _, rfl, rfl, _, rfl, ?_⟩
  refine ite2 (fun _ => ?_) (fun _ => ?_)
  · refine ⟨_, rfl, _, rfl, _, rfl, d, L, ns, _, 2, rfl, pp2, by omega, by decide, by decide, fun r3 H3 r30 r31 k3 pp3 => ?_⟩
    have hG3 := hG.keep hp.isDk (k02.trans k3)
    refine ⟨_, rfl, _, rfl, d, L, g, ns, _, 1, zs, rfl, pp3, hG3.sq, hG.ne, hG.len, hG.ok, by decide, by decide, by omega, fun H4 v4 f4 k4 pp4 fm4 ok4 dp4 => ⟨le1k, fun p5 H5 s5 e5 => ?_⟩⟩
    have k05 := k02.trans (k3.trans (k4.trans (Same.toKeep s5)))
    obtain ⟨c3, rfl⟩ : ∃ c : Nat, r3 = (c : Nat) := ⟨r3.toNat, by omega⟩
    have hv5 := dp_keep hp.isDk k05 _ _ hv
    have hch : Dp K H5 (.ref p5) (ST.ch t i c3 f4).data := .tup e5 (.cons (.str _) (.cons hv5 (.cons (.int _) (.cons (.int _) (.cons (FT.of_fm _ ((Same.kt s5).fm _ fm4)) .nil)))))
    obtain ⟨g1, g2⟩ := grw_of1 (d := c3) hM hl hi (by omega) ok4 dp4 han
    refine ⟨_, rfl, rfl, _, rfl, ?_⟩
    refine ite2 (fun _ => ?_) (fun _ => ?_)
    · refine ⟨_, rfl, _, rfl, _, rfl, _, rfl, _, _, rfl, rfl, le1k, fun p6 H6 s6 e6 => ?_⟩
      have e6 : SqT K H6 p6 [.str "offer", v, .ref p5, .int i, .int ((t.ends.length - 1 : Nat) : Int)] := by
        rw [← elast]
        exact e6
      exact q H6 _ (.of t (.ch t i c3 f4) i (t.ends.length - 1)) (k05.trans (Same.toKeep s6)) (((pp4.same s5).same s6).mono (by omega)) (.tup e6 (.cons (.str _) (.cons (dp_same s6 _ _ hv5) (.cons (dp_same s6 _ _ hch) (.cons (.int _) (.cons (.int _) .nil)))))) g1
    · refine ⟨_, rfl, _, rfl, _, rfl, _, _, rfl, rfl, _, rfl, le1k, fun p6 H6 s6 e6 => ?_⟩
      have e6 : SqT K H6 p6 [.str "offer", .ref p5, v, .int ((t.ends.length - 1 : Nat) : Int), .int i] := by
        rw [← elast]
        exact e6
      exact q H6 _ (.of (.ch t i c3 f4) t (t.ends.length - 1) i) (k05.trans (Same.toKeep s6)) (((pp4.same s5).same s6).mono (by omega)) (.tup e6 (.cons (.str _) (.cons (dp_same s6 _ _ hch) (.cons (dp_same s6 _ _ hv5) (.cons (.int _) (.cons (.int _) .nil)))))) g2
  · have hv2 := dp_same s2 _ _ hv1
    refine ⟨_, rfl, rfl, _, rfl, ?_⟩
    have fin : ∀ H3 u3 s', Keep d H2 H3 → Pen K H3 d L ns (m + 199) → Dp K H3 u3 s'.data → Ex t s' (2 * t.size + 40) (t.dpt + 12) → ∀ p4 H4, Same H3 H4 → SqT K H4 p4 [.str "offer", v, u3, .int i, .int i] → Q (.ref p4) H4 := by
      intro H3 u3 s' k3 pp3 h3 ex p4 H4 s4 e4
      have k4 := k02.trans (k3.trans (Same.toKeep s4))
      exact q H4 _ (.of t s' i i) k4 ((pp3.same s4).mono (by omega)) (.tup e4 (.cons (.str _) (.cons (dp_keep hp.isDk k4 _ _ hv) (.cons (dp_same s4 _ _ h3) (.cons (.int _) (.cons (.int _) .nil)))))) (grw_ofx hM hl hS hi ex han)
    refine ite2 (fun _ => ?_) (fun _ => ?_)
    · refine ⟨_, rfl, _, rfl, d, L, ns, _, v, t, rfl, pp2, by omega, hv2, hM.right, hM.fit, by omega, hD, by decide, fun H3 u3 s' k3 pp3 h3 ex => ⟨_, rfl, _, rfl, _, rfl, _, rfl, le1k, fun p4 H4 s4 e4 => ?_⟩⟩
      exact fin H3 u3 s' k3 (pp3.mono (by omega)) h3 ex p4 H4 s4 e4
    · refine ⟨_, rfl, _, rfl, d, L, ns, _, v, t, rfl, pp2, by omega, hv2, hM.right, hM.fit, by omega, by omega, fun H3 u3 s' k3 pp3 h3 ex => ⟨_, rfl, _, rfl, _, rfl, _, rfl, le1k, fun p4 H4 s4 e4 => ?_⟩⟩
      exact fin H3 u3 s' k3 (pp3.mono (by omega)) h3 (ex.le (by omega) (by omega)) p4 H4 s4 e4
theorem Grw.up {s g : ST} {off han : Bool} (h : Grw s g off han) : Grw s g off han := h
set_option maxHeartbeats 4000000 in
theorem ok_law_grown (T : Txt K mg) (C_law_draw : Cal P w K mg base "_law_draw" 1 P_law_draw (spDraw K)) (C_law_form : Cal P w K mg base "_law_form" 5 P_law_form (spFormD K 3)) (C_law_ends_of : Cal P w K mg base "_law_ends_of" 61 P_law_ends_of (spEndsOfL K 60)) (C_law_shuffled : Cal P w K mg base "_law_shuffled" 2 P_law_shuffled (spShufN K)) (C_law_leaves : Cal P w K mg base "_law_leaves" 13 P_law_counter' (spLeavesL K 13))
    (C_law_offer_to : Cal P w K mg base "_law_offer_to" 108 P_law_offer_to (spOfferTo K)) (C_law_handed : Cal P w K mg base "_law_handed" 62 P_law_handed (spHanded K)) (F : Fun K "_law_grown" "_law_grown" s_law_grown f fd) : FnOk P w K mg base CX0 109 f fd P_law_grown (spGrown K) := by
  refine F.ok sc_law_grown (fun vs H Q E h => ?_) (fun cdv A outer s H vs Q E hr h => ?_)
  · obtain ⟨d, L, g, ns, m, zs, v, t, o, hh, rfl, _⟩ := h
    rfl
  obtain ⟨d, L, g, ns, m, zs, v, t, o, hh, rfl, hp, hm, hv, hM, hoh, hD, hG, q⟩ := h
  refine ⟨_, (pss_cons (ps_par (i := 5) (j := 6) (by rfl) sc_law_grown.nd rfl rfl (by decide) rfl rfl (pa_cons (pe_callC C_law_ends_of hr (pa_cons (pv 1) pa_nil)) (pa_cons (pe_callC C_law_draw hr (pa_cons (pv 0) (pa_cons pe_int pa_nil))) pa_nil)) (by rfl))
  (pss_cons (ps_par (i := 7) (j := 8) (by rfl) sc_law_grown.nd rfl rfl (by decide) rfl rfl (pa_cons (pe_callB call_len rfl T.len (by decide +kernel) (pa_cons (pv 5) pa_nil)) (pa_cons (pe_callC C_law_draw hr (pa_cons (pv 0) (pa_cons (pe_callB call_len rfl T.len (by decide +kernel) (pa_cons (pv 5) pa_nil)) pa_nil))) pa_nil)) (by rfl))
  (pss_cons (ps_if (PW.pt (pw_and (pt_cmpR op_lt (pv 6) pe_int (nomark _)) (pw_and1 (pt_cmpR op_gt (pv 7) pe_int (nomark _)))))
    (pss_cons (ps_set (i := 9) sc_law_grown.nd rfl (Or.inl rfl) (pe_op op_mod (pe_callTy call_int1 rfl T.int (by decide +kernel) (pa_cons (pe_op op_add (pe_op op_add (pv 8) pe_int) (pe_callC C_law_draw hr (pa_cons (pv 0) (pa_cons (pe_op op_sub (pv 7) pe_int) pa_nil)))) pa_nil)) (pv 7)))
    (pss_one (ps_ret (pe_tupN (pa_cons pe_str (pa_cons (pv 1) (pa_cons (pv 8) (pa_cons (pv 9) pa_nil))))))))
    pss_nil)
  (pss_cons (ps_if (pt_cmpR op_eq (pv 6) pe_int (nomark _))
    (pss_one (ps_ret (pe_tupN (pa_cons pe_str (pa_cons (pv 1) (pa_cons (pv 8) (pa_cons (pe_callC C_law_draw hr (pa_cons (pv 0) (pa_cons pe_int pa_nil))) (pa_cons (pe_callC C_law_form hr (pa_cons (pv 0) (pa_cons (pv 2) (pa_cons pe_int pa_nil)))) pa_nil))))))))
    pss_nil)
  (pss_cons (ps_if (pt_cmpR op_eq (pv 6) pe_int (nomark _))
    (pss_one (ps_ret (pe_tupN (pa_cons pe_str (pa_cons (pv 1) (pa_cons (pe_callTy call_tupLN rfl T.tuple (by decide +kernel) (pa_cons (pe_callC C_law_shuffled hr (pa_cons (pv 0) (pa_cons (pe_listRgN rfl rfl T.list (prg_1 rfl T.range (pv 7))) pa_nil))) pa_nil)) pa_nil))))))
    pss_nil)
  (pss_cons (ps_if (PW.pt (pw_and (pt_cmpR op_lt (pv 6) pe_int (nomark _)) (pw_and1 (pt_cmpR op_gt (pv 3) pe_int (nomark _)))))
    (pss_one (ps_ret (pe_callC C_law_offer_to hr (pa_cons (pv 0) (pa_cons (pv 1) (pa_cons (pv 8) (pa_cons (pv 2) pa_nil)))))))
    pss_nil)
  (pss_cons (ps_if (PW.pt (pw_and (pt_cmpR op_eq (pv 6) pe_int (nomark _)) (pw_and (pt_cmpR op_gt (pv 4) pe_int (nomark _)) (pw_and1 (pt_cmpR op_lt (pe_callB call_len rfl T.len (by decide +kernel) (pa_cons (pe_callC C_law_leaves hr (pa_cons (pe_ix ix_list (pv 5) (pv 8) (fun _ _ => rfl)) pa_nil)) pa_nil)) pe_int (nomark _))))))
    (pss_one (ps_ret (pe_callC C_law_handed hr (pa_cons (pv 0) (pa_cons (pv 1) (pa_cons (pv 2) (pa_cons (pv 8) pa_nil)))))))
    pss_nil)
  (pss_one (ps_ret (pv 1)))))))))), ?_⟩
  have hs := hM.size
  have hl40 := hM.lvs
  have hne := hM.ne
  have hel := ends_len t hM.right
  have du := der_u t hM.right (by omega)
  refine ⟨_, rfl, v, _, _, rfl, hv, du, Nat.le_trans (dep_st _) (by omega), fun H1 p1 s1 ⟨us1, e1, pr1⟩ => ?_⟩
  have l1 := paired_len pr1
  have nd : p1 ≠ d := fun z => by
    obtain ⟨kvs, h⟩ := (hp.same s1).isDk
    rw [z, h] at e1
    cases e1
  refine ⟨_, rfl, d, L, ns, _, 9, rfl, hp.same s1, by omega, by decide, by decide, fun way H2 r30 r31 k2 pp2 => ⟨_, _, rfl, ?_⟩⟩
  have e2 := k2 _ _ nd e1
  have k02 : Keep d H H2 := (Same.toKeep s1).trans k2
  have t12 : KT H1 H2 := kt_pen (hp.same s1) k2
  refine ⟨_, rfl, _, _, rfl, .inl ⟨us1, SqL.of e2, rfl⟩, _, rfl, _, rfl, _, _, rfl, .inl ⟨us1, SqL.of e2, rfl⟩, d, L, ns, _, _, rfl, pp2, by omega, by omega, by omega, fun r4 H3 r40 r41 k3 pp3 => ⟨_, _, rfl, ?_⟩⟩
  have e3 := k3 _ _ nd e2
  have k03 := k02.trans k3
  have t13 : KT H1 H3 := t12.trans (kt_pen pp2 k3)
  obtain ⟨i, rfl⟩ : ∃ i : Nat, r4 = (i : Nat) := ⟨r4.toNat, by omega⟩
  have hi : i < t.ends.length := by omega
  have hv3 := dp_keep hp.isDk k03 _ _ hv
  have hG3 := hG.keep hp.isDk k03
  obtain ⟨x, hx, fx⟩ := paired_un pr1 (nth_get hi)
  have hfi := hM.fits _ (nth_mem hi)
  have hlv := lvs_in (nth_mem hi)
  refine ⟨_, rfl, _, _, rfl, rfl, _, rfl, ?_⟩
  refine ite2 (fun c1 => ?a1) (fun c1 => ?b1)
  case' a1 =>
    refine ⟨_, rfl, _, _, rfl, rfl, _, rfl, ?_⟩
    refine ite2 (fun c2 => ?a2) (fun c2 => ?b2)
  case a2 =>
    have hgt := of_decide_eq_true c2
    refine ⟨_, rfl, _, _, rfl, rfl, _, rfl, _, rfl, _, _, rfl, rfl, d, L, ns, _, _, rfl, pp3, by omega, by omega, by omega, fun r5 H5 r50 r51 k5 pp5 => ⟨_, _, rfl, rfl, .inl ⟨_, rfl, _, rfl, _, _, rfl, rfl, ?_⟩⟩⟩
    have hm0 : (0 : Int) < (us1.length : Nat) := by omega
    obtain ⟨j, hj, hjl, hji⟩ : ∃ j : Nat, ((i : Int) + 1 + r5) % ((us1.length : Nat) : Int) = (j : Nat) ∧ j < t.ends.length ∧ i ≠ j := by
      by_cases c : (i : Int) + 1 + r5 < (us1.length : Nat)
      · exact ⟨((i : Int) + 1 + r5).toNat, by rw [Int.emod_eq_of_lt (by omega) c]; omega, by omega, by omega⟩
      · refine ⟨((i : Int) + 1 + r5 - (us1.length : Nat)).toNat, ?_, by omega, by omega⟩
        have e : (i : Int) + 1 + r5 = ((i : Int) + 1 + r5 - (us1.length : Nat)) + ((us1.length : Nat) : Int) := by omega
        rw [e, Int.add_emod_right, Int.emod_eq_of_lt (by omega) (by omega)]
        omega
    refine ⟨hm0, _, rfl, _, rfl, _, rfl, le1k, fun p7 H7 s7 e7 => ?_⟩
    have e7 : SqT K H7 p7 [.str "between", v, .int i, .int j] := by
      rw [← hj]
      exact e7
    have k7 := k03.trans (k5.trans (Same.toKeep s7))
    exact q H7 _ (.bt t i j) k7 ((pp5.same s7).mono (by omega)) (.tup e7 (.cons (.str _) (.cons (dp_keep hp.isDk k7 _ _ hv) (.cons (.int _) (.cons (.int _) .nil))))) (grw_bt hM hi hjl hji _ _)
  all_goals
    refine ⟨_, rfl, rfl, _, rfl, ?_⟩
    refine ite2 (fun _ => ?_) (fun _ => ?_)
    · refine ⟨_, rfl, _, rfl, _, rfl, d, L, ns, _, 2, rfl, pp3, by omega, by decide, by decide, fun r5 H5 r50 r51 k5 pp5 => ?_⟩
      have hG5 := hG3.keep pp3.isDk k5
      refine ⟨_, rfl, _, rfl, d, L, g, ns, _, 2, zs, rfl, pp5, hG5.sq, hG.ne, hG.len, hG.ok, by decide, by decide, by omega, fun H6 v6 f6 k6 pp6 fm6 ok6 dp6 => ⟨le1k, fun p7 H7 s7 e7 => ?_⟩⟩
      obtain ⟨c5, rfl⟩ : ∃ c : Nat, r5 = (c : Nat) := ⟨r5.toNat, by omega⟩
      have k7 := k03.trans (k5.trans (k6.trans (Same.toKeep s7)))
      exact q H7 _ (.ch t i c5 f6) k7 ((pp6.same s7).mono (by omega)) (.tup e7 (.cons (.str _) (.cons (dp_keep hp.isDk k7 _ _ hv) (.cons (.int _) (.cons (.int _) (.cons (FT.of_fm _ ((Same.kt s7).fm _ fm6)) .nil)))))) (grw_ch hM hi (by omega) ok6 dp6 _ _)
    refine ⟨_, rfl, rfl, _, rfl, ?_⟩
    refine ite2 (fun _ => ?_) (fun _ => ?_)
    · refine ⟨_, rfl, _, rfl, _, rfl, _, rfl, RgOk.of_le (by omega) (by omega) (by omega) (by omega), fun p8 H8 s8 e8 => ?_⟩
      rw [l1, rg_nat] at e8
      refine ⟨d, L, p8, ns, _, List.range t.ends.length, rfl, pp3.same s8, by rw [List.length_range]; omega, SqL.of e8, by rw [List.length_range]; omega, fun H9 p9 os k9 pp9 e9 po => ⟨p9, _, rfl, SqL.of e9, fun p10 H10 s10 e10 => ⟨le1k, fun p11 H11 s11 e11 => ?_⟩⟩⟩
      rw [List.length_range] at pp9
      have s1011 := s10.trans s11
      have k11 := k03.trans ((Same.toKeep s8).trans (k9.trans (Same.toKeep s1011)))
      exact q H11 _ _ k11 ((pp9.same s1011).mono (by omega)) (dp_tu (dp_keep hp.isDk k11 _ _ hv) ((Same.kt s11).seq e10) e11) (grw_tu hM po _ _)
    refine ⟨_, rfl, _, _, rfl, rfl, _, rfl, ?_⟩
    refine ite2 (fun _ => ?_) (fun _ => ?_)
    · refine ⟨_, rfl, _, _, rfl, rfl, _, rfl, ?_⟩
      refine ite2 (fun co => ?_) (fun _ => ?_)
      · have ho := of_decide_eq_true co
        obtain ⟨h34, h60⟩ := hoh (.inl ho)
        refine ⟨_, rfl, _, rfl, _, rfl, _, rfl, d, L, g, ns, _, i, zs, v, t, decide (0 < hh), rfl, pp3, by omega, hv3, hM, h34, h60, hD, hi, hG3, fun H9 u x9 k9 pp9 h9 g9 => ?_⟩
        rw [← co] at g9
        exact q H9 u x9 (k03.trans k9) (pp9.mono (by omega)) h9 g9
      · refine ⟨_, rfl, rfl, _, rfl, ?_⟩
        refine ite2 (fun _ => ?_) (fun _ => ?_)
        · refine ⟨_, rfl, _, _, rfl, rfl, _, rfl, ?_⟩
          refine ite2 (fun ch => ?_) (fun _ => ?_)
          · have hhh := of_decide_eq_true ch
            obtain ⟨h34, h60⟩ := hoh (.inr hhh)
            refine ⟨_, rfl, _, rfl, p1, us1, _, x, rfl, rfl, SqL.of e3, atI_nat hx, x, nth t.ends i, rfl, t13.fm _ fx, by have := hfi.2; omega, by omega, fun H7 p7 us7 s7 e7 l7 => ⟨_, _, rfl, .inl ⟨us7, SqL.of e7, rfl⟩, _, _, rfl, rfl, _, rfl, ?_⟩⟩
            refine ite2 (fun c8 => ?_) (fun _ => ?_)
            · have hlt5 : us7.length < 5 := by
                have := of_decide_eq_true c8
                omega
              refine ⟨_, rfl, _, rfl, _, rfl, _, rfl, d, L, g, ns, _, i, zs, v, t, decide (0 < o), rfl, pp3.same s7, by omega, dp_same s7 _ _ hv3, hM, h34, by omega, hi, by omega, hG3.keep pp3.isDk (Same.toKeep s7), fun H9 u x9 k9 pp9 h9 g9 => ?_⟩
              rw [← ch] at g9
              exact q H9 u x9 (k03.trans ((Same.toKeep s7).trans k9)) (pp9.mono (by omega)) h9 g9
            · exact ⟨_, rfl, q H7 v t (k03.trans (Same.toKeep s7)) ((pp3.same s7).mono (by omega)) (dp_same s7 _ _ hv3) (grw_self hM _ _)⟩
          · exact ⟨_, rfl, q H3 v t k03 (pp3.mono (by omega)) hv3 (grw_self hM _ _)⟩
        · exact ⟨_, rfl, q H3 v t k03 (pp3.mono (by omega)) hv3 (grw_self hM _ _)⟩
    · refine ⟨_, rfl, rfl, _, rfl, ?_⟩
      refine ite2 (fun _ => ?_) (fun _ => ?_)
      · refine ⟨_, rfl, _, _, rfl, rfl, _, rfl, ?_⟩
        refine ite2 (fun ch => ?_) (fun _ => ?_)
        · have hhh := of_decide_eq_true ch
          obtain ⟨h34, h60⟩ := hoh (.inr hhh)
          refine ⟨_, rfl, _, rfl, p1, us1, _, x, rfl, rfl, SqL.of e3, atI_nat hx, x, nth t.ends i, rfl, t13.fm _ fx, by have := hfi.2; omega, by omega, fun H7 p7 us7 s7 e7 l7 => ⟨_, _, rfl, .inl ⟨us7, SqL.of e7, rfl⟩, _, _, rfl, rfl, _, rfl, ?_⟩⟩
          refine ite2 (fun c8 => ?_) (fun _ => ?_)
          · have hlt5 : us7.length < 5 := by
              have := of_decide_eq_true c8
              omega
            refine ⟨_, rfl, _, rfl, _, rfl, _, rfl, d, L, g, ns, _, i, zs, v, t, decide (0 < o), rfl, pp3.same s7, by omega, dp_same s7 _ _ hv3, hM, h34, by omega, hi, by omega, hG3.keep pp3.isDk (Same.toKeep s7), fun H9 u x9 k9 pp9 h9 g9 => ?_⟩
            rw [← ch] at g9
            exact q H9 u x9 (k03.trans ((Same.toKeep s7).trans k9)) (pp9.mono (by omega)) h9 g9
          · exact ⟨_, rfl, q H7 v t (k03.trans (Same.toKeep s7)) ((pp3.same s7).mono (by omega)) (dp_same s7 _ _ hv3) (grw_self hM _ _)⟩
        · exact ⟨_, rfl, q H3 v t k03 (pp3.mono (by omega)) hv3 (grw_self hM _ _)⟩
      · exact ⟨_, rfl, q H3 v t k03 (pp3.mono (by omega)) hv3 (grw_self hM _ _)⟩
end
end My

set_option Elab.async false
set_option linter.all false
set_option maxRecDepth 100000
namespace My
open PySem L2
open ST
abbrev s_law_deed : Stmt := top 95
abbrev N_law_deed : List Str := ["_law_pen", "_law_links_here", "_law_offers", "_law_hands", "_law_most", "_law_goods", "_law_step", "_law_k", "_law_other", "_law_i", "_law_j", "_law_more", "_law_left"]
abbrev P_law_deed : List Str := ["_law_pen", "_law_links_here", "_law_offers", "_law_hands", "_law_most"]
theorem sc_law_deed : FnScope N_law_deed P_law_deed (defScope s_law_deed) := ⟨rfl, rfl, rfl, by decide +kernel, rfl, by decide +kernel, by decide +kernel⟩
theorem cut_seq {t u : TS} {D : Ends} {σ : L2.St} {H : Hp} (Pv : L2.St → Hp → Prop) (h2 : ∀ σ' H', Pv σ' H' → u D σ' H') (h1 : (∀ σ' H', Pv σ' H' → u D σ' H') → t { D with nx := u D } σ H) : tSeq t u D σ H := h1 h2
theorem cut_nam {i : Nat} {v : V} {c : TT} {a b u : TS} {D : Ends} {σ : L2.St} {H : Hp} (Pv : L2.St → Hp → Prop) (h2 : ∀ σ' H', Pv σ' H' → u D σ' H') (h1 : (∀ σ' H', Pv σ' H' → u D σ' H') → tIfS c a b { D with nx := u D } (σ.set i (some v)) H) : gName i v σ H (tSeq (tIfS c a b) u D) := h1 h2
theorem cut_asg {te : TE} {g : TG} {u : TS} {D : Ends} {σ : L2.St} {H : Hp} (Pv : L2.St → Hp → Prop) (h2 : ∀ σ' H', Pv σ' H' → u D σ' H') (h1 : (∀ σ' H', Pv σ' H' → u D σ' H') → tAsg te g { D with nx := u D } σ H) : tSeq (tAsg te g) u D σ H := h1 h2
theorem cut_ifs {c : TT} {a b u : TS} {D : Ends} {σ : L2.St} {H : Hp} (Pv : L2.St → Hp → Prop) (h2 : ∀ σ' H', Pv σ' H' → u D σ' H') (h1 : (∀ σ' H', Pv σ' H' → u D σ' H') → tIfS c a b { D with nx := u D } σ H) : tSeq (tIfS c a b) u D σ H := h1 h2
section
variable {P : Program} {w : World} {K : PySem.W.Frag} {mg : Str → Option Value} {base : Heap}
/-- a def with defaults, by its body -/
theorem okW {x qual : Str} {st : Stmt} {dvs : List V} {kws : List (Str × V)} {f : Addr} {fd : FuncData} {N ps : List Str} {k : Nat} {sp : Sp} (F : FunD K x qual (defArgs st) (defBody st) (defScope st) dvs kws f fd) (S : FnScope N ps (defScope st)) (len : ∀ vs H Q E, sp vs H Q E → vs.length = ps.length)
    (hbody : ∀ (cdv : Value) (A : Around) (outer : List Env) (s : Shared) (H : Hp) (vs : List V) (Q : VK) (E : XK), Room k (A.deeper (PyProof.Rows.envOfC qual (defScope st) s.heap.objs.size f cdv)) → sp vs H Q E →
      ∃ t, PSs (cxOf CX0 P w K mg base N qual (defScope st) f cdv A outer s H E).nox (defBody st) t ∧ t { nx := fun _ H' => Q .non H', rt := Q } (L2.start N vs) H) : FnOk P w K mg base CX0 (k + 1) f fd ps sp :=
  F.ok S len fun cdv A outer s H vs Q E hr h => by
    obtain ⟨t, h1, q⟩ := hbody cdv A outer s H vs Q E hr h
    exact ⟨t, h1.nox, q⟩
end
structure Sml (s : ST) : Prop where
  right : s.Right
  fit : s.FitA
  lvs : lvsL s.ends ≤ 34
  dep : ∀ t, t ∈ s.ends → t.dep ≤ 9
  size : s.size ≤ 60
theorem Sml.mid {s : ST} (h : Sml s) : Mid s := ⟨h.right, h.fit, by have := h.lvs; omega, fun t ht => by have := h.dep t ht; omega, by have := h.size; omega⟩
structure Oth (o : ST) : Prop where
  right : o.Right
  fit : o.FitA
  lvs : lvsL o.ends ≤ 6
  dep : ∀ t, t ∈ o.ends → t.dep ≤ 3
  size : o.size ≤ 2
  dpt : o.dpt ≤ 4
theorem lk_fit {g : List Nat} (hg : isName (Z g) = true) : (ST.lk g).FitA := fitA2 (a := .leaf false g) (b := .leaf true g) ⟨hg, Nat.zero_le _⟩ ⟨hg, Nat.zero_le _⟩ (Nat.le_of_ble_eq_true rfl)
theorem lk_dep {g : List Nat} : ∀ t, t ∈ (ST.lk g).ends → t.dep = 0 := fun t ht => by
  simp only [ends, List.mem_cons, List.not_mem_nil, or_false] at ht
  rcases ht with rfl | rfl <;> rfl
theorem lk_lvs (g : List Nat) : lvsL (ST.lk g).ends = 2 := rfl
theorem sml_lk {g : List Nat} (hg : isName (Z g) = true) : Sml (.lk g) := ⟨hg, lk_fit hg, by rw [lk_lvs]; omega, fun t ht => by rw [lk_dep t ht]; omega, by show 1 ≤ 60; omega⟩
theorem oth_lk {g : List Nat} (hg : isName (Z g) = true) : Oth (.lk g) := ⟨hg, lk_fit hg, by rw [lk_lvs]; omega, fun t ht => by rw [lk_dep t ht]; omega, by show 1 ≤ 2; omega, by show 1 ≤ 4; omega⟩
theorem oth_grw {g : List Nat} {x : ST} (h : Grw (.lk g) x false false) : Oth x := by
  obtain ⟨h1, h2, h3⟩ := h.plain rfl rfl
  rw [lk_lvs] at h1
  have hs : (ST.lk g).size = 1 := rfl
  have hd : (ST.lk g).dpt = 1 := rfl
  refine ⟨h.right, h.fit (by omega), by omega, fun t ht => h3 2 (Nat.le_refl _) (fun u hu => by rw [lk_dep u hu]; omega) t ht, by omega, ?_⟩
  rcases h.dpt with z | ⟨z, _⟩
  · rw [hd] at z
    simp only [Bool.false_eq_true, if_false] at z
    omega
  · cases z
theorem sml_grw {s x : ST} {off han : Bool} (h : Grw s x off han) (hl : lvsL x.ends ≤ 34) (hd : ∀ t, t ∈ x.ends → t.dep ≤ 9) (hs : x.size ≤ 60) : Sml x := ⟨h.right, h.fit (by omega), hl, hd, hs⟩
theorem mid_bo' {p q : ST} {i j : Nat} (hp : p.Right) (fp : p.FitA) (hq : q.Right) (fq : q.FitA) (hi : i < p.ends.length) (hj : j < q.ends.length) (l : lvsL p.ends + lvsL q.ends ≤ 40) (d : ∀ t, t ∈ p.ends ∨ t ∈ q.ends → t.dep ≤ 9) (s : p.size + q.size ≤ 62) : Mid (.bo p q i j) := by
  have l1 := lvsL_less hi
  have l2 := lvsL_less hj
  have m1 := nth_mem hi
  have m2 := nth_mem hj
  have el : lvsL (ST.bo p q i j).ends = lvsL p.ends + lvsL q.ends := by
    rw [ends, lvsL_app, lvsL_app, lvsL_cons, node_lvs]
    have : lvsL ([] : List FT) = 0 := rfl
    omega
  have mem : ∀ t, t ∈ (ST.bo p q i j).ends → (t ∈ p.ends ∨ t ∈ q.ends) ∨ t = .node .mul (nth p.ends i) (nth q.ends j) := fun t ht => by
    rcases List.mem_append.mp ht with z | z
    · rcases List.mem_append.mp z with z | z
      · exact .inl (.inl (less_mem z))
      · exact .inl (.inr (less_mem z))
    · exact .inr (List.mem_singleton.mp z)
  have dep : ∀ t, t ∈ (ST.bo p q i j).ends → t.dep ≤ 10 := fun t ht => by
    rcases mem t ht with z | rfl
    · have := d t z
      omega
    · have a := d _ (.inl m1)
      have b := d _ (.inr m2)
      rw [node_dep]
      omega
  have fits : ∀ t, t ∈ (ST.bo p q i j).ends → Fits t := fun t ht => by
    rcases mem t ht with z | rfl
    · rcases z with z | z
      · exact (FitsA.fit fp).2.2.1 t z
      · exact (FitsA.fit fq).2.2.1 t z
    · have a := d _ (.inl m1)
      have b := d _ (.inr m2)
      exact fits_node ((FitsA.fit fp).2.2.1 _ m1) ((FitsA.fit fq).2.2.1 _ m2) (by omega) (by omega)
  exact ⟨⟨hp, hq, hi, hj⟩, ⟨fit_by fits (by rw [ends]; simp) (by omega), fp, fq⟩, by omega, dep, by simp only [size]; omega⟩
theorem mid_bo2 {p q : ST} {i j : Nat} (hp : p.Right) (fp : p.FitA) (hq : q.Right) (fq : q.FitA) (hi : i < p.ends.length) (hj : j < q.ends.length) (l : lvsL p.ends + lvsL q.ends ≤ 40) (d : ∀ t, t ∈ p.ends ∨ t ∈ q.ends → t.dep ≤ 9) : (ST.bo p q i j).Right ∧ (ST.bo p q i j).FitA := by
  have l1 := lvsL_less hi
  have l2 := lvsL_less hj
  have m1 := nth_mem hi
  have m2 := nth_mem hj
  have el : lvsL (ST.bo p q i j).ends = lvsL p.ends + lvsL q.ends := by
    rw [ends, lvsL_app, lvsL_app, lvsL_cons, node_lvs]
    have : lvsL ([] : List FT) = 0 := rfl
    omega
  have fits : ∀ t, t ∈ (ST.bo p q i j).ends → Fits t := fun t ht => by
    rcases List.mem_append.mp ht with z | z
    · rcases List.mem_append.mp z with z | z
      · exact (FitsA.fit fp).2.2.1 t (less_mem z)
      · exact (FitsA.fit fq).2.2.1 t (less_mem z)
    · rw [List.mem_singleton.mp z]
      have a := d _ (.inl m1)
      have b := d _ (.inr m2)
      exact fits_node ((FitsA.fit fp).2.2.1 _ m1) ((FitsA.fit fq).2.2.1 _ m2) (by omega) (by omega)
  exact ⟨⟨hp, hq, hi, hj⟩, ⟨fit_by fits (by rw [ends]; simp) (by omega), fp, fq⟩⟩
theorem mid_bo {s o : ST} {i j : Nat} (h : Sml s) (ho : Oth o) (hi : i < s.ends.length) (hj : j < o.ends.length) : Mid (.bo s o i j) ∧ Mid (.bo o s j i) := by
  have a := h.lvs
  have b := ho.lvs
  have c := h.size
  have e := ho.size
  have d : ∀ t, t ∈ s.ends ∨ t ∈ o.ends → t.dep ≤ 9 := fun t ht => by
    rcases ht with z | z
    · exact h.dep t z
    · have := ho.dep t z
      omega
  exact ⟨mid_bo' h.right h.fit ho.right ho.fit hi hj (by omega) d (by omega), mid_bo' ho.right ho.fit h.right h.fit hj hi (by omega) (fun t ht => d t ht.symm) (by omega)⟩
def spIsSmall (K : PySem.W.Frag) : Sp := fun vs H Q _ => ∃ (v : V) (s : ST) (mo : Int), vs = [v, .int mo] ∧ Dp K H v s.data ∧ s.Right ∧ (∀ t, t ∈ s.ends → Fits t ∧ t.lvs ≤ 100) ∧ s.ends ≠ [] ∧ s.size ≤ 250 ∧ s.dpt ≤ 60 ∧
  ∀ H' b, Same H H' → (b = true → lvsL s.ends ≤ 34 ∧ (∀ t, t ∈ s.ends → t.dep ≤ 9) ∧ s.size ≤ 60) → Q (.bl b) H'
section
variable {P : Program} {w : World} {K : PySem.W.Frag} {mg : Str → Option Value} {base : Heap} {f : Addr} {fd : FuncData}
theorem ok_law_is_small (T : Txt K mg) (hs : mg "sum" = none) (hmax : mg "max" = none) (C_law_ends_of : Cal P w K mg base "_law_ends_of" 61 P_law_ends_of (spEndsOfL K 60)) (C_law_forks : Cal P w K mg base "_law_forks" 13 P_law_forks (spForks K 13)) (C_law_leaf_many : Cal P w K mg base "_law_leaf_many" 14 P_law_leaf_many (spLeafMany K 13)) (C_law_depth : Cal P w K mg base "_law_depth" 13 P_law_counter' (spDepthL K 13))
    (C_law_count_words : Cal P w K mg base "_law_count_words" 61 P_law_count_words (spCountW K 60)) (C_law_size : Cal P w K mg base "_law_size" 61 P_law_ends_of (spSizeL K 60)) (F : FunD K "_law_is_small" "_law_is_small" (defArgs s_law_is_small) (defBody s_law_is_small) (defScope s_law_is_small) [.int 8] [] f fd) : FnOk P w K mg base CX0 62 f fd P_law_is_small (spIsSmall K) := by
  refine okW F sc_law_is_small (fun vs H Q E h => ?_) (fun cdv A outer s H vs Q E hr h => ?_)
  · obtain ⟨v, t, mo, rfl, _⟩ := h
    rfl
  obtain ⟨v, t, mo, rfl, hv, hR, hf, hne, hS, hD, q⟩ := h
  refine ⟨_, (pss_cons (ps_set (i := 2) sc_law_is_small.nd rfl (Or.inl rfl) (pe_callC C_law_ends_of hr (pa_cons (pv 0) pa_nil)))
  (pss_cons (ps_if (pt_cmpR op_gt (pe_callB (cr_sum rfl) rfl hs (by decide +kernel) (pa_cons (pe_lc (own := [("_law_form_here", 3)]) (g := (gName 3)) (te := tCB (fun xs H Q => ∃ x n, xs = [x] ∧ LenV K x H n ∧ Q (.int n) H) (tCons (tCall (spForks K 13) [] E0 (tCons (tVar 3) tNil)) tNil)) rfl sc_law_is_small.nd (pi_list (pv 2)) (blkOk_by (own := [("_law_form_here", 3)]) (N := N_law_is_small) (sc := defScope s_law_is_small) (by decide +kernel)) (fun _ _ _ _ _ => (pg_name (i := 3) sc_law_is_small.nd rfl (Or.inl rfl))) (fun _ _ _ _ _ => pts_nil) (fun _ _ _ _ _ => (pe_callB call_len rfl T.len (by decide +kernel) (pa_cons (pe_callC C_law_forks hr (pa_cons (pv 3) pa_nil)) pa_nil)))) pa_nil)) (pv 1) (nomark _))
    (pss_one (ps_ret pe_bl))
    pss_nil)
  (pss_cons (ps_if (PW.pt (pw_or (pt_cmpR op_gt (pe_callC C_law_leaf_many hr (pa_cons (pv 2) pa_nil)) pe_int (nomark _)) (pw_or1 (pt_cmpR op_gt (pe_callB (cr_max rfl) rfl hmax (by decide +kernel) (pa_cons (pe_lc (own := [("_law_form_here", 3)]) (g := (gName 3)) (te := tCall (spDepthL K 13) [] E0 (tCons (tVar 3) tNil)) rfl sc_law_is_small.nd (pi_list (pv 2)) (blkOk_by (own := [("_law_form_here", 3)]) (N := N_law_is_small) (sc := defScope s_law_is_small) (by decide +kernel)) (fun _ _ _ _ _ => (pg_name (i := 3) sc_law_is_small.nd rfl (Or.inl rfl))) (fun _ _ _ _ _ => pts_nil) (fun _ _ _ _ _ => (pe_callC C_law_depth hr (pa_cons (pv 3) pa_nil)))) pa_nil)) pe_int (nomark _)))))
    (pss_one (ps_ret pe_bl))
    pss_nil)
  (pss_one (ps_ret (pe_and (pe_cmpR op_le (pe_callC C_law_count_words hr (pa_cons (pv 0) (pa_cons pe_str pa_nil))) pe_int (nomark _)) (pe_one (pe_cmpR op_le (pe_callC C_law_size hr (pa_cons (pv 0) pa_nil)) pe_int (nomark _))))))))), ?_⟩
  have du := der_u t hR (by omega)
  have hel := ends_len t hR
  refine ⟨_, rfl, v, _, _, rfl, hv, du, Nat.le_trans (dep_st _) hD, fun H1 p1 s1 ⟨us1, e1, pr1⟩ => ?_⟩
  have l1 := paired_len pr1
  refine ⟨_, rfl, p1, rfl, ⟨_, SqL.of e1⟩, fun D nD => lc_it (walk_list (xs := us1)) (fun n H' => Same H1 H' ∧ ∃ l : List Int, l.length = n ∧ H' D = some (.lst (l.map V.int))) ⟨same_new nD _, [], rfl, upd_same⟩ (fun n H' _ z => SqL.of (z.1 _ _ e1)) (fun n x H2 H3 hn z yy => ?_) (fun H2 z => ?_)⟩
  · obtain ⟨rfl, hy⟩ := yy
    obtain ⟨k1, l, hl, eD⟩ := z
    obtain ⟨u, hu, fu⟩ := paired_ex pr1 hy
    obtain ⟨fi, lv⟩ := hf u (List.mem_of_getElem? hu)
    refine ⟨rfl, _, rfl, x, u, rfl, (Same.kt k1).fm _ fu, by have := fi.2; omega, by omega, fun H4 p4 us4 s4 e4 l4 => ⟨_, _, rfl, .inl ⟨us4, SqL.of e4, rfl⟩, _, s4 _ _ eD, small1000 (by rw [List.length_map]; omega), same_fresh (k1.trans s4) nD, l ++ [(us4.length : Int)], by rw [List.length_append, hl]; rfl, by rw [upd_same, List.map_append]; rfl⟩⟩
  obtain ⟨k1, l, hl, eD⟩ := z
  refine ⟨D, l, rfl, SqL.of eD, _, rfl, _, _, rfl, rfl, _, rfl, ?_⟩
  have s2 := s1.trans k1
  refine ite2 (fun _ => q H2 false s2 (fun z => by cases z)) (fun _ => ?_)
  have e2 := k1 _ _ e1
  have pr2 := paired_imp (fun _ _ g => (Same.kt k1).fm _ g) pr1
  refine ⟨_, rfl, p1, t.ends, rfl, ⟨us1, e2, pr2⟩, by omega, fun u hu => ⟨by have := (hf u hu).1.2; omega, by have := (hf u hu).2; omega⟩, fun H3 s3 => ⟨_, _, rfl, rfl, _, rfl, ?_⟩⟩
  refine ite2 (fun _ => q H3 false (s2.trans s3) (fun z => by cases z)) (fun c34 => ?_)
  have e3 := s3 _ _ e2
  have pr3 := paired_imp (fun _ _ g => (Same.kt s3).fm _ g) pr2
  refine ⟨_, rfl, p1, rfl, ⟨_, SqL.of e3⟩, fun D2 nD2 => lc_it (walk_list (xs := us1)) (fun n H' => Same H3 H' ∧ H' D2 = some (.lst (((t.ends.take n).map fun u => ((u.dep : Nat) : Int)).map V.int))) ⟨same_new nD2 _, upd_same⟩ (fun n H' _ z => SqL.of (z.1 _ _ e3)) (fun n x H4 H5 hn z yy => ?_) (fun H4 z => ?_)⟩
  · obtain ⟨rfl, hy⟩ := yy
    obtain ⟨k4, eD2⟩ := z
    obtain ⟨u, hu, fu⟩ := paired_ex pr3 hy
    obtain ⟨fi, lv⟩ := hf u (List.mem_of_getElem? hu)
    refine ⟨rfl, x, rfl, x, u, rfl, (Same.kt k4).fm _ fu, by have := fi.2; omega, fun H6 s6 => ⟨_, s6 _ _ eD2, small1000 (by rw [List.length_map, List.length_map, List.length_take]; omega), same_fresh (k4.trans s6) nD2, by rw [upd_same, take_next hu, List.map_append, List.map_append]; rfl⟩⟩
  obtain ⟨k4, eD2⟩ := z
  rw [List.take_of_length_le (by omega)] at eD2
  refine ⟨D2, t.ends.map fun u => ((u.dep : Nat) : Int), rfl, SqL.of eD2, by rw [List.length_map]; exact List.length_pos_iff.mpr hne, fun mx hm hle => ⟨_, _, rfl, rfl, _, rfl, ?_⟩⟩
  have s4 := s2.trans (s3.trans k4)
  refine ite2 (fun _ => q H4 false s4 (fun z => by cases z)) (fun c9 => ?_)
  have h34 : lvsL t.ends ≤ 34 := by
    have : ¬ (34 : Int) < (lvsL t.ends : Nat) := fun z => c34 (decide_eq_true z)
    omega
  have h9 : ∀ u, u ∈ t.ends → u.dep ≤ 9 := fun u hu => by
    have a := hle ((u.dep : Nat) : Int) (List.mem_map.mpr ⟨u, hu, rfl⟩)
    have : ¬ (9 : Int) < mx := fun z => c9 (decide_eq_true z)
    omega
  have hv4 := dp_same s4 _ _ hv
  refine ⟨_, rfl, v, _, t, rfl, hv4, hD, fun H5 m5 s5 _ => ⟨_, _, rfl, rfl, _, rfl, ?_⟩⟩
  refine ite2 (fun _ => ?_) (fun _ => ?_)
  · refine ⟨_, rfl, v, _, _, rfl, dp_same s5 _ _ hv4, du, Nat.le_trans (dep_st _) hD, fun H6 s6 => ⟨_, _, rfl, rfl, ?_⟩⟩
    refine q H6 _ (s4.trans (s5.trans s6)) fun z => ⟨h34, h9, ?_⟩
    have := of_decide_eq_true z
    rw [cnt_st] at this
    omega
  · exact q H5 false (s4.trans s5) (fun z => by cases z)
end
end My

set_option Elab.async false
set_option linter.all false
set_option maxRecDepth 100000
namespace My
open PySem L2
open ST
def spDeed (K : PySem.W.Frag) : Sp := fun vs H Q _ => ∃ (d L : Addr) (ns : List Int) (m : Nat) (la lb lc : Int), vs = [.ref d, .int la, .int lb, .int lc, .int 24] ∧ 0 < la ∧ la ≤ 6 ∧ lb ≤ 2 ∧ lc ≤ 2 ∧ Pen K H d L ns m ∧ m + 20000 < 2 ^ 38 ∧ ∀ H' u s, Keep d H H' → Pen K H' d L ns (m + 10000) → Dp K H' u s.data → Sml s → s.dpt ≤ 42 → Q u H'
theorem names_abc : ∀ z, z ∈ (["a", "b", "c"] : List Str) → isName z = true := by decide +kernel
theorem dp_lk {K : PySem.W.Frag} {H : Hp} {p : Addr} {z : Str} (h : SqT K H p [.str "link", .str z]) : Dp K H (.ref p) (ST.lk z.cps.toList).data := by
  have ez : Z z.cps.toList = z := Z_of _
  refine .tup h (.cons (.str _) (.cons ?_ .nil))
  rw [ez]
  exact .str _
section
variable {P : Program} {w : World} {K : PySem.W.Frag} {mg : Str → Option Value} {base : Heap} {f : Addr} {fd : FuncData}
set_option maxHeartbeats 4000000 in
theorem ok_law_deed (T : Txt K mg) (C_law_draw : Cal P w K mg base "_law_draw" 1 P_law_draw (spDraw K)) (C_law_pick : Cal P w K mg base "_law_pick" 2 ["_law_pen", "_law_some"] (spPick K)) (C_law_ends_of : Cal P w K mg base "_law_ends_of" 61 P_law_ends_of (spEndsOfL K 60)) (C_law_grown : Cal P w K mg base "_law_grown" 109 P_law_grown (spGrown K)) (C_law_is_small : Cal P w K mg base "_law_is_small" 62 P_law_is_small (spIsSmall K))
    (C_law_links : Cal P w K mg base "_law_links" 61 P_law_links (spLinks K 60)) (C_law_count_words : Cal P w K mg base "_law_count_words" 61 P_law_count_words (spCountW K 60)) (F : FunD K "_law_deed" "_law_deed" (defArgs s_law_deed) (defBody s_law_deed) (defScope s_law_deed) [.int 8] [] f fd) : FnOk P w K mg base CX0 110 f fd P_law_deed (spDeed K) := by
  refine okW F sc_law_deed (fun vs H Q E h => ?_) (fun cdv A outer s H vs Q E hr h => ?_)
  · obtain ⟨d, L, ns, m, la, lb, lc, rfl, _⟩ := h
    rfl
  obtain ⟨d, L, ns, m, la, lb, lc, rfl, la0, la6, lb2, lc2, hp, hm, q⟩ := h
  refine ⟨_, (pss_cons (ps_set (i := 5) sc_law_deed.nd rfl (Or.inl rfl) (pe_callC C_law_pick hr (pa_cons (pv 0) (pa_cons (pe_lstN (pa_cons (pe_lstN (pa_cons pe_str pa_nil)) (pa_cons (pe_lstN (pa_cons pe_str (pa_cons pe_str pa_nil))) (pa_cons (pe_lstN (pa_cons pe_str (pa_cons pe_str (pa_cons pe_str (pa_cons pe_str pa_nil))))) pa_nil)))) pa_nil))))
  (pss_cons (ps_set (i := 6) sc_law_deed.nd rfl (Or.inl rfl) (pe_tupN (pa_cons pe_str (pa_cons (pe_callC C_law_pick hr (pa_cons (pv 0) (pa_cons (pv 5) pa_nil))) pa_nil))))
  (pss_cons (ps_for PassesOwn.never rfl (pi_range1 rfl T.range (pa_cons (pe_callC C_law_draw hr (pa_cons (pv 0) (pa_cons (pv 1) pa_nil))) pa_nil)) (pg_name (i := 7) sc_law_deed.nd rfl (Or.inl rfl))
    (pss_cons (ps_set (i := 8) sc_law_deed.nd rfl (Or.inl rfl) (pe_tupN (pa_cons pe_str (pa_cons (pe_callC C_law_pick hr (pa_cons (pv 0) (pa_cons (pv 5) pa_nil))) pa_nil))))
    (pss_cons (ps_if (pt_cmpR op_eq (pe_callC C_law_draw hr (pa_cons (pv 0) (pa_cons pe_int pa_nil))) pe_int (nomark _))
      (pss_one (ps_set (i := 8) sc_law_deed.nd rfl (Or.inl rfl) (pe_callC C_law_grown hr (pa_cons (pv 0) (pa_cons (pv 8) (pa_cons (pv 5) (pa_cons pe_int (pa_cons pe_int pa_nil))))))))
      pss_nil)
    (pss_cons (ps_par (i := 9) (j := 10) (by rfl) sc_law_deed.nd rfl rfl (by decide) rfl rfl (pa_cons (pe_callC C_law_draw hr (pa_cons (pv 0) (pa_cons (pe_callB call_len rfl T.len (by decide +kernel) (pa_cons (pe_callC C_law_ends_of hr (pa_cons (pv 6) pa_nil)) pa_nil)) pa_nil))) (pa_cons (pe_callC C_law_draw hr (pa_cons (pv 0) (pa_cons (pe_callB call_len rfl T.len (by decide +kernel) (pa_cons (pe_callC C_law_ends_of hr (pa_cons (pv 8) pa_nil)) pa_nil)) pa_nil))) pa_nil)) (by rfl))
    (pss_cons (ps_set (i := 11) sc_law_deed.nd rfl (Or.inl rfl) (pe_ifExp (pt_cmpR op_eq (pe_callC C_law_draw hr (pa_cons (pv 0) (pa_cons pe_int pa_nil))) pe_int (nomark _)) (pe_tupN (pa_cons pe_str (pa_cons (pv 6) (pa_cons (pv 8) (pa_cons (pv 9) (pa_cons (pv 10) pa_nil)))))) (pe_tupN (pa_cons pe_str (pa_cons (pv 8) (pa_cons (pv 6) (pa_cons (pv 10) (pa_cons (pv 9) pa_nil))))))))
    (pss_cons (ps_if (pt_cmpR op_eq (pe_callC C_law_draw hr (pa_cons (pv 0) (pa_cons pe_int pa_nil))) pe_int (nomark _))
      (pss_one (ps_set (i := 11) sc_law_deed.nd rfl (Or.inl rfl) (pe_callC C_law_grown hr (pa_cons (pv 0) (pa_cons (pv 11) (pa_cons (pv 5) (pa_cons pe_int (pa_cons pe_int pa_nil))))))))
      pss_nil)
    (pss_one (ps_if (pt_val (pe_callC C_law_is_small hr (pa_cons (pv 11) (pa_cons (pv 4) pa_nil))))
      (pss_one (ps_set (i := 6) sc_law_deed.nd rfl (Or.inl rfl) (pv 11)))
      pss_nil))))))))
  (pss_cons (ps_for PassesOwn.never rfl (pi_range1 rfl T.range (pa_cons (pe_callC C_law_draw hr (pa_cons (pv 0) (pa_cons pe_int pa_nil))) pa_nil)) (pg_name (i := 7) sc_law_deed.nd rfl (Or.inl rfl))
    (pss_cons (ps_set (i := 12) sc_law_deed.nd rfl (Or.inl rfl) (pe_lstN (pa_cons (pe_op op_sub (pv 2) (pe_callC C_law_count_words hr (pa_cons (pv 6) (pa_cons pe_str pa_nil)))) (pa_cons (pe_op op_sub (pv 3) (pe_callC C_law_count_words hr (pa_cons (pv 6) (pa_cons pe_str pa_nil)))) pa_nil))))
    (pss_cons (ps_set (i := 11) sc_law_deed.nd rfl (Or.inl rfl) (pe_callC C_law_grown hr (pa_cons (pv 0) (pa_cons (pv 6) (pa_cons (pv 5) (pa_cons (pe_ix ix_list (pv 12) pe_int (fun _ _ => rfl)) (pa_cons (pe_ix ix_list (pv 12) pe_int (fun _ _ => rfl)) pa_nil)))))))
    (pss_one (ps_if (PW.pt (pw_and (pt_cmpR op_le (pe_callC C_law_links hr (pa_cons (pv 11) pa_nil)) (pe_op op_mul pe_int (pv 1)) (nomark _)) (pw_and1 (pt_val (pe_callC C_law_is_small hr (pa_cons (pv 11) (pa_cons (pv 4) pa_nil)))))))
      (pss_one (ps_set (i := 6) sc_law_deed.nd rfl (Or.inl rfl) (pv 11)))
      pss_nil)))))
  (pss_one (ps_ret (pv 6))))))), ?_⟩
  refine ⟨_, rfl, le1k, fun g1 H1 s1 e1 => ⟨le1k, fun g2 H2 s2 e2 => ⟨le1k, fun g3 H3 s3 e3 => ⟨le1k, fun g4 H4 s4 e4 => ?_⟩⟩⟩⟩
  have s14 := s2.trans (s3.trans s4)
  have s24 := s3.trans s4
  refine ⟨d, L, ns, m, .ref g4, rfl, hp.same (s1.trans s14), by omega, .inl ⟨g4, _, rfl, SqL.of e4, by simp, le1k, fun x5 H5 hx5 k5 pp5 => ?_⟩⟩
  have hpd : IsDk H4 d := (hp.same (s1.trans s14)).isDk
  obtain ⟨g, zs, rfl, hG⟩ : ∃ (g : Addr) (zs : List Str), x5 = .ref g ∧ Gds K H4 g zs := by
    simp only [List.mem_cons, List.not_mem_nil, or_false] at hx5
    rcases hx5 with rfl | rfl | rfl
    · exact ⟨g1, ["a"], rfl, SqL.of (s14 _ _ e1), by simp, by simp, fun z hz => names_abc z (by revert z; decide +kernel)⟩
    · exact ⟨g2, ["a", "b"], rfl, SqL.of (s24 _ _ e2), by simp, by simp, fun z hz => names_abc z (by revert z; decide +kernel)⟩
    · exact ⟨g3, ["a", "a", "b", "c"], rfl, SqL.of (s4 _ _ e3), by simp, by simp, fun z hz => names_abc z (by revert z; decide +kernel)⟩
  have k05 : Keep d H H5 := (Same.toKeep (s1.trans s14)).trans k5
  have hG5 := hG.keep hpd k5
  clear hG
  refine ⟨_, rfl, _, rfl, d, L, ns, _, .ref g, rfl, pp5, by omega, .inl ⟨g, _, rfl, hG5.sq, by simpa using hG5.ne, by rw [List.length_map]; have := hG5.len; omega, fun y6 H6 hy6 k6 pp6 => ⟨le1k, fun p7 H7 s7 e7 => ?_⟩⟩⟩
  obtain ⟨z6, hz6, rfl⟩ := List.mem_map.mp hy6
  have pp7 := pp6.same s7
  have k07 := k05.trans (k6.trans (Same.toKeep s7))
  have hG7 := hG5.keep pp5.isDk (k6.trans (Same.toKeep s7))
  have hn6 : isName (Z z6.cps.toList) = true := by rw [Z_of]; exact hG5.ok _ hz6
  have hd7 := dp_lk e7
  clear e1 e2 e3 e4
  refine ⟨_, rfl, _, rfl, d, L, ns, _, la, rfl, pp7, by omega, by omega, by omega, fun r8 H8 r80 r81 k8 pp8 => ?_⟩
  have k78 : Keep d H7 H8 := k8
  have hdk7 := pp7.isDk
  refine ⟨_, rfl, by omega, by omega, ?_⟩
  refine for_range (lo := 0) (n := r8.toNat) (fun i σ H' => ∃ (o7 o8 o9 o10 o11 o12 : Option V) (v : V) (s : ST), σ = [some (.ref d), some (.int la), some (.int lb), some (.int lc), some (.int 24), some (.ref g), some v, o7, o8, o9, o10, o11, o12] ∧ Keep d H7 H' ∧ Pen K H' d L ns (m + 10 + 1000 * i) ∧ Dp K H' v s.data ∧ Sml s ∧ s.dpt ≤ 4 + 2 * i)
    ⟨none, none, none, none, none, none, .ref p7, .lk z6.cps.toList, rfl, k78, pp8.mono (by omega), dp_keep hdk7 k78 _ _ hd7, sml_lk hn6, by show 1 ≤ _; omega⟩ (fun i σ H9 hi ⟨o7, o8, o9, o10, o11, o12, v, t, eσ, k9, pp9, hv9, hs9, hd9⟩ => ?_) (fun σ H9 ⟨o7, o8, o9, o10, o11, o12, v, t, eσ, k9, pp9, hv9, hs9, hd9⟩ => ?_)
  · subst eσ
    have hG9 := hG7.keep hdk7 k9
    have hi5 : i ≤ 4 := by omega
    refine ⟨_, rfl, _, rfl, d, L, ns, _, .ref g, rfl, pp9, by omega, .inl ⟨g, _, rfl, hG9.sq, by simpa using hG9.ne, by rw [List.length_map]; have := hG9.len; omega, fun y10 H10 hy10 k10 pp10 => ⟨le1k, fun p11 H11 s11 e11 => ?_⟩⟩⟩
    obtain ⟨z10, hz10, rfl⟩ := List.mem_map.mp hy10
    have hn10 : isName (Z z10.cps.toList) = true := by rw [Z_of]; exact hG9.ok _ hz10
    have pp11 := pp10.same s11
    have k11 : Keep d H7 H11 := k9.trans (k10.trans (Same.toKeep s11))
    have hv11 := dp_keep pp9.isDk (k10.trans (Same.toKeep s11)) _ _ hv9
    have ho11 := dp_lk e11
    clear e11 hy10
    dsimp only
    refine cut_nam (fun σ' H' => ∃ (o9 o10 o11 o12 : Option V) (u : V) (o : ST), σ' = [some (.ref d), some (.int la), some (.int lb), some (.int lc), some (.int 24), some (.ref g), some v, some (.int (0 + (i : Nat))), some u, o9, o10, o11, o12] ∧ Keep d H7 H' ∧ Pen K H' d L ns (m + 10 + 1000 * i + 310) ∧ Dp K H' v t.data ∧ Dp K H' u o.data ∧ Oth o)
      (fun σ' H12 ⟨o9, o10, o11, o12, u, o, eσ, k12, pp12, hv12, hu12, ho⟩ => ?_) (fun N => ?_)
    · subst eσ
      have du := der_u t hs9.right (by have := hs9.size; omega)
      have dv := der_u o ho.right (by have := ho.size; omega)
      refine ⟨_, rfl, _, rfl, v, _, _, rfl, hv12, du, Nat.le_trans (dep_st _) (by omega), fun H13 p13 s13 ⟨us13, e13, pr13⟩ => ⟨_, _, rfl, .inl ⟨us13, SqL.of e13, rfl⟩, ?_⟩⟩
      have l13 := paired_len pr13
      have n13 := hs9.mid.ne
      have el13 := ends_len t hs9.right
      have z13 := hs9.size
      refine ⟨d, L, ns, _, _, rfl, pp12.same s13, by omega, by omega, by omega, fun r14 H14 r140 r141 k14 pp14 => ?_⟩
      have hu14 := dp_keep pp12.isDk ((Same.toKeep s13).trans k14) _ _ hu12
      refine ⟨_, rfl, _, rfl, u, _, _, rfl, hu14, dv, Nat.le_trans (dep_st _) (by have := ho.dpt; omega), fun H15 p15 s15 ⟨us15, e15, pr15⟩ => ⟨_, _, rfl, .inl ⟨us15, SqL.of e15, rfl⟩, ?_⟩⟩
      have l15 := paired_len pr15
      have n15 := (FitsA.fit ho.fit).1
      have el15 := ends_len o ho.right
      have z15 := ho.size
      refine ⟨d, L, ns, _, _, rfl, pp14.same s15, by omega, by omega, by omega, fun r16 H16 r160 r161 k16 pp16 => ⟨_, _, rfl, ?_⟩⟩
      obtain ⟨a, rfl⟩ : ∃ a : Nat, r14 = (a : Nat) := ⟨r14.toNat, by omega⟩
      obtain ⟨b, rfl⟩ : ∃ b : Nat, r16 = (b : Nat) := ⟨r16.toNat, by omega⟩
      have k1216 : Keep d H12 H16 := (Same.toKeep s13).trans (k14.trans ((Same.toKeep s15).trans k16))
      have hv16 := dp_keep pp12.isDk k1216 _ _ hv12
      have hu16 := dp_keep pp12.isDk k1216 _ _ hu12
      obtain ⟨M1, M2⟩ := mid_bo (i := a) (j := b) hs9 ho (by omega) (by omega)
      have hod := ho.dpt
      have D1 : (ST.bo t o a b).dpt ≤ 5 + 2 * i := by simp only [dpt]; omega
      have D2 : (ST.bo o t b a).dpt ≤ 5 + 2 * i := by simp only [dpt]; omega
      dsimp only
      refine cut_asg (fun σ' H' => ∃ (o9 o10 o12 : Option V) (y : V) (x : ST), σ' = [some (.ref d), some (.int la), some (.int lb), some (.int lc), some (.int 24), some (.ref g), some v, some (.int (0 + (i : Nat))), some u, o9, o10, some y, o12] ∧ Keep d H7 H' ∧ Pen K H' d L ns (m + 10 + 1000 * i + 320) ∧ Dp K H' v t.data ∧ Dp K H' y x.data ∧ Mid x ∧ x.dpt ≤ 5 + 2 * i)
        (fun σ' H17 ⟨o9, o10, o12, y, x, eσ, k17, pp17, hv17, hy17, hM, hxd⟩ => ?_) (fun N => ?_)
      · subst eσ
        try dsimp only
        refine cut_ifs (fun σ' H' => ∃ (o9 o10 o12 : Option V) (y : V) (s0 x : ST), σ' = [some (.ref d), some (.int la), some (.int lb), some (.int lc), some (.int 24), some (.ref g), some v, some (.int (0 + (i : Nat))), some u, o9, o10, some y, o12] ∧ Keep d H7 H' ∧ Pen K H' d L ns (m + 10 + 1000 * i + 630) ∧ Dp K H' v t.data ∧ Dp K H' y x.data ∧ Grw s0 x false false ∧ s0.dpt ≤ 5 + 2 * i)
          (fun σ' H18 ⟨o9, o10, o12, y, s0, x, eσ, k18, pp18, hv18, hy18, hg, hs0⟩ => ?_) (fun N => ?_)
        · subst eσ
          have hxd : x.dpt ≤ 6 + 2 * i := by
            rcases hg.dpt with z | ⟨z, _⟩
            · simp only [Bool.false_eq_true, if_false] at z
              omega
            · cases z
          refine ⟨_, rfl, _, rfl, y, x, 24, rfl, hy18, hg.right, fun u hu => ⟨hg.fits u hu, hg.lv u hu⟩, hg.ne, hg.size, by omega, fun H19 bb s19 hb => ⟨bb, rfl, ?_⟩⟩
          have k19 := k18.trans (Same.toKeep s19)
          have pp19 := pp18.same s19
          cases bb with
          | true =>
            obtain ⟨h34, h9, h60⟩ := hb rfl
            exact ⟨_, rfl, _, _, _, _, _, _, y, x, rfl, k19, pp19.mono (by omega), dp_same s19 _ _ hy18, sml_grw hg h34 h9 h60, by omega⟩
          | false => exact ⟨_, _, _, _, _, _, v, t, rfl, k19, pp19.mono (by omega), dp_same s19 _ _ hv18, hs9, by omega⟩
        · refine ⟨_, rfl, d, L, ns, _, 2, rfl, pp17, by omega, by decide, by decide, fun r18 H18 r180 r181 k18 pp18 => ⟨rfl, _, rfl, ?_⟩⟩
          have k718 := k17.trans k18
          have hv18 := dp_keep pp17.isDk k18 _ _ hv17
          have hy18 := dp_keep pp17.isDk k18 _ _ hy17
          refine ite2 (fun _ => ?_) (fun _ => ?_)
          · refine ⟨_, rfl, _, rfl, _, rfl, d, L, g, ns, _, zs, y, x, 0, 0, rfl, pp18, by omega, hy18, hM, fun z => by omega, by omega, hG7.keep hdk7 k718, fun H19 y19 x19 k19 pp19 h19 g19 => ?_⟩
            exact N _ _ ⟨_, _, _, y19, x, x19, rfl, k718.trans k19, pp19.mono (by omega), dp_keep pp18.isDk k19 _ _ hv18, h19, g19, hxd⟩
          · exact N _ _ ⟨_, _, _, y, x, x, rfl, k718, pp18.mono (by omega), hv18, hy18, grw_self hM false false, hxd⟩
      · refine ⟨_, rfl, d, L, ns, _, 2, rfl, pp16, by omega, by decide, by decide, fun r17 H17 r170 r171 k17 pp17 => ⟨rfl, _, rfl, ?_⟩⟩
        have k717 := k12.trans (k1216.trans k17)
        have hv17 := dp_keep pp16.isDk k17 _ _ hv16
        have hu17 := dp_keep pp16.isDk k17 _ _ hu16
        refine ite2 (fun _ => ?_) (fun _ => ?_)
        · refine ⟨_, rfl, _, rfl, _, rfl, _, rfl, le1k, fun p18 H18 s18 e18 => ?_⟩
          exact N _ _ ⟨_, _, _, _, .bo t o a b, rfl, k717.trans (Same.toKeep s18), (pp17.same s18).mono (by omega), dp_same s18 _ _ hv17, .tup e18 (.cons (.str _) (.cons (dp_same s18 _ _ hv17) (.cons (dp_same s18 _ _ hu17) (.cons (.int _) (.cons (.int _) .nil))))), M1, D1⟩
        · refine ⟨_, rfl, _, rfl, _, rfl, _, rfl, le1k, fun p18 H18 s18 e18 => ?_⟩
          exact N _ _ ⟨_, _, _, _, .bo o t b a, rfl, k717.trans (Same.toKeep s18), (pp17.same s18).mono (by omega), dp_same s18 _ _ hv17, .tup e18 (.cons (.str _) (.cons (dp_same s18 _ _ hu17) (.cons (dp_same s18 _ _ hv17) (.cons (.int _) (.cons (.int _) .nil))))), M2, D2⟩
    · refine ⟨_, rfl, d, L, ns, _, 3, rfl, pp11, by omega, by decide, by decide, fun r12 H12 r120 r121 k12 pp12 => ⟨rfl, _, rfl, ?_⟩⟩
      have k712 := k11.trans k12
      have hv12 := dp_keep pp11.isDk k12 _ _ hv11
      have ho12 := dp_keep pp11.isDk k12 _ _ ho11
      refine ite2 (fun _ => ?_) (fun _ => ?_)
      · refine ⟨_, rfl, _, rfl, _, rfl, d, L, g, ns, _, zs, .ref p11, .lk z10.cps.toList, 0, 0, rfl, pp12, by omega, ho12, (sml_lk hn10).mid, fun z => by omega, by show 1 ≤ 45; omega, hG7.keep hdk7 k712, fun H13 y13 x13 k13 pp13 h13 g13 => ?_⟩
        exact N _ _ ⟨_, _, _, _, y13, x13, rfl, k712.trans k13, pp13.mono (by omega), dp_keep pp12.isDk k13 _ _ hv12, h13, oth_grw g13⟩
      · exact N _ _ ⟨_, _, _, _, .ref p11, _, rfl, k712, pp12.mono (by omega), hv12, ho12, oth_lk hn10⟩
  · subst eσ
    refine ⟨_, rfl, d, L, ns, _, 5, rfl, pp9, by omega, by decide, by decide, fun r10 H10 r100 r101 k10 pp10 => ?_⟩
    refine ⟨_, rfl, by omega, by omega, ?_⟩
    have k710 := k9.trans k10
    refine for_range (lo := 0) (n := r10.toNat) (fun i σ H' => ∃ (o7 o8 o9 o10 o11 o12 : Option V) (v : V) (s : ST), σ = [some (.ref d), some (.int la), some (.int lb), some (.int lc), some (.int 24), some (.ref g), some v, o7, o8, o9, o10, o11, o12] ∧ Keep d H7 H' ∧ Pen K H' d L ns (m + 7000 + 500 * i) ∧ Dp K H' v s.data ∧ Sml s ∧ s.dpt ≤ 14 + i + 12 * min 2 (cwO s))
      ⟨o7, o8, o9, o10, o11, o12, v, t, rfl, k710, pp10.mono (by omega), dp_keep pp9.isDk k10 _ _ hv9, hs9, by omega⟩ (fun i σ H11 hi ⟨o7, o8, o9, o10, o11, o12, v, t, eσ, k11, pp11, hv11, hs11, hd11⟩ => ?_) (fun σ H11 ⟨o7, o8, o9, o10, o11, o12, v, t, eσ, k11, pp11, hv11, hs11, hd11⟩ => ?_)
    · subst eσ
      have hi5 : i ≤ 3 := by omega
      refine ⟨_, rfl, _, rfl, v, "offer", t, rfl, hv11, by omega, fun H12 m12 s12 hm12 => ⟨_, _, rfl, rfl, _, rfl, _, rfl, v, "hand", t, rfl, dp_same s12 _ _ hv11, by omega, fun H13 m13 s13 _ => ⟨_, _, rfl, rfl, le1k, fun p14 H14 s14 e14 => ?_⟩⟩⟩
      have hm12 := hm12 rfl
      have s1114 := s12.trans (s13.trans s14)
      have pp14 := pp11.same s1114
      have k14 := k11.trans (Same.toKeep s1114)
      have hv14 := dp_same s1114 _ _ hv11
      have hsz := hs11.size
      refine ⟨_, rfl, _, rfl, _, rfl, _, rfl, p14, _, 0, _, rfl, rfl, SqL.of e14, rfl, _, rfl, p14, _, 1, _, rfl, rfl, SqL.of e14, rfl, d, L, g, ns, _, zs, v, t, _, _, rfl, pp14, by omega, hv14, hs11.mid, fun _ => ⟨hs11.lvs, hsz⟩, by omega, hG7.keep hdk7 k14, fun H15 y x k15 pp15 hy15 hg => ?_⟩
      have hv15 := dp_keep pp14.isDk k15 _ _ hv14
      have k715 := k14.trans k15
      have hxd : x.dpt ≤ 14 + (i + 1) + 12 * min 2 (cwO x) := by
        have hcw := hg.cw
        rcases hg.dpt with z | ⟨z1, z2, z3⟩
        · have : (if decide (0 < lc - m13) = true then 12 else 3) ≤ 12 := by split <;> omega
          have z : x.dpt ≤ max t.dpt (if decide (0 < lc - m13) = true then 12 else 3) + 1 := z
          omega
        · have : 0 < lb - m12 := of_decide_eq_true z1
          omega
      refine ⟨_, rfl, y, x, rfl, hy15, by omega, fun H16 m16 s16 => ⟨_, rfl, _, _, rfl, rfl, .inl ⟨by decide, by decide⟩, _, _, rfl, rfl, _, rfl, ?_⟩⟩
      have pp16 := pp15.same s16
      have k716 := k715.trans (Same.toKeep s16)
      have hv16 := dp_same s16 _ _ hv15
      have hy16 := dp_same s16 _ _ hy15
      refine ite2 (fun _ => ?_) (fun _ => ?_)
      · refine ⟨_, rfl, _, rfl, y, x, 24, rfl, hy16, hg.right, fun u hu => ⟨hg.fits u hu, hg.lv u hu⟩, hg.ne, hg.size, by omega, fun H19 bb s19 hb => ⟨bb, rfl, ?_⟩⟩
        have k19 := k716.trans (Same.toKeep s19)
        have pp19 := pp16.same s19
        cases bb with
        | true =>
          obtain ⟨h34, h9, h60⟩ := hb rfl
          exact ⟨_, rfl, _, _, _, _, _, _, y, x, rfl, k19, pp19.mono (by omega), dp_same s19 _ _ hy16, sml_grw hg h34 h9 h60, hxd⟩
        | false => exact ⟨_, _, _, _, _, _, v, t, rfl, k19, pp19.mono (by omega), dp_same s19 _ _ hv16, hs11, by omega⟩
      · exact ⟨_, _, _, _, _, _, v, t, rfl, k716, pp16.mono (by omega), hv16, hs11, by omega⟩
    · subst eσ
      exact ⟨_, rfl, q H11 v t (k07.trans k11) (pp11.mono (by omega)) hv11 hs11 (by omega)⟩
end
end My

set_option Elab.async false
set_option linter.all false
set_option maxRecDepth 100000
namespace My
open PySem L2 Gd
open ST
/-! ### a right deed may be shown -/
theorem int_ok : ∀ i : Nat, i < 1000 → (PyData.int i).shown.length ≤ 4 ∧ (PyData.int i).showable = true := by
  have h : ((List.range 1000).all fun i => decide ((PyData.int (i : Nat)).shown.length ≤ 4) && (PyData.int (i : Nat)).showable) = true := by decide +kernel
  intro i hi
  have := List.all_eq_true.mp h i (List.mem_range.mpr hi)
  rw [Bool.and_eq_true] at this
  exact ⟨of_decide_eq_true this.1, this.2⟩
theorem wordsS : ∀ z ∈ (["link", "both", "between", "offer", "choose", "hand", "turn"] : List Str), (PyData.str z).shown.length ≤ 12 := by decide +kernel
theorem wS {z : Str} (h : z ∈ (["link", "both", "between", "offer", "choose", "hand", "turn"] : List Str) := by decide +kernel) : (PyData.str z).shown.length ≤ 12 := wordsS z h
theorem nat_shown : ∀ os : List Nat, (∀ o, o ∈ os → o < 1000) → ((natD os).map fun d => d.shown.length).sum ≤ 4 * os.length
  | [], _ => Nat.le_refl _
  | o :: os, h => by
    have h1 := (int_ok o (h o List.mem_cons_self)).1
    have h2 := nat_shown os fun x hx => h x (List.mem_cons_of_mem _ hx)
    show (PyData.int o).shown.length + ((natD os).map fun d => d.shown.length).sum ≤ _
    rw [List.length_cons]
    omega
theorem sh5 {z : Str} {c d : PyData} {i j : Nat} (hz : (PyData.str z).shown.length ≤ 12) (hi : i < 1000) (hj : j < 1000) : (PyData.tuple [.str z, c, d, .int i, .int j]).shown.length ≤ c.shown.length + d.shown.length + 40 := by
  have h1 := @tup_shown [.str z, c, d, .int i, .int j]
  have a := (int_ok i hi).1
  have b := (int_ok j hj).1
  simp only [List.map_cons, List.map_nil, List.sum_cons, List.sum_nil, List.length_cons, List.length_nil] at h1
  omega
theorem sh4 {z : Str} {c : PyData} {i j : Nat} (hz : (PyData.str z).shown.length ≤ 12) (hi : i < 1000) (hj : j < 1000) : (PyData.tuple [.str z, c, .int i, .int j]).shown.length ≤ c.shown.length + 40 := by
  have h1 := @tup_shown [.str z, c, .int i, .int j]
  have a := (int_ok i hi).1
  have b := (int_ok j hj).1
  simp only [List.map_cons, List.map_nil, List.sum_cons, List.sum_nil, List.length_cons, List.length_nil] at h1
  omega
theorem sh5c {z : Str} {c : PyData} {f : FT} {i j : Nat} (hz : (PyData.str z).shown.length ≤ 12) (hi : i < 1000) (hj : j < 1000) : (PyData.tuple [.str z, c, .int i, .int j, f.data]).shown.length ≤ c.shown.length + shF f + 40 := by
  have h1 := @tup_shown [.str z, c, .int i, .int j, f.data]
  have a := (int_ok i hi).1
  have b := (int_ok j hj).1
  simp only [List.map_cons, List.map_nil, List.sum_cons, List.sum_nil, List.length_cons, List.length_nil] at h1
  unfold shF
  omega
theorem sh3 {z : Str} {c : PyData} {os : List Nat} (hz : (PyData.str z).shown.length ≤ 12) (ho : ∀ o, o ∈ os → o < 1000) : (PyData.tuple [.str z, c, .tuple (natD os)]).shown.length ≤ c.shown.length + 6 * os.length + 40 := by
  have h1 := @tup_shown [.str z, c, .tuple (natD os)]
  have h2 := @tup_shown (natD os)
  have h3 := nat_shown os ho
  have h4 : (natD os).length = os.length := by unfold natD; rw [List.length_map]
  simp only [List.map_cons, List.map_nil, List.sum_cons, List.sum_nil, List.length_cons, List.length_nil] at h1
  omega
theorem shown_st : ∀ s : ST, s.Right → s.FitA → s.size ≤ 399 → s.data.shown.length ≤ 7000 * s.size
  | .lk n, h, _, _ => by have := sh_lk h; show (My.lk n).shown.length ≤ 7000 * 1; omega
  | .bo p q i j, h, f, z => by
    have z' : p.size + q.size + 1 ≤ 399 := z
    have a := shown_st p h.1 f.2.1 (by omega)
    have b := shown_st q h.2.1 f.2.2 (by omega)
    have c := ends_len p h.1
    have d := ends_len q h.2.1
    have hi := h.2.2.1
    have hj := h.2.2.2
    have e := sh5 (z := "both") (c := p.data) (d := q.data) wS (by omega : i < 1000) (by omega : j < 1000)
    show (PyData.tuple [.str "both", p.data, q.data, .int i, .int j]).shown.length ≤ 7000 * (p.size + q.size + 1)
    omega
  | .bt p i j, h, f, z => by
    have z' : p.size + 1 ≤ 399 := z
    have a := shown_st p h.1 f.2 (by omega)
    have c := ends_len p h.1
    have hi := h.2.1
    have hj := h.2.2.1
    have e := sh4 (z := "between") (c := p.data) wS (by omega : i < 1000) (by omega : j < 1000)
    show (PyData.tuple [.str "between", p.data, .int i, .int j]).shown.length ≤ 7000 * (p.size + 1)
    omega
  | .of p q i j, h, f, z => by
    have z' : p.size + q.size + 1 ≤ 399 := z
    have a := shown_st p h.1 f.2.1 (by omega)
    have b := shown_st q h.2.1 f.2.2 (by omega)
    have c := ends_len p h.1
    have d := ends_len q h.2.1
    have hi := h.2.2.1
    have hj := h.2.2.2.1
    have e := sh5 (z := "offer") (c := p.data) (d := q.data) wS (by omega : i < 1000) (by omega : j < 1000)
    show (PyData.tuple [.str "offer", p.data, q.data, .int i, .int j]).shown.length ≤ 7000 * (p.size + q.size + 1)
    omega
  | .ch p i d g, h, f, z => by
    have z' : p.size + 1 ≤ 399 := z
    have a := shown_st p h.1 f.2 (by omega)
    have c := ends_len p h.1
    have hi := h.2.1
    have hd := h.2.2.1
    have hl : (chX p i d g).lvs ≤ 40 := Nat.le_trans (lvs_in (l := (ST.ch p i d g).ends) (by rw [ch_ends]; exact List.mem_append_right _ List.mem_cons_self)) f.1.2.2.2
    rw [chX_lvs] at hl
    have hf := shF_le g h.2.2.2.1
    have e := sh5c (z := "choose") (c := p.data) (f := g) wS (by omega : i < 1000) (by omega : d < 1000)
    show (PyData.tuple [.str "choose", p.data, .int i, .int d, g.data]).shown.length ≤ 7000 * (p.size + 1)
    omega
  | .ha p q i j, h, f, z => by
    have z' : p.size + q.size + 1 ≤ 399 := z
    have a := shown_st p h.1 f.2.1 (by omega)
    have b := shown_st q h.2.1 f.2.2 (by omega)
    have c := ends_len p h.1
    have d := ends_len q h.2.1
    have hi := h.2.2.1
    have hj := h.2.2.2.1
    have e := sh5 (z := "hand") (c := p.data) (d := q.data) wS (by omega : i < 1000) (by omega : j < 1000)
    show (PyData.tuple [.str "hand", p.data, q.data, .int i, .int j]).shown.length ≤ 7000 * (p.size + q.size + 1)
    omega
  | .tu p os, h, f, z => by
    have z' : p.size + 1 ≤ 399 := z
    have a := shown_st p h.1 f.2 (by omega)
    have c := ends_len p h.1
    have lo := perm_len h.2
    have e := sh3 (z := "turn") (c := p.data) (os := os) wS (fun o ho => by
      have := List.mem_range.mp (h.2.mem_iff.mp ho)
      omega)
    show (PyData.tuple [.str "turn", p.data, .tuple (natD os)]).shown.length ≤ 7000 * (p.size + 1)
    omega
theorem showN : ∀ os : List Nat, (∀ o, o ∈ os → o < 1000) → PyData.showableAll (natD os) = true ∧ PyData.hasDictAll (natD os) = false
  | [], _ => by simp [natD, PyData.showableAll, PyData.hasDictAll]
  | o :: os, h => by
    have h1 := (int_ok o (h o List.mem_cons_self)).2
    obtain ⟨a, b⟩ := showN os fun x hx => h x (List.mem_cons_of_mem _ hx)
    unfold natD at a b ⊢
    simp only [List.map_cons, PyData.showableAll, PyData.hasDictAll, a, b, h1, PyData.hasDict, Bool.and_self, Bool.or_self, and_self]
theorem show_st : ∀ s : ST, s.Right → s.size ≤ 399 → s.data.showable = true ∧ s.data.hasDict = false
  | .lk n, _, _ => by simp [data, My.lk, PyData.showable, PyData.showableAll, PyData.hasDict, PyData.hasDictAll]
  | .bo p q i j, h, z => by
    have z' : p.size + q.size + 1 ≤ 399 := z
    obtain ⟨a, b⟩ := show_st p h.1 (by omega)
    obtain ⟨c, d⟩ := show_st q h.2.1 (by omega)
    have e1 := ends_len p h.1
    have e2 := ends_len q h.2.1
    have x := (int_ok i (by have := h.2.2.1; omega)).2
    have y := (int_ok j (by have := h.2.2.2; omega)).2
    simp only [data, My.bo, PyData.showable, PyData.showableAll, PyData.hasDict, PyData.hasDictAll, a, b, c, d] at x y ⊢
    simp at x y ⊢
    exact ⟨x, y⟩
  | .bt p i j, h, z => by
    have z' : p.size + 1 ≤ 399 := z
    obtain ⟨a, b⟩ := show_st p h.1 (by omega)
    have e1 := ends_len p h.1
    have x := (int_ok i (by have := h.2.1; omega)).2
    have y := (int_ok j (by have := h.2.2.1; omega)).2
    simp only [data, My.bt, PyData.showable, PyData.showableAll, PyData.hasDict, PyData.hasDictAll, a, b] at x y ⊢
    simp at x y ⊢
    exact ⟨x, y⟩
  | .of p q i j, h, z => by
    have z' : p.size + q.size + 1 ≤ 399 := z
    obtain ⟨a, b⟩ := show_st p h.1 (by omega)
    obtain ⟨c, d⟩ := show_st q h.2.1 (by omega)
    have e1 := ends_len p h.1
    have e2 := ends_len q h.2.1
    have x := (int_ok i (by have := h.2.2.1; omega)).2
    have y := (int_ok j (by have := h.2.2.2.1; omega)).2
    simp only [data, My.of', PyData.showable, PyData.showableAll, PyData.hasDict, PyData.hasDictAll, a, b, c, d] at x y ⊢
    simp at x y ⊢
    exact ⟨x, y⟩
  | .ch p i d f, h, z => by
    have z' : p.size + 1 ≤ 399 := z
    obtain ⟨a, b⟩ := show_st p h.1 (by omega)
    obtain ⟨c, e⟩ := showD_form f
    have e1 := ends_len p h.1
    have x := (int_ok i (by have := h.2.1; omega)).2
    have y := (int_ok d (by have := h.2.2.1; omega)).2
    simp only [data, My.ch, PyData.showable, PyData.showableAll, PyData.hasDict, PyData.hasDictAll, a, b, c, e] at x y ⊢
    simp at x y ⊢
    exact ⟨x, y⟩
  | .ha p q i j, h, z => by
    have z' : p.size + q.size + 1 ≤ 399 := z
    obtain ⟨a, b⟩ := show_st p h.1 (by omega)
    obtain ⟨c, d⟩ := show_st q h.2.1 (by omega)
    have e1 := ends_len p h.1
    have e2 := ends_len q h.2.1
    have x := (int_ok i (by have := h.2.2.1; omega)).2
    have y := (int_ok j (by have := h.2.2.2.1; omega)).2
    simp only [data, PyData.showable, PyData.showableAll, PyData.hasDict, PyData.hasDictAll, a, b, c, d] at x y ⊢
    simp at x y ⊢
    exact ⟨x, y⟩
  | .tu p os, h, z => by
    have z' : p.size + 1 ≤ 399 := z
    obtain ⟨a, b⟩ := show_st p h.1 (by omega)
    have e1 := ends_len p h.1
    obtain ⟨x, y⟩ := showN os fun o ho => by
      have := List.mem_range.mp (h.2.mem_iff.mp ho)
      omega
    simp only [data, PyData.showable, PyData.showableAll, PyData.hasDict, PyData.hasDictAll, a, b, x, y]
    simp
/-- a step whose deed the law looks at -/
structure FinS (s : ST) : Prop where
  right : s.Right
  fit : s.FitA
  size : s.size ≤ 390
  dpt : s.dpt ≤ 60
theorem FinS.plain {s : ST} (h : FinS s) : Plain s.data := by
  have a := show_st s h.right (by have := h.size; omega)
  have b := shown_st s h.right h.fit (by have := h.size; omega)
  have c := h.size
  have e2 : sizeLine = 16777216 := rfl
  exact ⟨shaped_st h.right h.dpt, a.1, a.2, Nat.le_trans (deep_st s h.right) h.dpt, by omega⟩
abbrev s_law_deed_right : Stmt := top 102
abbrev N_law_deed_right' : List Str := ["_law_deed_here", "_law_step"]
theorem sc_law_deed_right : FnScope N_law_deed_right' N_law_deed_right' (defScope s_law_deed_right) := ⟨rfl, rfl, rfl, by decide +kernel, rfl, by decide +kernel, by decide +kernel⟩
def spDeedRightS (K : PySem.W.Frag) (C : Addr) : Sp := fun vs H Q _ => ∃ v u s, vs = [v, u] ∧ Dd K C H v (data s) (ends s) ∧ Dp K H u (data s) ∧ FinS s ∧ ∀ H', Same H H' → Q (.bl true) H'
section
variable {P : Program} {w : World} {K : PySem.W.Frag} {mg : Str → Option Value} {base : Heap} {f : Addr} {fd : FuncData}
theorem ok_law_deed_right (T : Txt K mg) (G : DeedT K mg) (hrep : mg "repr" = none) (M : Mth P w K mg base G.C "size" 5 NDd2 (spDdSize K G.C)) (C_law_ends_of : Cal P w K mg base "_law_ends_of" 61 P_law_ends_of (spEndsOfL K 60)) (C_law_size : Cal P w K mg base "_law_size" 61 P_law_ends_of (spSizeL K 60))
    (F : Fun K "_law_deed_right" "_law_deed_right" s_law_deed_right f fd) : FnG P w K mg base CX0 62 f fd N_law_deed_right' (spDeedRightS K G.C) := by
  refine okG F sc_law_deed_right (fun vs H Q E h => ?_) (fun cdv A outer s H vs Q E hr g0 h => ?_)
  · obtain ⟨v, u, t, rfl, _⟩ := h
    rfl
  obtain ⟨v, u, t, rfl, ⟨a, dx, sv, su, rfl, ha, hsv, hsu⟩, hu, ht, q⟩ := h
  refine ⟨_, (pss_cons (ps_if (PW.pt (pw_or (pt_not (pt_val (pe_callB call_isi rfl T.isinstance (by decide +kernel) (pa_cons (pv 0) (pa_cons (pe_globE (v := .ref G.C) ⟨_, G.g, rfl⟩) pa_nil))))) (pw_or (pt_cmpR (op_neD hr.units) (pe_fld (pv 0) rfl) (pv 1) (nomark _)) (pw_or1 (pt_not (pt_val (pe_callB call_isi rfl T.isinstance (by decide +kernel) (pa_cons (pe_fld (pv 0) rfl) (pa_cons (pe_bltn (v := .ty "tuple") rfl T.tuple (by decide +kernel) rfl) pa_nil)))))))))
    (pss_one (ps_ret pe_bl))
    pss_nil)
  (pss_cons (ps_if (PW.pt (pw_or (pt_cmpR (op_neD hr.units) (pe_callTy call_listN rfl T.list (by decide +kernel) (pa_cons (pe_fld (pv 0) rfl) pa_nil)) (pe_callC C_law_ends_of hr (pa_cons (pv 1) pa_nil)) (nomark _)) (pw_or1 (pt_val (pe_callB call_isi rfl T.isinstance (by decide +kernel) (pa_cons (pe_methM0 M (pv 0) G.cl hr) (pa_cons (pe_bltn (v := .ty "bool") rfl T.bool (by decide +kernel) rfl) pa_nil)))))))
    (pss_one (ps_ret pe_bl))
    pss_nil)
  (pss_one (ps_ret (pe_and (pe_cmpR op_eq (pe_methM0 M (pv 0) G.cl hr) (pe_callC C_law_size hr (pa_cons (pv 1) pa_nil)) (nomark _)) (pe_one (pe_cmpR op_eq (pe_callB (call_show g0 hr) rfl hrep (by decide +kernel) (pa_cons (pe_fld (pv 0) rfl) pa_nil)) (pe_callB (call_show g0 hr) rfl hrep (by decide +kernel) (pa_cons (pv 1) pa_nil)) (nomark _)))))))), ?_⟩
  have p := ht.plain
  have hsz := ht.size
  have hder := der_u t ht.right (by omega)
  have hcnt : cntS t.data ≤ 400 := by rw [cnt_st]; omega
  have hdep : depS t.data ≤ 60 := Nat.le_trans (dep_st _) ht.dpt
  have hfit := FitsA.fit ht.fit
  refine ⟨_, rfl, _, _, _, _, _, rfl, .own G.C, G.ty ha, kit_self, _, rfl, iteF ?_⟩
  refine ⟨_, rfl, _, G.C, _, _, _, rfl, ha, G.cl, G.nSteps, dF_steps _ _, _, rfl, _, _, hsv, hu, p.sh, p.sh, _, rfl, ?_⟩
  rw [p.eq]
  refine iteF ?_
  refine ⟨_, rfl, _, G.C, _, _, _, rfl, ha, G.cl, G.nEnds, dF_ends _ _, _, _, _, _, _, rfl, .ty "tuple", tyx_of hsu.dp, kit_tuple _, _, rfl, iteF ?_⟩
  obtain ⟨pu, uu, rfl, gu, pru⟩ := hsu
  refine ⟨_, rfl, _, G.C, _, _, _, rfl, ha, G.cl, G.nEnds, dF_ends _ _, pu, uu, rfl, .inr gu, fun p1 H1 s1 e1 => ?_⟩
  refine ⟨_, rfl, u, t.data, t.ends, rfl, dp_same s1 _ _ hu, hder, hdep, fun H2 p2 s2 ⟨xs, e2, pr2⟩ => ?_⟩
  have s12 := s1.trans s2
  have hfa : ∀ t', t' ∈ t.ends → Fits t' := fun t' z => hfit.2.2.1 t' z
  refine ⟨.list (t.ends.map FT.data), .list (t.ends.map FT.data), .lst (SqL.of (s2 _ _ e1)) (dp_of_fm (fm_paired s12 pru)), .lst (SqL.of e2) (dp_of_fm pr2), shaped_list hfa, shaped_list hfa, _, rfl, ?_⟩
  rw [SeqAt.eqv_refl _ (SeqAt.canLay_of_shaped (shaped_list hfa))]
  refine iteF ?_
  have ha2 := s12 _ _ ha
  have hsv2 := dp_same s12 _ _ hsv
  refine ⟨_, rfl, a, dx, _, rfl, ha2, dF_no, a, dx, sv, _, t.data, rfl, ha2, hsv2, hcnt, fun H3 s3 => ?_⟩
  refine ⟨_, _, _, _, _, rfl, .ty "bool", .base (.int _), kit_ty (by decide +kernel), _, rfl, iteF ?_⟩
  have ha3 := s3 _ _ ha2
  have hsv3 := dp_same s3 _ _ hsv2
  refine ⟨_, rfl, a, dx, _, rfl, ha3, dF_no, a, dx, sv, _, t.data, rfl, ha3, hsv3, hcnt, fun H4 s4 => ?_⟩
  have s14 := s12.trans (s3.trans s4)
  refine ⟨_, rfl, u, t.data, t.ends, rfl, dp_same s14 _ _ hu, hder, hdep, fun H5 s5 => ⟨rfl, _, rfl, ?_⟩⟩
  have s15 := s14.trans s5
  refine ite2 (fun _ => ?_) (fun c => absurd (decide_eq_true rfl) c)
  have ha5 := s15 _ _ ha
  refine ⟨_, rfl, _, G.C, _, _, _, rfl, ha5, G.cl, G.nSteps, dF_steps _ _, sv, t.data, rfl, dp_same s15 _ _ hsv, p.can, p.nod, p.dp, p.few, _, rfl, u, t.data, rfl, dp_same s15 _ _ hu, p.can, p.nod, p.dp, p.few, rfl, ?_⟩
  have e : decide (V.str t.data.shown = V.str t.data.shown) = true := decide_eq_true rfl
  rw [e]
  exact q H5 s15
end
end My

set_option Elab.async false
set_option linter.all false
set_option maxRecDepth 100000
namespace My
open PySem L2
open ST
/-! ### goods called otherwise -/
def renF (g : List Nat → List Nat) : FT → FT
  | .leaf co n => .leaf co (g n)
  | .node s l r => .node s (renF g l) (renF g r)
def ren (g : List Nat → List Nat) : ST → ST
  | .lk n => .lk (g n)
  | .bo p q i j => .bo (ren g p) (ren g q) i j
  | .bt p i j => .bt (ren g p) i j
  | .of p q i j => .of (ren g p) (ren g q) i j
  | .ch p i d f => .ch (ren g p) i d (renF g f)
  | .ha p q i j => .ha (ren g p) (ren g q) i j
  | .tu p os => .tu (ren g p) os
def Nam (g : List Nat → List Nat) : Prop := ∀ n, isName (Z n) = true → isName (Z (g n)) = true
variable {g : List Nat → List Nat}
theorem rf_dep : ∀ t : FT, (renF g t).dep = t.dep
  | .leaf _ _ => rfl
  | .node s l r => by rw [renF, node_dep, node_dep, rf_dep l, rf_dep r]
theorem rf_lvs : ∀ t : FT, (renF g t).lvs = t.lvs
  | .leaf _ _ => rfl
  | .node s l r => by rw [renF, node_lvs, node_lvs, rf_lvs l, rf_lvs r]
theorem rf_ok (hg : Nam g) : ∀ t : FT, t.Ok → (renF g t).Ok
  | .leaf _ n, h => hg n h
  | .node s l r, h => ⟨rf_ok hg l h.1, rf_ok hg r h.2⟩
theorem rf_cnt : ∀ t : FT, cnt (renF g t) = renF g (cnt t)
  | .leaf _ _ => rfl
  | .node s l r => by
    show FT.node s.flip (cnt (renF g l)) (cnt (renF g r)) = FT.node s.flip (renF g (cnt l)) (renF g (cnt r))
    rw [rf_cnt l, rf_cnt r]
theorem rf_fits (hg : Nam g) {t : FT} (h : Fits t) : Fits (renF g t) := ⟨rf_ok hg t h.1, by rw [rf_dep]; exact h.2⟩
theorem nth_map {l : List FT} {i : Nat} (h : i < l.length) : nth (l.map (renF g)) i = renF g (nth l i) := by
  have a := nth_get h
  have b := nth_get (l := l.map (renF g)) (i := i) (by rw [List.length_map]; exact h)
  rw [List.getElem?_map, a] at b
  exact (Option.some.inj b).symm
theorem lessN_mapF (l : List FT) (ns : List Nat) : lessN (l.map (renF g)) ns = (lessN l ns).map (renF g) := by
  rw [lessN_pos, lessN_pos, List.length_map, List.map_map]
  refine List.map_congr_left fun k hk => ?_
  exact nth_map (mem_pos.mp hk).1
theorem less2_map (l : List FT) (i j : Nat) : less2 (l.map (renF g)) i j = (less2 l i j).map (renF g) := by
  rw [← lessN_two, ← lessN_two, lessN_mapF]
theorem lvsL_ren (l : List FT) : lvsL (l.map (renF g)) = lvsL l := by
  induction l with
  | nil => rfl
  | cons t l ih => rw [List.map_cons, lvsL_cons, lvsL_cons, ih, rf_lvs]
theorem fit_ren (hg : Nam g) {l : List FT} (h : Fit l) : Fit (l.map (renF g)) := by
  refine ⟨by rw [List.length_map]; exact h.1, by rw [List.length_map]; exact h.2.1, fun t ht => ?_, by rw [lvsL_ren]; exact h.2.2.2⟩
  obtain ⟨u, hu, rfl⟩ := List.mem_map.mp ht
  exact rf_fits hg (h.2.2.1 u hu)
theorem ren_ends : ∀ s : ST, s.Right → (ren g s).ends = s.ends.map (renF g)
  | .lk n, _ => rfl
  | .bo p q i j, h => by
    rw [ren, ends, ends, ren_ends p h.1, ren_ends q h.2.1, less_map, less_map, nth_map h.2.2.1, nth_map h.2.2.2, List.map_append, List.map_append]
    rfl
  | .bt p i j, h => by
    rw [ren, ends, ends, ren_ends p h.1, less2_map, nth_map h.2.1, nth_map h.2.2.1, List.map_append]
    rfl
  | .of p q i j, h => by
    rw [ren, ends, ends, ren_ends p h.1, ren_ends q h.2.1, less_map, nth_map h.2.2.1, nth_map h.2.2.2.1, List.map_append]
    rfl
  | .ch p i d f, h => by
    rw [ren, ends, ends, ren_ends p h.1, less_map, nth_map h.2.1, List.map_append]
    congr 1
    split <;> rfl
  | .ha p q i j, h => by
    rw [ren, ends, ends, ren_ends p h.1, ren_ends q h.2.1, less_map, less_map, List.map_append]
  | .tu p os, h => by
    rw [ren, ends, ends, ren_ends p h.1, List.map_map]
    refine List.map_congr_left fun k hk => ?_
    exact nth_map (List.mem_range.mp (h.2.mem_iff.mp hk))
theorem ren_len {s : ST} (h : s.Right) : (ren g s).ends.length = s.ends.length := by rw [ren_ends s h, List.length_map]
theorem ren_right (hg : Nam g) : ∀ s : ST, s.Right → (ren g s).Right
  | .lk n, h => hg n h
  | .bo p q i j, h => ⟨ren_right hg p h.1, ren_right hg q h.2.1, by rw [ren_len h.1]; exact h.2.2.1, by rw [ren_len h.2.1]; exact h.2.2.2⟩
  | .bt p i j, h => ⟨ren_right hg p h.1, by rw [ren_len h.1]; exact h.2.1, by rw [ren_len h.1]; exact h.2.2.1, h.2.2.2⟩
  | .of p q i j, h => ⟨ren_right hg p h.1, ren_right hg q h.2.1, by rw [ren_len h.1]; exact h.2.2.1, by rw [ren_len h.2.1]; exact h.2.2.2.1, by rw [ren_ends p h.1, ren_ends q h.2.1, less_map, less_map, h.2.2.2.2]⟩
  | .ch p i d f, h => ⟨ren_right hg p h.1, by rw [ren_len h.1]; exact h.2.1, h.2.2.1, rf_fits hg h.2.2.2⟩
  | .ha p q i j, h => ⟨ren_right hg p h.1, ren_right hg q h.2.1, by rw [ren_len h.1]; exact h.2.2.1, by rw [ren_len h.2.1]; exact h.2.2.2.1, by rw [ren_ends p h.1, ren_ends q h.2.1, nth_map h.2.2.1, nth_map h.2.2.2.1, rf_cnt, h.2.2.2.2]⟩
  | .tu p os, h => ⟨ren_right hg p h.1, by rw [ren_len h.1]; exact h.2⟩
theorem ren_fit (hg : Nam g) : ∀ s : ST, s.Right → s.FitA → (ren g s).FitA
  | .lk n, h, f => by have := fit_ren hg f; rw [← ren_ends _ h] at this; exact this
  | .bo p q i j, h, f => ⟨by have := fit_ren hg f.1; rw [← ren_ends _ h] at this; exact this, ren_fit hg p h.1 f.2.1, ren_fit hg q h.2.1 f.2.2⟩
  | .bt p i j, h, f => ⟨by have := fit_ren hg f.1; rw [← ren_ends _ h] at this; exact this, ren_fit hg p h.1 f.2⟩
  | .of p q i j, h, f => ⟨by have := fit_ren hg f.1; rw [← ren_ends _ h] at this; exact this, ren_fit hg p h.1 f.2.1, ren_fit hg q h.2.1 f.2.2⟩
  | .ch p i d e, h, f => ⟨by have := fit_ren hg f.1; rw [← ren_ends _ h] at this; exact this, ren_fit hg p h.1 f.2⟩
  | .ha p q i j, h, f => ⟨by have := fit_ren hg f.1; rw [← ren_ends _ h] at this; exact this, ren_fit hg p h.1 f.2.1, ren_fit hg q h.2.1 f.2.2⟩
  | .tu p os, h, f => ⟨by have := fit_ren hg f.1; rw [← ren_ends _ h] at this; exact this, ren_fit hg p h.1 f.2⟩
theorem ren_size : ∀ s : ST, (ren g s).size = s.size
  | .lk n => rfl
  | .bo p q i j => by rw [ren, size, size, ren_size p, ren_size q]
  | .bt p i j => by rw [ren, size, size, ren_size p]
  | .of p q i j => by rw [ren, size, size, ren_size p, ren_size q]
  | .ch p i d f => by rw [ren, size, size, ren_size p]
  | .ha p q i j => by rw [ren, size, size, ren_size p, ren_size q]
  | .tu p os => by rw [ren, size, size, ren_size p]
theorem ren_dpt : ∀ s : ST, (ren g s).dpt = s.dpt
  | .lk n => rfl
  | .bo p q i j => by rw [ren, dpt, dpt, ren_dpt p, ren_dpt q]
  | .bt p i j => by rw [ren, dpt, dpt, ren_dpt p]
  | .of p q i j => by rw [ren, dpt, dpt, ren_dpt p, ren_dpt q]
  | .ch p i d f => by rw [ren, dpt, dpt, ren_dpt p, rf_dep]
  | .ha p q i j => by rw [ren, dpt, dpt, ren_dpt p, ren_dpt q]
  | .tu p os => by rw [ren, dpt, dpt, ren_dpt p]
/-- the data of a step renamed, a link or a choose left out -/
theorem ren_data {s : ST} {z : Str} {r : List PyData} (h : s.data = .tuple (.str z :: r)) (h1 : hd s ≠ "link") (h2 : hd s ≠ "choose") : (ren g s).data = .tuple (.str z :: (((subST s).map fun t => (ren g t).data) ++ r.drop (widOf z))) := by
  cases s with
  | lk n => exact absurd rfl h1
  | ch p i d f => exact absurd rfl h2
  | bo p q i j =>
    injection h with h
    injection h with h h'
    injection h with h
    subst h
    subst h'
    rw [show widOf "both" = 2 from wid_both]
    rfl
  | bt p i j =>
    injection h with h
    injection h with h h'
    injection h with h
    subst h
    subst h'
    rw [show widOf "between" = 1 from wid_between]
    rfl
  | of p q i j =>
    injection h with h
    injection h with h h'
    injection h with h
    subst h
    subst h'
    rw [show widOf "offer" = 2 from wid_offer]
    rfl
  | ha p q i j =>
    injection h with h
    injection h with h h'
    injection h with h
    subst h
    subst h'
    rw [show widOf "hand" = 2 from wid_hand]
    rfl
  | tu p os =>
    injection h with h
    injection h with h h'
    injection h with h
    subst h
    subst h'
    rw [show widOf "turn" = 1 from wid_turn]
    rfl
theorem kind3 (t : ST) : (∃ m, t = .lk m) ∨ (∃ p i d f, t = .ch p i d f) ∨ (hd t ≠ "link" ∧ hd t ≠ "choose") := by
  have w : ∀ z : Str, z = "both" ∨ z = "between" ∨ z = "offer" ∨ z = "hand" ∨ z = "turn" → z ≠ "link" ∧ z ≠ "choose" := by
    intro z hz
    rcases hz with rfl | rfl | rfl | rfl | rfl <;> decide +kernel
  cases t with
  | lk m => exact .inl ⟨m, rfl⟩
  | ch p i d f => exact .inr (.inl ⟨p, i, d, f, rfl⟩)
  | bo p q i j => exact .inr (.inr (w "both" (.inl rfl)))
  | bt p i j => exact .inr (.inr (w "between" (.inr (.inl rfl))))
  | of p q i j => exact .inr (.inr (w "offer" (.inr (.inr (.inl rfl)))))
  | ha p q i j => exact .inr (.inr (w "hand" (.inr (.inr (.inr (.inl rfl))))))
  | tu p os => exact .inr (.inr (w "turn" (.inr (.inr (.inr (.inr rfl))))))
theorem dpAll_drop {K : PySem.W.Frag} {H : Hp} : ∀ {xs : List V} {ds : List PyData} (n : Nat), DpAll K H xs ds → DpAll K H (xs.drop n) (ds.drop n)
  | _, _, 0, h => h
  | _, _, n + 1, .nil => .nil
  | _, _, n + 1, .cons _ t => dpAll_drop n t
/-! step data under what keeps tuples -/
theorem dpAll_ints_kt {K : PySem.W.Frag} {H H' : Hp} : ∀ {os : List Nat} {xs : List V}, DpAll K H xs (natD os) → DpAll K H' xs (natD os)
  | [], _, h => by
    cases h
    exact .nil
  | o :: os, _, h => by
    cases h with
    | cons h t =>
      cases h
      exact .cons (.int _) (dpAll_ints_kt t)
theorem dp_ktS {K : PySem.W.Frag} {H H' : Hp} (k : KT H H') : ∀ (s : ST) {v : V}, Dp K H v s.data → Dp K H' v s.data
  | .lk n, v, h => by
    obtain ⟨a, rfl, hT⟩ := dp_t2 (show Dp K H v (.tuple [.str "link", .str (Z n)]) from h)
    exact mk_lk (k.seq hT)
  | .bo p q i j, v, h => by
    obtain ⟨a, x, y, rfl, hT, h1, h2⟩ := dp_t5 h
    exact .tup (k.seq hT) (.cons (.str _) (.cons (dp_ktS k p h1) (.cons (dp_ktS k q h2) (.cons (.int _) (.cons (.int _) .nil)))))
  | .bt p i j, v, h => by
    obtain ⟨a, x, rfl, hT, h1⟩ := dp_t4 h
    exact .tup (k.seq hT) (.cons (.str _) (.cons (dp_ktS k p h1) (.cons (.int _) (.cons (.int _) .nil))))
  | .of p q i j, v, h => by
    obtain ⟨a, x, y, rfl, hT, h1, h2⟩ := dp_t5 h
    exact .tup (k.seq hT) (.cons (.str _) (.cons (dp_ktS k p h1) (.cons (dp_ktS k q h2) (.cons (.int _) (.cons (.int _) .nil)))))
  | .ch p i d f, v, h => by
    obtain ⟨a, x, y, rfl, hT, h1, h2⟩ := dp_c5 h
    exact .tup (k.seq hT) (.cons (.str _) (.cons (dp_ktS k p h1) (.cons (.int _) (.cons (.int _) (.cons (FT.of_fm _ (k.fm _ (fm_of_dp _ h2))) .nil)))))
  | .ha p q i j, v, h => by
    obtain ⟨a, x, y, rfl, hT, h1, h2⟩ := dp_t5 h
    exact .tup (k.seq hT) (.cons (.str _) (.cons (dp_ktS k p h1) (.cons (dp_ktS k q h2) (.cons (.int _) (.cons (.int _) .nil)))))
  | .tu p os, v, h => by
    obtain ⟨a, x, y, rfl, hT, h1, h2⟩ := dp_t3 h
    cases h2 with
    | tup hT2 hA => exact .tup (k.seq hT) (.cons (.str _) (.cons (dp_ktS k p h1) (.cons (.tup (k.seq hT2) (dpAll_ints_kt hA)) .nil)))
theorem dpAll_ktS {K : PySem.W.Frag} {H H' : Hp} (k : KT H H') : ∀ (ss : List ST) {xs : List V}, DpAll K H xs (ss.map data) → DpAll K H' xs (ss.map data)
  | [], _, h => by
    cases h
    exact .nil
  | s :: ss, _, h => by
    cases h with
    | cons h t => exact .cons (dp_ktS k s h) (dpAll_ktS k ss t)
/-! ### the dict of names -/
structure RenD (H : Hp) (a : Addr) (g : List Nat → List Nat) : Prop where
  nam : Nam g
  ex : ∃ kvs : List (Key × V), H a = some (.dK kvs) ∧ ∀ n, isName (Z n) = true → (valV kvs (.inr (Z n))).getD (.str (Z n)) = .str (Z (g n))
theorem RenD.same {H H' : Hp} {a : Addr} (h : RenD H a g) (s : Same H H') : RenD H' a g := by
  obtain ⟨h1, kvs, h2, h3⟩ := h
  exact ⟨h1, kvs, s _ _ h2, h3⟩
abbrev s_law_name : Stmt := top 103
abbrev N_law_name' : List Str := ["_law_pen", "_law_letters", "_law_signs", "_law_many", "_law_k"]
theorem sc_law_name : FnScope N_law_name' P_law_name (defScope s_law_name) := ⟨rfl, rfl, rfl, by decide +kernel, rfl, by decide +kernel, by decide +kernel⟩
abbrev s_law_renamed : Stmt := top 104
abbrev N_law_renamed : List Str := ["_law_step", "_law_names", "_law_many", "_law_part"]
abbrev P_law_renamed : List Str := ["_law_step", "_law_names"]
theorem sc_law_renamed : FnScope N_law_renamed P_law_renamed (defScope s_law_renamed) := ⟨rfl, rfl, rfl, by decide +kernel, rfl, by decide +kernel, by decide +kernel⟩
abbrev s_law_renamed_form : Stmt := top 105
abbrev P_law_renamed_form : List Str := ["_law_form_here", "_law_names"]
theorem sc_law_renamed_form : FnScope P_law_renamed_form P_law_renamed_form (defScope s_law_renamed_form) := ⟨rfl, rfl, rfl, by decide +kernel, rfl, by decide +kernel, by decide +kernel⟩
def spRenF (K : PySem.W.Frag) (n : Nat) : Sp := fun vs H Q _ => ∃ (v : V) (a : Addr) (t : FT) (g : List Nat → List Nat), vs = [v, .ref a] ∧ Fm K H t v ∧ t.dep < n ∧ t.Ok ∧ RenD H a g ∧ ∀ H' u, Same H H' → Fm K H' (renF g t) u → Q u H'
def spRen (K : PySem.W.Frag) (n : Nat) : Sp := fun vs H Q _ => ∃ (v : V) (a : Addr) (s : ST) (g : List Nat → List Nat), vs = [v, .ref a] ∧ Dp K H v s.data ∧ s.Right ∧ s.dpt ≤ n ∧ RenD H a g ∧ ∀ H' u, Same H H' → Dp K H' u (ren g s).data → Q u H'
section
variable {P : Program} {w : World} {K : PySem.W.Frag} {mg : Str → Option Value} {base : Heap} {f : Addr} {fd : FuncData}
theorem ok_law_renamed_form {n : Nat} (T : Txt K mg) (F : Fun K "_law_renamed_form" "_law_renamed_form" s_law_renamed_form f fd) (C_law_renamed_form : Cal P w K mg base "_law_renamed_form" n P_law_renamed_form (spRenF K n)) : FnOk P w K mg base CX0 (n + 1) f fd P_law_renamed_form (spRenF K (n + 1)) := by
  refine F.ok sc_law_renamed_form (fun vs H Q E h => ?_) (fun cdv A outer s H vs Q E hr h => ?_)
  · obtain ⟨v, a, t, g, rfl, _⟩ := h
    rfl
  obtain ⟨v, a, t, g, rfl, hf, hd, ho, hg, q⟩ := h
  refine ⟨_, (pss_cons (ps_if (pt_cmpR op_eq (pe_callB call_len rfl T.len (by decide +kernel) (pa_cons (pv 0) pa_nil)) pe_int (nomark _))
    (pss_one (ps_ret (pe_tupN (pa_cons (pe_ix ix_tup (pv 0) pe_int (fun _ _ => rfl)) (pa_cons (pe_dget2 (hu_of hr) (pv 1) (pe_ix ix_tup (pv 0) pe_int (fun _ _ => rfl)) (pe_ix ix_tup (pv 0) pe_int (fun _ _ => rfl)) ⟨rfl, rfl, rfl, rfl⟩) pa_nil)))))
    pss_nil)
  (pss_one (ps_ret (pe_tupN (pa_cons (pe_ix ix_tup (pv 0) pe_int (fun _ _ => rfl)) (pa_cons (pe_callC C_law_renamed_form hr (pa_cons (pe_ix ix_tup (pv 0) pe_int (fun _ _ => rfl)) (pa_cons (pv 1) pa_nil))) (pa_cons (pe_callC C_law_renamed_form hr (pa_cons (pe_ix ix_tup (pv 0) pe_int (fun _ _ => rfl)) (pa_cons (pv 1) pa_nil))) pa_nil))))))), ?_⟩
  cases t with
  | leaf co m =>
    obtain ⟨p, rfl, hp⟩ := hf
    obtain ⟨hn, kvs, hk, hv⟩ := hg
    refine ⟨_, rfl, _, _, rfl, .inr ⟨_, hp, rfl⟩, rfl, true, rfl, ?_⟩
    refine ⟨_, rfl, p, _, 0, _, rfl, rfl, hp, rfl, _, rfl, a, rfl, .inl ⟨kvs, .inl hk⟩, _, rfl, p, _, 1, _, rfl, rfl, hp, rfl, _, rfl, p, _, 1, _, rfl, rfl, hp, rfl, _, DGet.k (k := Sum.inr (Z m)) hk, ?_⟩
    rw [hv m ho]
    exact ⟨le1k, fun p2 H2 s2 e2 => q H2 _ s2 ⟨p2, rfl, e2⟩⟩
  | node s l r =>
    obtain ⟨p, x, y, rfl, hp, hx, hy⟩ := hf
    have hd' : 1 + max l.dep r.dep < n + 1 := hd
    refine ⟨_, rfl, _, _, rfl, .inr ⟨_, hp, rfl⟩, rfl, false, rfl, ?_⟩
    refine ⟨_, rfl, p, _, 0, _, rfl, rfl, hp, rfl, _, rfl, p, _, 1, _, rfl, rfl, hp, rfl, _, rfl, x, a, l, g, rfl, hx, by omega, ho.1, hg, fun H1 u1 s1 h1 => ?_⟩
    refine ⟨_, rfl, p, _, 2, _, rfl, rfl, (Same.kt s1).seq hp, rfl, _, rfl, y, a, r, g, rfl, (Same.kt s1).fm _ hy, by omega, ho.2, hg.same s1, fun H2 u2 s2 h2 => ⟨le1k, fun p3 H3 s3 e3 => ?_⟩⟩
    exact q H3 _ (s1.trans (s2.trans s3)) ⟨p3, u1, u2, rfl, e3, (Same.kt (s2.trans s3)).fm _ h1, (Same.kt s3).fm _ h2⟩
theorem ok_law_renamed {n : Nat} (T : Txt K mg) (C_law_within : Cal P w K mg base "_law_within" 1 P_law_ends_of (spWithinL K)) (C_law_renamed_form : Cal P w K mg base "_law_renamed_form" 13 P_law_renamed_form (spRenF K 13)) (F : Fun K "_law_renamed" "_law_renamed" s_law_renamed f fd) (C_law_renamed : Cal P w K mg base "_law_renamed" (13 + n) P_law_renamed (spRen K n)) :
    FnOk P w K mg base CX0 (13 + n + 1) f fd P_law_renamed (spRen K (n + 1)) := by
  refine F.ok sc_law_renamed (fun vs H Q E h => ?_) (fun cdv A outer s H vs Q E hr h => ?_)
  · obtain ⟨v, a, t, g, rfl, _⟩ := h
    rfl
  obtain ⟨v, a, t, g, rfl, hv, hR, hD, hg, q⟩ := h
  refine ⟨_, (pss_cons (ps_if (pt_cmpR op_eq (pe_ix ix_tup (pv 0) pe_int (fun _ _ => rfl)) pe_str (nomark _))
    (pss_one (ps_ret (pe_tupN (pa_cons pe_str (pa_cons (pe_dget2 (hu_of hr) (pv 1) (pe_ix ix_tup (pv 0) pe_int (fun _ _ => rfl)) (pe_ix ix_tup (pv 0) pe_int (fun _ _ => rfl)) ⟨rfl, rfl, rfl, rfl⟩) pa_nil)))))
    pss_nil)
  (pss_cons (ps_if (pt_cmpR op_eq (pe_ix ix_tup (pv 0) pe_int (fun _ _ => rfl)) pe_str (nomark _))
    (pss_one (ps_ret (pe_op op_catTN (pe_op op_catTN (pe_op op_catTN (pe_slice sl_tupN (pv 0) po_none (po_some pe_int)) (pe_tupN (pa_cons (pe_callC C_law_renamed hr (pa_cons (pe_ix ix_tup (pv 0) pe_int (fun _ _ => rfl)) (pa_cons (pv 1) pa_nil))) pa_nil))) (pe_slice sl_tupN (pv 0) (po_some pe_int) (po_some pe_int))) (pe_tupN (pa_cons (pe_callC C_law_renamed_form hr (pa_cons (pe_ix ix_tup (pv 0) pe_int (fun _ _ => rfl)) (pa_cons (pv 1) pa_nil))) pa_nil)))))
    pss_nil)
  (pss_cons (ps_set (i := 2) sc_law_renamed.nd rfl (Or.inl rfl) (pe_callC C_law_within hr (pa_cons (pv 0) pa_nil)))
  (pss_one (ps_ret (pe_op op_catTN (pe_op op_catTN (pe_slice sl_tupN (pv 0) po_none (po_some pe_int)) (pe_callTy call_tupLN rfl T.tuple (by decide +kernel) (pa_cons (pe_lc (own := [("_law_part", 3)]) (g := (gName 3)) (te := tCall (spRen K n) [] E0 (tCons (tVar 3) (tCons (tVar 1) tNil))) rfl sc_law_renamed.nd (pi_tup (pe_slice sl_tupN (pv 0) (po_some pe_int) (po_some (pe_op op_add pe_int (pv 2))))) (blkOk_by (own := [("_law_part", 3)]) (N := N_law_renamed) (sc := defScope s_law_renamed) (by decide +kernel)) (fun _ _ _ _ _ => (pg_name (i := 3) sc_law_renamed.nd rfl (Or.inl rfl))) (fun _ _ _ _ _ => pts_nil) (fun _ _ _ _ _ => (pe_callC C_law_renamed hr (pa_cons (pv 3) (pa_cons (pv 1) pa_nil))))) pa_nil))) (pe_slice sl_tupN (pv 0) (po_some (pe_op op_add pe_int (pv 2))) po_none))))))), ?_⟩
  rcases kind3 t with ⟨m, rfl⟩ | ⟨pp, i, dd, ff, rfl⟩ | ⟨h1, h2⟩
  · obtain ⟨p, rfl, hT⟩ := dp_t2 (show Dp K H v (.tuple [.str "link", .str (Z m)]) from hv)
    obtain ⟨hn, kvs, hk, hvv⟩ := hg
    refine ⟨_, rfl, p, _, 0, _, rfl, rfl, hT, rfl, rfl, _, rfl, ?_⟩
    refine ite2 (fun _ => ?_) (fun c => absurd (decide_eq_true rfl) c)
    refine ⟨_, rfl, a, rfl, .inl ⟨kvs, .inl hk⟩, _, rfl, p, _, 1, _, rfl, rfl, hT, rfl, _, rfl, p, _, 1, _, rfl, rfl, hT, rfl, _, DGet.k (k := Sum.inr (Z m)) hk, ?_⟩
    rw [hvv m hR]
    exact ⟨le1k, fun p2 H2 s2 e2 => q H2 _ s2 (mk_lk e2)⟩
  · obtain ⟨p, vp, vf, rfl, hT, hvp, hvf⟩ := dp_c5 hv
    refine ⟨_, rfl, p, _, 0, _, rfl, rfl, hT, rfl, rfl, _, rfl, ?_⟩
    refine ite2 (fun c => absurd c (by decide +kernel)) (fun _ => ?_)
    refine ⟨_, rfl, p, _, 0, _, rfl, rfl, hT, rfl, rfl, _, rfl, ?_⟩
    refine ite2 (fun _ => ?_) (fun c => absurd (decide_eq_true rfl) c)
    have hD' : 1 + max pp.dpt (ff.dep + 1) ≤ n + 1 := hD
    obtain ⟨rp, hi, hd2, hff⟩ := hR
    refine ⟨_, rfl, 1, rfl, p, _, rfl, hT, fun p2 H2 s2 e2 => ?_⟩
    refine ⟨_, rfl, p, _, 1, _, rfl, rfl, (Same.kt s2).seq hT, rfl, _, rfl, vp, a, pp, g, rfl, dp_same s2 _ _ hvp, rp, by omega, hg.same s2, fun H3 u3 s3 h3 => ⟨le1k, fun p4 H4 s4 e4 => ?_⟩⟩
    refine ⟨p2, p4, _, _, rfl, rfl, (Same.kt (s3.trans s4)).seq e2, e4, le1k, fun p5 H5 s5 e5 => ?_⟩
    have s25 := s2.trans (s3.trans (s4.trans s5))
    refine ⟨_, rfl, 2, rfl, 4, rfl, p, _, rfl, (Same.kt s25).seq hT, fun p6 H6 s6 e6 => ?_⟩
    refine ⟨p5, p6, _, _, rfl, rfl, (Same.kt s6).seq e5, e6, le1k, fun p7 H7 s7 e7 => ?_⟩
    have s27 := s25.trans (s6.trans s7)
    refine ⟨_, rfl, p, _, 4, _, rfl, rfl, (Same.kt s27).seq hT, rfl, _, rfl, vf, a, ff, g, rfl, (Same.kt s27).fm _ (fm_of_dp _ hvf), by have := hff.2; omega, hff.1, hg.same s27, fun H8 u8 s8 h8 => ⟨le1k, fun p9 H9 s9 e9 => ?_⟩⟩
    refine ⟨p7, p9, _, _, rfl, rfl, (Same.kt (s8.trans s9)).seq e7, e9, le1k, fun p10 H10 s10 e10 => ?_⟩
    have sF := s8.trans (s9.trans s10)
    refine q H10 _ (s27.trans sF) ?_
    exact .tup e10 (.cons (.str _) (.cons (dp_same (s4.trans (s5.trans (s6.trans (s7.trans sF)))) _ _ h3) (.cons (.int _) (.cons (.int _) (.cons (FT.of_fm _ ((Same.kt (s9.trans s10)).fm _ h8)) .nil)))))
  · obtain ⟨p, z, r, xs, rfl, eD, hz, hT, hlen, hA, hw, hk⟩ := dp_st hv
    have ez : z = hd t := by
      obtain ⟨r2, e2⟩ := data_hd t
      rw [eD] at e2
      injection e2 with e2
      injection e2 with e2 _
      injection e2 with e2
    have hr4 := data_len eD
    refine ⟨_, rfl, p, _, 0, _, rfl, rfl, hT, at0, rfl, _, rfl, ?_⟩
    refine ite2 (fun c => absurd (show V.str z = V.str "link" from of_decide_eq_true c) (fun e => by injection e with e; exact h1 (ez ▸ e))) (fun _ => ?_)
    refine ⟨_, rfl, p, _, 0, _, rfl, rfl, hT, at0, rfl, _, rfl, ?_⟩
    refine ite2 (fun c => absurd (show V.str z = V.str "choose" from of_decide_eq_true c) (fun e => by injection e with e; exact h2 (ez ▸ e))) (fun _ => ?_)
    refine ⟨_, rfl, .ref p, z, r, rfl, by rw [← eD]; exact hv, hz, fun H1 s1 => ?_⟩
    have hT1 := (Same.kt s1).seq hT
    refine ⟨_, rfl, 1, rfl, p, _, rfl, hT1, fun p2 H2 s2 e2 => ?_⟩
    have e2 : SqT K H2 p2 [.str z] := by
      have e := cutTo (.str z :: xs) 1 (by rw [List.length_cons]; omega)
      rw [show ((1 : Nat) : Int) = 1 from rfl] at e
      rw [e] at e2
      exact e2
    have hT2 := (Same.kt s2).seq hT1
    refine ⟨_, rfl, 1, rfl, _, rfl, 1, _, rfl, rfl, _, rfl, p, _, rfl, hT2, fun p3 H3 s3 e3 => ?_⟩
    rw [cut1 (by rw [hlen]; exact hw)] at e3
    have s13 := s1.trans (s2.trans s3)
    have hk3 := dpAll_same s13 _ _ hk
    have hl3 := dpAll_len hk3
    rw [List.length_map] at hl3
    have few : (subST t).length ≤ 2 := by cases t <;> simp [subST]
    refine ⟨p3, rfl, ⟨_, e3⟩, fun B nB => lc_it (walk_tup (xs := xs.take (widOf z))) (fun i H' => Same H3 H' ∧ ∃ us : List V, us.length = i ∧ H' B = some (.lst us) ∧ DpAll K H' us (((subST t).take i).map fun t => (ren g t).data)) ⟨same_new nB _, [], rfl, upd_same, .nil⟩ (fun i H' _ y => (Same.kt y.1).seq e3) (fun i y H4 H5 hi yy y2 => ?_) (fun H4 yy => ?_)⟩
    · obtain ⟨rfl, hy⟩ := y2
      obtain ⟨k1, us, hl, eB, hU⟩ := yy
      obtain ⟨d, hdd, hyd⟩ := dpAll_get hk3 hy
      rw [List.getElem?_map] at hdd
      obtain ⟨t', ht', rfl⟩ := Option.map_eq_some_iff.mp hdd
      have mt := List.mem_of_getElem? ht'
      have := sub_dpt t' mt
      refine ⟨rfl, y, rfl, _, rfl, y, a, t', g, rfl, dp_same k1 _ _ hyd, sub_right hR t' mt, by omega, hg.same (s13.trans k1), fun H6 u6 s6 h6 => ⟨_, s6 _ _ eB, small1000 (by omega), same_fresh (k1.trans s6) nB, us ++ [u6], by rw [List.length_append, hl]; rfl, upd_same, ?_⟩⟩
      have kB : KT H6 (upd H6 B (.lst (us ++ [u6]))) := same_ktL (s6 _ _ eB)
      rw [take_next ht', List.map_append]
      refine dpAll_app ?_ (.cons ?_ .nil)
      · have hh := dpAll_ktS kB ((subST t).take i |>.map (ren g)) (by rw [List.map_map]; exact dpAll_same s6 _ _ hU)
        rw [List.map_map] at hh
        exact hh
      · exact dp_ktS kB _ h6
    · obtain ⟨k1, us, hl, eB, hU⟩ := yy
      rw [List.take_of_length_le (by omega)] at hU
      have s14 := s13.trans k1
      have kt24 := Same.kt (s3.trans k1)
      refine ⟨B, _, rfl, SqL.of eB, fun p5 H5 s5 e5 => ⟨p2, p5, _, _, rfl, rfl, (kt24.trans (Same.kt s5)).seq e2, e5, (by show 1 + us.length ≤ 1000; omega), fun p6 H6 s6 e6 => ?_⟩⟩
      have s16 := s14.trans (s5.trans s6)
      refine ⟨_, rfl, _, rfl, 1, _, rfl, rfl, _, rfl, p, _, rfl, (Same.kt s16).seq hT, fun p7 H7 s7 e7 => ?_⟩
      have ew : (1 : Int) + ((widOf z : Nat) : Int) = ((1 + widOf z : Nat) : Int) := by omega
      rw [ew, cutFrom _ _ (by rw [List.length_cons]; omega)] at e7
      have ed : (V.str z :: xs).drop (1 + widOf z) = xs.drop (widOf z) := by rw [Nat.add_comm]; rfl
      rw [ed] at e7
      refine ⟨p6, p7, _, _, rfl, rfl, (Same.kt s7).seq e6, e7, ?_, fun p8 H8 s8 e8 => ?_⟩
      · rw [List.length_append, List.length_drop]
        show 1 + us.length + _ ≤ 1000
        omega
      have s48 := s5.trans (s6.trans (s7.trans s8))
      refine q H8 _ (s14.trans s48) ?_
      rw [ren_data eD h1 h2]
      refine .tup e8 (.cons (.str _) (dpAll_app (dpAll_same s48 _ _ hU) ?_))
      exact dpAll_drop _ (dpAll_same (s14.trans s48) _ _ hA)
end
end My

set_option Elab.async false
set_option linter.all false
set_option maxRecDepth 100000
namespace My
open PySem L2 SX
open ST
theorem val_merge {k : Key} {v : V} : ∀ (more acc : List (Key × V)), valV (mergeK acc more) k = some v → (∃ p, p ∈ more ∧ v = p.2) ∨ valV acc k = some v
  | [], _, h => .inr h
  | p :: r, acc, h => by
    have h : valV (mergeK (putK acc p.1 p.2) r) k = some v := h
    rcases val_merge r _ h with ⟨q, hq, e⟩ | z
    · exact .inl ⟨q, List.mem_cons_of_mem _ hq, e⟩
    · rw [valV_put] at z
      split at z
      · exact .inl ⟨p, List.mem_cons_self, (Option.some.inj z).symm⟩
      · exact .inr z
theorem renD_of {H : Hp} {a : Addr} {kvs : List (Key × V)} (h : H a = some (.dK (mergeK [] kvs))) (hv : ∀ p, p ∈ kvs → ∃ z, p.2 = .str z ∧ isName z = true) : ∃ g, RenD H a g := by
  have key : ∀ n, isName (Z n) = true → ∃ z : Str, (valV (mergeK [] kvs) (.inr (Z n))).getD (.str (Z n)) = .str z ∧ isName z = true := fun n hn => by
    cases e : valV (mergeK [] kvs) (.inr (Z n)) with
    | none => exact ⟨_, rfl, hn⟩
    | some v =>
      rcases val_merge _ _ e with ⟨p, hp, rfl⟩ | z
      · exact hv p hp
      · cases z
  refine ⟨fun n => (match (valV (mergeK [] kvs) (.inr (Z n))).getD (.str (Z n)) with | .str z => z | _ => Z n).cps.toList, fun n hn => ?_, _, h, fun n hn => ?_⟩
  · obtain ⟨z, e, hz⟩ := key n hn
    show isName (Z (match (valV (mergeK [] kvs) (.inr (Z n))).getD (.str (Z n)) with | .str z => z | _ => Z n).cps.toList) = true
    rw [e, Z_of]
    exact hz
  · obtain ⟨z, e, hz⟩ := key n hn
    show _ = V.str (Z (match (valV (mergeK [] kvs) (.inr (Z n))).getD (.str (Z n)) with | .str z => z | _ => Z n).cps.toList)
    rw [e, Z_of]
abbrev s_law_named_deed : Stmt := top 106
abbrev N_law_named_deed : List Str := ["_law_pen", "_law_links_here", "_law_offers", "_law_hands", "_law_step", "_law_row", "_law_k"]
abbrev P_law_named_deed : List Str := ["_law_pen", "_law_links_here", "_law_offers", "_law_hands"]
theorem sc_law_named_deed : FnScope N_law_named_deed P_law_named_deed (defScope s_law_named_deed) := ⟨rfl, rfl, rfl, by decide +kernel, rfl, by decide +kernel, by decide +kernel⟩
theorem app_sign (c : Nat) (cs : List Nat) : (⟨#[c]⟩ : Str) ++ S cs = S (c :: cs) := by
  show (Str.mk _ : Str) = Str.mk _
  congr 1
  show #[c] ++ cs.toArray = (c :: cs).toArray
  simp
def ea : List Nat := ("a" : Str).cps.toList
theorem ea_name : isName (Z ea) = true := by decide +kernel
/-- the row of hand ons -/
structure Row (s : ST) (n : Nat) : Prop where
  right : s.Right
  fit : s.FitA
  ends : s.ends = [.leaf false ea, .leaf true ea]
  size : s.size ≤ 1 + 2 * n
  dpt : s.dpt ≤ 1 + n
theorem row0 : Row (.lk ea) 0 := ⟨ea_name, lk_fit ea_name, rfl, Nat.le_refl _, Nat.le_refl _⟩
theorem row1 {s : ST} {n : Nat} (h : Row s n) : Row (.ha s (.lk ea) 1 0) (n + 1) := by
  have e : (ST.ha s (.lk ea) 1 0).ends = [.leaf false ea, .leaf true ea] := by
    rw [ST.ends, h.ends]
    rfl
  have h1 := h.size
  have h2 := h.dpt
  refine ⟨⟨h.right, ea_name, by rw [h.ends]; exact Nat.le_of_ble_eq_true rfl, Nat.le_of_ble_eq_true rfl, by rw [h.ends]; rfl⟩, ⟨?_, h.fit, lk_fit ea_name⟩, e, ?_, ?_⟩
  · rw [e]
    exact lk_fit ea_name
  · show s.size + 1 + 1 ≤ _
    omega
  · show 1 + max s.dpt 1 ≤ _
    omega
structure Nmd (s : ST) : Prop where
  right : s.Right
  fit : s.FitA
  size : s.size ≤ 68
  dpt : s.dpt ≤ 43
theorem nmd_bo {s r : ST} {i j : Nat} (h : Sml s) (hd : s.dpt ≤ 42) (hr : Row r 3) (hi : i < s.ends.length) (hj : j < 2) : Nmd (.bo s r i j) := by
  have e : lvsL r.ends = 2 := by rw [hr.ends]; rfl
  have hl := h.lvs
  have hs := h.size
  have hs2 := hr.size
  have hd2 := hr.dpt
  have rd : ∀ t, t ∈ r.ends → t.dep = 0 := fun t ht => by
    rw [hr.ends] at ht
    simp only [List.mem_cons, List.not_mem_nil, or_false] at ht
    rcases ht with rfl | rfl <;> rfl
  have hj' : j < r.ends.length := by rw [hr.ends]; exact hj
  have M := mid_bo2 h.right h.fit hr.right hr.fit hi hj' (by omega) (fun t ht => by
    rcases ht with z | z
    · exact h.dep t z
    · rw [rd t z]; omega)
  exact ⟨M.1, M.2, by show s.size + r.size + 1 ≤ 68; omega, by show 1 + max s.dpt r.dpt ≤ 43; omega⟩
def spNamed (K : PySem.W.Frag) : Sp := fun vs H Q _ => ∃ (d L : Addr) (ns : List Int) (m : Nat) (la lb lc : Int), vs = [.ref d, .int la, .int lb, .int lc] ∧ 0 < la ∧ la ≤ 6 ∧ lb ≤ 2 ∧ lc ≤ 2 ∧ Pen K H d L ns m ∧ m + 40000 < 2 ^ 38 ∧ ∀ H' u s, Keep d H H' → Pen K H' d L ns (m + 20000) → Dp K H' u (data s) → Nmd s → Q u H'
section
variable {P : Program} {w : World} {K : PySem.W.Frag} {mg : Str → Option Value} {base : Heap} {f : Addr} {fd : FuncData}
theorem ok_law_name (T : Txt K mg) (F : Fun K "_law_name" "_law_name" s_law_name f fd) (C_law_pick : Cal P w K mg base "_law_pick" 2 ["_law_pen", "_law_some"] (spPick K)) : FnOk P w K mg base CX0 3 f fd P_law_name (spNameOf K) := by
  refine F.ok sc_law_name (fun vs H Q E h => ?_) (fun cdv A outer s H vs Q E hr h => ?_)
  · obtain ⟨d, L, ns, n, rfl, _⟩ := h
    rfl
  obtain ⟨d, L, ns, n, rfl, p, hn, q⟩ := h
  refine ⟨_, (pss_cons (ps_asg (pe_tupN (pa_cons pe_str (pa_cons pe_str pa_nil))) (pg_tup rfl (pgs_cons (pg_name (i := 1) sc_law_name.nd rfl (Or.inl rfl)) (pgs_cons (pg_name (i := 2) sc_law_name.nd rfl (Or.inr rfl)) pgs_nil))))
  (pss_cons (ps_set (i := 3) sc_law_name.nd rfl (Or.inl rfl) (pe_callC C_law_pick hr (pa_cons (pv 0) (pa_cons (pe_lstN (pa_cons pe_int (pa_cons pe_int (pa_cons pe_int (pa_cons pe_int (pa_cons pe_int pa_nil)))))) pa_nil))))
  (pss_one (ps_ret (pe_op op_add_str (pe_callC C_law_pick hr (pa_cons (pv 0) (pa_cons (pv 1) pa_nil))) (pe_join pe_str (pe_lc (own := [("_law_k", 4)]) (g := (gName 4)) (te := tCall (spPick K) [] E0 (tCons (tVar 0) (tCons (tVar 2) tNil))) rfl sc_law_name.nd (pi_range1 rfl T.range (pa_cons (pe_op op_sub (pv 3) pe_int) pa_nil)) (blkOk_by (own := [("_law_k", 4)]) (N := N_law_name') (sc := defScope s_law_name) (by decide +kernel)) (fun _ _ _ _ _ => (pg_name (i := 4) sc_law_name.nd rfl (Or.inl rfl))) (fun _ _ _ _ _ => pts_nil) (fun _ _ _ _ _ => (pe_callC C_law_pick hr (pa_cons (pv 0) (pa_cons (pv 2) pa_nil))))))))))), ?_⟩
  refine ⟨le1k, fun p1 H1 s1 e1 => ⟨p1, _, rfl, e1, rfl, _, _, rfl, _, _, rfl, rfl, ?_⟩⟩
  refine ⟨_, rfl, le1k, fun p2 H2 s2 e2 => ?_⟩
  have s12 := s1.trans s2
  refine ⟨d, L, ns, n, _, rfl, p.same s12, by omega, .inl ⟨p2, _, rfl, SqL.of e2, by simp, le1k, fun x H3 hx k3 p3 => ?_⟩⟩
  have k13 : Keep d H H3 := (Same.toKeep s12).trans k3
  obtain ⟨m, rfl, hm1, hm⟩ : ∃ m : Nat, x = V.int m ∧ 1 ≤ m ∧ m ≤ 12 := by
    simp only [List.mem_cons, List.not_mem_nil, or_false] at hx
    rcases hx with rfl | rfl | rfl | rfl | rfl <;>
      first | exact ⟨1, rfl, by decide, by decide⟩ | exact ⟨2, rfl, by decide, by decide⟩ | exact ⟨5, rfl, by decide, by decide⟩ | exact ⟨12, rfl, by decide, by decide⟩
  refine ⟨_, rfl, _, rfl, d, L, ns, n + 1, _, rfl, p3, by omega, .inr ⟨zLetters, rfl, by decide +kernel, by decide +kernel, fun c H4 hc k4 p4 => ⟨⟨_, rfl⟩, ?_⟩⟩⟩
  have k14 := k13.trans k4
  refine ⟨_, rfl, _, _, rfl, rfl, (m : Int) - 1, rfl, by omega, by omega, fun D nD => lc_range (lo := 0) (n := ((m : Int) - 1).toNat)
    (fun i H' => Keep d H4 H' ∧ Pen K H' d L ns (n + 2 + i) ∧ ∃ cs : List Nat, cs.length = i ∧ (∀ c ∈ cs, isLD c = true) ∧ H' D = some (.lst (cs.map fun c => V.str ⟨#[c]⟩))) ?_ (fun i H5 hi ⟨k5, p5, cs, hcs, hld, e⟩ => ?_) (fun H5 ⟨k5, p5, cs, hcs, hld, e⟩ => ?_)⟩
  · exact ⟨Same.toKeep (same_new nD _), p4.fresh (Keep.refl _ _) p4.cells p4.isDk nD, [], rfl, by simp, upd_same⟩
  · refine ⟨rfl, _, rfl, _, rfl, ?_⟩
    refine ⟨d, L, ns, n + 2 + i, _, rfl, p5, by omega, .inr ⟨zBoth, rfl, by decide +kernel, by decide +kernel, fun c H6 hc k6 p6 => ?_⟩⟩
    have nDd : D ≠ d := by
      obtain ⟨kvs, ed⟩ := p4.isDk
      exact (ne_of_none ed nD).symm
    refine ⟨_, k6 D _ nDd e, small1000 (by rw [List.length_map]; omega), keep_fresh (k5.trans k6) nD, p6.fresh (k5.trans k6) p4.cells p4.isDk nD, cs ++ [c], by rw [List.length_append, hcs]; rfl, ?_, ?_⟩
    · intro x hx
      rcases List.mem_append.mp hx with hx | hx
      · exact hld x hx
      · rw [List.mem_singleton.mp hx, ← isLD_both]
        exact decide_eq_true hc
    · rw [upd_same, List.map_append]
      rfl
  · have hcl : cs.length + 1 = m := by omega
    refine ⟨_, D, cs.map (fun c => (⟨#[c]⟩ : Str)), rfl, rfl, .inl (SqL.of ?_), ?_, ?_⟩
    · rw [e, List.map_map]
      rfl
    · rw [sum_signs, List.length_map]
      show cs.length + cs.length * 0 ≤ 16777216
      omega
    · rw [join_signs]
      refine ⟨_, _, rfl, rfl, ?_, ?_⟩
      · show 1 + (S cs).length ≤ sizeLine
        have : (S cs).length = cs.length := by show (cs.toArray).size = _; simp
        have e2 : sizeLine = 16777216 := rfl
        omega
      · rw [app_sign]
        refine q _ H5 (isName_cs (decide_eq_true hc) hld (by omega)) (k14.trans k5) (p5.mono (by omega))
theorem ok_law_named_deed (T : Txt K mg) (C_law_draw : Cal P w K mg base "_law_draw" 1 P_law_draw (spDraw K)) (C_law_ends_of : Cal P w K mg base "_law_ends_of" 61 P_law_ends_of (spEndsOfL K 60)) (C_law_deed : Cal P w K mg base "_law_deed" 110 P_law_deed (spDeed K)) (C_law_name : Cal P w K mg base "_law_name" 3 P_law_name (spNameOf K)) (C_law_renamed : Cal P w K mg base "_law_renamed" 73 P_law_renamed (spRen K 60))
    (F : Fun K "_law_named_deed" "_law_named_deed" s_law_named_deed f fd) : FnOk P w K mg base CX0 111 f fd P_law_named_deed (spNamed K) := by
  refine F.ok sc_law_named_deed (fun vs H Q E h => ?_) (fun cdv A outer s H vs Q E hr h => ?_)
  · obtain ⟨d, L, ns, m, la, lb, lc, rfl, _⟩ := h
    rfl
  obtain ⟨d, L, ns, m, la, lb, lc, rfl, la0, la6, lb2, lc2, hp, hm, q⟩ := h
  refine ⟨_, (pss_cons (ps_set (i := 4) sc_law_named_deed.nd rfl (Or.inl rfl) (pe_callC C_law_deed hr (pa_cons (pv 0) (pa_cons (pv 1) (pa_cons (pv 2) (pa_cons (pv 3) (pa_cons pe_int pa_nil)))))))
  (pss_cons (ps_if (pt_cmpR op_eq (pe_callC C_law_draw hr (pa_cons (pv 0) (pa_cons pe_int pa_nil))) pe_int (nomark _))
    (pss_cons (ps_set (i := 5) sc_law_named_deed.nd rfl (Or.inl rfl) (pe_tupN (pa_cons pe_str (pa_cons pe_str pa_nil))))
    (pss_cons (ps_for PassesOwn.never rfl (pi_range1 rfl T.range (pa_cons pe_int pa_nil)) (pg_name (i := 6) sc_law_named_deed.nd rfl (Or.inl rfl))
      (pss_one (ps_set (i := 5) sc_law_named_deed.nd rfl (Or.inl rfl) (pe_tupN (pa_cons pe_str (pa_cons (pv 5) (pa_cons (pe_tupN (pa_cons pe_str (pa_cons pe_str pa_nil))) (pa_cons pe_int (pa_cons pe_int pa_nil)))))))))
    (pss_one (ps_set (i := 4) sc_law_named_deed.nd rfl (Or.inl rfl) (pe_tupN (pa_cons pe_str (pa_cons (pv 4) (pa_cons (pv 5) (pa_cons (pe_callC C_law_draw hr (pa_cons (pv 0) (pa_cons (pe_callB call_len rfl T.len (by decide +kernel) (pa_cons (pe_callC C_law_ends_of hr (pa_cons (pv 4) pa_nil)) pa_nil)) pa_nil))) (pa_cons (pe_callC C_law_draw hr (pa_cons (pv 0) (pa_cons pe_int pa_nil))) pa_nil))))))))))
    pss_nil)
  (pss_cons (ps_if (pt_cmpR op_eq (pe_callC C_law_draw hr (pa_cons (pv 0) (pa_cons pe_int pa_nil))) pe_int (nomark _))
    (pss_one (ps_set (i := 4) sc_law_named_deed.nd rfl (Or.inl rfl) (pe_callC C_law_renamed hr (pa_cons (pv 4) (pa_cons (pe_disp (pps_cons pe_str (pe_callC C_law_name hr (pa_cons (pv 0) pa_nil)) (pps_cons pe_str (pe_callC C_law_name hr (pa_cons (pv 0) pa_nil)) (pps_cons pe_str pe_str pps_nil))) (by rfl) (by rfl) (fun z => by cases z) (by decide)) pa_nil)))))
    pss_nil)
  (pss_one (ps_ret (pv 4)))))), ?_⟩
  refine ⟨_, rfl, _, rfl, _, rfl, _, rfl, d, L, ns, m, la, lb, lc, rfl, la0, la6, lb2, lc2, hp, by omega, fun H1 v1 t1 k1 pp1 hv1 hs1 hd1 => ?_⟩
  have hel := ends_len t1 hs1.right
  have hsz := hs1.size
  have hne := hs1.mid.ne
  have du := der_u t1 hs1.right (by omega)
  dsimp only
  refine cut_nam (fun σ' H' => ∃ (o5 o6 : Option V) (v : V) (s : ST), σ' = [some (.ref d), some (.int la), some (.int lb), some (.int lc), some v, o5, o6] ∧ Keep d H H' ∧ Pen K H' d L ns (m + 11000) ∧ Dp K H' v s.data ∧ Nmd s)
    (fun σ' H2 ⟨o5, o6, v, t, eσ, k2, pp2, hv2, hN⟩ => ?_) (fun N => ?_)
  · subst eσ
    refine ⟨_, rfl, d, L, ns, _, 2, rfl, pp2, by omega, by decide, by decide, fun r3 H3 r30 r31 k3 pp3 => ⟨rfl, _, rfl, ?_⟩⟩
    have k03 := k2.trans k3
    have hv3 := dp_keep pp2.isDk k3 _ _ hv2
    refine ite2 (fun _ => ?_) (fun _ => ?_)
    · refine ⟨_, rfl, fun W nW => ?_⟩
      have sW := same_new nW (.dK [])
      have eW : upd H3 W (.dK []) W = some (.dK []) := upd_same
      have ppW := pp3.same sW
      generalize upd H3 W (.dK []) = H4 at sW eW ppW ⊢
      have nWd : W ≠ d := fun z => by
        obtain ⟨kvs, h⟩ := pp3.isDk
        rw [z, h] at nW
        cases nW
      refine ⟨_, rfl, d, L, ns, _, rfl, ppW, by omega, fun z5 H5 hz5 k5 pp5 => ?_⟩
      refine ⟨_, rfl, d, L, ns, _, rfl, pp5, by omega, fun z6 H6 hz6 k6 pp6 => ?_⟩
      have eW6 := k6 _ _ nWd (k5 _ _ nWd eW)
      refine ⟨eW6, [(.inr "a", .str z5), (.inr "b", .str z6), (.inr "c", .str "c0")], rfl, Nat.le_of_ble_eq_true rfl, ?_⟩
      have k46 := k5.trans k6
      have k36 : Keep d H3 H6 := (Same.toKeep sW).trans k46
      have e7 : upd H6 W (.dK (mergeK [] [(.inr "a", .str z5), (.inr "b", .str z6), (.inr "c", .str "c0")])) W = some (.dK (mergeK [] [(.inr "a", .str z5), (.inr "b", .str z6), (.inr "c", .str "c0")])) := upd_same
      have k37 : Keep d H3 (upd H6 W (.dK (mergeK [] [(.inr "a", .str z5), (.inr "b", .str z6), (.inr "c", .str "c0")]))) := keep_fresh k36 nW
      have pp7 : Pen K (upd H6 W (.dK (mergeK [] [(.inr "a", .str z5), (.inr "b", .str z6), (.inr "c", .str "c0")]))) d L ns _ := pp6.fresh k36 pp3.cells pp3.isDk nW
      generalize upd H6 W (.dK (mergeK [] [(.inr "a", .str z5), (.inr "b", .str z6), (.inr "c", .str "c0")])) = H7 at e7 k37 pp7 ⊢
      obtain ⟨g, hg⟩ := renD_of e7 (fun p hp => by
        simp only [List.mem_cons, List.not_mem_nil, or_false] at hp
        rcases hp with rfl | rfl | rfl
        · exact ⟨_, rfl, hz5⟩
        · exact ⟨_, rfl, hz6⟩
        · exact ⟨_, rfl, by decide +kernel⟩)
      have hv7 := dp_keep pp3.isDk k37 _ _ hv3
      refine ⟨v, W, t, g, rfl, hv7, hN.right, by have := hN.dpt; omega, hg, fun H8 u8 s8 h8 => ?_⟩
      have hn := hg.nam
      exact ⟨_, rfl, q H8 u8 (ren g t) (k03.trans (k37.trans (Same.toKeep s8))) ((pp7.same s8).mono (by omega)) h8 ⟨ren_right hn t hN.right, ren_fit hn t hN.right hN.fit, by rw [ren_size]; exact hN.size, by rw [ren_dpt]; exact hN.dpt⟩⟩
    · exact ⟨_, rfl, q H3 v t k03 (pp3.mono (by omega)) hv3 hN⟩
  · refine ⟨_, rfl, d, L, ns, _, 6, rfl, pp1, by omega, by decide, by decide, fun r2 H2 r20 r21 k2 pp2 => ⟨rfl, _, rfl, ?_⟩⟩
    have k02 := k1.trans k2
    have hv2 := dp_keep pp1.isDk k2 _ _ hv1
    refine ite2 (fun _ => ?_) (fun _ => ?_)
    · refine ⟨le1k, fun p3 H3 s3 e3 => ?_⟩
      refine ⟨_, rfl, by omega, by omega, ?_⟩
      refine for_range (lo := 0) (n := 3) (fun i σ H' => Same H2 H' ∧ ∃ (o6 : Option V) (v : V) (s : ST), σ = [some (.ref d), some (.int la), some (.int lb), some (.int lc), some v1, some v, o6] ∧ Dp K H' v s.data ∧ Row s i)
        ⟨s3, none, .ref p3, .lk ea, rfl, dp_lk e3, row0⟩ (fun i σ H4 hi ⟨s4, o6, v, r, eσ, hv4, hR⟩ => ?_) (fun σ H4 ⟨s4, o6, v, r, eσ, hv4, hR⟩ => ?_)
      · subst eσ
        refine ⟨_, rfl, le1k, fun p5 H5 s5 e5 => ⟨le1k, fun p6 H6 s6 e6 => ?_⟩⟩
        refine ⟨s4.trans (s5.trans s6), _, _, .ha r (.lk ea) 1 0, rfl, .tup e6 (.cons (.str _) (.cons (dp_same (s5.trans s6) _ _ hv4) (.cons (dp_same s6 _ _ (dp_lk e5)) (.cons (.int _) (.cons (.int _) .nil))))), row1 hR⟩
      · subst eσ
        have pp4 := pp2.same s4
        have hv24 := dp_same s4 _ _ hv2
        refine ⟨_, rfl, _, rfl, _, rfl, _, rfl, v1, _, _, rfl, hv24, du, Nat.le_trans (dep_st _) (by omega), fun H5 p5 s5 ⟨us5, e5, pr5⟩ => ⟨_, _, rfl, .inl ⟨us5, SqL.of e5, rfl⟩, ?_⟩⟩
        have l5 := paired_len pr5
        refine ⟨d, L, ns, _, _, rfl, pp4.same s5, by omega, by omega, by omega, fun r6 H6 r60 r61 k6 pp6 => ?_⟩
        refine ⟨_, rfl, d, L, ns, _, 2, rfl, pp6, by omega, by decide, by decide, fun r7 H7 r70 r71 k7 pp7 => ⟨le1k, fun p8 H8 s8 e8 => ?_⟩⟩
        obtain ⟨i, rfl⟩ : ∃ i : Nat, r6 = (i : Nat) := ⟨r6.toNat, by omega⟩
        obtain ⟨j, rfl⟩ : ∃ j : Nat, r7 = (j : Nat) := ⟨r7.toNat, by omega⟩
        have k48 : Keep d H4 H8 := (Same.toKeep s5).trans (k6.trans (k7.trans (Same.toKeep s8)))
        have k08 := k02.trans ((Same.toKeep s4).trans k48)
        exact N _ _ ⟨_, _, _, .bo t1 r i j, rfl, k08, (pp7.same s8).mono (by omega), .tup e8 (.cons (.str _) (.cons (dp_keep pp4.isDk k48 _ _ hv24) (.cons (dp_keep pp4.isDk k48 _ _ hv4) (.cons (.int _) (.cons (.int _) .nil))))), nmd_bo hs1 hd1 hR (by omega) (by omega)⟩
    · exact N _ _ ⟨_, _, v1, t1, rfl, k02, pp2.mono (by omega), hv2, hs1.right, hs1.fit, by omega, by omega⟩
end
end My

set_option Elab.async false
set_option linter.all false
set_option maxRecDepth 100000
/-! the end of a law whose own defs show data by repr -/
namespace Gd
open PySem PySem.Spec PyProof.Rows L2 LamX
open Classical in
/-- what is told of the heap at the law's call: the tables T, and the script's list at a, where K does not know it -/
noncomputable def first (K : PySem.W.Frag) (T : List Addr) (a : Addr) (ol : Obj) (xs : List V) : Hp := fun b =>
  if b ∈ T then some (.tbl #[]) else if b = a ∧ K.lookup a = none then some (.frz ol (.lst xs)) else none
section
variable {K : PySem.W.Frag} {T : List Addr} {a b : Addr} {ol : Obj} {xs : List V}
theorem first_tab (h : b ∈ T) : first K T a ol xs b = some (.tbl #[]) := if_pos h
theorem first_list (h : a ∉ T) (n : K.lookup a = none) : first K T a ol xs a = some (.frz ol (.lst xs)) := (if_neg h).trans (if_pos ⟨rfl, n⟩)
theorem first_inv {u : HO} (h : first K T a ol xs b = some u) : (b ∈ T ∧ u = .tbl #[]) ∨ (b ∉ T ∧ b = a ∧ K.lookup a = none ∧ u = .frz ol (.lst xs)) := by
  unfold first at h
  split at h
  · rename_i c
    exact .inl ⟨c, (Option.some.inj h).symm⟩
  · rename_i c
    split at h
    · rename_i d
      exact .inr ⟨c, d.1, d.2, (Option.some.inj h).symm⟩
    · cases h
end
abbrev tabO : Obj := { cls := .none, data := .fields #[] }
theorem law_callG {P : Program} {w : World} {K : PySem.W.Frag} {mg mb : Str → Option Value} {k : Nat} {fa a : Addr} {cs : List (Addr × Addr)} {fd : FuncData} {x : Str} {sp : Sp} {s : Shared} {vs : List Value} {ns : List Int}
    (KX : K.In s.heap) (glob : s.heap.Ns mainGlobals mg) (blt : s.heap.Ns builtinsNs mb)
    (bltIs : ∀ x : Str, x ≠ "__name__" → mb x = bootBuiltins x) (nolim : s.heap.NoLimit) (nogen : s.gens = #[])
    (tabs : ∀ p ∈ cs, s.heap.get? p.2 = some tabO) (tabK : ∀ p ∈ cs, K.lookup p.2 = none) (codes : ∀ p ∈ cs, PySem.W.CodeHd s.heap p.1 p.2)
    (bmod : ∃ (bm : Addr) (ob : Obj), mg "__builtins__" = some (.ref bm) ∧ bm ≠ builtinsNs ∧ s.heap.get? bm = some ob ∧ ob.cls = .type "module" ∧ ob.dict = some builtinsNs ∧ ob.data = .plain)
    (list : s.heap.get? a = some { cls := .type "list", data := .seq vs.toArray }) (areI : IntsAre vs ns) (short : ns.length ≤ sizeLine) (room : Room k callerA)
    (F : ∀ base : Heap, K.In base → base.Ns mainGlobals mg → (∀ p ∈ cs, TabB base mg p.1 p.2) → FnG P w K mg base CX0 k fa fd [x] sp)
    (binds : ∀ (s : Shared) (u : Value), BindsTo s fd ⟨[u], []⟩ [(x, u)])
    (due : ∀ H : Hp, (∀ p ∈ cs, H p.2 = some (.tbl #[])) → SqL K H a (ns.map V.int) → sp [.ref a] H (fun v _ => v = .bl true) fun _ _ _ => False) :
    codeAny (model P w) callerA (.call (.ref fa) ⟨[.ref a], []⟩)
      (fun r s' => r = .ok (.ret (.bool true)) ∧ OldK s.heap s'.heap ∧ s'.os = s.os ∧ AllBare s'.gens) s := by
  have rv := vals_ints areI
  have lv := areI.length
  generalize eT : cs.map (·.2) = T
  generalize eO : ({ cls := .type "list", data := .seq vs.toArray } : Obj) = ol at list
  have inT : ∀ {p}, p ∈ cs → p.2 ∈ T := fun {p} hp => by rw [← eT]; exact List.mem_map.mpr ⟨p, hp, rfl⟩
  have ofT : ∀ {b}, b ∈ T → ∃ p, p ∈ cs ∧ p.2 = b := fun {b} hb => by
    rw [← eT] at hb
    exact List.mem_map.mp hb
  have tabT : ∀ {b}, b ∈ T → s.heap.get? b = some tabO := fun {b} hb => by
    obtain ⟨p, hp, e⟩ := ofT hb
    rw [← e]
    exact tabs p hp
  have aT : a ∉ T := fun z => by
    have e := tabT z
    rw [list, ← eO] at e
    have e2 := congrArg Obj.data (Option.some.inj e)
    cases e2
  obtain ⟨H, eH⟩ : ∃ H, H = first K T a ol (ns.map V.int) := ⟨_, rfl⟩
  have inv : ∀ {b u}, H b = some u → (b ∈ T ∧ u = .tbl #[]) ∨ (b ∉ T ∧ b = a ∧ K.lookup a = none ∧ u = .frz ol (.lst (ns.map V.int))) := fun {b u} h => by
    rw [eH] at h
    exact first_inv h
  have atT : ∀ {b}, b ∈ T → H b = some (.tbl #[]) := fun {b} hb => by
    rw [eH]
    exact first_tab hb
  -- what is neither a table nor a list is not told
  have free : ∀ {b o}, s.heap.get? b = some o → o ≠ tabO → o ≠ ol → H b = none := fun {b o} e n1 n2 => by
    cases q : H b with
    | none => rfl
    | some u =>
      rcases inv q with ⟨hb, _⟩ | ⟨_, hb, _⟩
      · rw [tabT hb] at e
        exact absurd (Option.some.inj e).symm n1
      · rw [hb, list] at e
        exact absurd (Option.some.inj e).symm n2
  have freeD : ∀ {b o}, s.heap.get? b = some o → o.data ≠ tabO.data → (∀ v n, o.data ≠ .seq v n) → H b = none := fun {b o} e n1 n2 => by
    refine free e (fun z => n1 (by rw [z])) fun z => ?_
    rw [z, ← eO] at n2
    exact n2 _ _ rfl
  have seen : ∀ {b o}, s.heap.get? b = some o → H b = none → (hidT s.heap H).get? b = some o := fun e n => hidT_get e n
  have space : ∀ {b m}, s.heap.Ns b m → (hidT s.heap H).Ns b m := fun {b m} ⟨o, es, ep, e, d, r⟩ =>
    ⟨o, es, ep, seen e (freeD e (fun z => by rw [d] at z; cases z) fun v n z => by rw [d] at z; cases z), d, r⟩
  have K_in : K.In (hidT s.heap H) := fun b o e => by
    refine seen (KX b o e) ?_
    cases q : H b with
    | none => rfl
    | some u =>
      rcases inv q with ⟨hb, _⟩ | ⟨_, hb, hn, _⟩
      · obtain ⟨p, hp, ep⟩ := ofT hb
        rw [← ep, tabK p hp] at e
        cases e
      · rw [hb, hn] at e
        cases e
  have world : L2.Mod K mg (hidT s.heap H) := ⟨K_in, space glob, ⟨mb, space blt, bltIs⟩, let ⟨mc, h1, h2⟩ := nolim; ⟨mc, space h1, h2⟩⟩
  have tabB : ∀ p ∈ cs, TabB (hidT s.heap H) mg p.1 p.2 := fun p hp => by
    refine ⟨?_, ?_, fun z => ?_⟩
    · obtain ⟨o, us, file, tf, flags, tg, inF, text, tt, e1, r1, r2, r3, rest⟩ := codes p hp
      have nd : o.data ≠ tabO.data := fun z => by
        rw [r2] at z
        cases z
        simp at r3
      exact ⟨o, us, file, tf, flags, tg, inF, text, tt, seen e1 (freeD e1 nd fun v n z => by rw [r2] at z; cases z), r1, r2, r3, rest⟩
    · obtain ⟨bm, ob, b1, b2, b3, b4, b5, b6⟩ := bmod
      refine ⟨bm, ob, b1, b2, fun q => ?_, fun q => ?_, seen b3 (freeD b3 (fun z => by rw [b6] at z; cases z) fun v n z => by rw [b6] at z; cases z), b4, b5, b6⟩
      · obtain ⟨o, es, ep, e, hd, _⟩ := glob
        rw [q, e] at b3
        cases b3
        rw [b6] at hd
        cases hd
      · rw [q, tabs p hp] at b3
        cases b3
        cases b6
    · obtain ⟨o, es, ep, e, hd, _⟩ := glob
      rw [z, tabs p hp] at e
      cases e
      cases hd
  have hok : HOk P w H s.heap := fun b u e => by
    rcases inv e with ⟨hb, rfl⟩ | ⟨_, rfl, _, rfl⟩
    · exact tabT hb
    · exact ⟨list, by rw [List.length_map]; exact short, vs, _, rv, by rw [list, ← eO]⟩
  have seq : SqL K H a (ns.map V.int) := by
    cases hk : K.lookup a with
    | none => exact .inl (.inr ⟨ol, by rw [eH]; exact first_list aT hk⟩)
    | some o =>
      have e := KX a o hk
      rw [list] at e
      cases e
      subst eO
      exact .inr ⟨_, vs.toArray, _, hk, rfl, rfl, rfl, by rw [List.size_toArray, lv]; exact short, by simpa using rv⟩
  have e0 : Env0 P w K mg (hidT s.heap H) callerA [] s H :=
    ⟨rfl, world, fun b o e => of_hidT e, Nat.le_of_eq (hidT_size _ _), trivial, fun b hb => (by cases hb), hok, .of_eq nogen⟩
  have go := (F _ K_in (space glob) tabB).run (args := ⟨[.ref a], []⟩) (us := [.ref a]) (vs := [.ref a]) room rfl e0 (binds s (.ref a)) (.cons rfl .nil) (due H (fun p hp => atT (inT hp)) seq)
  refine codeAny_mono go fun r s' h => ?_
  match r, h with
  | .error _, z => exact z.elim
  | .ok .next, z => exact z.elim
  | .ok .brk, z => exact z.elim
  | .ok .cont, z => exact z.elim
  | .ok (.ret u), ⟨v, H', os, bare, un, hok', rr, q⟩ =>
    have q : v = .bl true := q
    subst q
    obtain rfl : u = Value.bool true := rr
    have kept : ∀ b o, b ∉ T → s.heap.get? b = some o → s'.heap.get? b = some o := fun b o nb e => by
      cases q : H b with
      | none => exact un.keep b o e q (fun z => by cases z) (fun z => by cases z)
      | some u =>
        rcases inv q with ⟨hb, _⟩ | ⟨_, _, _, rfl⟩
        · exact absurd hb nb
        · have g1 := (hok b _ q).1
          have g2 := (hok' b _ (un.frzs b ol _ q)).1
          rw [e] at g1
          rw [g2, g1]
    have grown : ∀ {b}, b ∈ T → ∃ more : Array Value, s'.heap.get? b = some { cls := .none, data := .fields more } := fun {b} hb => by
      obtain ⟨more, z⟩ := un.tbls b #[] (atT hb)
      exact ⟨_, hok' b _ z⟩
    refine ⟨rfl, ⟨fun b o e => ?_, fun b o e => ?_⟩, os, bare⟩
    · by_cases hb : b ∈ T
      · obtain ⟨more, hm⟩ := grown hb
        obtain ⟨p, hp, ep⟩ := ofT hb
        subst ep
        rw [tabs p hp] at e
        cases e
        exact .inr (.inl ⟨((codes p hp).tab (tabs p hp)).isCodeTable, rfl, #[], more, rfl, by rw [Array.empty_append]; exact hm⟩)
      · exact .inl (kept b o hb e)
    · by_cases hb : b ∈ T
      · exact (let ⟨_, hm⟩ := grown hb; ⟨_, hm⟩)
      · exact ⟨o, kept b o hb e⟩
/-- what must be told of the law's def at the head's heap -/
def LawG (l : PySem.W.OpenLaw) (w : World) (K : PySem.W.Frag) (k n : Nat) (x : Str) (mg : Str → Option Value) (fa : Addr) (h : Heap) : Prop :=
  ∃ (fd : FuncData) (cs : List (Addr × Addr)) (sp : Sp),
    (∀ p ∈ cs, h.get? p.2 = some tabO) ∧ (∀ p ∈ cs, K.lookup p.2 = none) ∧ (∀ p ∈ cs, PySem.W.CodeHd h p.1 p.2) ∧
    (∀ (s : Shared) (u : Value), BindsTo s fd ⟨[u], []⟩ [(x, u)]) ∧
    (∀ (H : Hp) (a : Addr) (ns : List Int), ns.length ≤ n → (∀ p ∈ cs, H p.2 = some (.tbl #[])) → SqL K H a (ns.map V.int) → sp [.ref a] H (fun v _ => v = .bl true) fun _ _ _ => False) ∧
    ∀ base : Heap, K.In base → base.Ns mainGlobals mg → (∀ p ∈ cs, TabB base mg p.1 p.2) → FnG l.prog w K mg base CX0 k fa fd [x] sp
theorem walk_ofG {l : PySem.W.OpenLaw} {n k : Nat} {q : Program} {loose : List Str} {XP : (Str → Option Value) → Heap → Prop} {YP : World → Heap → Prop} {d : DefRec} {K : Params → PySem.W.Frag} {x : Str}
    (most : l.most = some n) (most2 : n ≤ sizeLine) (nodef : d.params.defaults = []) (room : Room k callerA) (inK : ∀ (w : World) (h : Heap), YP w h → (K w.params).In h)
    (tell : ∀ (w : World) (mg : Str → Option Value) (fa : Addr) (h : Heap), YP w h → (K w.params).In h → h.Ns mainGlobals mg → mg d.name = some (.ref fa) → LawG l w (K w.params) k n x mg fa h) :
    PySem.W.WalkO q loose XP YP l.row.toRowW d [] (fun f vs => PySem.call f vs) := by
  refine Att.attach_callB most nodef fun w s₀ s₁ mg mb fa o pm cd doc a vs ns G Y ho hd hcd hmg hobj hints hlen hbits hg => ?_
  obtain ⟨fd, cs, sp, t1, t2, t3, bd, due, all⟩ := tell w mg fa _ Y (inK w _ Y) G.T.g hmg
  exact law_callG (inK w _ Y) G.T.g G.T.b G.T.builtins G.T.nolimit hg t1 t2 t3 G.T.bmain hobj hints (Nat.le_trans hlen most2) room all bd fun H hH hS => due H a ns hlen hH hS
end Gd

set_option Elab.async false
set_option linter.all false
set_option maxRecDepth 100000
namespace My
open PySem L2 Gd
open ST
/-! ### a deed beside what is no deed -/
structure DeedN (K : PySem.W.Frag) (C : Addr) : Prop where
  is : PySem.W.isClsIn K C = true
  ty : PySem.W.typeIn K (.ref C) = some (.type "type")
theorem sub_bt (K : PySem.W.Frag) (C : Addr) : PySem.W.subIn K (.type "tuple") (.ref C) = some false ∧ PySem.W.subIn K (.type "NoneType") (.ref C) = some false ∧ PySem.W.subIn K (.type "int") (.ref C) = some false := by
  refine ⟨?_, ?_, ?_⟩ <;> rfl
/-- no deed's type -/
def NoDeed (K : PySem.W.Frag) (C : Addr) (t : Value) : Prop := PySem.W.kitOne K t (.ref C) = some false ∧ PySem.W.notFirst K C t = true
theorem no_deed {K : PySem.W.Frag} {C : Addr} (N : DeedN K C) {T : String} (h : PySem.W.subIn K (.type T) (.ref C) = some false) : NoDeed K C (.type T) := by
  constructor
  · unfold PySem.W.kitOne
    rw [if_neg (fun z => by cases beq_iff_eq.mp z)]
    have h1 := N.is
    unfold PySem.W.isClsIn at h1
    show (if ((PySem.W.clsIn K C).isSome && PySem.W.typeIn K (.ref C) == some (.type "type")) = true then PySem.W.subIn K (.type T) (.ref C) else none) = some false
    rw [h1, N.ty]
    exact h
  · unfold PySem.W.notFirst
    rw [h]
    rfl
section
variable {X : Cx} {C f : Addr} {fd : FuncData} {ps : List Str} {sp : Sp} {n : Nat}
theorem op_eqN (F : FnOk X.prog X.w X.K X.mg X.base CX0 n f fd ps sp) (hs : PySem.W.findIn X.K (.ref C) "__eq__" = some (some (.ref f))) (hf : PySem.W.isFn X.K (.ref f) = true) (hb : Binds X.K fd ps []) (hr : Room n X.A) :
    OpR X (compareOp .Eq) (fun x y H Q => ∃ a dx fs t, x = .ref a ∧ H a = some (.ins C dx fs) ∧ TyX X.K H y t ∧ NoDeed X.K C t ∧ sp [x, y] H (fun v H' => ∃ c, v = .bl c ∧ Q (.bl c) H') E0) := by
  intro pins s σ H x y v u Q I rx ry ⟨a, dx, fs, t, ex, hA, ht, hn, q⟩
  subst ex
  cases rx
  obtain ⟨mA, J, _⟩ := ins_get I.hok hA
  obtain ⟨od, J, _⟩ := J.look
  obtain ⟨m, hF⟩ := I.fr
  obtain ⟨P, Z, p, _⟩ := kit_of I ry ht
  refine PySem.W.cmp_K (op := .Eq) (tb := t) hr.units0 hF I.ok.mod.kin J (Z.ty _ _ I.kIn p) hn.2 hs hf ?_
  refine wpAny_mono (run_fn (us := [.ref a, u]) (vs := [.ref a, y]) F hr hb .nil pass0 I (.cons rfl (.cons ry .nil)) q) (fun r s' h => ?_) fun _ _ z => z
  obtain ⟨z, H', I', rz, c, ec, q'⟩ := h
  subst ec
  cases rz
  exact ⟨.bl c, H', I', rfl, q'⟩
end
def spDdEqN (K : PySem.W.Frag) (C : Addr) : Sp := fun vs H Q _ => ∃ x y t, vs = [x, y] ∧ TyX K H y t ∧ NoDeed K C t ∧ Q (.bl false) H
theorem dd_make2 {K : PySem.W.Frag} {C : Addr} {H : Hp} {W : VK} {E : XK} {sv : V} {D : PyData} {ts : List FT} (x dx : Addr) (nx : H x = none) (nd : H dx = none) (ne : dx ≠ x) (hv : Dp K H sv D) (hD : Der D ts) (h1 : cntS D ≤ 400) (h2 : depS D ≤ 100)
    (q : ∀ H' su, Same H H' → H' x = some (.ins C dx (dF sv su)) → Dp K H' sv D → StE K H' su ts → W .non H') : spDdInit K C [.ref x, sv] (upd (upd H dx (.own x)) x (.ins C dx [])) W E := by
  have s0 := same_make (C := C) nx nd ne
  refine ⟨x, dx, sv, D, ts, rfl, upd_same, dp_same s0 _ _ hv, hD, h1, h2, fun H' u k e hu => ?_⟩
  have s1 : Same H H' := fun b o eb => k b o (ne_of_none eb nx) (s0 b o eb)
  exact q H' _ s1 e (dp_same s1 _ _ hv) hu
theorem FinS.make {s : ST} (h : FinS s) : Der s.data s.ends ∧ cntS s.data ≤ 400 ∧ depS s.data ≤ 100 := by
  have a := h.size
  have b := h.dpt
  have c := dep_st s
  exact ⟨der_st s h.right h.fit, by rw [cnt_st]; omega, by omega⟩
theorem dd_keep {K : PySem.W.Frag} {C d L : Addr} {ns : List Int} {n : Nat} {H H' : Hp} {v : V} {D : PyData} {ts : List FT} (hp : Pen K H d L ns n) (k : Keep d H H') (h : Dd K C H v D ts) : Dd K C H' v D ts := by
  obtain ⟨a, dx, sv, su, e, h1, h2, h3⟩ := h
  have ne : a ≠ d := fun z => by
    obtain ⟨kvs, hd⟩ := hp.isDk
    rw [z, hd] at h1
    cases h1
  exact ⟨a, dx, sv, su, e, k _ _ ne h1, dp_keep hp.isDk k _ _ h2, h3.kt (kt_pen hp k)⟩
theorem tag_st (s : ST) : tagOf s.data = "tuple" := by
  obtain ⟨r, e⟩ := data_hd s
  rw [e]
  rfl
abbrev Nlaw : List Str := ["_law_script", "_law_pen", "_law_step", "_law_deed_here", "_law_steps", "_law_lap", "_law_one", "_law_other"]
abbrev Plaw : List Str := ["_law_script"]
def spLaw (K : PySem.W.Frag) : Sp := fun vs H Q _ => ∃ (a : Addr) (ns : List Int), vs = [.ref a] ∧ SqL K H a (ns.map V.int) ∧ ns.length ≤ 63 ∧ ∀ H', Q (.bl true) H'
section
variable {P : Program} {w : World} {K : PySem.W.Frag} {mg : Str → Option Value} {base : Heap} {f : Addr} {fd : FuncData}
theorem okDd1N (T : Txt K mg) (G : DeedT K mg) (F : Fun K "__eq__" "Deed.__eq__" sDd1 f fd) : FnOk P w K mg base CX0 1 f fd NDd1 (spDdEqN K G.C) := by
  refine F.ok scDd1 (fun vs H Q E h => ?_) (fun cdv A outer s H vs Q E hr h => ?_)
  · obtain ⟨x, y, t, rfl, _⟩ := h
    rfl
  obtain ⟨x, y, t, rfl, ht, hn, q⟩ := h
  refine ⟨_, (pss_one (ps_ret (pe_and (pe_callB call_isi rfl T.isinstance (by decide +kernel) (pa_cons (pv 1) (pa_cons (pe_globE (v := .ref G.C) ⟨_, G.g, rfl⟩) pa_nil))) (pe_one (pe_cmpR (op_eqD hr.units) (pe_fld (pv 0) rfl) (pe_fld (pv 1) rfl) (nomark _)))))), ?_⟩
  exact ⟨_, rfl, _, _, _, _, _, rfl, .own G.C, ht, hn.1, _, rfl, iteF q⟩
set_option maxHeartbeats 4000000 in
end
end My

set_option Elab.async false
set_option linter.all false
set_option maxRecDepth 100000
namespace My
open PySem L2
/-! ### what a call tells -/
abbrev s_law_outcome : Stmt := top 99
abbrev N_law_outcome : List Str := ["_law_call", "_law_found", "e"]
abbrev P_law_outcome : List Str := ["_law_call"]
theorem sc_law_outcome : FnScope N_law_outcome P_law_outcome (defScope s_law_outcome) := ⟨rfl, rfl, rfl, by decide +kernel, rfl, by decide +kernel, by decide +kernel⟩
/-- what is told of a value -/
def toldQ (K : PySem.W.Frag) (Q : VK) : VK := fun r H' => ∀ p H2, Same H' H2 → SqT K H2 p [.str "told", r] → Q (.ref p) H2
def spOutcome (P : Program) (w : World) (K : PySem.W.Frag) (mg : Str → Option Value) (base : Heap) (T : ErrT K mg) (k : Nat) : Sp := fun vs H Q _ => ∃ v, vs = [v] ∧ ∀ H1, Same H H1 → DoesM P w K mg base k v H1 (toldQ K Q) (wishE T Q)
section
variable {P : Program} {w : World} {K : PySem.W.Frag} {mg : Str → Option Value} {base : Heap} {f : Addr} {fd : FuncData}
theorem ok_law_outcome {k : Nat} (T : ErrT K mg) (F : Fun K "_law_outcome" "_law_outcome" s_law_outcome f fd) : FnOk P w K mg base CX0 (k + 1) f fd P_law_outcome (spOutcome P w K mg base T k) := by
  refine F.ok sc_law_outcome (fun vs H Q E h => ?_) (fun cdv A outer s H vs Q E hr h => ?_)
  · obtain ⟨v, rfl, _⟩ := h
    rfl
  obtain ⟨v, rfl, h⟩ := h
  refine ⟨_, (pss_cons (ps_set (i := 1) sc_law_outcome.nd rfl (Or.inl rfl) (pe_tup (pa_cons pe_str (pa_cons pe_non pa_nil))))
  (pss_cons (Clo.ps_try_nam (i := 2) (tb := fun W => tAsg (tTup (tCons (tC (.str "told")) (tCons (Clo.tAct P w K mg base 0 k (WE W)) tNil))) (gName 1)) rfl rfl sc_law_outcome.nd rfl rfl takes0 (fun W pn xe tk _ => pss_one (ps_set (i := 1) sc_law_outcome.nd rfl (Or.inl rfl) (pe_tup (pa_cons pe_str (pa_cons (Clo.pe_act3 (i := 0) (E := WE W) hr (fun σ => passAt tk σ) rfl (Or.inl rfl)) pa_nil)))))
    (.cons ⟨rfl, by decide, .inl T.gB⟩ (fun a oe cls d pn hz hf => pss_one (ps_set (i := 1) sc_law_outcome.nd rfl (Or.inl rfl) (pe_tup (pa_cons pe_str (pa_cons (pe_xf T.xB T.nB hz hf (pv 2)) pa_nil)))))
    (.cons ⟨rfl, by decide, .inl T.gN⟩ (fun a oe cls d pn hz hf => pss_one (ps_set (i := 1) sc_law_outcome.nd rfl (Or.inl rfl) (pe_tup (pa_cons pe_str (pa_cons (pe_xf T.xN T.nN hz hf (pv 2)) pa_nil)))))
    (.cons ⟨rfl, by decide, .inl T.gD⟩ (fun a oe cls d pn hz hf => pss_one (ps_set (i := 1) sc_law_outcome.nd rfl (Or.inl rfl) (pe_tup (pa_cons pe_str (pa_cons (pe_xf T.xD T.nD hz hf (pv 2)) pa_nil)))))
    (.cons ⟨rfl, by decide, .inl T.gM⟩ (fun a oe cls d pn hz hf => pss_one (ps_set (i := 1) sc_law_outcome.nd rfl (Or.inl rfl) (pe_tup (pa_cons pe_str (pa_cons (pe_xf T.xM T.nM hz hf (pv 2)) pa_nil)))))
    (.rest (k := .none) (ts := fun _ _ _ _ _ _ => False) (fun cls => rfl)))))))
  (pss_one (ps_ret (pv 1))))), ?_⟩
  have l2 : 2 ≤ sizeLine := by decide
  refine ⟨l2, fun p0 np0 => ?_⟩
  have s0 := same_new np0 (.tup [V.str "told", .non])
  refine ⟨v, rfl, (h _ s0).does (Nat.le_refl k) (fun r H' q => ⟨l2, fun p np => ⟨_, rfl, q p _ (same_new np _) (SqT.of upd_same)⟩⟩) fun cls d H' ⟨C, dd, fld, word, x, e1, e2, ew, ed, q⟩ => ?_⟩
  subst e1
  subst e2
  rcases ew with ⟨rfl, rfl, rfl⟩ | ⟨rfl, rfl, rfl⟩ | ⟨rfl, rfl, rfl⟩ | ⟨rfl, rfl, rfl⟩
  · exact ⟨true, T.BB, fun _ a ha => ⟨.ref a, rfl, rfl, rfl, dd, _, x, rfl, ed, lookup1 _ _, l2, fun p hp => ⟨_, rfl, q p hp⟩⟩, fun z => nomatch z⟩
  · exact ⟨false, T.NB, (fun z => nomatch z), fun _ => ⟨true, T.NN, fun _ a ha => ⟨.ref a, rfl, rfl, rfl, dd, _, x, rfl, ed, lookup1 _ _, l2, fun p hp => ⟨_, rfl, q p hp⟩⟩, fun z => nomatch z⟩⟩
  · exact ⟨false, T.DB, (fun z => nomatch z), fun _ => ⟨false, T.DN, (fun z => nomatch z), fun _ => ⟨true, T.DD, fun _ a ha => ⟨.ref a, rfl, rfl, rfl, dd, _, x, rfl, ed, lookup1 _ _, l2, fun p hp => ⟨_, rfl, q p hp⟩⟩, fun z => nomatch z⟩⟩⟩
  · exact ⟨false, T.MB, (fun z => nomatch z), fun _ => ⟨false, T.MN, (fun z => nomatch z), fun _ => ⟨false, T.MD, (fun z => nomatch z), fun _ => ⟨true, T.MM, fun _ a ha => ⟨.ref a, rfl, rfl, rfl, dd, _, x, rfl, ed, lookup1 _ _, l2, fun p hp => ⟨_, rfl, q p hp⟩⟩, fun z => nomatch z⟩⟩⟩⟩
end
end My

set_option Elab.async false
set_option linter.all false
set_option maxRecDepth 100000
namespace My
open PySem L2
/-- a def of the text whose code object is known -/
structure FunC (K : PySem.W.Frag) (x qual : Str) (st : Stmt) (f : Addr) (fd : FuncData) (cdv : Value) : Prop where
  ex : ∃ (oc : Value) (od : Option Addr) (kV doc pm : Value) (an : Option Addr) (ct : Value) (osl : Array (Option Value)),
    fd = PySem.W.fnOf x qual (defArgs st) (defBody st) (defScope st) .none kV doc pm an cdv ct ∧ K.lookup f = some ⟨oc, od, .func fd, osl⟩ ∧ PySem.W.codeIn K cdv qual = true
theorem FunC.okG {P : Program} {w : World} {K : PySem.W.Frag} {mg : Str → Option Value} {base : Heap} {x qual : Str} {st : Stmt} {f : Addr} {fd : FuncData} {cdv : Value} {N ps : List Str} {k : Nat} {sp : Sp} (F : FunC K x qual st f fd cdv) (S : FnScope N ps (defScope st))
    (len : ∀ vs H Q E, sp vs H Q E → vs.length = ps.length)
    (tell : ∀ (A : Around) (outer : List Env) (s : Shared) (H : Hp) (vs : List V) (Q : VK) (E : XK), Room k (A.deeper (PyProof.Rows.envOfC qual (defScope st) s.heap.objs.size f cdv)) →
      (A.deeper (PyProof.Rows.envOfC qual (defScope st) s.heap.objs.size f cdv)).guards = some [] → sp vs H Q E →
      ∃ t, PSs (cxOf CX0 P w K mg base N qual (defScope st) f cdv A outer s H E).nox (defBody st) t ∧ t { nx := fun _ H' => Q .non H', rt := Q } (L2.start N vs) H) : Gd.FnG P w K mg base CX0 (k + 1) f fd ps sp := by
  obtain ⟨oc, od, kV, doc, pm, an, ct, osl, rfl, lk, hcd⟩ := F.ex
  refine ⟨len, fun {A outer s H args us vs Q E} room g0 e0 bd rv hs => ?_⟩
  obtain ⟨t, told, due⟩ := tell A outer s H vs Q E (room.deeper _) g0 hs
  exact Gd.one_call lk hcd S room e0 bd rv (len _ _ _ _ hs) told.nox due
theorem cells_mono {env : Env} {N : List Str} {σ τ : L2.St} {C : Addr → Option Obj} (h : ∀ (i : Nat) (x : Str) (v : V), N[i]? = some x → σ[i]? = some (some v) → (env.kindOf x = some .cell ∨ env.kindOf x = some .free) → τ[i]? = some (some v)) (K : Clo.CellsAt env N τ C) : Clo.CellsAt env N σ C :=
  ⟨K.all, fun i x v c hn hs hk e => K.val i x v c hn (h i x v hn hs hk) hk e⟩
theorem minus_plus {C : Addr → Option Obj} {H : Hp} (h : ∀ c o, C c = some o → H c = none) : Clo.minus C (Clo.plus C H) = H := by
  funext b
  cases e : C b with
  | none => rw [Clo.minus_out e, Clo.plus_out e]
  | some o => rw [Clo.minus_in e, h b o e]
section
variable {K : PySem.W.Frag}
theorem seqT_x {H H' : Hp} (k : LamX.ExtN H H') {a : Addr} {xs : List V} (h : SqT K H a xs) : SqT K H' a xs := by
  rcases h with (h | ⟨o, h⟩) | h
  · exact .inl (.inl (k _ _ h fun _ z => nomatch z))
  · exact .inl (.inr ⟨o, k _ _ h fun _ z => nomatch z⟩)
  · exact .inr h
theorem seqL_x {H H' : Hp} (k : LamX.ExtN H H') {a : Addr} {xs : List V} (h : SqL K H a xs) : SqL K H' a xs := by
  rcases h with (h | ⟨o, h⟩) | h
  · exact .inl (.inl (k _ _ h fun _ z => nomatch z))
  · exact .inl (.inr ⟨o, k _ _ h fun _ z => nomatch z⟩)
  · exact .inr h
mutual
theorem dp_x {H H' : Hp} (k : LamX.ExtN H H') : ∀ (D : PyData) (v : V), Dp K H v D → Dp K H' v D
  | .none, _, h => by cases h; exact .non
  | .bool b, _, h => by cases h; exact .bl b
  | .int i, _, h => by cases h; exact .int i
  | .str x, _, h => by cases h; exact .str x
  | .list ds, _, h => by cases h with | lst hs ha => exact .lst (seqL_x k hs) (dpAll_x k ds _ ha)
  | .tuple ds, _, h => by cases h with | tup hs ha => exact .tup (seqT_x k hs) (dpAll_x k ds _ ha)
  | .dict _, _, h => by cases h
theorem dpAll_x {H H' : Hp} (k : LamX.ExtN H H') : ∀ (Ds : List PyData) (vs : List V), DpAll K H vs Ds → DpAll K H' vs Ds
  | [], _, h => by cases h; exact .nil
  | D :: Ds, _, h => by cases h with | cons h1 h2 => exact .cons (dp_x k D _ h1) (dpAll_x k Ds _ h2)
end
end
theorem tabs_keep {d : Addr} {H H' : Hp} {Tb : List (Addr × Str)} (hd : IsDk H d) (k : Keep d H H') (t : LamX.Tabs Tb H) : LamX.Tabs Tb H' := fun p hp => by
  obtain ⟨kvs, hd⟩ := hd
  obtain ⟨ps, h1, h2, h3⟩ := t p hp
  refine ⟨ps, k _ _ (fun z => by rw [z, hd] at h1; cases h1) h1, h2, fun pos cv hc => ?_⟩
  obtain ⟨c, e, hc2⟩ := h3 pos cv hc
  exact ⟨c, e, k _ _ (fun z => by
    rw [z, hd] at hc2
    have z' := Option.some.inj hc2
    unfold LamX.CodeO at z'
    cases z') hc2⟩
theorem kt_x {H H' : Hp} (k : LamX.ExtN H H') : KT H H' := fun a o n h => by
  rcases n with ⟨_, rfl⟩ | ⟨_, _, rfl⟩
  · exact k _ _ h fun _ z => nomatch z
  · exact k _ _ h fun _ z => nomatch z
/-- all but what stands at d, and tables, stays -/
def KeepX (d : Addr) (H H' : Hp) : Prop := ∀ b o, b ≠ d → (∀ ps, o ≠ .tbl ps) → H b = some o → H' b = some o
theorem KeepX.of_keep {d : Addr} {H H' : Hp} (k : Keep d H H') : KeepX d H H' := fun b o n _ h => k b o n h
theorem KeepX.of_ext {d : Addr} {H H' : Hp} (k : LamX.ExtN H H') : KeepX d H H' := fun b o _ t h => k b o h t
theorem KeepX.trans {d : Addr} {H H1 H2 : Hp} (a : KeepX d H H1) (b : KeepX d H1 H2) : KeepX d H H2 := fun c o n t h => b c o n t (a c o n t h)
theorem pen_x {K : PySem.W.Frag} {H H' : Hp} {d L : Addr} {ns : List Int} {n : Nat} (k : LamX.ExtN H H') (p : Pen K H d L ns n) : Pen K H' d L ns n := by
  obtain ⟨⟨b, l, h, h0, h1⟩, c, f⟩ := p
  exact ⟨⟨b, l, k _ _ h (fun _ z => nomatch z), h0, h1⟩, seqL_x k c, f⟩
/-- told with the cells, then without them -/
theorem same_minus {C : Addr → Option Obj} {A B : Hp} (s : Same (Clo.plus C A) B) (f : ∀ c o, C c = some o → A c = none) : Same A (Clo.minus C B) := fun b o e => by
  have n : C b = none := Clo.out_of e f
  rw [Clo.minus_out n]
  exact s _ _ (by rw [Clo.plus_out n]; exact e)
theorem cells_on {C : Addr → Option Obj} {A B : Hp} (s : Same (Clo.plus C A) B) : ∀ c o, C c = some o → B c = some (Clo.Pin c o) := fun c o e => s _ _ (Clo.plus_in e)
theorem lvs_pow : ∀ t : FT, t.lvs ≤ 2 ^ t.dep
  | .leaf _ _ => Nat.le_refl _
  | .node s l r => by
    show l.lvs + r.lvs ≤ 2 ^ (1 + max l.dep r.dep)
    have h1 := lvs_pow l
    have h2 := lvs_pow r
    have h3 : 2 ^ l.dep ≤ 2 ^ max l.dep r.dep := Nat.pow_le_pow_right (by decide) (Nat.le_max_left _ _)
    have h4 : 2 ^ r.dep ≤ 2 ^ max l.dep r.dep := Nat.pow_le_pow_right (by decide) (Nat.le_max_right _ _)
    rw [Nat.pow_add]
    omega
end My

set_option Elab.async false
set_option linter.all false
set_option maxRecDepth 100000
namespace My
open PySem L2 Gd
/-! ### what closures tell, beside the caller's cells -/
theorem seqT_minus {K : PySem.W.Frag} {C : Addr → Option Obj} {B : Hp} {p : Addr} {xs : List V} (c : ∀ c o, C c = some o → B c = some (Clo.Pin c o)) (h : SqT K B p xs) : SqT K (Clo.minus C B) p xs := by
  rcases h with (h | ⟨ob, h⟩) | h
  · have n : C p = none := by
      cases e : C p with
      | none => rfl
      | some o =>
        have := c p o e
        rw [h] at this
        exact absurd (Option.some.inj this).symm Clo.pin_tup
    exact .inl (.inl (by rw [Clo.minus_out n]; exact h))
  · have n : C p = none := by
      cases e : C p with
      | none => rfl
      | some o =>
        have := c p o e
        rw [h] at this
        exact absurd (Option.some.inj this).symm Clo.pin_frz
    exact .inl (.inr ⟨ob, by rw [Clo.minus_out n]; exact h⟩)
  · exact .inr h
theorem dd_x {K : PySem.W.Frag} {C : Addr} {H H' : Hp} {v : V} {D : PyData} {ts : List FT} (k : LamX.ExtN H H') (h : Dd K C H v D ts) : Dd K C H' v D ts := by
  obtain ⟨a, dx, sv, su, e, h1, h2, h3⟩ := h
  exact ⟨a, dx, sv, su, e, k _ _ h1 (fun _ z => nomatch z), dp_x k _ _ h2, h3.kt (kt_x k)⟩
section
variable {P : Program} {w : World} {K : PySem.W.Frag} {mg : Str → Option Value} {base : Heap} {C : Addr → Option Obj} {σ : L2.St} {f1 c1 : Addr} {fo1 : Obj} {H : Hp} {q : Str} {v : V}
/-- an error is told -/
theorem told_err {T : ErrT K mg} {W : VK} {E' : XK} {cl : Addr} {fld word : Str} {u : V} {G : Hp} (ew : ErrW T cl fld word) (i2 : ∀ c d H', wishE T W c d H' → E' c d H')
    (go : ∀ B p, (∀ c o, C c = some o → B c = some (Clo.Pin c o)) → Same G (Clo.minus C B) → SqT K (Clo.minus C B) p [.str word, u] → W (.ref p) B) : badE cl fld u G (fun cls d H' => (∀ c o, C c = some o → H' c = none) → E' cls d (Clo.plus C H')) := fun d' H1 s1 nd free => by
  refine i2 _ _ _ ⟨cl, d', fld, word, u, rfl, rfl, ew, ?_, fun pp npp => ?_⟩
  · rw [Clo.plus_out (Clo.out_of upd_same free)]
    exact upd_same
  · have s2 : Same (Clo.plus C (upd H1 d' (.xd [(fld, u)]))) (upd (Clo.plus C (upd H1 d' (.xd [(fld, u)]))) pp (.tup [.str word, u])) := same_new npp _
    exact go _ pp (cells_on s2) ((s1.trans (same_new nd _)).trans (same_minus s2 free)) (seqT_minus (cells_on s2) (SqT.of upd_same))
/-- a closure in the heap of a callee -/
theorem does_at {k : Nat} {tl : Hp → VK → XK → Prop} {G : Hp} {Q : VK} {E : XK} (hC : ∀ c o, C c = some o → H c = none) (fo : Clo.FnObj fo1) (p : H f1 = some (Clo.Pin f1 fo1)) (act : Clo.Act P w K mg base k f1 tl) (s : Same (Clo.plus C H) G)
    (go : ∀ (Q' : VK) (E' : XK), (∀ v H', Q v H' → Q' v H') → (∀ c d H', E c d H' → E' c d H') → tl G Q' E') : DoesM P w K mg base k (.ref f1) G Q E :=
  ⟨f1, fo1, tl, rfl, fo, s _ _ (by rw [Clo.plus_out (Clo.out_of p hC)]; exact p), act, go⟩
/-- a call that refuses v -/
theorem out_bad {T0 : ErrT K mg} {k : Nat} {t : XK → TE} {W : VK} {E : XK} (hC : ∀ c o, C c = some o → H c = none) (fo : Clo.FnObj fo1) (p : H f1 = some (Clo.Pin f1 fo1)) (qc : H c1 = some (LamX.CodeO c1 q))
    (act : Clo.Act P w K mg base k f1 (Clo.tlX f1 c1 fo1 q C σ t)) (good : ∀ G E Q, Same H G → badE T0.B "value" v G E → t E σ G Q)
    (go : ∀ B p, (∀ c o, C c = some o → B c = some (Clo.Pin c o)) → Same H (Clo.minus C B) → SqT K (Clo.minus C B) p [.str "value", v] → W (.ref p) B) :
    spOutcome P w K mg base T0 k [.ref f1] (Clo.plus C H) W E := by
  refine ⟨.ref f1, rfl, fun G1 s1 => does_at hC fo p act s1 fun Q' E' i1 i2 => ?_⟩
  have sM : Same H (Clo.minus C G1) := same_minus s1 hC
  refine ⟨s1 _ _ (by rw [Clo.plus_out (Clo.out_of p hC)]; exact p), s1 _ _ (by rw [Clo.plus_out (Clo.out_of qc hC)]; exact qc), cells_on s1, ?_⟩
  exact good _ _ _ sM (told_err (.inl ⟨rfl, rfl, rfl⟩) i2 fun B pp cel s3 e3 => go B pp cel (sM.trans s3) e3)
end
/-- a call, ready, that refuses odd -/
def RdyV (X : Cx) (CB : Addr) (k : Nat) (q : Str) (odd : V) (H0 : Hp) (σ : L2.St) (H : Hp) (v : V) : Prop := ∃ (f c' : Addr) (fo : Obj) (t : XK → TE), v = .ref f ∧ Clo.FnObj fo ∧ H f = some (Clo.Pin f fo) ∧ H c' = some (LamX.CodeO c' q) ∧
  (∀ C, Clo.CellsAt X.env X.N σ C → Clo.Act X.prog X.w X.K X.mg X.base k f (Clo.tlX f c' fo q C σ t)) ∧ ∀ G E Q, LamX.ExtN H0 G → badE CB "value" odd G E → t E σ G Q
theorem RdyV.x {X : Cx} {CB : Addr} {k : Nat} {q : Str} {odd : V} {H0 : Hp} {σ : L2.St} {H H' : Hp} {v : V} (e : LamX.ExtN H H') (h : RdyV X CB k q odd H0 σ H v) : RdyV X CB k q odd H0 σ H' v := by
  obtain ⟨f, c', fo, t, e1, n, h1, h2, a⟩ := h
  exact ⟨f, c', fo, t, e1, n, e _ _ h1 (fun _ => Clo.pin_tbl), e _ _ h2 (fun _ => LamX.codeO_ne _), a⟩
end My

set_option Elab.async false
set_option linter.all false
set_option maxRecDepth 100000
namespace My
open PySem L2 Gd
open ST
/-! ### deeds that are handed in, and numbers of their steps -/
abbrev scheck_deed : Stmt := top 57
abbrev Ncheck_deed : List Str := ["deed"]
theorem sccheck_deed : FnScope Ncheck_deed Ncheck_deed (defScope scheck_deed) := ⟨rfl, rfl, rfl, by decide +kernel, rfl, by decide +kernel, by decide +kernel⟩
abbrev scheck_step_number : Stmt := top 58
abbrev Ncheck_step_number : List Str := ["deed", "at"]
theorem sccheck_step_number : FnScope Ncheck_step_number Ncheck_step_number (defScope scheck_step_number) := ⟨rfl, rfl, rfl, by decide +kernel, rfl, by decide +kernel, by decide +kernel⟩
abbrev sstep_of : Stmt := top 59
theorem scstep_of : FnScope Ncheck_step_number Ncheck_step_number (defScope sstep_of) := ⟨rfl, rfl, rfl, by decide +kernel, rfl, by decide +kernel, by decide +kernel⟩
abbrev sreplaced : Stmt := top 61
abbrev Nreplaced : List Str := ["deed", "at", "other"]
theorem screplaced : FnScope Nreplaced Nreplaced (defScope sreplaced) := ⟨rfl, rfl, rfl, by decide +kernel, rfl, by decide +kernel, by decide +kernel⟩
abbrev sdeed_text : Stmt := top 70
abbrev Ndeed_text : List Str := ["deed", "found", "lines", "at", "within", "number"]
theorem scdeed_text : FnScope Ndeed_text Ncheck_deed (defScope sdeed_text) := ⟨rfl, rfl, rfl, by decide +kernel, rfl, by decide +kernel, by decide +kernel⟩
/-- a number from 1 to m -/
def numIn (A : PyData) (m : Nat) : Bool := match A with | .int i => decide (1 ≤ i) && decide (i ≤ m) | _ => false
/-- what is no deed -/
def NoDd (K : PySem.W.Frag) (C : Addr) (H : Hp) (v : V) : Prop := ∃ t, TyX K H v t ∧ NoDeed K C t
theorem no_dd {K : PySem.W.Frag} {C : Addr} (N : DeedN K C) {H : Hp} {v : V} {D : PyData} (h : Dp K H v D) : NoDd K C H v := by
  refine ⟨_, tyx_of h, no_deed N ?_⟩
  cases D <;> rfl
def spCheckDeed (K : PySem.W.Frag) (C CB : Addr) : Sp := fun vs H Q E => ∃ v, vs = [v] ∧ ((∃ a dx fs, v = .ref a ∧ H a = some (.ins C dx fs) ∧ Q .non H) ∨ (NoDd K C H v ∧ badE CB "value" v H E))
def spCheckNum (K : PySem.W.Frag) (C CB : Addr) : Sp := fun vs H Q E => ∃ a dx sv su D v A, vs = [.ref a, v] ∧ H a = some (.ins C dx (dF sv su)) ∧ Dp K H sv D ∧ cntS D ≤ 400 ∧ Dp K H v A ∧ (numIn A (cntS D) = true → ∀ H', Same H H' → Q .non H') ∧ (numIn A (cntS D) = false → badE CB "value" v H E)
/-- what is asked of a deed and a number: the way out of each -/
def DdNum (K : PySem.W.Frag) (C CB : Addr) (v u : V) (H : Hp) (E : XK) (q : ST → Nat → Hp → Prop) : Prop := (NoDd K C H v ∧ badE CB "value" v H E) ∨ ∃ s A, Dd K C H v (data s) (ends s) ∧ s.Right ∧ s.FitA ∧ s.size ≤ 400 ∧ s.dpt ≤ 100 ∧ Dp K H u A ∧ (numIn A s.size = false → badE CB "value" u H E) ∧ ∀ n : Nat, A = .int n → 1 ≤ n → n ≤ s.size → ∀ H', Same H H' → q s n H'
def spStepOf (K : PySem.W.Frag) (C CB : Addr) : Sp := fun vs H Q E => ∃ v u, vs = [v, u] ∧ DdNum K C CB v u H E (fun s n H1 => ∀ t : ST, (ordS s)[n - 1]? = some t → ∀ H' r, Same H1 H' → Dd K C H' r (data t) (ends t) → Q r H')
/-- replaced, where it refuses -/
def spReplBad (K : PySem.W.Frag) (C CB : Addr) : Sp := fun vs H Q E => ∃ v u x, vs = [v, u, x] ∧ DdNum K C CB v u H E (fun s n H1 => NoDd K C H1 x ∧ badE CB "value" x H1 E)
def spTextBad (K : PySem.W.Frag) (C CB : Addr) : Sp := fun vs H Q E => ∃ v, vs = [v] ∧ NoDd K C H v ∧ badE CB "value" v H E
theorem num_cases {A : PyData} {m : Nat} (h : numIn A m = true) : ∃ n : Nat, A = .int n ∧ 1 ≤ n ∧ n ≤ m := by
  unfold numIn at h
  split at h
  · rename_i i
    rw [Bool.and_eq_true] at h
    have a := of_decide_eq_true h.1
    have b := of_decide_eq_true h.2
    exact ⟨i.toNat, by rw [Int.toNat_of_nonneg (by omega)], by omega, by omega⟩
  · cases h
section
variable {P : Program} {w : World} {K : PySem.W.Frag} {mg : Str → Option Value} {base : Heap} {f : Addr} {fd : FuncData}
theorem okcheck_deed {CB : Addr} (T : Txt K mg) (G : DeedT K mg) (O : OneE P w K mg base "BadValue" "value" CB) (F : Fun K "check_deed" "check_deed" scheck_deed f fd) : FnOk P w K mg base (L2.CX P w) 3 f fd Ncheck_deed (spCheckDeed K G.C CB) := by
  refine F.okX sccheck_deed (fun vs H Q E h => ?_) (fun cdv A outer s H vs Q E hr h => ?_)
  · obtain ⟨v, rfl, _⟩ := h
    rfl
  obtain ⟨v, rfl, h⟩ := h
  refine ⟨_, (pss_one (ps_if (pt_not (pt_val (pe_callB call_isi rfl T.isinstance (by decide +kernel) (pa_cons (pv 0) (pa_cons (pe_globE (v := .ref G.C) ⟨_, G.g, rfl⟩) pa_nil)))))
    (pss_one (ps_raise1 (k := 0) O rfl (hr.mono (by decide)) (takes_of rfl rfl rfl rfl) (pv 0)))
    pss_nil)), ?_⟩
  rcases h with ⟨a, dx, fs, rfl, ha, q⟩ | ⟨⟨t, ht, hn⟩, q⟩
  · exact ⟨_, rfl, _, _, _, _, _, rfl, .own G.C, G.ty ha, kit_self, _, rfl, iteF q⟩
  · exact ⟨_, rfl, _, _, _, _, _, rfl, .own G.C, ht, hn.1, _, rfl, iteT ⟨_, rfl, mk_one O.oex O.no fun d nd => q d H (Same.refl _) nd⟩⟩
theorem okcheck_step_number {CB : Addr} (G : DeedT K mg) (O : OneE P w K mg base "BadValue" "value" CB) (M : Mth P w K mg base G.C "size" 5 NDd2 (spDdSize K G.C)) (Cis_number_below : Cal P w K mg base "is_number_below" 2 Nis_number_below (spBelow K))
    (F : Fun K "check_step_number" "check_step_number" scheck_step_number f fd) : FnOk P w K mg base (L2.CX P w) 6 f fd Ncheck_step_number (spCheckNum K G.C CB) := by
  refine F.okX sccheck_step_number (fun vs H Q E h => ?_) (fun cdv A outer s H vs Q E hr h => ?_)
  · obtain ⟨a, dx, sv, su, D, v, A', rfl, _⟩ := h
    rfl
  obtain ⟨a, dx, sv, su, D, v, A', rfl, ha, hsv, hc, hv, q1, q2⟩ := h
  refine ⟨_, (pss_one (ps_if (PW.pt (pw_or (pt_not (pt_val (pe_callC Cis_number_below hr (pa_cons (pv 1) (pa_cons (pe_op op_add (pe_methM0 M (pv 0) G.cl hr) pe_int) pa_nil))))) (pw_or1 (pt_cmpR op_eq (pv 1) pe_int (nomark _)))))
    (pss_one (ps_raise1 (k := 0) O rfl (hr.mono (by decide)) (takes_of rfl rfl rfl rfl) (pv 1)))
    pss_nil)), ?_⟩
  refine ⟨_, rfl, _, rfl, a, dx, _, rfl, ha, dF_no, a, dx, sv, su, D, rfl, ha, hsv, hc, fun H1 s1 => ⟨_, _, rfl, rfl, v, A', cntS D + 1, rfl, dp_same s1 _ _ hv, ?_⟩⟩
  cases e : numIn A' (cntS D) with
  | true =>
    obtain ⟨n, rfl, h1, h2⟩ := num_cases e
    cases hv
    have eb : belowD (.int n) (cntS D + 1) = true := by
      unfold belowD
      rw [Bool.and_eq_true]
      exact ⟨decide_eq_true (by omega), decide_eq_true (by omega)⟩
    rw [eb]
    refine ⟨_, rfl, iteF ⟨_, rfl, rfl, _, rfl, ?_⟩⟩
    refine ite2 (fun c => ?_) (fun _ => q1 e H1 s1)
    have := of_decide_eq_true c
    have := V.int.inj this
    omega
  | false =>
    have raise_ : ∀ H2, Same H H2 → badE CB "value" v H2 E := fun H2 s2 d H' s' nd => q2 e d H' (s2.trans s') nd
    cases eb : belowD A' (cntS D + 1) with
    | false => exact ⟨_, rfl, iteT ⟨_, rfl, mk_one O.oex O.no fun d nd => raise_ H1 s1 d H1 (Same.refl _) nd⟩⟩
    | true =>
      unfold belowD at eb
      split at eb
      · rename_i i
        cases hv
        rw [Bool.and_eq_true] at eb
        have h1 := of_decide_eq_true eb.1
        have h2 := of_decide_eq_true eb.2
        have h0 : i = 0 := by
          unfold numIn at e
          rw [Bool.and_eq_false_iff] at e
          rcases e with e | e
          · have := of_decide_eq_false e
            omega
          · have := of_decide_eq_false e
            omega
        subst h0
        refine ⟨_, rfl, iteF ⟨_, rfl, rfl, _, rfl, ?_⟩⟩
        refine ite2 (fun _ => ⟨_, rfl, mk_one O.oex O.no fun d nd => raise_ H1 s1 d H1 (Same.refl _) nd⟩) (fun c => absurd (decide_eq_true rfl) c)
      · cases eb
theorem okstep_of {CB : Addr} {fdI : FuncData} (G : DeedT K mg) (GI : FnOk P w K mg base CX0 19 G.fI fdI PDd0 (spDdInit K G.C)) (bI : Binds K fdI PDd0 []) (Ccheck_deed : CalX P w K mg base "check_deed" 3 Ncheck_deed (spCheckDeed K G.C CB)) (Ccheck_step_number : CalX P w K mg base "check_step_number" 6 Ncheck_step_number (spCheckNum K G.C CB))
    (Csteps_of : Cal P w K mg base "steps_of" 4 Nsteps_of (spStepsOf K G.C)) (F : Fun K "step_of" "step_of" sstep_of f fd) : FnOk P w K mg base (L2.CX P w) 21 f fd Ncheck_step_number (spStepOf K G.C CB) := by
  refine F.okX scstep_of (fun vs H Q E h => ?_) (fun cdv A outer s H vs Q E hr h => ?_)
  · obtain ⟨v, u, rfl, _⟩ := h
    rfl
  obtain ⟨v, u, rfl, h⟩ := h
  refine ⟨_, (pss_cons (ps_expr (pe_callS Ccheck_deed.ok (hr.mono (by decide)) rfl Ccheck_deed.m Ccheck_deed.kp Ccheck_deed.b (fun σ => passAt (takes_of rfl rfl rfl rfl) σ) (pa_cons (pv 0) pa_nil)))
  (pss_cons (ps_expr (pe_callS Ccheck_step_number.ok (hr.mono (by decide)) rfl Ccheck_step_number.m Ccheck_step_number.kp Ccheck_step_number.b (fun σ => passAt (takes_of rfl rfl rfl rfl) σ) (pa_cons (pv 0) (pa_cons (pv 1) pa_nil))))
  (pss_one (ps_ret (pe_make G.made GI (hr.mono (by decide)) rfl G.g bI .nil pass0 (pa_cons (pe_ix ix_list (pe_callC Csteps_of hr (pa_cons (pv 0) pa_nil)) (pe_op op_sub (pv 1) pe_int) (fun _ _ => rfl)) pa_nil)))))), ?_⟩
  rcases h with ⟨hn, q⟩ | ⟨t, A', ⟨a, dx, sv, su, rfl, ha, hsv, hsu⟩, hR, hF, hz, hd, hu, q1, q2⟩
  · exact ⟨_, rfl, v, rfl, .inr ⟨hn, q⟩⟩
  have hc : cntS t.data ≤ 400 := by rw [cnt_st]; exact hz
  refine ⟨_, rfl, _, rfl, .inl ⟨a, dx, _, rfl, ha, ?_⟩⟩
  refine ⟨_, rfl, _, rfl, a, dx, sv, su, _, u, A', rfl, ha, hsv, hc, hu, fun e H1 s1 => ?_, fun e => q1 (by rw [← cnt_st]; exact e)⟩
  rw [cnt_st] at e
  obtain ⟨n, rfl, n1, n2⟩ := num_cases e
  cases hu
  have ha1 := s1 _ _ ha
  refine ⟨_, rfl, a, dx, sv, su, _, rfl, ha1, dp_same s1 _ _ hsv, hc, fun H2 p us s2 e2 hus => ?_⟩
  rw [post_ord] at hus
  have hl := dpAll_len hus
  rw [List.length_map, ordS_len] at hl
  have hx : us[n - 1]? = some us[n - 1] := List.getElem?_eq_getElem (by omega)
  obtain ⟨d, hdd, hyd⟩ := dpAll_get hus hx
  rw [List.getElem?_map] at hdd
  obtain ⟨t', ht', rfl⟩ := Option.map_eq_some_iff.mp hdd
  have W := ordS_mem (List.mem_of_getElem? ht')
  refine ⟨_, rfl, _, _, rfl, rfl, p, us, _, us[n - 1], rfl, rfl, SqL.of e2, at_of (by omega : (n : Int) - 1 = ((n - 1 : Nat) : Int)) hx, fun x dx' nx nd ne => ?_⟩
  have w1 := W.size
  have w2 := W.dpt
  have w3 := dep_st t'
  exact dd_make x dx' nx nd ne hyd (der_st t' (W.right hR) (W.fit hF)) (by rw [cnt_st]; omega) (by omega) fun H' r s3 h3 => q2 n rfl n1 n2 H1 s1 t' ht' H' r (s2.trans s3) h3
theorem okreplacedB {CB : Addr} (G : DeedT K mg) (Ccheck_deed : CalX P w K mg base "check_deed" 3 Ncheck_deed (spCheckDeed K G.C CB)) (Ccheck_step_number : CalX P w K mg base "check_step_number" 6 Ncheck_step_number (spCheckNum K G.C CB))
    (F : Fun K "replaced" "replaced" sreplaced f fd) : FnOk P w K mg base (L2.CX P w) 7 f fd Nreplaced (spReplBad K G.C CB) := by
  refine F.okX screplaced (fun vs H Q E h => ?_) (fun cdv A outer s H vs Q E hr h => ?_)
  · obtain ⟨v, u, x, rfl, _⟩ := h
    rfl
  obtain ⟨v, u, x, rfl, h⟩ := h
  refine ⟨_, (pss_cons (ps_expr (pe_callS Ccheck_deed.ok (hr.mono (by decide)) rfl Ccheck_deed.m Ccheck_deed.kp Ccheck_deed.b (fun σ => passAt (takes_of rfl rfl rfl rfl) σ) (pa_cons (pv 0) pa_nil)))
  (pss_cons (ps_expr (pe_callS Ccheck_step_number.ok (hr.mono (by decide)) rfl Ccheck_step_number.m Ccheck_step_number.kp Ccheck_step_number.b (fun σ => passAt (takes_of rfl rfl rfl rfl) σ) (pa_cons (pv 0) (pa_cons (pv 1) pa_nil))))
  (pss_cons (ps_expr (pe_callS Ccheck_deed.ok (hr.mono (by decide)) rfl Ccheck_deed.m Ccheck_deed.kp Ccheck_deed.b (fun σ => passAt (takes_of rfl rfl rfl rfl) σ) (pa_cons (pv 2) pa_nil)))
  (pss_cons ps_no
  (pss_one ps_no))))), ?_⟩
  rcases h with ⟨hn, q⟩ | ⟨t, A', ⟨a, dx, sv, su, rfl, ha, hsv, hsu⟩, hR, hF, hz, hd, hu, q1, q2⟩
  · exact ⟨_, rfl, v, rfl, .inr ⟨hn, q⟩⟩
  have hc : cntS t.data ≤ 400 := by rw [cnt_st]; exact hz
  refine ⟨_, rfl, _, rfl, .inl ⟨a, dx, _, rfl, ha, ?_⟩⟩
  refine ⟨_, rfl, _, rfl, a, dx, sv, su, _, u, A', rfl, ha, hsv, hc, hu, fun e H1 s1 => ?_, fun e => q1 (by rw [← cnt_st]; exact e)⟩
  rw [cnt_st] at e
  obtain ⟨n, rfl, n1, n2⟩ := num_cases e
  obtain ⟨h1, h2⟩ := q2 n rfl n1 n2 H1 s1
  exact ⟨_, rfl, x, rfl, .inr ⟨h1, h2⟩⟩
theorem okdeed_textB {CB : Addr} (G : DeedT K mg) (Ccheck_deed : CalX P w K mg base "check_deed" 3 Ncheck_deed (spCheckDeed K G.C CB)) (F : Fun K "deed_text" "deed_text" sdeed_text f fd) : FnOk P w K mg base (L2.CX P w) 4 f fd Ncheck_deed (spTextBad K G.C CB) := by
  refine F.okX scdeed_text (fun vs H Q E h => ?_) (fun cdv A outer s H vs Q E hr h => ?_)
  · obtain ⟨v, rfl, _⟩ := h
    rfl
  obtain ⟨v, rfl, hn, q⟩ := h
  refine ⟨_, (pss_cons (ps_expr (pe_callS Ccheck_deed.ok (hr.mono (by decide)) rfl Ccheck_deed.m Ccheck_deed.kp Ccheck_deed.b (fun σ => passAt (takes_of rfl rfl rfl rfl) σ) (pa_cons (pv 0) pa_nil)))
  (pss_cons ps_no (pss_cons ps_no (pss_cons ps_no (pss_one ps_no))))), ?_⟩
  exact ⟨_, rfl, v, rfl, .inr ⟨hn, q⟩⟩
end
end My

set_option Elab.async false
set_option linter.all false
set_option maxRecDepth 100000
namespace My
open PySem L2 Gd
open ST
/-! ### the law -/
abbrev slaw : Stmt := top 107
abbrev Nlaw' : List Str := ["_law_script", "_law_pen", "_law_step", "_law_steps", "_law_number", "_law_told", "_law_call", "_law_deed_here", "_law_odd", "_law_thing"]
theorem sclaw : FnScope Nlaw' Plaw (defScope slaw) := ⟨rfl, rfl, rfl, by decide +kernel, rfl, by decide +kernel, by decide +kernel⟩
abbrev lamQ : Str := "law.<locals>.<lambda>"
def spLawT (K : PySem.W.Frag) (Pt : Addr) : Sp := fun vs H Q _ => ∃ (a : Addr) (ns : List Int), vs = [.ref a] ∧ SqL K H a (ns.map V.int) ∧ ns.length ≤ 63 ∧ LamX.Tabs [(Pt, lamQ)] H ∧ ∀ H', Q (.bl true) H'
def oddN (m : Nat) : List PyData := [.int 0, .int (-1), .int ((m + 1 : Nat) : Int), .bool true, .bool false, .none, .str "1", .tuple [.int 1], .int (10 ^ 9)]
theorem plain_nat {i : Nat} (h : i < 1000) : Plain (.int i) := by
  obtain ⟨a, b⟩ := int_ok i h
  have e : sizeLine = 16777216 := rfl
  exact ⟨by simp [SeqAt.shaped, PyData.canLay0, PyData.depth], b, by simp [PyData.hasDict], by simp [PyData.depth], by omega⟩
theorem odd_all {m : Nat} (hm : m < 900) : ∀ D, D ∈ oddN m → Plain D ∧ numIn D m = false := by
  intro D hD
  unfold oddN at hD
  simp only [List.mem_cons, List.not_mem_nil, or_false] at hD
  rcases hD with rfl | rfl | rfl | rfl | rfl | rfl | rfl | rfl | rfl
  · exact ⟨⟨by decide +kernel, by decide +kernel, by decide +kernel, by decide +kernel, by decide +kernel⟩, rfl⟩
  · exact ⟨⟨by decide +kernel, by decide +kernel, by decide +kernel, by decide +kernel, by decide +kernel⟩, rfl⟩
  · refine ⟨plain_nat (by omega), ?_⟩
    unfold numIn
    rw [Bool.and_eq_false_iff]
    exact .inr (decide_eq_false (by omega))
  · exact ⟨⟨by decide +kernel, by decide +kernel, by decide +kernel, by decide +kernel, by decide +kernel⟩, rfl⟩
  · exact ⟨⟨by decide +kernel, by decide +kernel, by decide +kernel, by decide +kernel, by decide +kernel⟩, rfl⟩
  · exact ⟨⟨by decide +kernel, by decide +kernel, by decide +kernel, by decide +kernel, by decide +kernel⟩, rfl⟩
  · exact ⟨⟨by decide +kernel, by decide +kernel, by decide +kernel, by decide +kernel, by decide +kernel⟩, rfl⟩
  · exact ⟨⟨by decide +kernel, by decide +kernel, by decide +kernel, by decide +kernel, by decide +kernel⟩, rfl⟩
  · refine ⟨⟨by decide +kernel, by decide +kernel, by decide +kernel, by decide +kernel, by decide +kernel⟩, ?_⟩
    unfold numIn
    rw [Bool.and_eq_false_iff]
    exact .inr (decide_eq_false (by omega))
theorem lst_shown {ds : List PyData} : (PyData.list ds).shown.length ≤ (ds.map fun d => d.shown.length).sum + 2 * ds.length + 3 := by
  have h := listText_len_le (PyData.shownAll ds)
  have e : ∀ l : List PyData, PyData.shownAll l = l.map PyData.shown := fun l => by
    induction l with
    | nil => rfl
    | cons d l ih => rw [PyData.shownAll, ih, List.map_cons]
  rw [e, List.map_map, List.length_map] at h
  show (listText (PyData.shownAll ds)).length ≤ _
  rw [e]
  exact h
theorem plain_one {s : ST} (h : FinS s) (d : s.dpt ≤ 59) : Plain (.list [s.data]) := by
  have a := show_st s h.right (by have := h.size; omega)
  have b := shown_st s h.right h.fit (by have := h.size; omega)
  have c := h.size
  have g := deep_st s h.right
  have l := @lst_shown [s.data]
  have e2 : sizeLine = 16777216 := rfl
  simp only [List.map_cons, List.map_nil, List.sum_cons, List.sum_nil, List.length_cons, List.length_nil] at l
  refine ⟨shaped_of ?_ ?_, ?_, ?_, ?_, by omega⟩
  · simp [shortD, shortAll, short_st s h.right]
  · simp only [PyData.depth, PyData.depthAll]
    omega
  · simp [PyData.showable, PyData.showableAll, a.1]
  · simp [PyData.hasDict, PyData.hasDictAll, a.2]
  · simp only [PyData.depth, PyData.depthAll]
    omega
def things (s : ST) : List PyData := [.none, .int 5, s.data, .str "link a", .list [s.data], .tuple []]
theorem things_all {s : ST} (h : FinS s) (d : s.dpt ≤ 59) : ∀ D, D ∈ things s → Plain D := by
  intro D hD
  unfold things at hD
  simp only [List.mem_cons, List.not_mem_nil, or_false] at hD
  rcases hD with rfl | rfl | rfl | rfl | rfl | rfl
  · exact ⟨by decide +kernel, by decide +kernel, by decide +kernel, by decide +kernel, by decide +kernel⟩
  · exact ⟨by decide +kernel, by decide +kernel, by decide +kernel, by decide +kernel, by decide +kernel⟩
  · exact h.plain
  · exact ⟨by decide +kernel, by decide +kernel, by decide +kernel, by decide +kernel, by decide +kernel⟩
  · exact plain_one h d
  · exact ⟨by decide +kernel, by decide +kernel, by decide +kernel, by decide +kernel, by decide +kernel⟩
theorem dpAll_mem {K : PySem.W.Frag} {H : Hp} : ∀ {xs : List V} {ds : List PyData} {x : V}, DpAll K H xs ds → x ∈ xs → ∃ D, D ∈ ds ∧ Dp K H x D
  | _, _, _, .nil, h => by cases h
  | _, _, x, .cons a b, h => by
    rcases List.mem_cons.mp h with rfl | h
    · exact ⟨_, List.mem_cons_self, a⟩
    · obtain ⟨D, h1, h2⟩ := dpAll_mem b h
      exact ⟨D, List.mem_cons_of_mem _ h1, h2⟩
theorem Wth.fin {t s : ST} (w : Wth t s) (h : FinS s) : FinS t := ⟨w.right h.right, w.fit h.fit, Nat.le_trans w.size h.size, Nat.le_trans w.dpt h.dpt⟩
theorem num_true {n m : Nat} (h1 : 1 ≤ n) (h2 : n ≤ m) : numIn (.int n) m = true := by
  unfold numIn
  rw [Bool.and_eq_true]
  exact ⟨decide_eq_true (by omega), decide_eq_true (by omega)⟩
theorem ordS_last (s : ST) : (ordS s)[s.size - 1]? = some s := by
  have h := ordS_len s
  rw [ordS_eq] at h ⊢
  rw [List.length_append, List.length_singleton] at h
  rw [List.getElem?_append_right (by omega), show s.size - 1 - ((subST s).flatMap ordS).length = 0 by omega]
  rfl
theorem cut_mem {xs : List V} {lo hi : Option Int} {x : V} (h : x ∈ cutV xs lo hi) : x ∈ xs := List.mem_of_mem_drop (List.mem_of_mem_take h)
theorem natV_mem {x : V} {zs : List Nat} (h : x ∈ natV zs) : ∃ n, n ∈ zs ∧ x = .int (n : Nat) := by
  unfold natV at h
  obtain ⟨n, h1, h2⟩ := List.mem_map.mp h
  exact ⟨n, h1, h2.symm⟩
theorem ddnum {K : PySem.W.Frag} {C CB : Addr} {H : Hp} {E : XK} {q : ST → Nat → Hp → Prop} {v : V} {s : ST} {n : Nat} (h : Dd K C H v (data s) (ends s)) (f : FinS s) (n1 : 1 ≤ n) (n2 : n ≤ s.size) (g : ∀ H', Same H H' → q s n H') : DdNum K C CB v (.int n) H E q :=
  .inr ⟨s, .int n, h, f.right, f.fit, by have := f.size; omega, by have := f.dpt; omega, .int _, (fun e => by rw [num_true n1 n2] at e; cases e), fun m e _ _ H' s' => by
    have : n = m := by injection e with e; omega
    rw [← this]
    exact g H' s'⟩
section
variable {P : Program} {w : World} {K : PySem.W.Frag} {mg : Str → Option Value} {base : Heap} {f : Addr} {fd : FuncData}
set_option maxHeartbeats 4000000 in
theorem ok_law {c Pt : Addr} {T0 : ErrT K mg} (TB : LamX.TabB base mg c Pt) (F : FunC K "law" "law" slaw f fd (.ref c)) (T : Txt K mg) (G : DeedT K mg) (GN : DeedN K G.C) {fdI : FuncData} (GI : FnOk P w K mg base CX0 19 G.fI fdI PDd0 (spDdInit K G.C)) (bI : Binds K fdI PDd0 [])
    (M : Mth P w K mg base G.C "size" 5 NDd2 (spDdSize K G.C))
    (C_law_begin : Cal P w K mg base "_law_begin" 1 P_law_begin (spBegin K)) (C_law_pick : Cal P w K mg base "_law_pick" 2 ["_law_pen", "_law_some"] (spPick K)) (C_law_named_deed : Cal P w K mg base "_law_named_deed" 111 P_law_named_deed (spNamed K)) (C_law_in_order : Cal P w K mg base "_law_in_order" 61 P_law_in_order (spInOrd K 60))
    (C_law_shuffled : Cal P w K mg base "_law_shuffled" 2 P_law_shuffled (spShufN K)) (C_law_deed_right : CalG P w K mg base "_law_deed_right" 62 N_law_deed_right' (spDeedRightS K G.C)) (C_law_same : CalG P w K mg base "_law_same" 2 N_law_same' (spLSame K))
    (C_law_outcome : Cal P w K mg base "_law_outcome" 31 P_law_outcome (spOutcome P w K mg base T0 30)) (Cstep_of : CalX P w K mg base "step_of" 21 Ncheck_step_number (spStepOf K G.C T0.B)) (Creplaced : CalX P w K mg base "replaced" 7 Nreplaced (spReplBad K G.C T0.B)) (Cdeed_text : CalX P w K mg base "deed_text" 4 Ncheck_deed (spTextBad K G.C T0.B)) :
    FnG P w K mg base CX0 112 f fd Plaw (spLawT K Pt) := by
  refine F.okG sclaw (fun vs H Q E h => ?_) (fun A outer s H vs Q E hr g0 h => ?_)
  · obtain ⟨a, ns, rfl, _⟩ := h
    rfl
  obtain ⟨a, ns, rfl, hS, h63, tabs, q⟩ := h
  have hone : ∀ p ∈ [(Pt, lamQ)], p.1 = Pt → p.2 = lamQ := fun p hp _ => by rw [List.mem_singleton.mp hp]
  refine ⟨_, (pss_cons (ps_set (i := 1) sclaw.nd rfl (Or.inl rfl) (pe_callC C_law_begin hr (pa_cons (pv 0) pa_nil)))
  (pss_cons (ps_set (i := 2) sclaw.nd rfl (Or.inl rfl) (pe_callC C_law_named_deed hr (pa_cons (pv 1) (pa_cons pe_int (pa_cons pe_int (pa_cons pe_int pa_nil))))))
  (pss_cons (ps_asg (pe_tupN (pa_cons (pe_make G.made GI (hr.mono (by decide)) rfl G.g bI .nil pass0 (pa_cons (pv 2) pa_nil)) (pa_cons (pe_callC C_law_in_order hr (pa_cons (pv 2) pa_nil)) pa_nil))) (pg_tup rfl (pgs_cons (pg_name (i := 7) sclaw.nd rfl (Or.inr rfl)) (pgs_cons (pg_name (i := 3) sclaw.nd rfl (Or.inl rfl)) pgs_nil))))
  (pss_cons (ps_if (pt_cmpR op_ne (pe_methM0 M (pv 7) G.cl hr) (pe_callB call_len rfl T.len (by decide +kernel) (pa_cons (pv 3) pa_nil)) (nomark _))
    (pss_one (ps_ret pe_bl))
    pss_nil)
  (pss_cons (ps_for PassesOwn.never rfl (pi_list (pe_op op_catLN (pe_slice sl_listN (pe_callC C_law_shuffled hr (pa_cons (pv 1) (pa_cons (pe_listRgN rfl rfl T.list (prg_2 rfl T.range pe_int (pe_op op_add (pe_callB call_len rfl T.len (by decide +kernel) (pa_cons (pv 3) pa_nil)) pe_int))) pa_nil))) po_none (po_some pe_int)) (pe_lstN (pa_cons pe_int (pa_cons (pe_callB call_len rfl T.len (by decide +kernel) (pa_cons (pv 3) pa_nil)) pa_nil))))) (pg_name (i := 4) sclaw.nd rfl (Or.inl rfl))
    (pss_cons (ps_set (i := 5) sclaw.nd rfl (Or.inl rfl) (Told.pe_callV Cstep_of hr (pa_cons (pv 7) (pa_cons (pv 4) pa_nil))))
    (pss_one (ps_if (PW.pt (pw_or (pt_not (pt_val (pe_callG C_law_deed_right hr g0 (pa_cons (pv 5) (pa_cons (pe_ix ix_list (pv 3) (pe_op op_sub (pv 4) pe_int) (fun _ _ => rfl)) pa_nil))))) (pw_or1 (pt_not (pt_val (pe_callG C_law_deed_right hr g0 (pa_cons (Told.pe_callV Cstep_of hr (pa_cons (pv 5) (pa_cons (pe_methM0 M (pv 5) G.cl hr) pa_nil))) (pa_cons (pe_fld (pv 5) rfl) pa_nil))))))))
      (pss_one (ps_ret pe_bl))
      pss_nil))))
  (pss_cons (ps_set (i := 8) sclaw.nd rfl (Or.inr rfl) (pe_callC C_law_pick hr (pa_cons (pv 1) (pa_cons (pe_lstN (pa_cons pe_int (pa_cons (pe_un un_neg pe_int) (pa_cons (pe_op op_add (pe_callB call_len rfl T.len (by decide +kernel) (pa_cons (pv 3) pa_nil)) pe_int) (pa_cons pe_bl (pa_cons pe_bl (pa_cons pe_non (pa_cons pe_str (pa_cons (pe_tupN (pa_cons pe_int pa_nil)) (pa_cons (pe_op op_pow pe_int pe_int) pa_nil)))))))))) pa_nil))))
  (pss_cons (ps_if (pt_not (pt_val (pe_callG C_law_same hr g0 (pa_cons (Clo.pe_callT C_law_outcome.ok (hr.mono (by decide)) rfl C_law_outcome.m C_law_outcome.kp C_law_outcome.b (fun _ => rfl) (pa_cons
      (Clo.pe_lam (k := 29) (t := fun E => tCallS (spStepOf K G.C T0.B) (WE fun cls d _ H => E cls d H) (tCons (tVar 7) (tCons (tVar 8) tNil))) TB rfl (List.mem_singleton.mpr rfl) hone (show LamX.LamS (defScope slaw) _ from LamX.lamS_by (by decide +kernel)) rfl (fun _ _ _ _ _ => rfl)
        (fun A outer s H E f c' hr' => pe_callS Cstep_of.ok (hr'.mono (by decide)) rfl Cstep_of.m Cstep_of.kp Cstep_of.b (fun σ => passAt (takes_of rfl rfl rfl rfl) σ) (pa_cons (pv 7) (pa_cons (pv 8) pa_nil)))) pa_nil)) (pa_cons (pe_tupN (pa_cons pe_str (pa_cons (pv 8) pa_nil))) pa_nil)))))
    (pss_one (ps_ret pe_bl))
    pss_nil)
  (pss_cons (ps_if (pt_not (pt_val (pe_callG C_law_same hr g0 (pa_cons (Clo.pe_callT C_law_outcome.ok (hr.mono (by decide)) rfl C_law_outcome.m C_law_outcome.kp C_law_outcome.b (fun _ => rfl) (pa_cons
      (Clo.pe_lam (k := 29) (t := fun E => tCallS (spReplBad K G.C T0.B) (WE fun cls d _ H => E cls d H) (tCons (tVar 7) (tCons (tVar 8) (tCons (tC .non) tNil)))) TB rfl (List.mem_singleton.mpr rfl) hone (show LamX.LamS (defScope slaw) _ from LamX.lamS_by (by decide +kernel)) rfl (fun _ _ _ _ _ => rfl)
        (fun A outer s H E f c' hr' => pe_callS Creplaced.ok (hr'.mono (by decide)) rfl Creplaced.m Creplaced.kp Creplaced.b (fun σ => passAt (takes_of rfl rfl rfl rfl) σ) (pa_cons (pv 7) (pa_cons (pv 8) (pa_cons pe_non pa_nil))))) pa_nil)) (pa_cons (pe_tupN (pa_cons pe_str (pa_cons (pv 8) pa_nil))) pa_nil)))))
    (pss_one (ps_ret pe_bl))
    pss_nil)
  (pss_cons (ps_set (i := 9) sclaw.nd rfl (Or.inr rfl) (pe_callC C_law_pick hr (pa_cons (pv 1) (pa_cons (pe_lstN (pa_cons pe_non (pa_cons pe_int (pa_cons (pv 2) (pa_cons pe_str (pa_cons (pe_lstN (pa_cons (pv 2) pa_nil)) (pa_cons (pe_tupN pa_nil) pa_nil))))))) pa_nil))))
  (pss_cons (ps_for PassesOwn.never rfl (pi_list (pe_lst (pa_cons
        (Clo.pe_lam (k := 29) (t := fun E => tCallS (spStepOf K G.C T0.B) (WE fun cls d _ H => E cls d H) (tCons (tVar 9) (tCons (tVar 8) tNil))) TB rfl (List.mem_singleton.mpr rfl) hone (show LamX.LamS (defScope slaw) _ from LamX.lamS_by (by decide +kernel)) rfl (fun _ _ _ _ _ => rfl)
          (fun A outer s H E f c' hr' => pe_callS Cstep_of.ok (hr'.mono (by decide)) rfl Cstep_of.m Cstep_of.kp Cstep_of.b (fun σ => passAt (takes_of rfl rfl rfl rfl) σ) (pa_cons (pv 9) (pa_cons (pv 8) pa_nil)))) (pa_cons
        (Clo.pe_lam (k := 29) (t := fun E => tCallS (spTextBad K G.C T0.B) (WE fun cls d _ H => E cls d H) (tCons (tVar 9) tNil)) TB rfl (List.mem_singleton.mpr rfl) hone (show LamX.LamS (defScope slaw) _ from LamX.lamS_by (by decide +kernel)) rfl (fun _ _ _ _ _ => rfl)
          (fun A outer s H E f c' hr' => pe_callS Cdeed_text.ok (hr'.mono (by decide)) rfl Cdeed_text.m Cdeed_text.kp Cdeed_text.b (fun σ => passAt (takes_of rfl rfl rfl rfl) σ) (pa_cons (pv 9) pa_nil))) (pa_cons
        (Clo.pe_lam (k := 29) (t := fun E => tCallS (spReplBad K G.C T0.B) (WE fun cls d _ H => E cls d H) (tCons (tVar 9) (tCons (tVar 8) (tCons (tVar 9) tNil)))) TB rfl (List.mem_singleton.mpr rfl) hone (show LamX.LamS (defScope slaw) _ from LamX.lamS_by (by decide +kernel)) rfl (fun _ _ _ _ _ => rfl)
          (fun A outer s H E f c' hr' => pe_callS Creplaced.ok (hr'.mono (by decide)) rfl Creplaced.m Creplaced.kp Creplaced.b (fun σ => passAt (takes_of rfl rfl rfl rfl) σ) (pa_cons (pv 9) (pa_cons (pv 8) (pa_cons (pv 9) pa_nil))))) (pa_cons
        (Clo.pe_lam (k := 29) (t := fun E => tCallS (spReplBad K G.C T0.B) (WE fun cls d _ H => E cls d H) (tCons (tVar 7) (tCons (tC (.int 1)) (tCons (tVar 9) tNil)))) TB rfl (List.mem_singleton.mpr rfl) hone (show LamX.LamS (defScope slaw) _ from LamX.lamS_by (by decide +kernel)) rfl (fun _ _ _ _ _ => rfl)
          (fun A outer s H E f c' hr' => pe_callS Creplaced.ok (hr'.mono (by decide)) rfl Creplaced.m Creplaced.kp Creplaced.b (fun σ => passAt (takes_of rfl rfl rfl rfl) σ) (pa_cons (pv 7) (pa_cons pe_int (pa_cons (pv 9) pa_nil))))) pa_nil)))))) (pg_name (i := 6) sclaw.nd rfl (Or.inl rfl))
    (pss_one (ps_if (pt_not (pt_val (pe_callG C_law_same hr g0 (pa_cons (Clo.pe_callT C_law_outcome.ok (hr.mono (by decide)) rfl C_law_outcome.m C_law_outcome.kp C_law_outcome.b (fun _ => rfl) (pa_cons (pv 6) pa_nil)) (pa_cons (pe_tupN (pa_cons pe_str (pa_cons (pv 9) pa_nil))) pa_nil)))))
      (pss_one (ps_ret pe_bl))
      pss_nil)))
  (pss_one (ps_ret (pe_callG C_law_deed_right hr g0 (pa_cons (pv 7) (pa_cons (pv 2) pa_nil))))))))))))))), ?_⟩
  refine ⟨_, rfl, a, ns, rfl, hS, h63, fun d L H1 s1 p1 => ?_⟩
  have tb1 : LamX.Tabs [(Pt, lamQ)] H1 := tabs.ext s1
  refine ⟨_, rfl, d, L, ns, 0, 5, 2, 2, rfl, by decide, by decide, by decide, by decide, p1, by decide, fun H2 v t k2 p2 hv2 hN => ?_⟩
  have tb2 := tabs_keep p1.isDk k2 tb1
  have hsz := hN.size
  have hdp := hN.dpt
  have hFin : FinS t := ⟨hN.right, hN.fit, by omega, by omega⟩
  obtain ⟨mk1, mk2, mk3⟩ := hFin.make
  refine ⟨_, rfl, fun x dx nx nd ne => ?_⟩
  refine dd_make2 x dx nx nd ne hv2 mk1 mk2 mk3 fun H3 su3 s3 hb3 hsv3 hsu3 => ⟨rfl, ?_⟩
  clear nx nd ne mk1 mk2 mk3
  have dd3 : Dd K G.C H3 (.ref x) t.data t.ends := ⟨x, dx, v, su3, rfl, hb3, hsv3, hsu3⟩
  refine ⟨_, rfl, v, t, rfl, hsv3, by omega, by omega, fun H4 p4 us4 s4 e4 hus4 => ⟨le1k, fun tp5 H5 s5 e5 => ⟨tp5, _, rfl, e5, rfl, .ref x, _, rfl, .ref p4, _, rfl, rfl, ?_⟩⟩⟩
  have hc : cntS t.data ≤ 400 := by rw [cnt_st]; omega
  have lus := dpAll_len hus4
  rw [List.length_map, ordS_len] at lus
  have s35 := s4.trans s5
  have hb5 := s35 _ _ hb3
  have hsv5 := dp_same s35 _ _ hsv3
  refine ⟨_, rfl, x, dx, _, rfl, hb5, dF_no, x, dx, v, su3, _, rfl, hb5, hsv5, hc, fun H6 s6 => ⟨_, rfl, _, _, rfl, .inl ⟨us4, SqL.of (s6 _ _ (s5 _ _ e4)), rfl⟩, rfl, _, rfl, ?_⟩⟩
  rw [cnt_st, lus]
  refine ite2 (fun c => by simp at c) (fun _ => ?_)
  have s36 := s35.trans s6
  have e6 := s6 _ _ (s5 _ _ e4)
  have pp6 := p2.same (s3.trans s36)
  have k6 : Keep d H2 H6 := Same.toKeep (s3.trans s36)
  refine ⟨_, rfl, _, rfl, _, _, rfl, .inl ⟨us4, SqL.of e6, rfl⟩, _, _, rfl, rfl, _, _, rfl, rfl, RgOk.of_le (by omega) (by omega) (by omega) (by omega), fun p7 H7 s7 e7 => ?_⟩
  have er : rgV (1 : Int) ((t.size : Nat) + 1 : Int) = natV (List.range' 1 t.size) := rg_nat2 1 (t.size + 1) (by omega)
  rw [lus, er] at e7
  refine ⟨d, L, p7, ns, _, List.range' 1 t.size, rfl, pp6.same s7, by rw [List.length_range']; omega, SqL.of e7, by rw [List.length_range']; omega, fun H8 p8 zs8 k8 pp8 e8 pm8 => ?_⟩
  refine ⟨6, rfl, p8, natV zs8, rfl, SqL.of e8, fun p9 H9 s9 e9 => ?_⟩
  have l8 : (cutV (natV zs8) none (some 6)).length ≤ 400 := by
    have h1 := cutV_length (natV zs8) none (some 6)
    have h2 := pm8.length_eq
    rw [natV_len, h2, List.length_range'] at h1
    omega
  have hin : ∀ y, y ∈ cutV (natV zs8) none (some 6) → ∃ n : Nat, y = .int n ∧ 1 ≤ n ∧ n ≤ t.size := fun y hy => by
    obtain ⟨n, h1, h2⟩ := natV_mem (cut_mem hy)
    have h3 := List.mem_range'_1.mp (pm8.mem_iff.mp h1)
    exact ⟨n, h2, by omega, by omega⟩
  have k68 : Keep d H6 H9 := (Same.toKeep s7).trans (k8.trans (Same.toKeep s9))
  have pp9 := pp8.same s9
  generalize cutV (natV zs8) none (some 6) = xs9 at hin l8 e9
  have e6k := k68 p4 _ (by
    intro z
    obtain ⟨kvs, h⟩ := pp6.isDk
    rw [z, h] at e6
    cases e6) e6
  refine ⟨_, rfl, _, _, rfl, .inl ⟨us4, SqL.of e6k, rfl⟩, le1k, fun p10 H10 s10 e10 => ⟨p9, p10, _, _, rfl, rfl, s10 _ _ e9, e10, by show _ + 2 ≤ 1000; omega, fun p11 H11 s11 e11 => ?_⟩⟩
  rw [lus] at e10 e11
  have s911 := s10.trans s11
  have k611 : Keep d H6 H11 := k68.trans (Same.toKeep s911)
  have pp11 := pp9.same s911
  have tb6 := tabs_keep p2.isDk k6 tb2
  have tb11 := tabs_keep pp6.isDk k611 tb6
  have dd6 := dd3.same s36
  have hv6 := dp_same s36 _ _ hsv3
  have dd11 := dd_keep pp6 k611 dd6
  have hv11 := dp_keep pp6.isDk k611 _ _ hv6
  have hus11 : DpAll K H11 us4 ((ordS t).map data) := dpAll_same s911 _ _ (dpAll_keep pp6.isDk k68 _ _ (dpAll_same (s5.trans s6) _ _ hus4))
  have e4n := s911 _ _ e6k
  have hin2 : ∀ y, y ∈ xs9 ++ [V.int 1, V.int (t.size : Nat)] → ∃ n : Nat, y = .int n ∧ 1 ≤ n ∧ n ≤ t.size := fun y hy => by
    have hs := sub_size t
    rcases List.mem_append.mp hy with h | h
    · exact hin y h
    · simp only [List.mem_cons, List.not_mem_nil, or_false] at h
      rcases h with rfl | rfl
      · exact ⟨1, rfl, by omega, by omega⟩
      · exact ⟨t.size, rfl, by omega, by omega⟩
  generalize xs9 ++ [V.int 1, V.int (t.size : Nat)] = xs11 at e11 hin2
  clear hin l8 e9 e10 s10 s11 s9 e8 k8 pp8 e7 s7 e6k
  refine ⟨p11, rfl, ⟨_, SqL.of e11⟩, ?_⟩
  refine for_it walk_list (fun i σ H' => Same H11 H' ∧ ∃ o4 o5 : Option V, σ = [some (.ref a), some (.ref d), some v, some (.ref p4), o4, o5, none, some (.ref x), none, none])
    ⟨Same.refl _, none, none, rfl⟩ (fun i σ H' _ y => SqL.of (y.1 _ _ e11)) (fun i y σ HX H12 hi pv hy => ?_) (fun σ H12 pv => ?_)
  · obtain ⟨rfl, hy⟩ := hy
    obtain ⟨s12, o4, o5, rfl⟩ := pv
    obtain ⟨n, rfl, n1, n2⟩ := hin2 y (List.mem_of_getElem? hy)
    have dd12 := dd11.same s12
    refine ⟨_, rfl, _, rfl, .ref x, .int n, rfl, ddnum dd12 hFin n1 n2 fun H13 s13 t' ht' H14 r s14 ddr => ?_⟩
    have W := ordS_mem (List.mem_of_getElem? ht')
    have hF' := W.fin hFin
    have s1114 := s12.trans (s13.trans s14)
    have hus14 := dpAll_same s1114 _ _ hus11
    have hx : us4[n - 1]? = some us4[n - 1] := List.getElem?_eq_getElem (by omega)
    obtain ⟨D, hD, hyd⟩ := dpAll_get hus14 hx
    rw [List.getElem?_map, ht'] at hD
    obtain rfl := Option.some.inj hD
    refine ⟨_, rfl, _, rfl, _, rfl, _, _, rfl, rfl, p4, us4, _, us4[n - 1], rfl, rfl, SqL.of (s1114 _ _ e4n), at_of (by omega : (n : Int) - 1 = ((n - 1 : Nat) : Int)) hx, r, us4[n - 1], t', rfl, ddr, hyd, hF', fun H15 s15 => ⟨_, rfl, iteF ?_⟩⟩
    obtain ⟨ar, dxr, svr, sur, rfl, har, hsvr, hsur⟩ := ddr.same s15
    have hc' : cntS t'.data ≤ 400 := by rw [cnt_st]; have := hF'.size; omega
    refine ⟨_, rfl, _, rfl, ar, dxr, _, rfl, har, dF_no, ar, dxr, svr, sur, _, rfl, har, hsvr, hc', fun H16 s16 => ?_⟩
    rw [cnt_st]
    have dd16 : Dd K G.C H16 (.ref ar) t'.data t'.ends := ⟨ar, dxr, svr, sur, rfl, s16 _ _ har, dp_same s16 _ _ hsvr, hsur.kt (Same.kt s16)⟩
    have hs' := sub_size t'
    refine ⟨.ref ar, .int t'.size, rfl, ddnum dd16 hF' (by omega) (Nat.le_refl _) fun H17 s17 t2 ht2 H18 r2 s18 dd18 => ?_⟩
    rw [ordS_last] at ht2
    obtain rfl := Option.some.inj ht2
    have s1618 := s16.trans (s17.trans s18)
    refine ⟨_, rfl, _, G.C, _, _, _, rfl, s1618 _ _ har, G.cl, G.nSteps, dF_steps _ _, r2, svr, t', rfl, dd18, dp_same s1618 _ _ hsvr, hF', fun H19 s19 => ⟨_, rfl, iteF ?_⟩⟩
    exact ⟨s1114.trans (s15.trans (s1618.trans s19)), _, _, rfl⟩
  · obtain ⟨s12, o4, o5, rfl⟩ := pv
    have pp12 := (pp11.same s12).mono (m := 30000) (by rw [List.length_range']; omega)
    have tb12 := tb11.ext s12
    have dd12 := dd11.same s12
    have hv12 := dp_same s12 _ _ hv11
    have e412 := s12 _ _ e4n
    refine ⟨_, rfl, _, rfl, _, rfl, _, _, rfl, .inl ⟨us4, SqL.of e412, rfl⟩, _, _, rfl, rfl, le1k, fun a1 A1 x1 y1 => ⟨_, _, rfl, rfl, ⟨by decide, by decide, by decide⟩, le1k, fun a2 A2 x2 y2 => ?_⟩⟩
    have z12 := x1.trans x2
    have hpow : (10 : Int) ^ (9 : Int).toNat = 10 ^ 9 := rfl
    have dall : DpAll K A2 [.int 0, .int (-1), .int ((us4.length : Nat) + 1), .bl true, .bl false, .non, .str "1", .ref a1, .int ((10 : Int) ^ (9 : Int).toNat)] (oddN t.size) := by
      rw [hpow, lus]
      exact .cons (.int _) (.cons (.int _) (.cons (.int _) (.cons (.bl _) (.cons (.bl _) (.cons .non (.cons (.str _) (.cons (.tup ((Same.kt x2).seq y1) (.cons (.int _) .nil)) (.cons (.int _) .nil))))))))
    have ppA := pp12.same z12
    refine ⟨d, L, ns, _, .ref a2, rfl, ppA, by omega, .inl ⟨a2, _, rfl, SqL.of y2, by simp, le1k, fun vo H20 hvo k20 pp20 => ?_⟩⟩
    obtain ⟨Do, hDo, dpo⟩ := dpAll_mem dall hvo
    obtain ⟨plo, nuo⟩ := odd_all (m := t.size) (by omega) Do hDo
    have dpo20 := dp_keep ppA.isDk k20 _ _ dpo
    have dd20 := dd_keep ppA k20 (dd12.same z12)
    have hv20 := dp_keep ppA.isDk k20 _ _ (dp_same z12 _ _ hv12)
    have tb20 := tabs_keep ppA.isDk k20 (tb12.ext z12)
    clear dall hvo
    have hz := hFin.size
    have refuse : ∀ (G' : Hp) (E : XK) (q : ST → Nat → Hp → Prop), Dd K G.C G' (.ref x) t.data t.ends → Dp K G' vo Do → badE T0.B "value" vo G' E → DdNum K G.C T0.B (.ref x) vo G' E q := fun G' E q h1 h2 h3 =>
      .inr ⟨t, Do, h1, hFin.right, hFin.fit, by omega, by omega, h2, fun _ => h3, fun n e n1 n2 => by
        rw [e, num_true n1 n2] at nuo
        cases nuo⟩
    refine ⟨tb20, fun f1 fo1 c1 H21 x21 tb21 n21 p21 q21 o21 a21 => fun C KC hC => ?_⟩
    have dd21 := dd_x x21 dd20
    have dpo21 := dp_x x21 _ _ dpo20
    refine out_bad (v := vo) (T0 := T0) hC o21 p21 q21 (a21 C KC) (fun G' E' Q' s' b => ?_) fun B p22 cel22 s22 e22 => ⟨cel22, ?_⟩
    · exact ⟨_, rfl, _, rfl, .ref x, vo, rfl, refuse _ _ _ (dd21.same s') (dp_same s' _ _ dpo21) b⟩
    generalize Clo.minus C B = H22 at s22 e22 ⊢
    have dpo22 := dp_same s22 _ _ dpo21
    refine ⟨_, rfl, le1k, fun p23 H23 s23 e23 => ⟨p22, p23, "value", vo, vo, Do, rfl, (Same.kt s23).seq e22, e23, dp_same s23 _ _ dpo22, dp_same s23 _ _ dpo22, plo, ?_⟩⟩
    refine ⟨_, rfl, iteF ?_⟩
    have s2123 := s22.trans s23
    have tb23 := tb21.ext s2123
    refine ⟨tb23, fun f1 fo1 c1 H24 x24 tb24 n24 p24 q24 o24 a24 => fun C KC hC => ?_⟩
    have dd24 := dd_x x24 (dd21.same s2123)
    have dpo24 := dp_x x24 _ _ (dp_same s2123 _ _ dpo21)
    refine out_bad (v := vo) (T0 := T0) hC o24 p24 q24 (a24 C KC) (fun G' E' Q' s' b => ?_) fun B p25 cel25 s25 e25 => ⟨cel25, ?_⟩
    · exact ⟨_, rfl, _, rfl, .ref x, vo, .non, rfl, refuse _ _ _ (dd24.same s') (dp_same s' _ _ dpo24) b⟩
    generalize Clo.minus C B = H25 at s25 e25 ⊢
    have dpo25 := dp_same s25 _ _ dpo24
    refine ⟨_, rfl, le1k, fun p26 H26 s26 e26 => ⟨p25, p26, "value", vo, vo, Do, rfl, (Same.kt s26).seq e25, e26, dp_same s26 _ _ dpo25, dp_same s26 _ _ dpo25, plo, ?_⟩⟩
    refine ⟨_, rfl, iteF ?_⟩
    have s2426 := s25.trans s26
    have tb26 := tb24.ext s2426
    have dd26 := dd24.same s2426
    have dpo26 := dp_same s2426 _ _ dpo24
    have pp26 : Pen K H26 d L ns 30001 := (pen_x x24 ((pen_x x21 pp20).same s2123)).same s2426
    have hv26 := dp_same s2426 _ _ (dp_x x24 _ _ (dp_same s2123 _ _ (dp_x x21 _ _ hv20)))
    refine ⟨_, rfl, _, rfl, _, rfl, le1k, fun b1 B1 y1' z1 => ⟨le1k, fun b2 B2 y2' z2 => ⟨le1k, fun b3 B3 y3' z3 => ?_⟩⟩⟩
    have w13 := y1'.trans (y2'.trans y3')
    have hv3' := dp_same w13 _ _ hv26
    have dall : DpAll K B3 [.non, .int 5, v, .str "link a", .ref b1, .ref b2] (things t) :=
      .cons .non (.cons (.int _) (.cons hv3' (.cons (.str _) (.cons (.lst (SqL.of (y3' _ _ (y2' _ _ z1))) (.cons hv3' .nil)) (.cons (.tup ((Same.kt y3').seq z2) .nil) .nil)))))
    have ppB := pp26.same w13
    refine ⟨d, L, ns, _, .ref b3, rfl, ppB, by omega, .inl ⟨b3, _, rfl, SqL.of z3, by simp, le1k, fun vt H30 hvt k30 pp30 => ?_⟩⟩
    obtain ⟨Dt, hDt, dpt⟩ := dpAll_mem dall hvt
    have plt := things_all hFin (by omega) Dt hDt
    have dpt30 := dp_keep ppB.isDk k30 _ _ dpt
    have dpo30 := dp_keep ppB.isDk k30 _ _ (dp_same w13 _ _ dpo26)
    have dd30 := dd_keep ppB k30 (dd26.same w13)
    have hv30 := dp_keep ppB.isDk k30 _ _ hv3'
    have tb30 := tabs_keep ppB.isDk k30 (tb26.ext w13)
    clear dall hvt
    refine ⟨tb30, fun f1 fo1 c1 H31 x31 tb31 n31 p31 q31 o31 a31 => ⟨tb31, fun f2 fo2 c2 H32 x32 tb32 n32 p32 q32 o32 a32 => ⟨tb32, fun f3 fo3 c3 H33 x33 tb33 n33 p33 q33 o33 a33 => ⟨tb33, fun f4 fo4 c4 H34 x34 tb34 n34 p34 q34 o34 a34 => ⟨by show 4 ≤ sizeLine; decide, fun p np => ?_⟩⟩⟩⟩⟩
    have s9 : Same H34 (upd H34 p (.lst [.ref f1, .ref f2, .ref f3, .ref f4])) := same_new np _
    have x9 := LamX.ExtN.of s9
    have e9 : upd H34 p (.lst [.ref f1, .ref f2, .ref f3, .ref f4]) p = some (.lst [.ref f1, .ref f2, .ref f3, .ref f4]) := upd_same
    have t9 := tb34.ext s9
    generalize upd H34 p (.lst [.ref f1, .ref f2, .ref f3, .ref f4]) = H9' at s9 x9 e9 t9 ⊢
    have x39 := x31.trans (x32.trans (x33.trans (x34.trans x9)))
    obtain ⟨σ0, eσ⟩ : ∃ σ0 : L2.St, σ0 = [some (.ref a), some (.ref d), some v, some (.ref p4), o4, o5, none, some (.ref x), some vo, some vt] := ⟨_, rfl⟩
    obtain ⟨X, eX⟩ : ∃ X : Cx, X = (cxOf CX0 P w K mg base Nlaw' "law" (defScope slaw) f (.ref c) A outer s H E).nox := ⟨_, rfl⟩
    have rdy : ∀ y ∈ [V.ref f1, .ref f2, .ref f3, .ref f4], RdyV X T0.B 30 lamQ vt H30 σ0 H9' y := by
      rw [eX, eσ]
      intro y hy
      simp only [List.mem_cons, List.not_mem_nil, or_false] at hy
      rcases hy with rfl | rfl | rfl | rfl
      · exact RdyV.x (x32.trans (x33.trans (x34.trans x9))) ⟨f1, c1, fo1, _, rfl, o31, p31, q31, a31, fun G' E' Q' xx b => ⟨_, rfl, _, rfl, vt, vo, rfl, .inl ⟨no_dd GN (dp_x xx _ _ dpt30), b⟩⟩⟩
      · exact RdyV.x (x33.trans (x34.trans x9)) ⟨f2, c2, fo2, _, rfl, o32, p32, q32, a32, fun G' E' Q' xx b => ⟨_, rfl, vt, rfl, no_dd GN (dp_x xx _ _ dpt30), b⟩⟩
      · exact RdyV.x (x34.trans x9) ⟨f3, c3, fo3, _, rfl, o33, p33, q33, a33, fun G' E' Q' xx b => ⟨_, rfl, _, rfl, _, rfl, vt, vo, vt, rfl, .inl ⟨no_dd GN (dp_x xx _ _ dpt30), b⟩⟩⟩
      · exact RdyV.x x9 ⟨f4, c4, fo4, _, rfl, o34, p34, q34, a34, fun G' E' Q' xx b => ⟨_, rfl, _, rfl, .ref x, .int 1, vt, rfl, ddnum (n := 1) (dd_x xx dd30) hFin (Nat.le_refl _) (by have := sub_size t; omega) fun H' s' => ⟨no_dd GN (dp_same s' _ _ (dp_x xx _ _ dpt30)), b.same s'⟩⟩⟩
    refine ⟨p, rfl, ⟨_, SqL.of e9⟩, ?_⟩
    refine for_it walk_list (fun i σ H' => LamX.ExtN H9' H' ∧ LamX.Tabs [(Pt, lamQ)] H' ∧ ∃ o6 : Option V, σ = [some (.ref a), some (.ref d), some v, some (.ref p4), o4, o5, o6, some (.ref x), some vo, some vt]) ⟨LamX.ExtN.refl _, t9, none, rfl⟩
      (fun i σ H' _ pv => SqL.of (pv.1 _ _ e9 fun _ z => nomatch z)) (fun i y σ HX H40 hi pv hy => ?_) (fun σ H40 pv => ?_)
    · obtain ⟨rfl, hy⟩ := hy
      obtain ⟨xa, ta, o6, rfl⟩ := pv
      refine ⟨_, rfl, fun C KC hC => ?_⟩
      obtain ⟨fx, cx, fox, tt, rfl, nx, px, qx, act, good⟩ := (rdy y (List.mem_of_getElem? hy)).x xa
      subst eX
      have KC0 : Clo.CellsAt (PyProof.Rows.envOfC "law" (defScope slaw) s.heap.objs.size f (.ref c)) Nlaw' σ0 C := by
        refine cells_mono (fun i y v' hn hs hk => ?_) KC
        rw [eσ] at hs
        match i, hn with
        | 0, hn => exact hs
        | 1, hn => exact hs
        | 2, hn => exact hs
        | 3, hn => exact hs
        | 4, hn => exact hs
        | 5, hn => exact hs
        | 6, hn => cases hs
        | 7, hn => exact hs
        | 8, hn => exact hs
        | 9, hn => exact hs
        | k + 10, hn => exact absurd hn (by simp)
      refine out_bad (v := vt) (T0 := T0) hC nx px qx (act C KC0) (fun G' E' Q' s' b => good _ _ _ (x39.trans (xa.trans (LamX.ExtN.of s'))) b) fun B p41 cel41 s41 e41 => ⟨cel41, ?_⟩
      have dpt40 := dp_x (x39.trans xa) _ _ dpt30
      generalize Clo.minus C B = H41 at s41 e41 ⊢
      have dpt41 := dp_same s41 _ _ dpt40
      refine ⟨_, rfl, le1k, fun p42 H42 s42 e42 => ⟨p41, p42, "value", vt, vt, Dt, rfl, (Same.kt s42).seq e41, e42, dp_same s42 _ _ dpt41, dp_same s42 _ _ dpt41, plt, ?_⟩⟩
      exact ⟨_, rfl, iteF ⟨xa.trans (LamX.ExtN.of (s41.trans s42)), ta.ext (s41.trans s42), _, rfl⟩⟩
    · obtain ⟨xa, ta, o6, rfl⟩ := pv
      exact ⟨_, rfl, _, rfl, .ref x, v, t, rfl, dd_x (x39.trans xa) dd30, dp_x (x39.trans xa) _ _ hv30, hFin, fun H' s' => q H'⟩
end
end My

set_option Elab.async false
set_option linter.all false
set_option maxRecDepth 100000
namespace My
open PySem L2
open ST
/-! ### dicts of the program, read with any key -/
def lensL : List (Str × V) := [("link", .int 2), ("both", .int 5), ("between", .int 4), ("offer", .int 5), ("choose", .int 5), ("hand", .int 5), ("turn", .int 3)]
def lensF : List (Key × V) := lensL.map fun p => (.inr p.1, p.2)
theorem lenV_find (z : Str) : lenV z = ((lensL.find? fun p => p.1 == z).map (·.2)).getD .non := by
  by_cases h1 : z = "link"
  · subst h1; decide +kernel
  by_cases h2 : z = "both"
  · subst h2; decide +kernel
  by_cases h3 : z = "between"
  · subst h3; decide +kernel
  by_cases h4 : z = "offer"
  · subst h4; decide +kernel
  by_cases h5 : z = "choose"
  · subst h5; decide +kernel
  by_cases h6 : z = "hand"
  · subst h6; decide +kernel
  by_cases h7 : z = "turn"
  · subst h7; decide +kernel
  have g : ∀ {a : Str}, ¬ z = a → (a == z) = false := fun {a} h => beq_eq_false_iff_ne.mpr (fun e => h e.symm)
  unfold lenV lenOf lensL
  rw [if_neg h1, if_neg h2, if_neg h3, if_neg h4, if_neg h5, if_neg h6, if_neg h7]
  simp only [List.find?, g h1, g h2, g h3, g h4, g h5, g h6, g h7]
  rfl
theorem find_any : ∀ {es : List DictEntry} {kvs : List (Str × V)}, Paired (fun (e : DictEntry) (kv : Str × V) => ∃ t, e.key = .str kv.1 t ∧ RelV kv.2 e.val) es kvs → ∀ z : Str,
    (es.any (·.refKey) = false) ∧ ((∃ e v, es.find? (·.key.isStr z) = some e ∧ (kvs.find? fun p => p.1 == z).map (·.2) = some v ∧ RelV v e.val) ∨ (es.find? (·.key.isStr z) = none ∧ kvs.find? (fun p => p.1 == z) = none))
  | _, _, .nil, z => ⟨rfl, .inr ⟨rfl, rfl⟩⟩
  | e :: es, kv :: kvs, .cons ⟨t, hk, hv⟩ r, z => by
    obtain ⟨a, b⟩ := find_any r z
    have er : e.refKey = false := by
      unfold DictEntry.refKey
      rw [hk]
    refine ⟨by rw [List.any_cons, er, a]; rfl, ?_⟩
    have ei : e.key.isStr z = (kv.1 == z) := by rw [hk]; rfl
    cases c : (kv.1 == z) with
    | true =>
      exact .inl ⟨e, kv.2, by rw [List.find?_cons, ei, c], by rw [List.find?_cons, c]; rfl, hv⟩
    | false =>
      rcases b with ⟨e', v, b1, b2, b3⟩ | ⟨b1, b2⟩
      · exact .inl ⟨e', v, by rw [List.find?_cons, ei, c]; exact b1, by rw [List.find?_cons, c]; exact b2, b3⟩
      · exact .inr ⟨by rw [List.find?_cons, ei, c]; exact b1, by rw [List.find?_cons, c]; exact b2⟩
theorem kgt_lens {K : PySem.W.Frag} {w : World} {a : Addr} {es : Array DictEntry} {n : Nat} (h1 : K.lookup a = some ⟨.type "dict", none, .dict es n, #[]⟩) (h2 : PySem.W.KeysLit w.params es.toList)
    (h3 : Paired (fun (e : DictEntry) (kv : Str × V) => ∃ t, e.key = .str kv.1 t ∧ RelV kv.2 e.val) es.toList lensL) (z : Str) : KGt K w a z (lenV z) := by
  obtain ⟨nr, b⟩ := find_any h3 z
  rw [lenV_find]
  rcases b with ⟨e, v, b1, b2, b3⟩ | ⟨b1, b2⟩
  · refine ⟨es, n, some e.val, h1, h2, ?_, ?_⟩
    · unfold PySem.W.nsIn
      rw [h1]
      simp only [b1]
    · rw [b2]
      exact b3
  · refine ⟨es, n, none, h1, h2, ?_, ?_⟩
    · unfold PySem.W.nsIn
      rw [h1]
      simp only [b1, nr]
      rfl
    · rw [b2]
      exact rfl
/-- a step's word is one of seven -/
theorem len_cases {z : Str} (h : (lenOf z).isSome = true) : z = "link" ∨ z = "both" ∨ z = "between" ∨ z = "offer" ∨ z = "choose" ∨ z = "hand" ∨ z = "turn" := by
  unfold lenOf at h
  split at h
  · exact .inl ‹_›
  split at h
  · exact .inr (.inl ‹_›)
  split at h
  · exact .inr (.inr (.inl ‹_›))
  split at h
  · exact .inr (.inr (.inr (.inl ‹_›)))
  split at h
  · exact .inr (.inr (.inr (.inr (.inl ‹_›))))
  split at h
  · exact .inr (.inr (.inr (.inr (.inr (.inl ‹_›)))))
  split at h
  · exact .inr (.inr (.inr (.inr (.inr (.inr ‹_›)))))
  cases h
section
variable {P : Program} {w : World} {K : PySem.W.Frag} {mg : Str → Option Value} {base : Heap} {f : Addr} {fd : FuncData}
/-- a def with defaults, every parameter written -/
theorem binds_all {x qual : Str} {params : Arguments} {body : List Stmt} {scope : Scope} {dvs : List V} {ps : List Str} {f : Addr} {fd : FuncData} (F : FunD K x qual params body scope dvs [] f fd) (hd : dvs ≠ [] := by simp)
    (h : ∀ (T : Addr) (kV doc pm : Value) (an : Option Addr) (cdv ct : Value) (us its : List Value), us.length = ps.length → its.length = dvs.length →
      ∃ k, bindArgs (PySem.W.fnOf x qual params body scope (.ref T) kV doc pm an cdv ct) ⟨us, []⟩ = seqItems? (.ref T) >>= k ∧ k (some its.toArray) = pure (ps.zip us)) : Binds K fd ps [] := by
  obtain ⟨ds, hv, hb⟩ := F.binds1 (ps := ps) ps.length dvs.length hd (by omega) fun T kV doc pm an cdv ct us its hu hi => by
    obtain ⟨k, e1, e2⟩ := h T kV doc pm an cdv ct us its hu hi
    refine ⟨k, e1, ?_⟩
    rw [e2, List.drop_of_length_le (by omega), List.append_nil]
  rw [List.drop_length] at hv
  cases hv
  exact hb
theorem vac {C : CXT} {k : Nat} {ps : List Str} {sp : Sp} (no : ∀ vs H Q E, ¬ sp vs H Q E) : FnOk P w K mg base C k f fd ps sp :=
  ⟨fun vs H Q E h => absurd h (no vs H Q E), fun A outer s H args us vs Q E _ _ _ _ h => absurd h (no vs H Q E)⟩
theorem all_fits_form (T : Txt K mg) (F : Fun K "fits_form" "fits_form" sfits_form f fd) (b : Binds K fd Pfits_form []) (m : mg "fits_form" = some (.ref f)) (C : Cal P w K mg base "fits_name" 2 ["value"] (spName K)) : ∀ n : Nat, FnOk P w K mg base CX0 (2 + n) f fd Pfits_form (spForm K n)
  | 0 => vac fun vs H Q E ⟨_, k, _, h, _⟩ => Nat.not_lt_zero k h
  | n + 1 => ok_fits_form T F C ⟨f, fd, all_fits_form T F b m C n, m, F.kp, b⟩
theorem all_counter_of (Y : TxtC K mg w) (F : Fun K "counter_of" "counter_of" scounter_of f fd) (b : Binds K fd Pcounter_of []) (m : mg "counter_of" = some (.ref f)) (C : Cal P w K mg base "is_leaf" 1 Nis_leaf (spLeafT K)) : ∀ n : Nat, FnOk P w K mg base CX0 (1 + n) f fd Pcounter_of (spCounterOf K n)
  | 0 => vac fun vs H Q E ⟨_, _, _, _, h, _⟩ => Nat.not_lt_zero _ h
  | n + 1 => okcounter_of Y C F ⟨f, fd, all_counter_of Y F b m C n, m, F.kp, b⟩
theorem all_leaf_count (F : Fun K "leaf_count" "leaf_count" sleaf_count f fd) (b : Binds K fd Pleaf_count []) (m : mg "leaf_count" = some (.ref f)) (C : Cal P w K mg base "is_leaf" 1 Pis_leaf (spIsLeaf K)) : ∀ n : Nat, FnOk P w K mg base CX0 (1 + n) f fd Pleaf_count (spLeafCount K n)
  | 0 => vac fun vs H Q E ⟨_, k, _, _, h, _⟩ => Nat.not_lt_zero k h
  | n + 1 => okleaf_count F C ⟨f, fd, all_leaf_count F b m C n, m, F.kp, b⟩
theorem all_law_counter (F : Fun K "_law_counter" "_law_counter" s_law_counter f fd) (b : Binds K fd P_law_counter' []) (m : mg "_law_counter" = some (.ref f)) : ∀ n : Nat, FnOk P w K mg base CX0 n f fd P_law_counter' (spCounterOf K n)
  | 0 => vac fun vs H Q E ⟨_, _, _, _, h, _⟩ => Nat.not_lt_zero _ h
  | n + 1 => ok_law_counter F ⟨f, fd, all_law_counter F b m n, m, F.kp, b⟩
theorem all_law_leaves (T : Txt K mg) (F : Fun K "_law_leaves" "_law_leaves" s_law_leaves f fd) (b : Binds K fd P_law_counter' []) (m : mg "_law_leaves" = some (.ref f)) : ∀ n : Nat, FnOk P w K mg base CX0 n f fd P_law_counter' (spLeavesL K n)
  | 0 => vac fun vs H Q E ⟨_, _, _, _, h, _⟩ => Nat.not_lt_zero _ h
  | n + 1 => ok_law_leaves T F ⟨f, fd, all_law_leaves T F b m n, m, F.kp, b⟩
theorem all_law_depth (T : Txt K mg) (F : Fun K "_law_depth" "_law_depth" s_law_depth f fd) (b : Binds K fd P_law_counter' []) (m : mg "_law_depth" = some (.ref f)) : ∀ n : Nat, FnOk P w K mg base CX0 n f fd P_law_counter' (spDepthL K n)
  | 0 => vac fun vs H Q E ⟨_, _, _, _, h, _⟩ => Nat.not_lt_zero _ h
  | n + 1 => ok_law_depth T F ⟨f, fd, all_law_depth T F b m n, m, F.kp, b⟩
theorem all_law_form (C1 : Cal P w K mg base "_law_draw" 1 ["_law_pen", "_law_span"] (spDraw K)) (C2 : Cal P w K mg base "_law_pick" 2 ["_law_pen", "_law_some"] (spPick K)) (F : Fun K "_law_form" "_law_form" s_law_form f fd) (b : Binds K fd P_law_form []) (m : mg "_law_form" = some (.ref f)) : ∀ n : Nat, FnOk P w K mg base CX0 (2 + n) f fd P_law_form (spFormD K n)
  | 0 => vac fun vs H Q E ⟨_, _, _, _, _, k, _, _, _, _, _, _, _, h, _⟩ => Nat.not_lt_zero k h
  | n + 1 => ok_law_form C1 C2 F ⟨f, fd, all_law_form C1 C2 F b m n, m, F.kp, b⟩
theorem der_depth {D : PyData} : 1 ≤ depS D := by
  rw [depS_eq]
  omega
theorem all_law_ends_of (C : Cal P w K mg base "_law_without" 1 P_law_without (spWithoutL K)) (F : Fun K "_law_ends_of" "_law_ends_of" s_law_ends_of f fd) (b : Binds K fd P_law_ends_of []) (m : mg "_law_ends_of" = some (.ref f)) : ∀ n : Nat, FnOk P w K mg base CX0 (1 + n) f fd P_law_ends_of (spEndsOfL K n)
  | 0 => vac fun vs H Q E ⟨_, D, _, _, _, _, h, _⟩ => absurd h (by have := @der_depth D; omega)
  | n + 1 => ok_law_ends_of C F ⟨f, fd, all_law_ends_of C F b m n, m, F.kp, b⟩
theorem all_law_size (hs : mg "sum" = none) (C : Cal P w K mg base "_law_within" 1 P_law_ends_of (spWithinL K)) (F : Fun K "_law_size" "_law_size" s_law_size f fd) (b : Binds K fd P_law_ends_of []) (m : mg "_law_size" = some (.ref f)) : ∀ n : Nat, FnOk P w K mg base CX0 (1 + n) f fd P_law_ends_of (spSizeL K n)
  | 0 => vac fun vs H Q E ⟨_, D, _, _, _, _, h, _⟩ => absurd h (by have := @der_depth D; omega)
  | n + 1 => ok_law_size hs C F ⟨f, fd, all_law_size hs C F b m n, m, F.kp, b⟩
theorem all_law_plain (C : Cal P w K mg base "_law_counter" 13 P_law_counter' (spCounterOf K 13)) (F : Fun K "_law_plain" "_law_plain" s_law_plain f fd) (b : Binds K fd P_law_counter' []) (m : mg "_law_plain" = some (.ref f)) : ∀ n : Nat, n ≤ 13 → FnOk P w K mg base CX0 (13 + n) f fd P_law_counter' (spPlain K n)
  | 0, _ => vac fun vs H Q E ⟨_, _, _, _, h, _⟩ => Nat.not_lt_zero _ h
  | n + 1, h => ok_law_plain (by omega) C F ⟨f, fd, all_law_plain C F b m n (by omega), m, F.kp, b⟩
theorem no_dpt {s : ST} (h : s.dpt ≤ 0) : False := by have := dpt_pos s; omega
theorem all_law_forks (T : Txt K mg) (F : Fun K "_law_forks" "_law_forks" s_law_forks f fd) (b : Binds K fd P_law_forks []) (m : mg "_law_forks" = some (.ref f)) : ∀ n : Nat, FnOk P w K mg base CX0 n f fd P_law_forks (spForks K n)
  | 0 => vac fun vs H Q E ⟨_, _, _, _, h, _⟩ => Nat.not_lt_zero _ h
  | n + 1 => ok_law_forks T F ⟨f, fd, all_law_forks T F b m n, m, F.kp, b⟩
theorem all_law_links (hs : mg "sum" = none) (C : Cal P w K mg base "_law_within" 1 P_law_ends_of (spWithinL K)) (F : Fun K "_law_links" "_law_links" s_law_links f fd) (b : Binds K fd P_law_links []) (m : mg "_law_links" = some (.ref f)) : ∀ n : Nat, FnOk P w K mg base CX0 (1 + n) f fd P_law_links (spLinks K n)
  | 0 => vac fun vs H Q E ⟨_, _, _, _, h, _⟩ => no_dpt h
  | n + 1 => ok_law_links hs C F ⟨f, fd, all_law_links hs C F b m n, m, F.kp, b⟩
theorem all_law_count_words (T : Txt K mg) (hs : mg "sum" = none) (C : Cal P w K mg base "_law_within" 1 P_law_ends_of (spWithinL K)) (F : Fun K "_law_count_words" "_law_count_words" s_law_count_words f fd) (b : Binds K fd P_law_count_words []) (m : mg "_law_count_words" = some (.ref f)) : ∀ n : Nat, FnOk P w K mg base CX0 (1 + n) f fd P_law_count_words (spCountW K n)
  | 0 => vac fun vs H Q E ⟨_, _, _, _, _, h, _⟩ => no_dpt h
  | n + 1 => ok_law_count_words T hs C F ⟨f, fd, all_law_count_words T hs C F b m n, m, F.kp, b⟩
theorem all_law_in_order (C : Cal P w K mg base "_law_within" 1 P_law_ends_of (spWithinL K)) (F : Fun K "_law_in_order" "_law_in_order" s_law_in_order f fd) (b : Binds K fd P_law_in_order []) (m : mg "_law_in_order" = some (.ref f)) : ∀ n : Nat, FnOk P w K mg base CX0 (1 + n) f fd P_law_in_order (spInOrd K n)
  | 0 => vac fun vs H Q E ⟨_, _, _, _, h, _⟩ => no_dpt h
  | n + 1 => ok_law_in_order C F ⟨f, fd, all_law_in_order C F b m n, m, F.kp, b⟩
theorem all_law_exchanged (T : Txt K mg) (C_law_draw : Cal P w K mg base "_law_draw" 1 P_law_draw (spDraw K)) (C_law_ends_of : Cal P w K mg base "_law_ends_of" 61 P_law_ends_of (spEndsOfL K 60)) (C_law_within : Cal P w K mg base "_law_within" 1 P_law_ends_of (spWithinL K))
    (C_law_lifted : Cal P w K mg base "_law_lifted" 62 P_law_lifted (spLifted K)) (C_law_leaves : Cal P w K mg base "_law_leaves" 13 P_law_counter' (spLeavesL K 13)) (C_law_plain : Cal P w K mg base "_law_plain" 26 P_law_counter' (spPlain K 13)) (C_law_last_at : Cal P w K mg base "_law_last_at" 62 P_law_last_at (spLastAt K 60)) (C_law_shuffled : Cal P w K mg base "_law_shuffled" 2 P_law_shuffled (spShufN K))
    (F : Fun K "_law_exchanged" "_law_exchanged" s_law_exchanged f fd) (b : Binds K fd P_law_exchanged []) (m : mg "_law_exchanged" = some (.ref f)) : ∀ n : Nat, FnOk P w K mg base CX0 (62 + n) f fd P_law_exchanged (spExch K n)
  | 0 => vac fun vs H Q E ⟨_, _, _, _, _, _, _, _, _, _, _, _, _, h, _⟩ => no_dpt h
  | n + 1 => ok_law_exchanged T C_law_draw C_law_ends_of C_law_within C_law_lifted C_law_leaves C_law_plain C_law_last_at C_law_shuffled F ⟨f, fd, all_law_exchanged T C_law_draw C_law_ends_of C_law_within C_law_lifted C_law_leaves C_law_plain C_law_last_at C_law_shuffled F b m n, m, F.kp, b⟩
theorem all_law_renamed_form (T : Txt K mg) (F : Fun K "_law_renamed_form" "_law_renamed_form" s_law_renamed_form f fd) (b : Binds K fd P_law_renamed_form []) (m : mg "_law_renamed_form" = some (.ref f)) : ∀ n : Nat, FnOk P w K mg base CX0 n f fd P_law_renamed_form (spRenF K n)
  | 0 => vac fun vs H Q E ⟨_, _, _, _, _, _, h, _⟩ => Nat.not_lt_zero _ h
  | n + 1 => ok_law_renamed_form T F ⟨f, fd, all_law_renamed_form T F b m n, m, F.kp, b⟩
theorem all_law_renamed (T : Txt K mg) (C : Cal P w K mg base "_law_within" 1 P_law_ends_of (spWithinL K)) (C2 : Cal P w K mg base "_law_renamed_form" 13 P_law_renamed_form (spRenF K 13)) (F : Fun K "_law_renamed" "_law_renamed" s_law_renamed f fd) (b : Binds K fd P_law_renamed []) (m : mg "_law_renamed" = some (.ref f)) : ∀ n : Nat, FnOk P w K mg base CX0 (13 + n) f fd P_law_renamed (spRen K n)
  | 0 => vac fun vs H Q E ⟨_, _, _, _, _, _, _, h, _⟩ => no_dpt h
  | n + 1 => ok_law_renamed T C C2 F ⟨f, fd, all_law_renamed T C C2 F b m n, m, F.kp, b⟩
/-- a def kept under its address -/
theorem held {k j : Nat} {ps : List Str} {sp : Sp} (ok : FnOk P w K mg base CX0 k f fd ps sp) (hk : k ≤ j) (kp : PySem.W.keepIn K (.ref f) = true) (b : Binds K fd ps []) : Held P w K mg base j f sp := ⟨fd, ps, ok.mono hk, kp, b⟩
end
end My

set_option Elab.async false
set_option linter.all false
set_option maxRecDepth 100000
namespace My
open PySem L2 Gd
/-- whether an error of the class at A is what «except B» names -/
theorem exm_two {K : PySem.W.Frag} {A B : Addr} {b : Bool} (h1 : PySem.W.subIn K (.ref B) (.type "BaseException") = some true) (h2 : PySem.W.isClsIn K B = true) (h3 : PySem.W.typeIn K (.ref B) = some (.type "type")) (h4 : PySem.W.subIn K (.ref A) (.ref B) = some b) : PySem.W.exmOne K (.ref A) (.ref B) = some b := by
  have e1 : (PySem.W.subIn K (.ref B) (.type "BaseException") == some true) = true := by rw [h1] <;> rfl
  have e2 : ((PySem.W.clsIn K B).isSome && PySem.W.typeIn K (.ref B) == some (.type "type")) = true := by
    have h2' : (PySem.W.clsIn K B).isSome = true := h2
    rw [h2', h3] <;> rfl
  show (if (PySem.W.subIn K (.ref B) (.type "BaseException") == some true) = true then (if ((PySem.W.clsIn K B).isSome && PySem.W.typeIn K (.ref B) == some (.type "type")) = true then PySem.W.subIn K (.ref A) (.ref B) else none) else none) = some b
  rw [if_pos e1, if_pos e2]
  exact h4
end My

set_option Elab.async false
set_option linter.all false
set_option maxRecDepth 100000
namespace My
open PySem L2
set_option maxHeartbeats 0 in
theorem all_mk {l : PySem.W.OpenLaw} {w : World} {K : PySem.W.Frag} {h : Heap} {mg : Str → Option Value} {fa f1 f2 f3 f4 f5 f6 f7 f8 f9 f10 f11 f12 f13 f14 f15 f16 f17 f18 f19 f20 f21 f22 f23 f24 f25 f26 f27 f28 f29 f30 f31 f32 f33 f34 f35 f36 f37 f38 f39 f40 f41 f42 f43 f44 f45 f46 f47 f48 f49 f50 f51 f52 f53 f54 f55 f56 f57 f58 f59 f60 f61 f62 f63 f64 f65 f66 f67 f68 f69 f70 f71 f72 aL aH aC aN aW aM CD EB EN ED EM cc1 Pt1 dT1 dT2 : Addr} (X : K.In h) (G : h.Ns mainGlobals mg) (hfa : mg "law" = some (.ref fa))
    {od1 an1 od2 an2 od3 an3 od4 an4 od5 an5 od6 an6 od7 an7 od8 an8 od9 an9 od10 an10 od11 an11 od12 an12 od13 an13 od14 an14 od15 an15 od16 an16 od17 an17 od18 an18 od19 an19 od20 an20 od21 an21 od22 an22 od23 an23 od24 an24 od25 an25 od26 an26 od27 an27 od28 an28 od29 an29 od30 an30 od31 an31 od32 an32 od33 an33 od34 an34 od35 an35 od36 an36 od37 an37 od38 an38 od39 an39 od40 an40 od41 an41 od42 an42 od43 an43 od44 an44 od45 an45 od46 an46 od47 an47 od48 an48 od49 an49 od50 an50 od51 an51 od52 an52 od53 an53 od54 an54 od55 an55 od56 an56 od57 an57 od58 an58 od59 an59 od60 an60 od61 an61 od62 an62 od63 an63 od64 an64 od65 an65 od66 an66 od67 an67 od68 an68 od69 an69 od70 an70 od71 an71 od72 an72 odL odH odT1 odT2 : Option Addr} {sl1 sl2 sl3 sl4 sl5 sl6 sl7 sl8 sl9 sl10 sl11 sl12 sl13 sl14 sl15 sl16 sl17 sl18 sl19 sl20 sl21 sl22 sl23 sl24 sl25 sl26 sl27 sl28 sl29 sl30 sl31 sl32 sl33 sl34 sl35 sl36 sl37 sl38 sl39 sl40 sl41 sl42 sl43 sl44 sl45 sl46 sl47 sl48 sl49 sl50 sl51 sl52 sl53 sl54 sl55 sl56 sl57 sl58 sl59 sl60 sl61 sl62 sl63 sl64 sl65 sl66 sl67 sl68 sl69 sl70 sl71 sl72 slL slH slT1 slT2 : Array (Option Value)} {oc1 kV1 dc1 pm1 cd1 ct1 oc2 kV2 dc2 pm2 cd2 ct2 oc3 kV3 dc3 pm3 cd3 ct3 oc4 kV4 dc4 pm4 cd4 ct4 oc5 kV5 dc5 pm5 cd5 ct5 oc6 kV6 dc6 pm6 cd6 ct6 oc7 kV7 dc7 pm7 cd7 ct7 oc8 kV8 dc8 pm8 cd8 ct8 oc9 kV9 dc9 pm9 cd9 ct9 oc10 kV10 dc10 pm10 cd10 ct10 oc11 kV11 dc11 pm11 cd11 ct11 oc12 kV12 dc12 pm12 cd12 ct12 oc13 kV13 dc13 pm13 cd13 ct13 oc14 kV14 dc14 pm14 cd14 ct14 oc15 kV15 dc15 pm15 cd15 ct15 oc16 kV16 dc16 pm16 cd16 ct16 oc17 kV17 dc17 pm17 cd17 ct17 oc18 kV18 dc18 pm18 cd18 ct18 oc19 kV19 dc19 pm19 cd19 ct19 oc20 kV20 dc20 pm20 cd20 ct20 oc21 kV21 dc21 pm21 cd21 ct21 oc22 kV22 dc22 pm22 cd22 ct22 oc23 kV23 dc23 pm23 cd23 ct23 oc24 kV24 dc24 pm24 cd24 ct24 oc25 kV25 dc25 pm25 cd25 ct25 oc26 kV26 dc26 pm26 cd26 ct26 oc27 kV27 dc27 pm27 cd27 ct27 oc28 kV28 dc28 pm28 cd28 ct28 oc29 kV29 dc29 pm29 cd29 ct29 oc30 kV30 dc30 pm30 cd30 ct30 oc31 kV31 dc31 pm31 cd31 ct31 oc32 kV32 dc32 pm32 cd32 ct32 oc33 kV33 dc33 pm33 cd33 ct33 oc34 kV34 dc34 pm34 cd34 ct34 oc35 kV35 dc35 pm35 cd35 ct35 oc36 kV36 dc36 pm36 cd36 ct36 oc37 kV37 dc37 pm37 cd37 ct37 oc38 kV38 dc38 pm38 cd38 ct38 oc39 kV39 dc39 pm39 cd39 ct39 oc40 kV40 dc40 pm40 cd40 ct40 oc41 kV41 dc41 pm41 cd41 ct41 oc42 kV42 dc42 pm42 cd42 ct42 oc43 kV43 dc43 pm43 cd43 ct43 oc44 kV44 dc44 pm44 cd44 ct44 oc45 kV45 dc45 pm45 cd45 ct45 oc46 kV46 dc46 pm46 cd46 ct46 oc47 kV47 dc47 pm47 cd47 ct47 oc48 kV48 dc48 pm48 cd48 ct48 oc49 kV49 dc49 pm49 cd49 ct49 oc50 kV50 dc50 pm50 cd50 ct50 oc51 kV51 dc51 pm51 cd51 ct51 oc52 kV52 dc52 pm52 cd52 ct52 oc53 kV53 dc53 pm53 cd53 ct53 oc54 kV54 dc54 pm54 cd54 ct54 oc55 kV55 dc55 pm55 cd55 ct55 oc56 kV56 dc56 pm56 cd56 ct56 oc57 kV57 dc57 pm57 cd57 ct57 oc58 kV58 dc58 pm58 cd58 ct58 oc59 kV59 dc59 pm59 cd59 ct59 oc60 kV60 dc60 pm60 cd60 ct60 oc61 kV61 dc61 pm61 cd61 ct61 oc62 kV62 dc62 pm62 cd62 ct62 oc63 kV63 dc63 pm63 cd63 ct63 oc64 kV64 dc64 pm64 cd64 ct64 oc65 kV65 dc65 pm65 cd65 ct65 oc66 kV66 dc66 pm66 cd66 ct66 oc67 kV67 dc67 pm67 cd67 ct67 oc68 kV68 dc68 pm68 ct68 oc69 kV69 dc69 pm69 cd69 ct69 oc70 kV70 dc70 pm70 cd70 ct70 oc71 kV71 dc71 pm71 cd71 ct71 oc72 kV72 dc72 pm72 cd72 ct72  : Value} {tl td tn tp tq tr ts u1 u2 u3 u4 u5 u6 v1 v2 v3 v4 v5 v6 q1 q2 q3 q4 q5 q6 q7 tx1_0 tx2_0 : Tok} {nL nH nC nN nW nM nT1 nT2 : Nat} {esC esN esW esM : Array DictEntry}
    {nmEB qEB : Str} {NEB : Addr} {bsEB bmEB : List Value} {snEB : List Str} {subEB : List Value} {abEB : Bool} {colEB : Option Bool} {ddEB : Option Addr} {mz0EB mz1EB mz2EB mz3EB mz5EB : Option Value}
    (tP1 : h.get? Pt1 = some { cls := .none, data := .fields #[] })
    (a1 : PySem.W.nsIn K mainGlobals "fits_name" = some (some (.ref f1)))
    (l1 : K.lookup f1 = some ⟨oc1, od1, .func (PySem.W.fnOf "fits_name" "fits_name" (defArgs sfits_name) (defBody sfits_name) (defScope sfits_name) .none kV1 dc1 pm1 an1 cd1 ct1), sl1⟩)
    (c1 : PySem.W.codeIn K cd1 "fits_name" = true)
    (k1 : PySem.W.keepIn K (.ref f1) = true)
    (a2 : PySem.W.nsIn K mainGlobals "fits_form" = some (some (.ref f2)))
    (l2 : K.lookup f2 = some ⟨oc2, od2, .func (PySem.W.fnOf "fits_form" "fits_form" (defArgs sfits_form) (defBody sfits_form) (defScope sfits_form) .none kV2 dc2 pm2 an2 cd2 ct2), sl2⟩)
    (c2 : PySem.W.codeIn K cd2 "fits_form" = true)
    (k2 : PySem.W.keepIn K (.ref f2) = true)
    (a3 : PySem.W.nsIn K mainGlobals "fits_ends" = some (some (.ref f3)))
    (l3 : K.lookup f3 = some ⟨oc3, od3, .func (PySem.W.fnOf "fits_ends" "fits_ends" (defArgs sfits_ends) (defBody sfits_ends) (defScope sfits_ends) .none kV3 dc3 pm3 an3 cd3 ct3), sl3⟩)
    (c3 : PySem.W.codeIn K cd3 "fits_ends" = true)
    (k3 : PySem.W.keepIn K (.ref f3) = true)
    (a4 : PySem.W.nsIn K mainGlobals "is_leaf" = some (some (.ref f4)))
    (l4 : K.lookup f4 = some ⟨oc4, od4, .func (PySem.W.fnOf "is_leaf" "is_leaf" (defArgs sis_leaf) (defBody sis_leaf) (defScope sis_leaf) .none kV4 dc4 pm4 an4 cd4 ct4), sl4⟩)
    (c4 : PySem.W.codeIn K cd4 "is_leaf" = true)
    (k4 : PySem.W.keepIn K (.ref f4) = true)
    (a5 : PySem.W.nsIn K mainGlobals "counter_of" = some (some (.ref f5)))
    (l5 : K.lookup f5 = some ⟨oc5, od5, .func (PySem.W.fnOf "counter_of" "counter_of" (defArgs scounter_of) (defBody scounter_of) (defScope scounter_of) .none kV5 dc5 pm5 an5 cd5 ct5), sl5⟩)
    (c5 : PySem.W.codeIn K cd5 "counter_of" = true)
    (k5 : PySem.W.keepIn K (.ref f5) = true)
    (a6 : PySem.W.nsIn K mainGlobals "leaf_count" = some (some (.ref f6)))
    (l6 : K.lookup f6 = some ⟨oc6, od6, .func (PySem.W.fnOf "leaf_count" "leaf_count" (defArgs sleaf_count) (defBody sleaf_count) (defScope sleaf_count) .none kV6 dc6 pm6 an6 cd6 ct6), sl6⟩)
    (c6 : PySem.W.codeIn K cd6 "leaf_count" = true)
    (k6 : PySem.W.keepIn K (.ref f6) = true)
    (a7 : PySem.W.nsIn K mainGlobals "is_integer" = some (some (.ref f7)))
    (l7 : K.lookup f7 = some ⟨oc7, od7, .func (PySem.W.fnOf "is_integer" "is_integer" (defArgs sis_integer) (defBody sis_integer) (defScope sis_integer) .none kV7 dc7 pm7 an7 cd7 ct7), sl7⟩)
    (c7 : PySem.W.codeIn K cd7 "is_integer" = true)
    (k7 : PySem.W.keepIn K (.ref f7) = true)
    (a8 : PySem.W.nsIn K mainGlobals "is_number_below" = some (some (.ref f8)))
    (l8 : K.lookup f8 = some ⟨oc8, od8, .func (PySem.W.fnOf "is_number_below" "is_number_below" (defArgs sis_number_below) (defBody sis_number_below) (defScope sis_number_below) .none kV8 dc8 pm8 an8 cd8 ct8), sl8⟩)
    (c8 : PySem.W.codeIn K cd8 "is_number_below" = true)
    (k8 : PySem.W.keepIn K (.ref f8) = true)
    (a9 : PySem.W.nsIn K mainGlobals "is_side" = some (some (.ref f9)))
    (l9 : K.lookup f9 = some ⟨oc9, od9, .func (PySem.W.fnOf "is_side" "is_side" (defArgs sis_side) (defBody sis_side) (defScope sis_side) .none kV9 dc9 pm9 an9 cd9 ct9), sl9⟩)
    (c9 : PySem.W.codeIn K cd9 "is_side" = true)
    (k9 : PySem.W.keepIn K (.ref f9) = true)
    (a10 : PySem.W.nsIn K mainGlobals "is_order" = some (some (.ref f10)))
    (l10 : K.lookup f10 = some ⟨oc10, od10, .func (PySem.W.fnOf "is_order" "is_order" (defArgs sis_order) (defBody sis_order) (defScope sis_order) .none kV10 dc10 pm10 an10 cd10 ct10), sl10⟩)
    (c10 : PySem.W.codeIn K cd10 "is_order" = true)
    (k10 : PySem.W.keepIn K (.ref f10) = true)
    (a11 : PySem.W.nsIn K mainGlobals "has_shape" = some (some (.ref f11)))
    (l11 : K.lookup f11 = some ⟨oc11, od11, .func (PySem.W.fnOf "has_shape" "has_shape" (defArgs shas_shape) (defBody shas_shape) (defScope shas_shape) .none kV11 dc11 pm11 an11 cd11 ct11), sl11⟩)
    (c11 : PySem.W.codeIn K cd11 "has_shape" = true)
    (k11 : PySem.W.keepIn K (.ref f11) = true)
    (a12 : PySem.W.nsIn K mainGlobals "steps_within" = some (some (.ref f12)))
    (l12 : K.lookup f12 = some ⟨oc12, od12, .func (PySem.W.fnOf "steps_within" "steps_within" (defArgs ssteps_within) (defBody ssteps_within) (defScope ssteps_within) .none kV12 dc12 pm12 an12 cd12 ct12), sl12⟩)
    (c12 : PySem.W.codeIn K cd12 "steps_within" = true)
    (k12 : PySem.W.keepIn K (.ref f12) = true)
    (a13 : PySem.W.nsIn K mainGlobals "steps_in_order" = some (some (.ref f13)))
    (l13 : K.lookup f13 = some ⟨oc13, od13, .func (PySem.W.fnOf "steps_in_order" "steps_in_order" (defArgs ssteps_in_order) (defBody ssteps_in_order) (defScope ssteps_in_order) .none kV13 dc13 pm13 an13 cd13 ct13), sl13⟩)
    (c13 : PySem.W.codeIn K cd13 "steps_in_order" = true)
    (k13 : PySem.W.keepIn K (.ref f13) = true)
    (a14 : PySem.W.nsIn K mainGlobals "taken_from" = some (some (.ref f14)))
    (l14 : K.lookup f14 = some ⟨oc14, od14, .func (PySem.W.fnOf "taken_from" "taken_from" (defArgs staken_from) (defBody staken_from) (defScope staken_from) .none kV14 dc14 pm14 an14 cd14 ct14), sl14⟩)
    (c14 : PySem.W.codeIn K cd14 "taken_from" = true)
    (k14 : PySem.W.keepIn K (.ref f14) = true)
    (a15 : PySem.W.nsIn K mainGlobals "depth_of_steps" = some (some (.ref f15)))
    (l15 : K.lookup f15 = some ⟨oc15, od15, .func (PySem.W.fnOf "depth_of_steps" "depth_of_steps" (defArgs sdepth_of_steps) (defBody sdepth_of_steps) (defScope sdepth_of_steps) .none kV15 dc15 pm15 an15 cd15 ct15), sl15⟩)
    (c15 : PySem.W.codeIn K cd15 "depth_of_steps" = true)
    (k15 : PySem.W.keepIn K (.ref f15) = true)
    (a16 : PySem.W.nsIn K mainGlobals "without" = some (some (.ref f16)))
    (l16 : K.lookup f16 = some ⟨oc16, od16, .func (PySem.W.fnOf "without" "without" (defArgs swithout) (defBody swithout) (defScope swithout) .none kV16 dc16 pm16 an16 cd16 ct16), sl16⟩)
    (c16 : PySem.W.codeIn K cd16 "without" = true)
    (k16 : PySem.W.keepIn K (.ref f16) = true)
    (a17 : PySem.W.nsIn K mainGlobals "link_ends" = some (some (.ref f17)))
    (l17 : K.lookup f17 = some ⟨oc17, od17, .func (PySem.W.fnOf "link_ends" "link_ends" (defArgs slink_ends) (defBody slink_ends) (defScope slink_ends) .none kV17 dc17 pm17 an17 cd17 ct17), sl17⟩)
    (c17 : PySem.W.codeIn K cd17 "link_ends" = true)
    (k17 : PySem.W.keepIn K (.ref f17) = true)
    (a18 : PySem.W.nsIn K mainGlobals "are_numbers" = some (some (.ref f18)))
    (l18 : K.lookup f18 = some ⟨oc18, od18, .func (PySem.W.fnOf "are_numbers" "are_numbers" (defArgs sare_numbers) (defBody sare_numbers) (defScope sare_numbers) .none kV18 dc18 pm18 an18 cd18 ct18), sl18⟩)
    (c18 : PySem.W.codeIn K cd18 "are_numbers" = true)
    (k18 : PySem.W.keepIn K (.ref f18) = true)
    (a19 : PySem.W.nsIn K mainGlobals "both_ends" = some (some (.ref f19)))
    (l19 : K.lookup f19 = some ⟨oc19, od19, .func (PySem.W.fnOf "both_ends" "both_ends" (defArgs sboth_ends) (defBody sboth_ends) (defScope sboth_ends) .none kV19 dc19 pm19 an19 cd19 ct19), sl19⟩)
    (c19 : PySem.W.codeIn K cd19 "both_ends" = true)
    (k19 : PySem.W.keepIn K (.ref f19) = true)
    (a20 : PySem.W.nsIn K mainGlobals "between_ends" = some (some (.ref f20)))
    (l20 : K.lookup f20 = some ⟨oc20, od20, .func (PySem.W.fnOf "between_ends" "between_ends" (defArgs sbetween_ends) (defBody sbetween_ends) (defScope sbetween_ends) .none kV20 dc20 pm20 an20 cd20 ct20), sl20⟩)
    (c20 : PySem.W.codeIn K cd20 "between_ends" = true)
    (k20 : PySem.W.keepIn K (.ref f20) = true)
    (a21 : PySem.W.nsIn K mainGlobals "offer_ends" = some (some (.ref f21)))
    (l21 : K.lookup f21 = some ⟨oc21, od21, .func (PySem.W.fnOf "offer_ends" "offer_ends" (defArgs soffer_ends) (defBody soffer_ends) (defScope soffer_ends) .none kV21 dc21 pm21 an21 cd21 ct21), sl21⟩)
    (c21 : PySem.W.codeIn K cd21 "offer_ends" = true)
    (k21 : PySem.W.keepIn K (.ref f21) = true)
    (a22 : PySem.W.nsIn K mainGlobals "choose_ends" = some (some (.ref f22)))
    (l22 : K.lookup f22 = some ⟨oc22, od22, .func (PySem.W.fnOf "choose_ends" "choose_ends" (defArgs schoose_ends) (defBody schoose_ends) (defScope schoose_ends) .none kV22 dc22 pm22 an22 cd22 ct22), sl22⟩)
    (c22 : PySem.W.codeIn K cd22 "choose_ends" = true)
    (k22 : PySem.W.keepIn K (.ref f22) = true)
    (a23 : PySem.W.nsIn K mainGlobals "hand_ends" = some (some (.ref f23)))
    (l23 : K.lookup f23 = some ⟨oc23, od23, .func (PySem.W.fnOf "hand_ends" "hand_ends" (defArgs shand_ends) (defBody shand_ends) (defScope shand_ends) .none kV23 dc23 pm23 an23 cd23 ct23), sl23⟩)
    (c23 : PySem.W.codeIn K cd23 "hand_ends" = true)
    (k23 : PySem.W.keepIn K (.ref f23) = true)
    (a24 : PySem.W.nsIn K mainGlobals "turn_ends" = some (some (.ref f24)))
    (l24 : K.lookup f24 = some ⟨oc24, od24, .func (PySem.W.fnOf "turn_ends" "turn_ends" (defArgs sturn_ends) (defBody sturn_ends) (defScope sturn_ends) .none kV24 dc24 pm24 an24 cd24 ct24), sl24⟩)
    (c24 : PySem.W.codeIn K cd24 "turn_ends" = true)
    (k24 : PySem.W.keepIn K (.ref f24) = true)
    (a25 : PySem.W.nsIn K mainGlobals "ends_of_step" = some (some (.ref f25)))
    (l25 : K.lookup f25 = some ⟨oc25, od25, .func (PySem.W.fnOf "ends_of_step" "ends_of_step" (defArgs sends_of_step) (defBody sends_of_step) (defScope sends_of_step) .none kV25 dc25 pm25 an25 cd25 ct25), sl25⟩)
    (c25 : PySem.W.codeIn K cd25 "ends_of_step" = true)
    (k25 : PySem.W.keepIn K (.ref f25) = true)
    (a26 : PySem.W.nsIn K mainGlobals "ends_in_order" = some (some (.ref f26)))
    (l26 : K.lookup f26 = some ⟨oc26, od26, .func (PySem.W.fnOf "ends_in_order" "ends_in_order" (defArgs sends_in_order) (defBody sends_in_order) (defScope sends_in_order) .none kV26 dc26 pm26 an26 cd26 ct26), sl26⟩)
    (c26 : PySem.W.codeIn K cd26 "ends_in_order" = true)
    (k26 : PySem.W.keepIn K (.ref f26) = true)
    (a27 : PySem.W.nsIn K mainGlobals "steps_of" = some (some (.ref f27)))
    (l27 : K.lookup f27 = some ⟨oc27, od27, .func (PySem.W.fnOf "steps_of" "steps_of" (defArgs ssteps_of) (defBody ssteps_of) (defScope ssteps_of) .none kV27 dc27 pm27 an27 cd27 ct27), sl27⟩)
    (c27 : PySem.W.codeIn K cd27 "steps_of" = true)
    (k27 : PySem.W.keepIn K (.ref f27) = true)
    (a28 : PySem.W.nsIn K mainGlobals "check_deed" = some (some (.ref f28)))
    (l28 : K.lookup f28 = some ⟨oc28, od28, .func (PySem.W.fnOf "check_deed" "check_deed" (defArgs scheck_deed) (defBody scheck_deed) (defScope scheck_deed) .none kV28 dc28 pm28 an28 cd28 ct28), sl28⟩)
    (c28 : PySem.W.codeIn K cd28 "check_deed" = true)
    (k28 : PySem.W.keepIn K (.ref f28) = true)
    (a29 : PySem.W.nsIn K mainGlobals "check_step_number" = some (some (.ref f29)))
    (l29 : K.lookup f29 = some ⟨oc29, od29, .func (PySem.W.fnOf "check_step_number" "check_step_number" (defArgs scheck_step_number) (defBody scheck_step_number) (defScope scheck_step_number) .none kV29 dc29 pm29 an29 cd29 ct29), sl29⟩)
    (c29 : PySem.W.codeIn K cd29 "check_step_number" = true)
    (k29 : PySem.W.keepIn K (.ref f29) = true)
    (a30 : PySem.W.nsIn K mainGlobals "step_of" = some (some (.ref f30)))
    (l30 : K.lookup f30 = some ⟨oc30, od30, .func (PySem.W.fnOf "step_of" "step_of" (defArgs sstep_of) (defBody sstep_of) (defScope sstep_of) .none kV30 dc30 pm30 an30 cd30 ct30), sl30⟩)
    (c30 : PySem.W.codeIn K cd30 "step_of" = true)
    (k30 : PySem.W.keepIn K (.ref f30) = true)
    (a31 : PySem.W.nsIn K mainGlobals "replaced" = some (some (.ref f31)))
    (l31 : K.lookup f31 = some ⟨oc31, od31, .func (PySem.W.fnOf "replaced" "replaced" (defArgs sreplaced) (defBody sreplaced) (defScope sreplaced) .none kV31 dc31 pm31 an31 cd31 ct31), sl31⟩)
    (c31 : PySem.W.codeIn K cd31 "replaced" = true)
    (k31 : PySem.W.keepIn K (.ref f31) = true)
    (a32 : PySem.W.nsIn K mainGlobals "deed_text" = some (some (.ref f32)))
    (l32 : K.lookup f32 = some ⟨oc32, od32, .func (PySem.W.fnOf "deed_text" "deed_text" (defArgs sdeed_text) (defBody sdeed_text) (defScope sdeed_text) .none kV32 dc32 pm32 an32 cd32 ct32), sl32⟩)
    (c32 : PySem.W.codeIn K cd32 "deed_text" = true)
    (k32 : PySem.W.keepIn K (.ref f32) = true)
    (a33 : PySem.W.nsIn K mainGlobals "_law_begin" = some (some (.ref f33)))
    (l33 : K.lookup f33 = some ⟨oc33, od33, .func (PySem.W.fnOf "_law_begin" "_law_begin" (defArgs s_law_begin) (defBody s_law_begin) (defScope s_law_begin) .none kV33 dc33 pm33 an33 cd33 ct33), sl33⟩)
    (c33 : PySem.W.codeIn K cd33 "_law_begin" = true)
    (k33 : PySem.W.keepIn K (.ref f33) = true)
    (a34 : PySem.W.nsIn K mainGlobals "_law_draw" = some (some (.ref f34)))
    (l34 : K.lookup f34 = some ⟨oc34, od34, .func (PySem.W.fnOf "_law_draw" "_law_draw" (defArgs s_law_draw) (defBody s_law_draw) (defScope s_law_draw) .none kV34 dc34 pm34 an34 cd34 ct34), sl34⟩)
    (c34 : PySem.W.codeIn K cd34 "_law_draw" = true)
    (k34 : PySem.W.keepIn K (.ref f34) = true)
    (a35 : PySem.W.nsIn K mainGlobals "_law_pick" = some (some (.ref f35)))
    (l35 : K.lookup f35 = some ⟨oc35, od35, .func (PySem.W.fnOf "_law_pick" "_law_pick" (defArgs s_law_pick) (defBody s_law_pick) (defScope s_law_pick) .none kV35 dc35 pm35 an35 cd35 ct35), sl35⟩)
    (c35 : PySem.W.codeIn K cd35 "_law_pick" = true)
    (k35 : PySem.W.keepIn K (.ref f35) = true)
    (a36 : PySem.W.nsIn K mainGlobals "_law_shuffled" = some (some (.ref f36)))
    (l36 : K.lookup f36 = some ⟨oc36, od36, .func (PySem.W.fnOf "_law_shuffled" "_law_shuffled" (defArgs s_law_shuffled) (defBody s_law_shuffled) (defScope s_law_shuffled) .none kV36 dc36 pm36 an36 cd36 ct36), sl36⟩)
    (c36 : PySem.W.codeIn K cd36 "_law_shuffled" = true)
    (k36 : PySem.W.keepIn K (.ref f36) = true)
    (a37 : PySem.W.nsIn K mainGlobals "_law_counter" = some (some (.ref f37)))
    (l37 : K.lookup f37 = some ⟨oc37, od37, .func (PySem.W.fnOf "_law_counter" "_law_counter" (defArgs s_law_counter) (defBody s_law_counter) (defScope s_law_counter) .none kV37 dc37 pm37 an37 cd37 ct37), sl37⟩)
    (c37 : PySem.W.codeIn K cd37 "_law_counter" = true)
    (k37 : PySem.W.keepIn K (.ref f37) = true)
    (a38 : PySem.W.nsIn K mainGlobals "_law_leaves" = some (some (.ref f38)))
    (l38 : K.lookup f38 = some ⟨oc38, od38, .func (PySem.W.fnOf "_law_leaves" "_law_leaves" (defArgs s_law_leaves) (defBody s_law_leaves) (defScope s_law_leaves) .none kV38 dc38 pm38 an38 cd38 ct38), sl38⟩)
    (c38 : PySem.W.codeIn K cd38 "_law_leaves" = true)
    (k38 : PySem.W.keepIn K (.ref f38) = true)
    (a39 : PySem.W.nsIn K mainGlobals "_law_forks" = some (some (.ref f39)))
    (l39 : K.lookup f39 = some ⟨oc39, od39, .func (PySem.W.fnOf "_law_forks" "_law_forks" (defArgs s_law_forks) (defBody s_law_forks) (defScope s_law_forks) .none kV39 dc39 pm39 an39 cd39 ct39), sl39⟩)
    (c39 : PySem.W.codeIn K cd39 "_law_forks" = true)
    (k39 : PySem.W.keepIn K (.ref f39) = true)
    (a40 : PySem.W.nsIn K mainGlobals "_law_depth" = some (some (.ref f40)))
    (l40 : K.lookup f40 = some ⟨oc40, od40, .func (PySem.W.fnOf "_law_depth" "_law_depth" (defArgs s_law_depth) (defBody s_law_depth) (defScope s_law_depth) .none kV40 dc40 pm40 an40 cd40 ct40), sl40⟩)
    (c40 : PySem.W.codeIn K cd40 "_law_depth" = true)
    (k40 : PySem.W.keepIn K (.ref f40) = true)
    (a41 : PySem.W.nsIn K mainGlobals "_law_form" = some (some (.ref f41)))
    (l41 : K.lookup f41 = some ⟨oc41, od41, .func (PySem.W.fnOf "_law_form" "_law_form" (defArgs s_law_form) (defBody s_law_form) (defScope s_law_form) .none kV41 dc41 pm41 an41 cd41 ct41), sl41⟩)
    (c41 : PySem.W.codeIn K cd41 "_law_form" = true)
    (k41 : PySem.W.keepIn K (.ref f41) = true)
    (a42 : PySem.W.nsIn K mainGlobals "_law_without" = some (some (.ref f42)))
    (l42 : K.lookup f42 = some ⟨oc42, od42, .func (PySem.W.fnOf "_law_without" "_law_without" (defArgs s_law_without) (defBody s_law_without) (defScope s_law_without) .none kV42 dc42 pm42 an42 cd42 ct42), sl42⟩)
    (c42 : PySem.W.codeIn K cd42 "_law_without" = true)
    (k42 : PySem.W.keepIn K (.ref f42) = true)
    (a43 : PySem.W.nsIn K mainGlobals "_law_ends_of" = some (some (.ref f43)))
    (l43 : K.lookup f43 = some ⟨oc43, od43, .func (PySem.W.fnOf "_law_ends_of" "_law_ends_of" (defArgs s_law_ends_of) (defBody s_law_ends_of) (defScope s_law_ends_of) .none kV43 dc43 pm43 an43 cd43 ct43), sl43⟩)
    (c43 : PySem.W.codeIn K cd43 "_law_ends_of" = true)
    (k43 : PySem.W.keepIn K (.ref f43) = true)
    (a44 : PySem.W.nsIn K mainGlobals "_law_leaf_many" = some (some (.ref f44)))
    (l44 : K.lookup f44 = some ⟨oc44, od44, .func (PySem.W.fnOf "_law_leaf_many" "_law_leaf_many" (defArgs s_law_leaf_many) (defBody s_law_leaf_many) (defScope s_law_leaf_many) .none kV44 dc44 pm44 an44 cd44 ct44), sl44⟩)
    (c44 : PySem.W.codeIn K cd44 "_law_leaf_many" = true)
    (k44 : PySem.W.keepIn K (.ref f44) = true)
    (a45 : PySem.W.nsIn K mainGlobals "_law_within" = some (some (.ref f45)))
    (l45 : K.lookup f45 = some ⟨oc45, od45, .func (PySem.W.fnOf "_law_within" "_law_within" (defArgs s_law_within) (defBody s_law_within) (defScope s_law_within) .none kV45 dc45 pm45 an45 cd45 ct45), sl45⟩)
    (c45 : PySem.W.codeIn K cd45 "_law_within" = true)
    (k45 : PySem.W.keepIn K (.ref f45) = true)
    (a46 : PySem.W.nsIn K mainGlobals "_law_size" = some (some (.ref f46)))
    (l46 : K.lookup f46 = some ⟨oc46, od46, .func (PySem.W.fnOf "_law_size" "_law_size" (defArgs s_law_size) (defBody s_law_size) (defScope s_law_size) .none kV46 dc46 pm46 an46 cd46 ct46), sl46⟩)
    (c46 : PySem.W.codeIn K cd46 "_law_size" = true)
    (k46 : PySem.W.keepIn K (.ref f46) = true)
    (a47 : PySem.W.nsIn K mainGlobals "_law_links" = some (some (.ref f47)))
    (l47 : K.lookup f47 = some ⟨oc47, od47, .func (PySem.W.fnOf "_law_links" "_law_links" (defArgs s_law_links) (defBody s_law_links) (defScope s_law_links) .none kV47 dc47 pm47 an47 cd47 ct47), sl47⟩)
    (c47 : PySem.W.codeIn K cd47 "_law_links" = true)
    (k47 : PySem.W.keepIn K (.ref f47) = true)
    (a48 : PySem.W.nsIn K mainGlobals "_law_plain" = some (some (.ref f48)))
    (l48 : K.lookup f48 = some ⟨oc48, od48, .func (PySem.W.fnOf "_law_plain" "_law_plain" (defArgs s_law_plain) (defBody s_law_plain) (defScope s_law_plain) .none kV48 dc48 pm48 an48 cd48 ct48), sl48⟩)
    (c48 : PySem.W.codeIn K cd48 "_law_plain" = true)
    (k48 : PySem.W.keepIn K (.ref f48) = true)
    (a49 : PySem.W.nsIn K mainGlobals "_law_turned" = some (some (.ref f49)))
    (l49 : K.lookup f49 = some ⟨oc49, od49, .func (PySem.W.fnOf "_law_turned" "_law_turned" (defArgs s_law_turned) (defBody s_law_turned) (defScope s_law_turned) .none kV49 dc49 pm49 an49 cd49 ct49), sl49⟩)
    (c49 : PySem.W.codeIn K cd49 "_law_turned" = true)
    (k49 : PySem.W.keepIn K (.ref f49) = true)
    (a50 : PySem.W.nsIn K mainGlobals "_law_last_at" = some (some (.ref f50)))
    (l50 : K.lookup f50 = some ⟨oc50, od50, .func (PySem.W.fnOf "_law_last_at" "_law_last_at" (defArgs s_law_last_at) (defBody s_law_last_at) (defScope s_law_last_at) .none kV50 dc50 pm50 an50 cd50 ct50), sl50⟩)
    (c50 : PySem.W.codeIn K cd50 "_law_last_at" = true)
    (k50 : PySem.W.keepIn K (.ref f50) = true)
    (a51 : PySem.W.nsIn K mainGlobals "_law_offer_to" = some (some (.ref f51)))
    (l51 : K.lookup f51 = some ⟨oc51, od51, .func (PySem.W.fnOf "_law_offer_to" "_law_offer_to" (defArgs s_law_offer_to) (defBody s_law_offer_to) (defScope s_law_offer_to) .none kV51 dc51 pm51 an51 cd51 ct51), sl51⟩)
    (c51 : PySem.W.codeIn K cd51 "_law_offer_to" = true)
    (k51 : PySem.W.keepIn K (.ref f51) = true)
    (a52 : PySem.W.nsIn K mainGlobals "_law_crossed" = some (some (.ref f52)))
    (l52 : K.lookup f52 = some ⟨oc52, od52, .func (PySem.W.fnOf "_law_crossed" "_law_crossed" (defArgs s_law_crossed) (defBody s_law_crossed) (defScope s_law_crossed) .none kV52 dc52 pm52 an52 cd52 ct52), sl52⟩)
    (c52 : PySem.W.codeIn K cd52 "_law_crossed" = true)
    (k52 : PySem.W.keepIn K (.ref f52) = true)
    (a53 : PySem.W.nsIn K mainGlobals "_law_handed" = some (some (.ref f53)))
    (l53 : K.lookup f53 = some ⟨oc53, od53, .func (PySem.W.fnOf "_law_handed" "_law_handed" (defArgs s_law_handed) (defBody s_law_handed) (defScope s_law_handed) .none kV53 dc53 pm53 an53 cd53 ct53), sl53⟩)
    (c53 : PySem.W.codeIn K cd53 "_law_handed" = true)
    (k53 : PySem.W.keepIn K (.ref f53) = true)
    (a54 : PySem.W.nsIn K mainGlobals "_law_grown" = some (some (.ref f54)))
    (l54 : K.lookup f54 = some ⟨oc54, od54, .func (PySem.W.fnOf "_law_grown" "_law_grown" (defArgs s_law_grown) (defBody s_law_grown) (defScope s_law_grown) .none kV54 dc54 pm54 an54 cd54 ct54), sl54⟩)
    (c54 : PySem.W.codeIn K cd54 "_law_grown" = true)
    (k54 : PySem.W.keepIn K (.ref f54) = true)
    (a55 : PySem.W.nsIn K mainGlobals "_law_count_words" = some (some (.ref f55)))
    (l55 : K.lookup f55 = some ⟨oc55, od55, .func (PySem.W.fnOf "_law_count_words" "_law_count_words" (defArgs s_law_count_words) (defBody s_law_count_words) (defScope s_law_count_words) .none kV55 dc55 pm55 an55 cd55 ct55), sl55⟩)
    (c55 : PySem.W.codeIn K cd55 "_law_count_words" = true)
    (k55 : PySem.W.keepIn K (.ref f55) = true)
    (a56 : PySem.W.nsIn K mainGlobals "_law_deed" = some (some (.ref f56)))
    (l56 : K.lookup f56 = some ⟨oc56, od56, .func (PySem.W.fnOf "_law_deed" "_law_deed" (defArgs s_law_deed) (defBody s_law_deed) (defScope s_law_deed) (.ref dT1) kV56 dc56 pm56 an56 cd56 ct56), sl56⟩)
    (c56 : PySem.W.codeIn K cd56 "_law_deed" = true)
    (k56 : PySem.W.keepIn K (.ref f56) = true)
    (a57 : PySem.W.nsIn K mainGlobals "_law_is_small" = some (some (.ref f57)))
    (l57 : K.lookup f57 = some ⟨oc57, od57, .func (PySem.W.fnOf "_law_is_small" "_law_is_small" (defArgs s_law_is_small) (defBody s_law_is_small) (defScope s_law_is_small) (.ref dT2) kV57 dc57 pm57 an57 cd57 ct57), sl57⟩)
    (c57 : PySem.W.codeIn K cd57 "_law_is_small" = true)
    (k57 : PySem.W.keepIn K (.ref f57) = true)
    (a58 : PySem.W.nsIn K mainGlobals "_law_lifted" = some (some (.ref f58)))
    (l58 : K.lookup f58 = some ⟨oc58, od58, .func (PySem.W.fnOf "_law_lifted" "_law_lifted" (defArgs s_law_lifted) (defBody s_law_lifted) (defScope s_law_lifted) .none kV58 dc58 pm58 an58 cd58 ct58), sl58⟩)
    (c58 : PySem.W.codeIn K cd58 "_law_lifted" = true)
    (k58 : PySem.W.keepIn K (.ref f58) = true)
    (a59 : PySem.W.nsIn K mainGlobals "_law_exchanged" = some (some (.ref f59)))
    (l59 : K.lookup f59 = some ⟨oc59, od59, .func (PySem.W.fnOf "_law_exchanged" "_law_exchanged" (defArgs s_law_exchanged) (defBody s_law_exchanged) (defScope s_law_exchanged) .none kV59 dc59 pm59 an59 cd59 ct59), sl59⟩)
    (c59 : PySem.W.codeIn K cd59 "_law_exchanged" = true)
    (k59 : PySem.W.keepIn K (.ref f59) = true)
    (a60 : PySem.W.nsIn K mainGlobals "_law_outcome" = some (some (.ref f60)))
    (l60 : K.lookup f60 = some ⟨oc60, od60, .func (PySem.W.fnOf "_law_outcome" "_law_outcome" (defArgs s_law_outcome) (defBody s_law_outcome) (defScope s_law_outcome) .none kV60 dc60 pm60 an60 cd60 ct60), sl60⟩)
    (c60 : PySem.W.codeIn K cd60 "_law_outcome" = true)
    (k60 : PySem.W.keepIn K (.ref f60) = true)
    (a61 : PySem.W.nsIn K mainGlobals "_law_same" = some (some (.ref f61)))
    (l61 : K.lookup f61 = some ⟨oc61, od61, .func (PySem.W.fnOf "_law_same" "_law_same" (defArgs s_law_same) (defBody s_law_same) (defScope s_law_same) .none kV61 dc61 pm61 an61 cd61 ct61), sl61⟩)
    (c61 : PySem.W.codeIn K cd61 "_law_same" = true)
    (k61 : PySem.W.keepIn K (.ref f61) = true)
    (a62 : PySem.W.nsIn K mainGlobals "_law_in_order" = some (some (.ref f62)))
    (l62 : K.lookup f62 = some ⟨oc62, od62, .func (PySem.W.fnOf "_law_in_order" "_law_in_order" (defArgs s_law_in_order) (defBody s_law_in_order) (defScope s_law_in_order) .none kV62 dc62 pm62 an62 cd62 ct62), sl62⟩)
    (c62 : PySem.W.codeIn K cd62 "_law_in_order" = true)
    (k62 : PySem.W.keepIn K (.ref f62) = true)
    (a63 : PySem.W.nsIn K mainGlobals "_law_deed_right" = some (some (.ref f63)))
    (l63 : K.lookup f63 = some ⟨oc63, od63, .func (PySem.W.fnOf "_law_deed_right" "_law_deed_right" (defArgs s_law_deed_right) (defBody s_law_deed_right) (defScope s_law_deed_right) .none kV63 dc63 pm63 an63 cd63 ct63), sl63⟩)
    (c63 : PySem.W.codeIn K cd63 "_law_deed_right" = true)
    (k63 : PySem.W.keepIn K (.ref f63) = true)
    (a64 : PySem.W.nsIn K mainGlobals "_law_name" = some (some (.ref f64)))
    (l64 : K.lookup f64 = some ⟨oc64, od64, .func (PySem.W.fnOf "_law_name" "_law_name" (defArgs s_law_name) (defBody s_law_name) (defScope s_law_name) .none kV64 dc64 pm64 an64 cd64 ct64), sl64⟩)
    (c64 : PySem.W.codeIn K cd64 "_law_name" = true)
    (k64 : PySem.W.keepIn K (.ref f64) = true)
    (a65 : PySem.W.nsIn K mainGlobals "_law_renamed" = some (some (.ref f65)))
    (l65 : K.lookup f65 = some ⟨oc65, od65, .func (PySem.W.fnOf "_law_renamed" "_law_renamed" (defArgs s_law_renamed) (defBody s_law_renamed) (defScope s_law_renamed) .none kV65 dc65 pm65 an65 cd65 ct65), sl65⟩)
    (c65 : PySem.W.codeIn K cd65 "_law_renamed" = true)
    (k65 : PySem.W.keepIn K (.ref f65) = true)
    (a66 : PySem.W.nsIn K mainGlobals "_law_renamed_form" = some (some (.ref f66)))
    (l66 : K.lookup f66 = some ⟨oc66, od66, .func (PySem.W.fnOf "_law_renamed_form" "_law_renamed_form" (defArgs s_law_renamed_form) (defBody s_law_renamed_form) (defScope s_law_renamed_form) .none kV66 dc66 pm66 an66 cd66 ct66), sl66⟩)
    (c66 : PySem.W.codeIn K cd66 "_law_renamed_form" = true)
    (k66 : PySem.W.keepIn K (.ref f66) = true)
    (a67 : PySem.W.nsIn K mainGlobals "_law_named_deed" = some (some (.ref f67)))
    (l67 : K.lookup f67 = some ⟨oc67, od67, .func (PySem.W.fnOf "_law_named_deed" "_law_named_deed" (defArgs s_law_named_deed) (defBody s_law_named_deed) (defScope s_law_named_deed) .none kV67 dc67 pm67 an67 cd67 ct67), sl67⟩)
    (c67 : PySem.W.codeIn K cd67 "_law_named_deed" = true)
    (k67 : PySem.W.keepIn K (.ref f67) = true)
    (a68 : PySem.W.nsIn K mainGlobals "law" = some (some (.ref f68)))
    (l68 : K.lookup f68 = some ⟨oc68, od68, .func (PySem.W.fnOf "law" "law" (defArgs slaw) (defBody slaw) (defScope slaw) .none kV68 dc68 pm68 an68 (.ref cc1) ct68), sl68⟩)
    (c68 : PySem.W.codeIn K (.ref cc1) "law" = true)
    (k68 : PySem.W.keepIn K (.ref f68) = true)
    (v1T : K.lookup dT1 = some ⟨.type "tuple", odT1, .seq #[.int 8 tx1_0] nT1, slT1⟩)
    (v2T : K.lookup dT2 = some ⟨.type "tuple", odT2, .seq #[.int 8 tx2_0] nT2, slT2⟩)
    (tN1 : K.lookup Pt1 = none)
    (tC1 : PySem.W.codeHdIn K cc1 Pt1 = true)
    (gCD : PySem.W.nsIn K mainGlobals "Deed" = some (some (.ref CD)))
    (pgCD : PySem.W.plainGet K CD Str.empty = true)
    (hdCD : PySem.W.hasDictIn K CD = true)
    (poCD : PySem.W.plainOver K CD = true)
    (saCD : PySem.W.findIn K (.ref CD) "__setattr__" = some (some (.builtin "object.__setattr__")))
    (mkCD : PySem.W.makesIn K CD = true)
    (kpCD : PySem.W.keepIn K (.ref CD) = true)
    (nD0 : PySem.W.findIn K (.ref CD) "steps" = some none)
    (nD1 : PySem.W.findIn K (.ref CD) "ends" = some none)
    (haCD : PySem.W.findIn K (.ref CD) "__class__" = some (some (.builtin "object.__class__")))
    (hnCD : PySem.W.specialIn K (.builtin "object.__class__") "__get__" = some (some (.builtin "getset_descriptor.__get__")))
    (htCD : PySem.W.takesIn K (.builtin "object.__class__") = some true)
    (hmCD : PySem.W.mroIn K CD (.type "object") = some true)
    (gEB : PySem.W.nsIn K mainGlobals "BadValue" = some (some (.ref EB)))
    (gaEB : PySem.W.findIn K (.ref EB) "__getattribute__" = some (some (.builtin "BaseException.__getattribute__")))
    (ggEB : PySem.W.findIn K (.ref EB) "__getattr__" = some none)
    (exEB : PySem.W.subIn K (.ref EB) (.type "BaseException") = some true)
    (hdEB : PySem.W.hasDictIn K EB = true)
    (noEB : PySem.W.findIn K (.ref EB) "value" = some none)
    (isEB : PySem.W.isClsIn K EB = true)
    (tyEB : PySem.W.typeIn K (.ref EB) = some (.type "type"))
    (gEN : PySem.W.nsIn K mainGlobals "NotAText" = some (some (.ref EN)))
    (gaEN : PySem.W.findIn K (.ref EN) "__getattribute__" = some (some (.builtin "BaseException.__getattribute__")))
    (ggEN : PySem.W.findIn K (.ref EN) "__getattr__" = some none)
    (exEN : PySem.W.subIn K (.ref EN) (.type "BaseException") = some true)
    (hdEN : PySem.W.hasDictIn K EN = true)
    (noEN : PySem.W.findIn K (.ref EN) "at" = some none)
    (isEN : PySem.W.isClsIn K EN = true)
    (tyEN : PySem.W.typeIn K (.ref EN) = some (.type "type"))
    (gED : PySem.W.nsIn K mainGlobals "TooDeep" = some (some (.ref ED)))
    (gaED : PySem.W.findIn K (.ref ED) "__getattribute__" = some (some (.builtin "BaseException.__getattribute__")))
    (ggED : PySem.W.findIn K (.ref ED) "__getattr__" = some none)
    (exED : PySem.W.subIn K (.ref ED) (.type "BaseException") = some true)
    (hdED : PySem.W.hasDictIn K ED = true)
    (noED : PySem.W.findIn K (.ref ED) "most" = some none)
    (isED : PySem.W.isClsIn K ED = true)
    (tyED : PySem.W.typeIn K (.ref ED) = some (.type "type"))
    (gEM : PySem.W.nsIn K mainGlobals "TooMany" = some (some (.ref EM)))
    (gaEM : PySem.W.findIn K (.ref EM) "__getattribute__" = some (some (.builtin "BaseException.__getattribute__")))
    (ggEM : PySem.W.findIn K (.ref EM) "__getattr__" = some none)
    (exEM : PySem.W.subIn K (.ref EM) (.type "BaseException") = some true)
    (hdEM : PySem.W.hasDictIn K EM = true)
    (noEM : PySem.W.findIn K (.ref EM) "most" = some none)
    (isEM : PySem.W.isClsIn K EM = true)
    (tyEM : PySem.W.typeIn K (.ref EM) = some (.type "type"))
    (sBB : PySem.W.subIn K (.ref EB) (.ref EB) = some true)
    (sNB : PySem.W.subIn K (.ref EN) (.ref EB) = some false)
    (sNN : PySem.W.subIn K (.ref EN) (.ref EN) = some true)
    (sDB : PySem.W.subIn K (.ref ED) (.ref EB) = some false)
    (sDN : PySem.W.subIn K (.ref ED) (.ref EN) = some false)
    (sDD : PySem.W.subIn K (.ref ED) (.ref ED) = some true)
    (sMB : PySem.W.subIn K (.ref EM) (.ref EB) = some false)
    (sMN : PySem.W.subIn K (.ref EM) (.ref EN) = some false)
    (sMD : PySem.W.subIn K (.ref EM) (.ref ED) = some false)
    (sMM : PySem.W.subIn K (.ref EM) (.ref EM) = some true)
    (xEB : K.lookup EB = some (excClassObj nmEB qEB EB NEB bsEB bmEB true snEB subEB abEB colEB ddEB mz0EB mz1EB mz2EB mz3EB mz5EB "ValueError.__new__"))
    (rEB : PySem.HandSPX.refsVE bmEB = true)
    (saEB : PySem.W.findIn K (.ref EB) "__setattr__" = some (some (.builtin "object.__setattr__")))
    (kEB : PySem.W.keepIn K (.ref EB) = true)
    (isCD : PySem.W.isClsIn K CD = true)
    (tyCD : PySem.W.typeIn K (.ref CD) = some (.type "type"))
    (a69 : PySem.W.findIn K (.ref CD) "__init__" = some (some (.ref f69)))
    (i69 : PySem.W.isFn K (.ref f69) = true)
    (l69 : K.lookup f69 = some ⟨oc69, od69, .func (PySem.W.fnOf "__init__" "Deed.__init__" (defArgs sDd0) (defBody sDd0) (defScope sDd0) .none kV69 dc69 pm69 an69 cd69 ct69), sl69⟩)
    (c69 : PySem.W.codeIn K cd69 "Deed.__init__" = true)
    (k69 : PySem.W.keepIn K (.ref f69) = true)
    (a70 : PySem.W.findIn K (.ref CD) "__eq__" = some (some (.ref f70)))
    (i70 : PySem.W.isFn K (.ref f70) = true)
    (l70 : K.lookup f70 = some ⟨oc70, od70, .func (PySem.W.fnOf "__eq__" "Deed.__eq__" (defArgs sDd1) (defBody sDd1) (defScope sDd1) .none kV70 dc70 pm70 an70 cd70 ct70), sl70⟩)
    (c70 : PySem.W.codeIn K cd70 "Deed.__eq__" = true)
    (k70 : PySem.W.keepIn K (.ref f70) = true)
    (a71 : PySem.W.findIn K (.ref CD) "size" = some (some (.ref f71)))
    (i71 : PySem.W.isFn K (.ref f71) = true)
    (l71 : K.lookup f71 = some ⟨oc71, od71, .func (PySem.W.fnOf "size" "Deed.size" (defArgs sDd2) (defBody sDd2) (defScope sDd2) .none kV71 dc71 pm71 an71 cd71 ct71), sl71⟩)
    (c71 : PySem.W.codeIn K cd71 "Deed.size" = true)
    (k71 : PySem.W.keepIn K (.ref f71) = true)
    (a72 : PySem.W.findIn K (.ref EB) "__init__" = some (some (.ref f72)))
    (i72 : PySem.W.typeIn K (.ref f72) = some (.type "function"))
    (l72 : K.lookup f72 = some ⟨oc72, od72, .func (PySem.W.fnOf "__init__" "BadValue.__init__" (defArgs (meth 2 0)) (defBody (meth 2 0)) (defScope (meth 2 0)) .none kV72 dc72 pm72 an72 cd72 ct72), sl72⟩)
    (c72 : PySem.W.codeIn K cd72 "BadValue.__init__" = true)
    (k72 : PySem.W.keepIn K (.ref f72) = true)
    (z1 : PySem.W.nsIn K mainGlobals "isinstance" = some none)
    (z2 : PySem.W.nsIn K mainGlobals "len" = some none)
    (z3 : PySem.W.nsIn K mainGlobals "all" = some none)
    (z4 : PySem.W.nsIn K mainGlobals "str" = some none)
    (z5 : PySem.W.nsIn K mainGlobals "tuple" = some none)
    (z6 : PySem.W.nsIn K mainGlobals "int" = some none)
    (z7 : PySem.W.nsIn K mainGlobals "list" = some none)
    (z8 : PySem.W.nsIn K mainGlobals "abs" = some none)
    (z9 : PySem.W.nsIn K mainGlobals "max" = some none)
    (z10 : PySem.W.nsIn K mainGlobals "min" = some none)
    (z11 : PySem.W.nsIn K mainGlobals "range" = some none)
    (z12 : PySem.W.nsIn K mainGlobals "bool" = some none)
    (z13 : PySem.W.nsIn K mainGlobals "zip" = some none)
    (z14 : PySem.W.nsIn K mainGlobals "enumerate" = some none)
    (z15 : PySem.W.nsIn K mainGlobals "sum" = some none)
    (z16 : PySem.W.nsIn K mainGlobals "sorted" = some none)
    (z17 : PySem.W.nsIn K mainGlobals "repr" = some none)
    (y1 : PySem.W.nsIn K mainGlobals "LETTERS" = some (some (.str zLetters tl)))
    (y2 : PySem.W.nsIn K mainGlobals "DIGITS" = some (some (.str zDigits td)))
    (y3 : PySem.W.nsIn K mainGlobals "LONGEST_NAME" = some (some (.int 12 tn)))
    (y4 : PySem.W.nsIn K mainGlobals "DEEPEST" = some (some (.int 12 tp)))
    (y5 : PySem.W.nsIn K mainGlobals "LEAF_WORDS" = some (some (.ref aL)))
    (y6 : K.lookup aL = some ⟨.type "tuple", odL, .seq #[.str (Str.ofString "good") u1, .str (Str.ofString "counter") u2] nL, slL⟩)
    (y7 : PySem.W.nsIn K mainGlobals "HALVED_WORDS" = some (some (.ref aH)))
    (y8 : K.lookup aH = some ⟨.type "tuple", odH, .seq #[.str (Str.ofString "both") u3, .str (Str.ofString "between") u4, .str (Str.ofString "offered") u5, .str (Str.ofString "chosen") u6] nH, slH⟩)
    (y9 : PySem.W.nsIn K mainGlobals "MOST_LEAVES" = some (some (.int 40 tq)))
    (y10 : PySem.W.nsIn K mainGlobals "MOST_STEPS" = some (some (.int 400 tr)))
    (y11 : PySem.W.nsIn K mainGlobals "MOST_DEPTH" = some (some (.int 100 ts)))
    (y13 : PySem.W.nsIn K mainGlobals "COUNTER_WORDS" = some (some (.ref aC)))
    (y14 : K.lookup aC = some ⟨.type "dict", none, .dict esC nC, #[]⟩)
    (y15 : PySem.W.KeysLit w.params esC.toList)
    (e1 : PySem.W.nsIn K aC "good" = some (some (.str (Str.ofString "counter") v1)))
    (e2 : PySem.W.nsIn K aC "counter" = some (some (.str (Str.ofString "good") v2)))
    (e3 : PySem.W.nsIn K aC "both" = some (some (.str (Str.ofString "between") v3)))
    (e4 : PySem.W.nsIn K aC "between" = some (some (.str (Str.ofString "both") v4)))
    (e5 : PySem.W.nsIn K aC "offered" = some (some (.str (Str.ofString "chosen") v5)))
    (e6 : PySem.W.nsIn K aC "chosen" = some (some (.str (Str.ofString "offered") v6)))
    (y16 : PySem.W.nsIn K mainGlobals "LENGTHS" = some (some (.ref aN)))
    (y17 : K.lookup aN = some ⟨.type "dict", none, .dict esN nN, #[]⟩)
    (y18 : PySem.W.KeysLit w.params esN.toList)
    (y19 : Paired (fun (e : DictEntry) (kv : Str × V) => ∃ t, e.key = .str kv.1 t ∧ RelV kv.2 e.val) esN.toList lensL)
    (y20 : (aN == sysModules) = false)
    (y21 : PySem.W.nsIn K mainGlobals "WITHIN" = some (some (.ref aW)))
    (y22 : K.lookup aW = some ⟨.type "dict", none, .dict esW nW, #[]⟩)
    (y23 : PySem.W.KeysLit w.params esW.toList)
    (d1 : PySem.W.nsIn K aW "link" = some (some (.int 0 q1)))
    (d2 : PySem.W.nsIn K aW "both" = some (some (.int 2 q2)))
    (d3 : PySem.W.nsIn K aW "between" = some (some (.int 1 q3)))
    (d4 : PySem.W.nsIn K aW "offer" = some (some (.int 2 q4)))
    (d5 : PySem.W.nsIn K aW "choose" = some (some (.int 1 q5)))
    (d6 : PySem.W.nsIn K aW "hand" = some (some (.int 2 q6)))
    (d7 : PySem.W.nsIn K aW "turn" = some (some (.int 1 q7)))
    (y24 : PySem.W.nsIn K mainGlobals "MAKERS" = some (some (.ref aM)))
    (y25 : K.lookup aM = some ⟨.type "dict", none, .dict esM nM, #[]⟩)
    (y26 : PySem.W.KeysLit w.params esM.toList)
    (m1M : PySem.W.nsIn K aM "link" = some (some (.ref f17)))
    (m2M : PySem.W.nsIn K aM "both" = some (some (.ref f19)))
    (m3M : PySem.W.nsIn K aM "between" = some (some (.ref f20)))
    (m4M : PySem.W.nsIn K aM "offer" = some (some (.ref f21)))
    (m5M : PySem.W.nsIn K aM "choose" = some (some (.ref f22)))
    (m6M : PySem.W.nsIn K aM "hand" = some (some (.ref f23)))
    (m7M : PySem.W.nsIn K aM "turn" = some (some (.ref f24))) :
    Gd.LawG l w K 112 63 "_law_script" mg fa h := by
  have e := hfa.symm.trans (PySem.W.mg_of X G a68)
  cases e
  have T : Txt K mg := {
    isinstance := PySem.W.mg_none_of X G z1, len := PySem.W.mg_none_of X G z2, all := PySem.W.mg_none_of X G z3, str := PySem.W.mg_none_of X G z4, tuple := PySem.W.mg_none_of X G z5, int := PySem.W.mg_none_of X G z6
    list := PySem.W.mg_none_of X G z7, abs := PySem.W.mg_none_of X G z8, max := PySem.W.mg_none_of X G z9, min := PySem.W.mg_none_of X G z10, range := PySem.W.mg_none_of X G z11, bool := PySem.W.mg_none_of X G z12
    LETTERS := ⟨_, PySem.W.mg_of X G y1, ⟨_, rfl⟩⟩, DIGITS := ⟨_, PySem.W.mg_of X G y2, ⟨_, rfl⟩⟩, LONGEST_NAME := ⟨_, PySem.W.mg_of X G y3, ⟨_, rfl⟩⟩, DEEPEST := ⟨_, PySem.W.mg_of X G y4, ⟨_, rfl⟩⟩
    aLeaf := aL, LEAF_WORDS := ⟨_, PySem.W.mg_of X G y5, rfl⟩, sLeaf := fun H => .inr ⟨_, _, _, y6, rfl, rfl, (by show 2 ≤ sizeLine; decide), .cons ⟨_, rfl⟩ (.cons ⟨_, rfl⟩ .nil)⟩
    aHalf := aH, HALVED_WORDS := ⟨_, PySem.W.mg_of X G y7, rfl⟩, sHalf := fun H => .inr ⟨_, _, _, y8, rfl, rfl, (by show 4 ≤ sizeLine; decide), .cons ⟨_, rfl⟩ (.cons ⟨_, rfl⟩ (.cons ⟨_, rfl⟩ (.cons ⟨_, rfl⟩ .nil)))⟩ }
  have T7 : Txt7 K mg := { T with zip := PySem.W.mg_none_of X G z13, enumerate := PySem.W.mg_none_of X G z14, MOST_LEAVES := ⟨_, PySem.W.mg_of X G y9, ⟨_, rfl⟩⟩ }
  have YM : TxtM K mg := ⟨⟨_, PySem.W.mg_of X G y10, ⟨_, rfl⟩⟩, ⟨_, PySem.W.mg_of X G y11, ⟨_, rfl⟩⟩, ⟨_, PySem.W.mg_of X G y9, ⟨_, rfl⟩⟩⟩
  have YC : TxtC K mg w := {
    aCW := aC, COUNTER_WORDS := ⟨_, PySem.W.mg_of X G y13, rfl⟩
    kL := fun co => by
      cases co
      · exact ⟨esC, nC, _, y14, y15, e1, ⟨_, rfl⟩⟩
      · exact ⟨esC, nC, _, y14, y15, e2, ⟨_, rfl⟩⟩
    kN := fun s => by
      cases s
      · exact ⟨esC, nC, _, y14, y15, e3, ⟨_, rfl⟩⟩
      · exact ⟨esC, nC, _, y14, y15, e4, ⟨_, rfl⟩⟩
      · exact ⟨esC, nC, _, y14, y15, e5, ⟨_, rfl⟩⟩
      · exact ⟨esC, nC, _, y14, y15, e6, ⟨_, rfl⟩⟩ }
  have YD : TxtD K mg w := {
    aL := aN, LENGTHS := ⟨_, PySem.W.mg_of X G y16, rfl⟩, dL := ⟨y20, esN, nN, y17, y18⟩, gL := fun z => kgt_lens y17 y18 y19 z
    aW := aW, WITHIN := ⟨_, PySem.W.mg_of X G y21, rfl⟩
    gW := fun z hz => by
      rcases len_cases hz with rfl | rfl | rfl | rfl | rfl | rfl | rfl
      · exact ⟨esW, nW, _, y22, y23, d1, by rw [wid_link]; exact ⟨_, rfl⟩⟩
      · exact ⟨esW, nW, _, y22, y23, d2, by rw [wid_both]; exact ⟨_, rfl⟩⟩
      · exact ⟨esW, nW, _, y22, y23, d3, by rw [wid_between]; exact ⟨_, rfl⟩⟩
      · exact ⟨esW, nW, _, y22, y23, d4, by rw [wid_offer]; exact ⟨_, rfl⟩⟩
      · exact ⟨esW, nW, _, y22, y23, d5, by rw [wid_choose]; exact ⟨_, rfl⟩⟩
      · exact ⟨esW, nW, _, y22, y23, d6, by rw [wid_hand]; exact ⟨_, rfl⟩⟩
      · exact ⟨esW, nW, _, y22, y23, d7, by rw [wid_turn]; exact ⟨_, rfl⟩⟩ }
  let TE : ErrT K mg := {
    B := EB, N := EN, D := ED, M := EM, gB := PySem.W.mg_of X G gEB, gN := PySem.W.mg_of X G gEN, gD := PySem.W.mg_of X G gED, gM := PySem.W.mg_of X G gEM
    xB := ⟨gaEB, ggEB, exEB, hdEB⟩, xN := ⟨gaEN, ggEN, exEN, hdEN⟩, xD := ⟨gaED, ggED, exED, hdED⟩, xM := ⟨gaEM, ggEM, exEM, hdEM⟩
    nB := noEB, nN := noEN, nD := noED, nM := noEM
    BB := exm_two exEB isEB tyEB sBB, NB := exm_two exEB isEB tyEB sNB, NN := exm_two exEN isEN tyEN sNN, DB := exm_two exEB isEB tyEB sDB, DN := exm_two exEN isEN tyEN sDN, DD := exm_two exED isED tyED sDD
    MB := exm_two exEB isEB tyEB sMB, MN := exm_two exEN isEN tyEN sMN, MD := exm_two exED isED tyED sMD, MM := exm_two exEM isEM tyEM sMM }
  have F1 := fun_mk (st := sfits_name) l1 c1 k1
  have b1 := F1.binds (ps := ["value"]) fun _ _ _ _ _ _ us hl => match us, hl with | [_], _ => rfl
  have m1 := PySem.W.mg_of X G a1
  have F2 := fun_mk (st := sfits_form) l2 c2 k2
  have b2 := F2.binds (ps := ["value", "room"]) fun _ _ _ _ _ _ us hl => match us, hl with | [_, _], _ => rfl
  have m2 := PySem.W.mg_of X G a2
  have F3 := fun_mk (st := sfits_ends) l3 c3 k3
  have b3 := F3.binds (ps := ["value"]) fun _ _ _ _ _ _ us hl => match us, hl with | [_], _ => rfl
  have m3 := PySem.W.mg_of X G a3
  have F4 := fun_mk (st := sis_leaf) l4 c4 k4
  have b4 := F4.binds (ps := ["form"]) fun _ _ _ _ _ _ us hl => match us, hl with | [_], _ => rfl
  have m4 := PySem.W.mg_of X G a4
  have F5 := fun_mk (st := scounter_of) l5 c5 k5
  have b5 := F5.binds (ps := ["form"]) fun _ _ _ _ _ _ us hl => match us, hl with | [_], _ => rfl
  have m5 := PySem.W.mg_of X G a5
  have F6 := fun_mk (st := sleaf_count) l6 c6 k6
  have b6 := F6.binds (ps := ["form"]) fun _ _ _ _ _ _ us hl => match us, hl with | [_], _ => rfl
  have m6 := PySem.W.mg_of X G a6
  have F7 := fun_mk (st := sis_integer) l7 c7 k7
  have b7 := F7.binds (ps := ["value"]) fun _ _ _ _ _ _ us hl => match us, hl with | [_], _ => rfl
  have m7 := PySem.W.mg_of X G a7
  have F8 := fun_mk (st := sis_number_below) l8 c8 k8
  have b8 := F8.binds (ps := ["value", "many"]) fun _ _ _ _ _ _ us hl => match us, hl with | [_, _], _ => rfl
  have m8 := PySem.W.mg_of X G a8
  have F9 := fun_mk (st := sis_side) l9 c9 k9
  have b9 := F9.binds (ps := ["value"]) fun _ _ _ _ _ _ us hl => match us, hl with | [_], _ => rfl
  have m9 := PySem.W.mg_of X G a9
  have F10 := fun_mk (st := sis_order) l10 c10 k10
  have b10 := F10.binds (ps := ["value", "many"]) fun _ _ _ _ _ _ us hl => match us, hl with | [_, _], _ => rfl
  have m10 := PySem.W.mg_of X G a10
  have F11 := fun_mk (st := shas_shape) l11 c11 k11
  have b11 := F11.binds (ps := ["value"]) fun _ _ _ _ _ _ us hl => match us, hl with | [_], _ => rfl
  have m11 := PySem.W.mg_of X G a11
  have F12 := fun_mk (st := ssteps_within) l12 c12 k12
  have b12 := F12.binds (ps := ["value"]) fun _ _ _ _ _ _ us hl => match us, hl with | [_], _ => rfl
  have m12 := PySem.W.mg_of X G a12
  have F13 := fun_mk (st := ssteps_in_order) l13 c13 k13
  have b13 := F13.binds (ps := ["steps", "most"]) fun _ _ _ _ _ _ us hl => match us, hl with | [_, _], _ => rfl
  have m13 := PySem.W.mg_of X G a13
  have F14 := fun_mk (st := staken_from) l14 c14 k14
  have b14 := F14.binds (ps := ["waiting", "many"]) fun _ _ _ _ _ _ us hl => match us, hl with | [_, _], _ => rfl
  have m14 := PySem.W.mg_of X G a14
  have F15 := fun_mk (st := sdepth_of_steps) l15 c15 k15
  have b15 := F15.binds (ps := ["found"]) fun _ _ _ _ _ _ us hl => match us, hl with | [_], _ => rfl
  have m15 := PySem.W.mg_of X G a15
  have F16 := fun_mk (st := swithout) l16 c16 k16
  have b16 := F16.binds (ps := ["ends", "at"]) fun _ _ _ _ _ _ us hl => match us, hl with | [_, _], _ => rfl
  have m16 := PySem.W.mg_of X G a16
  have F17 := fun_mk (st := slink_ends) l17 c17 k17
  have b17 := F17.binds (ps := ["step", "within"]) fun _ _ _ _ _ _ us hl => match us, hl with | [_, _], _ => rfl
  have m17 := PySem.W.mg_of X G a17
  have F18 := fun_mk (st := sare_numbers) l18 c18 k18
  have b18 := F18.binds (ps := ["step", "within"]) fun _ _ _ _ _ _ us hl => match us, hl with | [_, _], _ => rfl
  have m18 := PySem.W.mg_of X G a18
  have F19 := fun_mk (st := sboth_ends) l19 c19 k19
  have b19 := F19.binds (ps := ["step", "within"]) fun _ _ _ _ _ _ us hl => match us, hl with | [_, _], _ => rfl
  have m19 := PySem.W.mg_of X G a19
  have F20 := fun_mk (st := sbetween_ends) l20 c20 k20
  have b20 := F20.binds (ps := ["step", "within"]) fun _ _ _ _ _ _ us hl => match us, hl with | [_, _], _ => rfl
  have m20 := PySem.W.mg_of X G a20
  have F21 := fun_mk (st := soffer_ends) l21 c21 k21
  have b21 := F21.binds (ps := ["step", "within"]) fun _ _ _ _ _ _ us hl => match us, hl with | [_, _], _ => rfl
  have m21 := PySem.W.mg_of X G a21
  have F22 := fun_mk (st := schoose_ends) l22 c22 k22
  have b22 := F22.binds (ps := ["step", "within"]) fun _ _ _ _ _ _ us hl => match us, hl with | [_, _], _ => rfl
  have m22 := PySem.W.mg_of X G a22
  have F23 := fun_mk (st := shand_ends) l23 c23 k23
  have b23 := F23.binds (ps := ["step", "within"]) fun _ _ _ _ _ _ us hl => match us, hl with | [_, _], _ => rfl
  have m23 := PySem.W.mg_of X G a23
  have F24 := fun_mk (st := sturn_ends) l24 c24 k24
  have b24 := F24.binds (ps := ["step", "within"]) fun _ _ _ _ _ _ us hl => match us, hl with | [_, _], _ => rfl
  have m24 := PySem.W.mg_of X G a24
  have F25 := fun_mk (st := sends_of_step) l25 c25 k25
  have b25 := F25.binds (ps := ["step", "within"]) fun _ _ _ _ _ _ us hl => match us, hl with | [_, _], _ => rfl
  have m25 := PySem.W.mg_of X G a25
  have F26 := fun_mk (st := sends_in_order) l26 c26 k26
  have b26 := F26.binds (ps := ["found"]) fun _ _ _ _ _ _ us hl => match us, hl with | [_], _ => rfl
  have m26 := PySem.W.mg_of X G a26
  have F27 := fun_mk (st := ssteps_of) l27 c27 k27
  have b27 := F27.binds (ps := ["deed"]) fun _ _ _ _ _ _ us hl => match us, hl with | [_], _ => rfl
  have m27 := PySem.W.mg_of X G a27
  have F28 := fun_mk (st := scheck_deed) l28 c28 k28
  have b28 := F28.binds (ps := ["deed"]) fun _ _ _ _ _ _ us hl => match us, hl with | [_], _ => rfl
  have m28 := PySem.W.mg_of X G a28
  have F29 := fun_mk (st := scheck_step_number) l29 c29 k29
  have b29 := F29.binds (ps := ["deed", "at"]) fun _ _ _ _ _ _ us hl => match us, hl with | [_, _], _ => rfl
  have m29 := PySem.W.mg_of X G a29
  have F30 := fun_mk (st := sstep_of) l30 c30 k30
  have b30 := F30.binds (ps := ["deed", "at"]) fun _ _ _ _ _ _ us hl => match us, hl with | [_, _], _ => rfl
  have m30 := PySem.W.mg_of X G a30
  have F31 := fun_mk (st := sreplaced) l31 c31 k31
  have b31 := F31.binds (ps := ["deed", "at", "other"]) fun _ _ _ _ _ _ us hl => match us, hl with | [_, _, _], _ => rfl
  have m31 := PySem.W.mg_of X G a31
  have F32 := fun_mk (st := sdeed_text) l32 c32 k32
  have b32 := F32.binds (ps := ["deed"]) fun _ _ _ _ _ _ us hl => match us, hl with | [_], _ => rfl
  have m32 := PySem.W.mg_of X G a32
  have F33 := fun_mk (st := s_law_begin) l33 c33 k33
  have b33 := F33.binds (ps := ["_law_script"]) fun _ _ _ _ _ _ us hl => match us, hl with | [_], _ => rfl
  have m33 := PySem.W.mg_of X G a33
  have F34 := fun_mk (st := s_law_draw) l34 c34 k34
  have b34 := F34.binds (ps := ["_law_pen", "_law_span"]) fun _ _ _ _ _ _ us hl => match us, hl with | [_, _], _ => rfl
  have m34 := PySem.W.mg_of X G a34
  have F35 := fun_mk (st := s_law_pick) l35 c35 k35
  have b35 := F35.binds (ps := ["_law_pen", "_law_some"]) fun _ _ _ _ _ _ us hl => match us, hl with | [_, _], _ => rfl
  have m35 := PySem.W.mg_of X G a35
  have F36 := fun_mk (st := s_law_shuffled) l36 c36 k36
  have b36 := F36.binds (ps := ["_law_pen", "_law_some"]) fun _ _ _ _ _ _ us hl => match us, hl with | [_, _], _ => rfl
  have m36 := PySem.W.mg_of X G a36
  have F37 := fun_mk (st := s_law_counter) l37 c37 k37
  have b37 := F37.binds (ps := ["_law_form_here"]) fun _ _ _ _ _ _ us hl => match us, hl with | [_], _ => rfl
  have m37 := PySem.W.mg_of X G a37
  have F38 := fun_mk (st := s_law_leaves) l38 c38 k38
  have b38 := F38.binds (ps := ["_law_form_here"]) fun _ _ _ _ _ _ us hl => match us, hl with | [_], _ => rfl
  have m38 := PySem.W.mg_of X G a38
  have F39 := fun_mk (st := s_law_forks) l39 c39 k39
  have b39 := F39.binds (ps := ["_law_form_here"]) fun _ _ _ _ _ _ us hl => match us, hl with | [_], _ => rfl
  have m39 := PySem.W.mg_of X G a39
  have F40 := fun_mk (st := s_law_depth) l40 c40 k40
  have b40 := F40.binds (ps := ["_law_form_here"]) fun _ _ _ _ _ _ us hl => match us, hl with | [_], _ => rfl
  have m40 := PySem.W.mg_of X G a40
  have F41 := fun_mk (st := s_law_form) l41 c41 k41
  have b41 := F41.binds (ps := ["_law_pen", "_law_goods", "_law_depth_here"]) fun _ _ _ _ _ _ us hl => match us, hl with | [_, _, _], _ => rfl
  have m41 := PySem.W.mg_of X G a41
  have F42 := fun_mk (st := s_law_without) l42 c42 k42
  have b42 := F42.binds (ps := ["_law_some", "_law_numbers"]) fun _ _ _ _ _ _ us hl => match us, hl with | [_, _], _ => rfl
  have m42 := PySem.W.mg_of X G a42
  have F43 := fun_mk (st := s_law_ends_of) l43 c43 k43
  have b43 := F43.binds (ps := ["_law_step"]) fun _ _ _ _ _ _ us hl => match us, hl with | [_], _ => rfl
  have m43 := PySem.W.mg_of X G a43
  have F44 := fun_mk (st := s_law_leaf_many) l44 c44 k44
  have b44 := F44.binds (ps := ["_law_ends"]) fun _ _ _ _ _ _ us hl => match us, hl with | [_], _ => rfl
  have m44 := PySem.W.mg_of X G a44
  have F45 := fun_mk (st := s_law_within) l45 c45 k45
  have b45 := F45.binds (ps := ["_law_step"]) fun _ _ _ _ _ _ us hl => match us, hl with | [_], _ => rfl
  have m45 := PySem.W.mg_of X G a45
  have F46 := fun_mk (st := s_law_size) l46 c46 k46
  have b46 := F46.binds (ps := ["_law_step"]) fun _ _ _ _ _ _ us hl => match us, hl with | [_], _ => rfl
  have m46 := PySem.W.mg_of X G a46
  have F47 := fun_mk (st := s_law_links) l47 c47 k47
  have b47 := F47.binds (ps := ["_law_step"]) fun _ _ _ _ _ _ us hl => match us, hl with | [_], _ => rfl
  have m47 := PySem.W.mg_of X G a47
  have F48 := fun_mk (st := s_law_plain) l48 c48 k48
  have b48 := F48.binds (ps := ["_law_form_here"]) fun _ _ _ _ _ _ us hl => match us, hl with | [_], _ => rfl
  have m48 := PySem.W.mg_of X G a48
  have F49 := fun_mk (st := s_law_turned) l49 c49 k49
  have b49 := F49.binds (ps := ["_law_step", "_law_order"]) fun _ _ _ _ _ _ us hl => match us, hl with | [_, _], _ => rfl
  have m49 := PySem.W.mg_of X G a49
  have F50 := fun_mk (st := s_law_last_at) l50 c50 k50
  have b50 := F50.binds (ps := ["_law_step", "_law_at"]) fun _ _ _ _ _ _ us hl => match us, hl with | [_, _], _ => rfl
  have m50 := PySem.W.mg_of X G a50
  have F51 := fun_mk (st := s_law_offer_to) l51 c51 k51
  have b51 := F51.binds (ps := ["_law_pen", "_law_step", "_law_i", "_law_goods"]) fun _ _ _ _ _ _ us hl => match us, hl with | [_, _, _, _], _ => rfl
  have m51 := PySem.W.mg_of X G a51
  have F52 := fun_mk (st := s_law_crossed) l52 c52 k52
  have b52 := F52.binds (ps := ["_law_pen", "_law_step"]) fun _ _ _ _ _ _ us hl => match us, hl with | [_, _], _ => rfl
  have m52 := PySem.W.mg_of X G a52
  have F53 := fun_mk (st := s_law_handed) l53 c53 k53
  have b53 := F53.binds (ps := ["_law_pen", "_law_step", "_law_goods", "_law_i"]) fun _ _ _ _ _ _ us hl => match us, hl with | [_, _, _, _], _ => rfl
  have m53 := PySem.W.mg_of X G a53
  have F54 := fun_mk (st := s_law_grown) l54 c54 k54
  have b54 := F54.binds (ps := ["_law_pen", "_law_step", "_law_goods", "_law_offers", "_law_hands"]) fun _ _ _ _ _ _ us hl => match us, hl with | [_, _, _, _, _], _ => rfl
  have m54 := PySem.W.mg_of X G a54
  have F55 := fun_mk (st := s_law_count_words) l55 c55 k55
  have b55 := F55.binds (ps := ["_law_step", "_law_word"]) fun _ _ _ _ _ _ us hl => match us, hl with | [_, _], _ => rfl
  have m55 := PySem.W.mg_of X G a55
  have F56 : FunD K "_law_deed" "_law_deed" (defArgs s_law_deed) (defBody s_law_deed) (defScope s_law_deed) [.int 8] [] f56 _ := ⟨⟨oc56, od56, .ref dT1, kV56, dc56, pm56, an56, cd56, ct56, sl56, rfl, l56, c56, .inr ⟨by simp, dT1, _, [.int 8 tx1_0], nT1, rfl, v1T, rfl, .cons ⟨_, rfl⟩ (.nil)⟩, .inl rfl⟩, k56⟩
  have b56 : Binds K _ ["_law_pen", "_law_links_here", "_law_offers", "_law_hands", "_law_most"] [] := binds_all F56 (by simp) fun _ _ _ _ _ _ _ us its hl hi => match us, its, hl, hi with | [_, _, _, _, _], [_], _, _ => ⟨_, rfl, rfl⟩
  have m56 := PySem.W.mg_of X G a56
  have F57 : FunD K "_law_is_small" "_law_is_small" (defArgs s_law_is_small) (defBody s_law_is_small) (defScope s_law_is_small) [.int 8] [] f57 _ := ⟨⟨oc57, od57, .ref dT2, kV57, dc57, pm57, an57, cd57, ct57, sl57, rfl, l57, c57, .inr ⟨by simp, dT2, _, [.int 8 tx2_0], nT2, rfl, v2T, rfl, .cons ⟨_, rfl⟩ (.nil)⟩, .inl rfl⟩, k57⟩
  have b57 : Binds K _ ["_law_step", "_law_most"] [] := binds_all F57 (by simp) fun _ _ _ _ _ _ _ us its hl hi => match us, its, hl, hi with | [_, _], [_], _, _ => ⟨_, rfl, rfl⟩
  have m57 := PySem.W.mg_of X G a57
  have F58 := fun_mk (st := s_law_lifted) l58 c58 k58
  have b58 := F58.binds (ps := ["_law_step"]) fun _ _ _ _ _ _ us hl => match us, hl with | [_], _ => rfl
  have m58 := PySem.W.mg_of X G a58
  have F59 := fun_mk (st := s_law_exchanged) l59 c59 k59
  have b59 := F59.binds (ps := ["_law_pen", "_law_step"]) fun _ _ _ _ _ _ us hl => match us, hl with | [_, _], _ => rfl
  have m59 := PySem.W.mg_of X G a59
  have F60 := fun_mk (st := s_law_outcome) l60 c60 k60
  have b60 := F60.binds (ps := ["_law_call"]) fun _ _ _ _ _ _ us hl => match us, hl with | [_], _ => rfl
  have m60 := PySem.W.mg_of X G a60
  have F61 := fun_mk (st := s_law_same) l61 c61 k61
  have b61 := F61.binds (ps := ["_law_one", "_law_other"]) fun _ _ _ _ _ _ us hl => match us, hl with | [_, _], _ => rfl
  have m61 := PySem.W.mg_of X G a61
  have F62 := fun_mk (st := s_law_in_order) l62 c62 k62
  have b62 := F62.binds (ps := ["_law_step"]) fun _ _ _ _ _ _ us hl => match us, hl with | [_], _ => rfl
  have m62 := PySem.W.mg_of X G a62
  have F63 := fun_mk (st := s_law_deed_right) l63 c63 k63
  have b63 := F63.binds (ps := ["_law_deed_here", "_law_step"]) fun _ _ _ _ _ _ us hl => match us, hl with | [_, _], _ => rfl
  have m63 := PySem.W.mg_of X G a63
  have F64 := fun_mk (st := s_law_name) l64 c64 k64
  have b64 := F64.binds (ps := ["_law_pen"]) fun _ _ _ _ _ _ us hl => match us, hl with | [_], _ => rfl
  have m64 := PySem.W.mg_of X G a64
  have F65 := fun_mk (st := s_law_renamed) l65 c65 k65
  have b65 := F65.binds (ps := ["_law_step", "_law_names"]) fun _ _ _ _ _ _ us hl => match us, hl with | [_, _], _ => rfl
  have m65 := PySem.W.mg_of X G a65
  have F66 := fun_mk (st := s_law_renamed_form) l66 c66 k66
  have b66 := F66.binds (ps := ["_law_form_here", "_law_names"]) fun _ _ _ _ _ _ us hl => match us, hl with | [_, _], _ => rfl
  have m66 := PySem.W.mg_of X G a66
  have F67 := fun_mk (st := s_law_named_deed) l67 c67 k67
  have b67 := F67.binds (ps := ["_law_pen", "_law_links_here", "_law_offers", "_law_hands"]) fun _ _ _ _ _ _ us hl => match us, hl with | [_, _, _, _], _ => rfl
  have m67 := PySem.W.mg_of X G a67
  have F68 : FunC K "law" "law" slaw fa _ (.ref cc1) := ⟨oc68, od68, kV68, dc68, pm68, an68, ct68, sl68, rfl, l68, c68⟩
  have F69 := fun_mk (st := sDd0) l69 c69 k69
  have b69 := F69.binds (ps := ["self", "steps"]) fun _ _ _ _ _ _ us hl => match us, hl with | [_, _], _ => rfl
  have F70 := fun_mk (st := sDd1) l70 c70 k70
  have b70 := F70.binds (ps := ["self", "other"]) fun _ _ _ _ _ _ us hl => match us, hl with | [_, _], _ => rfl
  have F71 := fun_mk (st := sDd2) l71 c71 k71
  have b71 := F71.binds (ps := ["self"]) fun _ _ _ _ _ _ us hl => match us, hl with | [_], _ => rfl
  have F72 := fun_mk (st := (meth 2 0)) l72 c72 k72
  have b72 := F72.binds (ps := ["self", "value"]) fun _ _ _ _ _ _ us hl => match us, hl with | [_, _], _ => rfl
  let GD : DeedT K mg := {
    C := CD, fI := f69, cl := ⟨pgCD, hdCD, poCD, saCD⟩, nSteps := nD0, nEnds := nD1, made := ⟨mkCD, a69, i69, kpCD⟩, g := PySem.W.mg_of X G gCD
    ha := haCD, hn := hnCD, htk := htCD, hm := hmCD, fE := f70, hs := a70, hf := i70 }
  have GN : DeedN K GD.C := ⟨isCD, tyCD⟩
  refine ⟨PySem.W.fnOf "law" "law" (defArgs slaw) (defBody slaw) (defScope slaw) .none kV68 dc68 pm68 an68 (.ref cc1) ct68, [(cc1, Pt1)], spLawT K Pt1, fun p hp => ?_, fun p hp => ?_, fun p hp => ?_, fun s v => .of_eq rfl, fun H a ns hl hH hS => ?_, fun base _ _ hTB => ?_⟩
  · rw [List.mem_singleton.mp hp]; exact tP1
  · rw [List.mem_singleton.mp hp]; exact tN1
  · rw [List.mem_singleton.mp hp]; exact PySem.W.codeHd_of_K X tC1
  · refine ⟨a, ns, rfl, hS, hl, fun p hp => ?_, fun _ => rfl⟩
    rw [List.mem_singleton.mp hp]
    exact LamX.TabS.nil (hH (cc1, Pt1) List.mem_cons_self)
  have TB1 : LamX.TabB base mg cc1 Pt1 := hTB (cc1, Pt1) List.mem_cons_self
  have OEB : OneE l.prog w K mg base "BadValue" "value" EB := { oex := ⟨⟨nmEB, qEB, NEB, bsEB, bmEB, snEB, subEB, abEB, colEB, ddEB, mz0EB, mz1EB, mz2EB, mz3EB, mz5EB, xEB, rEB⟩, saEB, exEB, tyEB, kEB⟩, xf := ⟨gaEB, ggEB, exEB, hdEB⟩, no := noEB, g := PySem.W.mg_of X G gEB, fI := f72, fd := _, iC := a72, tI := i72, b := b72, F := ok_i2 EB F72 }
  have Cfits_name : Cal l.prog w K mg base "fits_name" 2 ["value"] (spName K) := ⟨_, _, ok_fits_name T F1, m1, k1, b1⟩
  have Cfits_form : Cal l.prog w K mg base "fits_form" 15 ["value", "room"] (spForm K 13) := ⟨_, _, all_fits_form T F2 b2 m2 Cfits_name 13, m2, k2, b2⟩
  have Cis_leaf : Cal l.prog w K mg base "is_leaf" 1 ["form"] (spLeafT K) := ⟨_, _, okis_leaf T F4, m4, k4, b4⟩
  have Cis_leafA : Cal l.prog w K mg base "is_leaf" 1 ["form"] (spIsLeaf K) := ⟨_, _, okis_leafA T F4, m4, k4, b4⟩
  have Cleaf_count : Cal l.prog w K mg base "leaf_count" 14 ["form"] (spLeafCount K 13) := ⟨_, _, all_leaf_count F6 b6 m6 Cis_leafA 13, m6, k6, b6⟩
  have Cfits_ends : Cal l.prog w K mg base "fits_ends" 16 ["value"] (spEnds K) := ⟨_, _, okfits_ends T7 F3 Cfits_form Cleaf_count, m3, k3, b3⟩
  have Ccounter_of : Cal l.prog w K mg base "counter_of" 14 ["form"] (spCounterOf K 13) := ⟨_, _, all_counter_of YC F5 b5 m5 Cis_leaf 13, m5, k5, b5⟩
  have Cis_integer : Cal l.prog w K mg base "is_integer" 1 ["value"] (spIsInt K) := ⟨_, _, okis_integer T F7, m7, k7, b7⟩
  have Cis_number_below : Cal l.prog w K mg base "is_number_below" 2 ["value", "many"] (spBelow K) := ⟨_, _, okis_number_below Cis_integer F8, m8, k8, b8⟩
  have Cis_side : Cal l.prog w K mg base "is_side" 3 ["value"] (spSide K) := ⟨_, _, okis_side Cis_number_below F9, m9, k9, b9⟩
  have Cis_order : Cal l.prog w K mg base "is_order" 2 ["value", "many"] (spOrder K) := ⟨_, _, okis_order T (PySem.W.mg_none_of X G z16) Cis_integer F10, m10, k10, b10⟩
  have Chas_shape : Cal l.prog w K mg base "has_shape" 1 ["value"] (spHasShape K) := ⟨_, _, okhas_shape T YD F11, m11, k11, b11⟩
  have Csteps_within : Cal l.prog w K mg base "steps_within" 2 ["value"] (spWithin K) := ⟨_, _, oksteps_within YD Chas_shape F12, m12, k12, b12⟩
  have Csteps_in_order : Cal l.prog w K mg base "steps_in_order" 3 ["steps", "most"] (spInOrder K) := ⟨_, _, oksteps_in_order T Csteps_within F13, m13, k13, b13⟩
  have Ctaken_from : Cal l.prog w K mg base "taken_from" 1 ["waiting", "many"] (spTaken K) := ⟨_, _, oktaken_from T F14, m14, k14, b14⟩
  have Cdepth_of_steps : Cal l.prog w K mg base "depth_of_steps" 3 ["found"] (spDepthS K) := ⟨_, _, okdepth_of_steps T Csteps_within Ctaken_from F15, m15, k15, b15⟩
  have Cwithout : Cal l.prog w K mg base "without" 1 ["ends", "at"] (spWithout K) := ⟨_, _, okwithout F16, m16, k16, b16⟩
  have Care_numbers : Cal l.prog w K mg base "are_numbers" 3 ["step", "within"] (spAreNumbers K) := ⟨_, _, okare_numbers T Cis_number_below F18, m18, k18, b18⟩
  let MK : Mkr l.prog w K mg base := {
    aM := aM, MAKERS := ⟨_, PySem.W.mg_of X G y24, rfl⟩
    f1 := f17, d1 := ⟨esM, nM, _, y25, y26, m1M, rfl⟩, h1 := held (oklink_ends F17) (by decide) k17 b17
    f2 := f19, d2 := ⟨esM, nM, _, y25, y26, m2M, rfl⟩, h2 := held (okboth_ends Care_numbers Cwithout F19) (by decide) k19 b19
    f3 := f20, d3 := ⟨esM, nM, _, y25, y26, m3M, rfl⟩, h3 := held (okbetween_ends T (PySem.W.mg_none_of X G z14) Cis_number_below F20) (by decide) k20 b20
    f4 := f21, d4 := ⟨esM, nM, _, y25, y26, m4M, rfl⟩, h4 := held (okoffer_ends Care_numbers Cwithout F21) (by decide) k21 b21
    f5 := f22, d5 := ⟨esM, nM, _, y25, y26, m5M, rfl⟩, h5 := held (okchoose_ends T Cis_number_below Cis_side Cwithout F22) (by decide) k22 b22
    f6 := f23, d6 := ⟨esM, nM, _, y25, y26, m6M, rfl⟩, h6 := held (okhand_ends Care_numbers Cwithout Ccounter_of F23) (by decide) k23 b23
    f7 := f24, d7 := ⟨esM, nM, _, y25, y26, m7M, rfl⟩, h7 := held (okturn_ends T Cis_order F24) (by decide) k24 b24 }
  have Cends_of_step : Cal l.prog w K mg base "ends_of_step" 17 ["step", "within"] (spEndsOfStep K) := ⟨_, _, okends_of_step YD MK Chas_shape Cfits_ends F25, m25, k25, b25⟩
  have Cends_in_order : Cal l.prog w K mg base "ends_in_order" 18 ["found"] (spEndsInOrder K) := ⟨_, _, okends_in_order T Csteps_within Ctaken_from Cends_of_step F26, m26, k26, b26⟩
  have GI := okDd0 T YM GD Csteps_in_order Cdepth_of_steps Cends_in_order F69
  have GE := okDd1 (P := l.prog) (w := w) (base := base) T GD F70
  have Csteps_of : Cal l.prog w K mg base "steps_of" 4 ["deed"] (spStepsOf K CD) := ⟨_, _, oksteps_of YM GD Csteps_in_order F27, m27, k27, b27⟩
  have MS : Mth l.prog w K mg base CD "size" 5 NDd2 (spDdSize K CD) := ⟨f71, _, ⟨a71, i71, k71⟩, okDd2 T GD Csteps_of F71, b71⟩
  have Ccheck_deed : CalX l.prog w K mg base "check_deed" 3 ["deed"] (spCheckDeed K CD EB) := ⟨_, _, okcheck_deed T GD OEB F28, m28, k28, b28⟩
  have Ccheck_step_number : CalX l.prog w K mg base "check_step_number" 6 ["deed", "at"] (spCheckNum K CD EB) := ⟨_, _, okcheck_step_number GD OEB MS Cis_number_below F29, m29, k29, b29⟩
  have Cstep_of : CalX l.prog w K mg base "step_of" 21 ["deed", "at"] (spStepOf K CD EB) := ⟨_, _, okstep_of GD GI b69 Ccheck_deed Ccheck_step_number Csteps_of F30, m30, k30, b30⟩
  have Creplaced : CalX l.prog w K mg base "replaced" 7 ["deed", "at", "other"] (spReplBad K CD EB) := ⟨_, _, okreplacedB GD Ccheck_deed Ccheck_step_number F31, m31, k31, b31⟩
  have Cdeed_text : CalX l.prog w K mg base "deed_text" 4 ["deed"] (spTextBad K CD EB) := ⟨_, _, okdeed_textB GD Ccheck_deed F32, m32, k32, b32⟩
  have C_law_begin : Cal l.prog w K mg base "_law_begin" 1 ["_law_script"] (spBegin K) := ⟨_, _, ok_law_begin T F33, m33, k33, b33⟩
  have C_law_draw : Cal l.prog w K mg base "_law_draw" 1 ["_law_pen", "_law_span"] (spDraw K) := ⟨_, _, ok_law_draw T F34, m34, k34, b34⟩
  have C_law_pick : Cal l.prog w K mg base "_law_pick" 2 ["_law_pen", "_law_some"] (spPick K) := ⟨_, _, ok_law_pick T F35 C_law_draw, m35, k35, b35⟩
  have C_law_counter : Cal l.prog w K mg base "_law_counter" 13 ["_law_form_here"] (spCounterOf K 13) := ⟨_, _, all_law_counter F37 b37 m37 13, m37, k37, b37⟩
  have C_law_leaves : Cal l.prog w K mg base "_law_leaves" 13 ["_law_form_here"] (spLeavesL K 13) := ⟨_, _, all_law_leaves T F38 b38 m38 13, m38, k38, b38⟩
  have C_law_depth : Cal l.prog w K mg base "_law_depth" 13 ["_law_form_here"] (spDepthL K 13) := ⟨_, _, all_law_depth T F40 b40 m40 13, m40, k40, b40⟩
  have C_law_forks : Cal l.prog w K mg base "_law_forks" 13 ["_law_form_here"] (spForks K 13) := ⟨_, _, all_law_forks T F39 b39 m39 13, m39, k39, b39⟩
  have C_law_form : Cal l.prog w K mg base "_law_form" 5 ["_law_pen", "_law_goods", "_law_depth_here"] (spFormD K 3) := ⟨_, _, all_law_form C_law_draw C_law_pick F41 b41 m41 3, m41, k41, b41⟩
  have C_law_without : Cal l.prog w K mg base "_law_without" 1 ["_law_some", "_law_numbers"] (spWithoutL K) := ⟨_, _, ok_law_without (PySem.W.mg_none_of X G z14) F42, m42, k42, b42⟩
  have C_law_ends_of : Cal l.prog w K mg base "_law_ends_of" 61 ["_law_step"] (spEndsOfL K 60) := ⟨_, _, all_law_ends_of C_law_without F43 b43 m43 60, m43, k43, b43⟩
  have C_law_leaf_many : Cal l.prog w K mg base "_law_leaf_many" 14 ["_law_ends"] (spLeafMany K 13) := ⟨_, _, ok_law_leaf_many T (PySem.W.mg_none_of X G z15) C_law_leaves F44, m44, k44, b44⟩
  have C_law_within : Cal l.prog w K mg base "_law_within" 1 ["_law_step"] (spWithinL K) := ⟨_, _, ok_law_within F45, m45, k45, b45⟩
  have C_law_size : Cal l.prog w K mg base "_law_size" 61 ["_law_step"] (spSizeL K 60) := ⟨_, _, all_law_size (PySem.W.mg_none_of X G z15) C_law_within F46 b46 m46 60, m46, k46, b46⟩
  have C_law_links : Cal l.prog w K mg base "_law_links" 61 ["_law_step"] (spLinks K 60) := ⟨_, _, all_law_links (PySem.W.mg_none_of X G z15) C_law_within F47 b47 m47 60, m47, k47, b47⟩
  have C_law_count_words : Cal l.prog w K mg base "_law_count_words" 61 ["_law_step", "_law_word"] (spCountW K 60) := ⟨_, _, all_law_count_words T (PySem.W.mg_none_of X G z15) C_law_within F55 b55 m55 60, m55, k55, b55⟩
  have C_law_plain : Cal l.prog w K mg base "_law_plain" 26 ["_law_form_here"] (spPlain K 13) := ⟨_, _, all_law_plain C_law_counter F48 b48 m48 13 (Nat.le_refl _), m48, k48, b48⟩
  have C_law_shuffled : Cal l.prog w K mg base "_law_shuffled" 2 ["_law_pen", "_law_some"] (spShufN K) := ⟨_, _, ok_law_shuffled T F36 C_law_draw, m36, k36, b36⟩
  have C_law_turned : Cal l.prog w K mg base "_law_turned" 1 ["_law_step", "_law_order"] (spTurned K) := ⟨_, _, ok_law_turned T F49, m49, k49, b49⟩
  have C_law_last_at : Cal l.prog w K mg base "_law_last_at" 62 ["_law_step", "_law_at"] (spLastAt K 60) := ⟨_, _, ok_law_last_at (n := 60) T C_law_ends_of C_law_turned F50, m50, k50, b50⟩
  have C_law_crossed : Cal l.prog w K mg base "_law_crossed" 62 ["_law_pen", "_law_step"] (spCrossed K 60) := ⟨_, _, ok_law_crossed (n := 60) T C_law_draw C_law_ends_of F52, m52, k52, b52⟩
  have C_law_lifted : Cal l.prog w K mg base "_law_lifted" 62 ["_law_step"] (spLifted K) := ⟨_, _, ok_law_lifted T (PySem.W.mg_none_of X G z16) C_law_ends_of C_law_without C_law_turned F58, m58, k58, b58⟩
  have CxEx := fun n => all_law_exchanged T C_law_draw C_law_ends_of C_law_within C_law_lifted C_law_leaves C_law_plain C_law_last_at C_law_shuffled F59 b59 m59 n
  have C_law_exchanged : Cal l.prog w K mg base "_law_exchanged" 107 ["_law_pen", "_law_step"] (spExch K 45) := ⟨_, _, CxEx 45, m59, k59, b59⟩
  have C_law_handed : Cal l.prog w K mg base "_law_handed" 62 ["_law_pen", "_law_step", "_law_goods", "_law_i"] (spHanded K) := ⟨_, _, ok_law_handed T C_law_draw C_law_pick C_law_ends_of C_law_plain F53, m53, k53, b53⟩
  have C_law_offer_to : Cal l.prog w K mg base "_law_offer_to" 108 ["_law_pen", "_law_step", "_law_i", "_law_goods"] (spOfferTo K) := ⟨_, _, ok_law_offer_to T C_law_draw C_law_form C_law_ends_of C_law_exchanged C_law_crossed F51, m51, k51, b51⟩
  have C_law_grown : Cal l.prog w K mg base "_law_grown" 109 ["_law_pen", "_law_step", "_law_goods", "_law_offers", "_law_hands"] (spGrown K) := ⟨_, _, ok_law_grown T C_law_draw C_law_form C_law_ends_of C_law_shuffled C_law_leaves C_law_offer_to C_law_handed F54, m54, k54, b54⟩
  have C_law_is_small : Cal l.prog w K mg base "_law_is_small" 62 ["_law_step", "_law_most"] (spIsSmall K) := ⟨_, _, ok_law_is_small T (PySem.W.mg_none_of X G z15) (PySem.W.mg_none_of X G z9) C_law_ends_of C_law_forks C_law_leaf_many C_law_depth C_law_count_words C_law_size F57, m57, k57, b57⟩
  have C_law_deed : Cal l.prog w K mg base "_law_deed" 110 ["_law_pen", "_law_links_here", "_law_offers", "_law_hands", "_law_most"] (spDeed K) := ⟨_, _, ok_law_deed T C_law_draw C_law_pick C_law_ends_of C_law_grown C_law_is_small C_law_links C_law_count_words F56, m56, k56, b56⟩
  have C_law_name : Cal l.prog w K mg base "_law_name" 3 ["_law_pen"] (spNameOf K) := ⟨_, _, ok_law_name T F64 C_law_pick, m64, k64, b64⟩
  have C_law_renamed_form : Cal l.prog w K mg base "_law_renamed_form" 13 ["_law_form_here", "_law_names"] (spRenF K 13) := ⟨_, _, all_law_renamed_form T F66 b66 m66 13, m66, k66, b66⟩
  have C_law_renamed : Cal l.prog w K mg base "_law_renamed" 73 ["_law_step", "_law_names"] (spRen K 60) := ⟨_, _, all_law_renamed T C_law_within C_law_renamed_form F65 b65 m65 60, m65, k65, b65⟩
  have C_law_named_deed : Cal l.prog w K mg base "_law_named_deed" 111 ["_law_pen", "_law_links_here", "_law_offers", "_law_hands"] (spNamed K) := ⟨_, _, ok_law_named_deed T C_law_draw C_law_ends_of C_law_deed C_law_name C_law_renamed F67, m67, k67, b67⟩
  have C_law_in_order : Cal l.prog w K mg base "_law_in_order" 61 ["_law_step"] (spInOrd K 60) := ⟨_, _, all_law_in_order C_law_within F62 b62 m62 60, m62, k62, b62⟩
  have C_law_outcome : Cal l.prog w K mg base "_law_outcome" 31 ["_law_call"] (spOutcome l.prog w K mg base TE 30) := ⟨_, _, ok_law_outcome (k := 30) TE F60, m60, k60, b60⟩
  have C_law_same : Gd.CalG l.prog w K mg base "_law_same" 2 ["_law_one", "_law_other"] (spLSame K) := ⟨_, _, ok_law_same (PySem.W.mg_none_of X G z17) F61, m61, k61, b61⟩
  have C_law_deed_right : Gd.CalG l.prog w K mg base "_law_deed_right" 62 ["_law_deed_here", "_law_step"] (spDeedRightS K CD) := ⟨_, _, ok_law_deed_right T GD (PySem.W.mg_none_of X G z17) MS C_law_ends_of C_law_size F63, m63, k63, b63⟩
  exact ok_law (T0 := TE) TB1 F68 T GD GN GI b69 MS C_law_begin C_law_pick C_law_named_deed C_law_in_order C_law_shuffled C_law_deed_right C_law_same C_law_outcome Cstep_of Creplaced Cdeed_text
theorem walkEnd {l : PySem.W.OpenLaw} {q : Program} {loose : List Str} {XP : (Str → Option Value) → Heap → Prop} {YP : World → Heap → Prop} {d : DefRec} {K : Params → PySem.W.Frag} (hn : l.most = some 63) (hdf : d.params.defaults = [])
    (hY : ∀ (w : World) (h : Heap), YP w h → (K w.params).In h)
    (F : ∀ (w : World) (mg : Str → Option Value) (fa : Addr) (h : Heap), YP w h → (K w.params).In h → h.Ns mainGlobals mg → mg d.name = some (.ref fa) → Gd.LawG l w (K w.params) 112 63 "_law_script" mg fa h) :
    PySem.W.WalkO q loose XP YP l.row.toRowW d [] (fun f vs => PySem.call f vs) :=
  Gd.walk_ofG (n := 63) (k := 112) (x := "_law_script") hn (by decide) hdf ⟨rfl, by decide, by decide⟩ hY F
end My

set_option Elab.async false
set_option linter.all false
open PySem PySem.W PyProof.Rows
set_option maxRecDepth 100000 in
set_option maxHeartbeats 0 in
theorem PySem.Challenge.cw_alldeeds_k11_steps_by_number_holds : PySem.Challenge.rw_alldeeds_k11_steps_by_number.Holds := by
  w_on; o_law; k_head; (case hw => w_witness2)
  k_fill
  refine My.walkEnd (l := PySem.Challenge.rw_alldeeds_k11_steps_by_number) rfl rfl (fun w h Y => PySem.W.km_in_of Y) ?F
  case F =>
    intro w mg fa h Y KX G hmg
    have hT := PySem.W.km_tabs_of Y
    refine' My.all_mk KX G hmg ?tP1 ?a1 ?l1 ?c1 ?k1 ?a2 ?l2 ?c2 ?k2 ?a3 ?l3 ?c3 ?k3 ?a4 ?l4 ?c4 ?k4 ?a5 ?l5 ?c5 ?k5 ?a6 ?l6 ?c6 ?k6 ?a7 ?l7 ?c7 ?k7 ?a8 ?l8 ?c8 ?k8 ?a9 ?l9 ?c9 ?k9 ?a10 ?l10 ?c10 ?k10 ?a11 ?l11 ?c11 ?k11 ?a12 ?l12 ?c12 ?k12 ?a13 ?l13 ?c13 ?k13 ?a14 ?l14 ?c14 ?k14 ?a15 ?l15 ?c15 ?k15 ?a16 ?l16 ?c16 ?k16 ?a17 ?l17 ?c17 ?k17 ?a18 ?l18 ?c18 ?k18 ?a19 ?l19 ?c19 ?k19 ?a20 ?l20 ?c20 ?k20 ?a21 ?l21 ?c21 ?k21 ?a22 ?l22 ?c22 ?k22 ?a23 ?l23 ?c23 ?k23 ?a24 ?l24 ?c24 ?k24 ?a25 ?l25 ?c25 ?k25 ?a26 ?l26 ?c26 ?k26 ?a27 ?l27 ?c27 ?k27 ?a28 ?l28 ?c28 ?k28 ?a29 ?l29 ?c29 ?k29 ?a30 ?l30 ?c30 ?k30 ?a31 ?l31 ?c31 ?k31 ?a32 ?l32 ?c32 ?k32 ?a33 ?l33 ?c33 ?k33 ?a34 ?l34 ?c34 ?k34 ?a35 ?l35 ?c35 ?k35 ?a36 ?l36 ?c36 ?k36 ?a37 ?l37 ?c37 ?k37 ?a38 ?l38 ?c38 ?k38 ?a39 ?l39 ?c39 ?k39 ?a40 ?l40 ?c40 ?k40 ?a41 ?l41 ?c41 ?k41 ?a42 ?l42 ?c42 ?k42 ?a43 ?l43 ?c43 ?k43 ?a44 ?l44 ?c44 ?k44 ?a45 ?l45 ?c45 ?k45 ?a46 ?l46 ?c46 ?k46 ?a47 ?l47 ?c47 ?k47 ?a48 ?l48 ?c48 ?k48 ?a49 ?l49 ?c49 ?k49 ?a50 ?l50 ?c50 ?k50 ?a51 ?l51 ?c51 ?k51 ?a52 ?l52 ?c52 ?k52 ?a53 ?l53 ?c53 ?k53 ?a54 ?l54 ?c54 ?k54 ?a55 ?l55 ?c55 ?k55 ?a56 ?l56 ?c56 ?k56 ?a57 ?l57 ?c57 ?k57 ?a58 ?l58 ?c58 ?k58 ?a59 ?l59 ?c59 ?k59 ?a60 ?l60 ?c60 ?k60 ?a61 ?l61 ?c61 ?k61 ?a62 ?l62 ?c62 ?k62 ?a63 ?l63 ?c63 ?k63 ?a64 ?l64 ?c64 ?k64 ?a65 ?l65 ?c65 ?k65 ?a66 ?l66 ?c66 ?k66 ?a67 ?l67 ?c67 ?k67 ?a68 ?l68 ?c68 ?k68 ?v1T ?v2T ?tN1 ?tC1 ?gCD ?pgCD ?hdCD ?poCD ?saCD ?mkCD ?kpCD ?nD0 ?nD1 ?haCD ?hnCD ?htCD ?hmCD ?gEB ?gaEB ?ggEB ?exEB ?hdEB ?noEB ?isEB ?tyEB ?gEN ?gaEN ?ggEN ?exEN ?hdEN ?noEN ?isEN ?tyEN ?gED ?gaED ?ggED ?exED ?hdED ?noED ?isED ?tyED ?gEM ?gaEM ?ggEM ?exEM ?hdEM ?noEM ?isEM ?tyEM ?sBB ?sNB ?sNN ?sDB ?sDN ?sDD ?sMB ?sMN ?sMD ?sMM ?xEB ?rEB ?saEB ?kEB ?isCD ?tyCD ?a69 ?i69 ?l69 ?c69 ?k69 ?a70 ?i70 ?l70 ?c70 ?k70 ?a71 ?i71 ?l71 ?c71 ?k71 ?a72 ?i72 ?l72 ?c72 ?k72 ?z1 ?z2 ?z3 ?z4 ?z5 ?z6 ?z7 ?z8 ?z9 ?z10 ?z11 ?z12 ?z13 ?z14 ?z15 ?z16 ?z17 ?y1 ?y2 ?y3 ?y4 ?y5 ?y6 ?y7 ?y8 ?y9 ?y10 ?y11 ?y13 ?y14 ?y15 ?e1 ?e2 ?e3 ?e4 ?e5 ?e6 ?y16 ?y17 ?y18 ?y19 ?y20 ?y21 ?y22 ?y23 ?d1 ?d2 ?d3 ?d4 ?d5 ?d6 ?d7 ?y24 ?y25 ?y26 ?m1M ?m2M ?m3M ?m4M ?m5M ?m6M ?m7M
    (case tP1 => exact hT _ (List.mem_cons_of_mem _ List.mem_cons_self))
    (case a1 => k_is)
    (case l1 => k_is)
    (case c1 => k_is)
    (case k1 => k_is)
    (case a2 => k_is)
    (case l2 => k_is)
    (case c2 => k_is)
    (case k2 => k_is)
    (case a3 => k_is)
    (case l3 => k_is)
    (case c3 => k_is)
    (case k3 => k_is)
    (case a4 => k_is)
    (case l4 => k_is)
    (case c4 => k_is)
    (case k4 => k_is)
    (case a5 => k_is)
    (case l5 => k_is)
    (case c5 => k_is)
    (case k5 => k_is)
    (case a6 => k_is)
    (case l6 => k_is)
    (case c6 => k_is)
    (case k6 => k_is)
    (case a7 => k_is)
    (case l7 => k_is)
    (case c7 => k_is)
    (case k7 => k_is)
    (case a8 => k_is)
    (case l8 => k_is)
    (case c8 => k_is)
    (case k8 => k_is)
    (case a9 => k_is)
    (case l9 => k_is)
    (case c9 => k_is)
    (case k9 => k_is)
    (case a10 => k_is)
    (case l10 => k_is)
    (case c10 => k_is)
    (case k10 => k_is)
    (case a11 => k_is)
    (case l11 => k_is)
    (case c11 => k_is)
    (case k11 => k_is)
    (case a12 => k_is)
    (case l12 => k_is)
    (case c12 => k_is)
    (case k12 => k_is)
    (case a13 => k_is)
    (case l13 => k_is)
    (case c13 => k_is)
    (case k13 => k_is)
    (case a14 => k_is)
    (case l14 => k_is)
    (case c14 => k_is)
    (case k14 => k_is)
    (case a15 => k_is)
    (case l15 => k_is)
    (case c15 => k_is)
    (case k15 => k_is)
    (case a16 => k_is)
    (case l16 => k_is)
    (case c16 => k_is)
    (case k16 => k_is)
    (case a17 => k_is)
    (case l17 => k_is)
    (case c17 => k_is)
    (case k17 => k_is)
    (case a18 => k_is)
    (case l18 => k_is)
    (case c18 => k_is)
    (case k18 => k_is)
    (case a19 => k_is)
    (case l19 => k_is)
    (case c19 => k_is)
    (case k19 => k_is)
    (case a20 => k_is)
    (case l20 => k_is)
    (case c20 => k_is)
    (case k20 => k_is)
    (case a21 => k_is)
    (case l21 => k_is)
    (case c21 => k_is)
    (case k21 => k_is)
    (case a22 => k_is)
    (case l22 => k_is)
    (case c22 => k_is)
    (case k22 => k_is)
    (case a23 => k_is)
    (case l23 => k_is)
    (case c23 => k_is)
    (case k23 => k_is)
    (case a24 => k_is)
    (case l24 => k_is)
    (case c24 => k_is)
    (case k24 => k_is)
    (case a25 => k_is)
    (case l25 => k_is)
    (case c25 => k_is)
    (case k25 => k_is)
    (case a26 => k_is)
    (case l26 => k_is)
    (case c26 => k_is)
    (case k26 => k_is)
    (case a27 => k_is)
    (case l27 => k_is)
    (case c27 => k_is)
    (case k27 => k_is)
    (case a28 => k_is)
    (case l28 => k_is)
    (case c28 => k_is)
    (case k28 => k_is)
    (case a29 => k_is)
    (case l29 => k_is)
    (case c29 => k_is)
    (case k29 => k_is)
    (case a30 => k_is)
    (case l30 => k_is)
    (case c30 => k_is)
    (case k30 => k_is)
    (case a31 => k_is)
    (case l31 => k_is)
    (case c31 => k_is)
    (case k31 => k_is)
    (case a32 => k_is)
    (case l32 => k_is)
    (case c32 => k_is)
    (case k32 => k_is)
    (case a33 => k_is)
    (case l33 => k_is)
    (case c33 => k_is)
    (case k33 => k_is)
    (case a34 => k_is)
    (case l34 => k_is)
    (case c34 => k_is)
    (case k34 => k_is)
    (case a35 => k_is)
    (case l35 => k_is)
    (case c35 => k_is)
    (case k35 => k_is)
    (case a36 => k_is)
    (case l36 => k_is)
    (case c36 => k_is)
    (case k36 => k_is)
    (case a37 => k_is)
    (case l37 => k_is)
    (case c37 => k_is)
    (case k37 => k_is)
    (case a38 => k_is)
    (case l38 => k_is)
    (case c38 => k_is)
    (case k38 => k_is)
    (case a39 => k_is)
    (case l39 => k_is)
    (case c39 => k_is)
    (case k39 => k_is)
    (case a40 => k_is)
    (case l40 => k_is)
    (case c40 => k_is)
    (case k40 => k_is)
    (case a41 => k_is)
    (case l41 => k_is)
    (case c41 => k_is)
    (case k41 => k_is)
    (case a42 => k_is)
    (case l42 => k_is)
    (case c42 => k_is)
    (case k42 => k_is)
    (case a43 => k_is)
    (case l43 => k_is)
    (case c43 => k_is)
    (case k43 => k_is)
    (case a44 => k_is)
    (case l44 => k_is)
    (case c44 => k_is)
    (case k44 => k_is)
    (case a45 => k_is)
    (case l45 => k_is)
    (case c45 => k_is)
    (case k45 => k_is)
    (case a46 => k_is)
    (case l46 => k_is)
    (case c46 => k_is)
    (case k46 => k_is)
    (case a47 => k_is)
    (case l47 => k_is)
    (case c47 => k_is)
    (case k47 => k_is)
    (case a48 => k_is)
    (case l48 => k_is)
    (case c48 => k_is)
    (case k48 => k_is)
    (case a49 => k_is)
    (case l49 => k_is)
    (case c49 => k_is)
    (case k49 => k_is)
    (case a50 => k_is)
    (case l50 => k_is)
    (case c50 => k_is)
    (case k50 => k_is)
    (case a51 => k_is)
    (case l51 => k_is)
    (case c51 => k_is)
    (case k51 => k_is)
    (case a52 => k_is)
    (case l52 => k_is)
    (case c52 => k_is)
    (case k52 => k_is)
    (case a53 => k_is)
    (case l53 => k_is)
    (case c53 => k_is)
    (case k53 => k_is)
    (case a54 => k_is)
    (case l54 => k_is)
    (case c54 => k_is)
    (case k54 => k_is)
    (case a55 => k_is)
    (case l55 => k_is)
    (case c55 => k_is)
    (case k55 => k_is)
    (case a56 => k_is)
    (case l56 => k_is)
    (case c56 => k_is)
    (case k56 => k_is)
    (case a57 => k_is)
    (case l57 => k_is)
    (case c57 => k_is)
    (case k57 => k_is)
    (case a58 => k_is)
    (case l58 => k_is)
    (case c58 => k_is)
    (case k58 => k_is)
    (case a59 => k_is)
    (case l59 => k_is)
    (case c59 => k_is)
    (case k59 => k_is)
    (case a60 => k_is)
    (case l60 => k_is)
    (case c60 => k_is)
    (case k60 => k_is)
    (case a61 => k_is)
    (case l61 => k_is)
    (case c61 => k_is)
    (case k61 => k_is)
    (case a62 => k_is)
    (case l62 => k_is)
    (case c62 => k_is)
    (case k62 => k_is)
    (case a63 => k_is)
    (case l63 => k_is)
    (case c63 => k_is)
    (case k63 => k_is)
    (case a64 => k_is)
    (case l64 => k_is)
    (case c64 => k_is)
    (case k64 => k_is)
    (case a65 => k_is)
    (case l65 => k_is)
    (case c65 => k_is)
    (case k65 => k_is)
    (case a66 => k_is)
    (case l66 => k_is)
    (case c66 => k_is)
    (case k66 => k_is)
    (case a67 => k_is)
    (case l67 => k_is)
    (case c67 => k_is)
    (case k67 => k_is)
    (case a68 => k_is)
    (case l68 => k_is)
    (case c68 => k_is)
    (case k68 => k_is)
    (case v1T => k_is)
    (case v2T => k_is)
    (case tN1 => kernel_rfl)
    (case tC1 => kernel_rfl)
    (case gCD => k_is)
    (case pgCD => k_is)
    (case hdCD => k_is)
    (case poCD => k_is)
    (case saCD => k_is)
    (case mkCD => k_is)
    (case kpCD => k_is)
    (case nD0 => k_is)
    (case nD1 => k_is)
    (case haCD => k_is)
    (case hnCD => k_is)
    (case htCD => k_is)
    (case hmCD => k_is)
    (case gEB => k_is)
    (case gaEB => k_is)
    (case ggEB => k_is)
    (case exEB => k_is)
    (case hdEB => k_is)
    (case noEB => k_is)
    (case isEB => k_is)
    (case tyEB => k_is)
    (case gEN => k_is)
    (case gaEN => k_is)
    (case ggEN => k_is)
    (case exEN => k_is)
    (case hdEN => k_is)
    (case noEN => k_is)
    (case isEN => k_is)
    (case tyEN => k_is)
    (case gED => k_is)
    (case gaED => k_is)
    (case ggED => k_is)
    (case exED => k_is)
    (case hdED => k_is)
    (case noED => k_is)
    (case isED => k_is)
    (case tyED => k_is)
    (case gEM => k_is)
    (case gaEM => k_is)
    (case ggEM => k_is)
    (case exEM => k_is)
    (case hdEM => k_is)
    (case noEM => k_is)
    (case isEM => k_is)
    (case tyEM => k_is)
    (case sBB => first | rfl | k_is)
    (case sNB => first | rfl | k_is)
    (case sNN => first | rfl | k_is)
    (case sDB => first | rfl | k_is)
    (case sDN => first | rfl | k_is)
    (case sDD => first | rfl | k_is)
    (case sMB => first | rfl | k_is)
    (case sMN => first | rfl | k_is)
    (case sMD => first | rfl | k_is)
    (case sMM => first | rfl | k_is)
    (case xEB => k_is)
    (case rEB => first | decide +kernel | k_is)
    (case saEB => k_is)
    (case kEB => k_is)
    (case isCD => k_is)
    (case tyCD => k_is)
    (case a69 => k_is)
    (case i69 => k_is)
    (case l69 => k_is)
    (case c69 => k_is)
    (case k69 => k_is)
    (case a70 => k_is)
    (case i70 => k_is)
    (case l70 => k_is)
    (case c70 => k_is)
    (case k70 => k_is)
    (case a71 => k_is)
    (case i71 => k_is)
    (case l71 => k_is)
    (case c71 => k_is)
    (case k71 => k_is)
    (case a72 => k_is)
    (case i72 => k_is)
    (case l72 => k_is)
    (case c72 => k_is)
    (case k72 => k_is)
    (case z1 => k_is)
    (case z2 => k_is)
    (case z3 => k_is)
    (case z4 => k_is)
    (case z5 => k_is)
    (case z6 => k_is)
    (case z7 => k_is)
    (case z8 => k_is)
    (case z9 => k_is)
    (case z10 => k_is)
    (case z11 => k_is)
    (case z12 => k_is)
    (case z13 => k_is)
    (case z14 => k_is)
    (case z15 => k_is)
    (case z16 => k_is)
    (case z17 => k_is)
    (case y1 => k_is)
    (case y2 => k_is)
    (case y3 => k_is)
    (case y4 => k_is)
    (case y5 => k_is)
    (case y6 => k_is)
    (case y7 => k_is)
    (case y8 => k_is)
    (case y9 => k_is)
    (case y10 => k_is)
    (case y11 => k_is)
    (case y13 => k_is)
    (case y14 => k_is)
    (case y15 => exact ⟨⟨_, _, rfl, rfl⟩, ⟨_, _, rfl, rfl⟩, ⟨_, _, rfl, rfl⟩, ⟨_, _, rfl, rfl⟩, ⟨_, _, rfl, rfl⟩, ⟨_, _, rfl, rfl⟩, trivial⟩)
    (case e1 => k_is)
    (case e2 => k_is)
    (case e3 => k_is)
    (case e4 => k_is)
    (case e5 => k_is)
    (case e6 => k_is)
    (case y16 => k_is)
    (case y17 => k_is)
    (case y18 => exact ⟨⟨_, _, rfl, rfl⟩, ⟨_, _, rfl, rfl⟩, ⟨_, _, rfl, rfl⟩, ⟨_, _, rfl, rfl⟩, ⟨_, _, rfl, rfl⟩, ⟨_, _, rfl, rfl⟩, ⟨_, _, rfl, rfl⟩, trivial⟩)
    (case y19 => exact .cons ⟨_, rfl, _, rfl⟩ (.cons ⟨_, rfl, _, rfl⟩ (.cons ⟨_, rfl, _, rfl⟩ (.cons ⟨_, rfl, _, rfl⟩ (.cons ⟨_, rfl, _, rfl⟩ (.cons ⟨_, rfl, _, rfl⟩ (.cons ⟨_, rfl, _, rfl⟩ (.nil))))))))
    (case y20 => first | rfl | decide +kernel | k_is)
    (case y21 => k_is)
    (case y22 => k_is)
    (case y23 => exact ⟨⟨_, _, rfl, rfl⟩, ⟨_, _, rfl, rfl⟩, ⟨_, _, rfl, rfl⟩, ⟨_, _, rfl, rfl⟩, ⟨_, _, rfl, rfl⟩, ⟨_, _, rfl, rfl⟩, ⟨_, _, rfl, rfl⟩, trivial⟩)
    (case d1 => k_is)
    (case d2 => k_is)
    (case d3 => k_is)
    (case d4 => k_is)
    (case d5 => k_is)
    (case d6 => k_is)
    (case d7 => k_is)
    (case y24 => k_is)
    (case y25 => k_is)
    (case y26 => exact ⟨⟨_, _, rfl, rfl⟩, ⟨_, _, rfl, rfl⟩, ⟨_, _, rfl, rfl⟩, ⟨_, _, rfl, rfl⟩, ⟨_, _, rfl, rfl⟩, ⟨_, _, rfl, rfl⟩, ⟨_, _, rfl, rfl⟩, trivial⟩)
    (case m1M => k_is)
    (case m2M => k_is)
    (case m3M => k_is)
    (case m4M => k_is)
    (case m5M => k_is)
    (case m6M => k_is)
    (case m7M => k_is)

