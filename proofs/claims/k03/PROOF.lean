import PyProof.Rows.All
import Wide.All
import OpenK.AllK
import Wide.FinOn
import HandS.ForMost
import HandS.Wide
import HandS.IsInst
import HandS.TupAny
import HandS.Style
import HandS.Deep
import HandS.Conv
import HandS.Codes
import KE.KRevSl
import HandS.Dict
import HandS.Iter
import KE.KeyNested
import KE.KEqDict
import HandS.Words
import HandS.DictEq
import HandS.ForExc
import HandS.Lambda
import HandS.TryMany
import HandS.ExcInit
import HandS.ExcField
import HandS.Zip
import HandS.Walk
import HandS.More
import HandS.SetFor
import HandS.SetKeys
import HandS.Strs
import HandS.DictComp
import HandS.SortKw
import HandS.EndTab
import KE.KNestM
import PySem.Challenge.RW_alldeeds_k03_whole_counters_and_forms_pu
set_option Elab.async false
set_option linter.all false
set_option maxRecDepth 100000
namespace My
open PySem L2

/-! ### the text by places -/
def top (i : Nat) : Stmt := PySem.Challenge.pw_alldeeds_k03_whole_counters_and_forms_pu.main.body.getD i (.Pass ⟨0, 0, 0, 0⟩)

/-! ### a def that may be called -/
structure Cal (P : Program) (w : World) (K : PySem.W.Frag) (mg : Str → Option Value) (base : Heap) (x : Str) (k : Nat) (ps : List Str) (sp : Sp) where
  f : Addr
  fd : FuncData
  ok : FnOk P w K mg base CX0 k f fd ps sp
  m : mg x = some (.ref f)
  kp : PySem.W.keepIn K (.ref f) = true
  b : Binds K fd ps []
section
variable {X : Cx} {k j : Nat} {ps : List Str} {sp : Sp} {x : Str} {p pos : Pos} {e : Expr} {es : List Expr} {t : TA}
theorem pe_callC (C : Cal X.prog X.w X.K X.mg X.base x k ps sp) (hr : Room j X.A) (ha : PA X (e :: es) t) (hk : k ≤ j := by omega) (hg : Gl X x := by rfl) (hdb : (x == ("__debug__" : Str)) = false := by decide)
    (he : starEach (e :: es) X.env = (false, eval e X.env) :: starEach es X.env := by rfl) (hpl : (backTo pos (starEach es X.env)).any (·.1) = false := by rfl) :
    PE X (.Call (.Name x p) (e :: es) [] pos) (tCall sp [] E0 t) := pe_call C.ok (hr.mono hk) hg C.m C.kp C.b .nil pass0 ha hdb he hpl
theorem pe_globE {v : V} (h : ∃ u, X.mg x = some u ∧ RelV v u) (hg : Gl X x := by rfl) (hd : (x == ("__debug__" : Str)) = false := by decide) : PE X (.Name x pos) (tC v) := by
  obtain ⟨u, hm, r⟩ := h
  exact pe_glob hg hm r hd
end

/-! ### heaps: all but the object at d is kept -/
def Keep (d : Addr) (H H' : Hp) : Prop := ∀ b o, b ≠ d → H b = some o → H' b = some o
def IsDk (H : Hp) (d : Addr) : Prop := ∃ kvs : List (Key × V), H d = some (.dK kvs)
theorem Keep.refl (d : Addr) (H : Hp) : Keep d H H := fun _ _ _ h => h
theorem Keep.trans {d : Addr} {H H1 H2 : Hp} (a : Keep d H H1) (b : Keep d H1 H2) : Keep d H H2 := fun c o n h => b c o n (a c o n h)
theorem Same.toKeep {d : Addr} {H H' : Hp} (s : Same H H') : Keep d H H' := fun c o _ h => s c o h
theorem same_new {H : Hp} {p : Addr} (h : H p = none) (o : HO) : Same H (upd H p o) := fun b u q => by rw [upd_ne (ne_of_none q h)]; exact q
theorem keep_put {d : Addr} {H : Hp} (o : HO) : Keep d H (upd H d o) := fun b u n q => by rw [upd_ne n]; exact q
theorem rd_keep {d : Addr} {H H' : Hp} {a : Addr} {o : HO} (hd : IsDk H d) (k : Keep d H H') (ho : ∀ kvs, o ≠ .dK kvs) (r : Rd H a o) : Rd H' a o := by
  obtain ⟨kvs, hd⟩ := hd
  have ne : a ≠ d := by
    rintro rfl
    rcases r with r | ⟨ob, r⟩
    · rw [hd] at r; exact ho _ (Option.some.inj r).symm
    · rw [hd] at r; cases r
  rcases r with r | ⟨ob, r⟩
  · exact .inl (k _ _ ne r)
  · exact .inr ⟨ob, k _ _ ne r⟩
variable {K : PySem.W.Frag}
theorem seqL_keep {d : Addr} {H H' : Hp} {a : Addr} {xs : List V} (hd : IsDk H d) (k : Keep d H H') (r : SqL K H a xs) : SqL K H' a xs := by
  rcases r with r | r
  · exact .inl (rd_keep hd k (fun _ z => by cases z) r)
  · exact .inr r
theorem seqT_keep {d : Addr} {H H' : Hp} {a : Addr} {xs : List V} (hd : IsDk H d) (k : Keep d H H') (r : SqT K H a xs) : SqT K H' a xs := by
  rcases r with r | r
  · exact .inl (rd_keep hd k (fun _ z => by cases z) r)
  · exact .inr r
mutual
theorem dp_keep {d : Addr} {H H' : Hp} (hd : IsDk H d) (k : Keep d H H') : ∀ (D : PyData) (v : V), Dp K H v D → Dp K H' v D
  | .none, _, h => by cases h; exact .non
  | .bool b, _, h => by cases h; exact .bl b
  | .int i, _, h => by cases h; exact .int i
  | .str x, _, h => by cases h; exact .str x
  | .list ds, _, h => by cases h with | lst hs ha => exact .lst (seqL_keep hd k hs) (dpAll_keep hd k ds _ ha)
  | .tuple ds, _, h => by cases h with | tup hs ha => exact .tup (seqT_keep hd k hs) (dpAll_keep hd k ds _ ha)
  | .dict _, _, h => by cases h
theorem dpAll_keep {d : Addr} {H H' : Hp} (hd : IsDk H d) (k : Keep d H H') : ∀ (Ds : List PyData) (vs : List V), DpAll K H vs Ds → DpAll K H' vs Ds
  | [], _, h => by cases h; exact .nil
  | D :: Ds, _, h => by cases h with | cons h1 h2 => exact .cons (dp_keep hd k D _ h1) (dpAll_keep hd k Ds _ h2)
end
/-- .. the same where nothing is changed -/
theorem rd_same {H H' : Hp} {a : Addr} {o : HO} (k : Same H H') (r : Rd H a o) : Rd H' a o := by
  rcases r with r | ⟨ob, r⟩
  · exact .inl (k _ _ r)
  · exact .inr ⟨ob, k _ _ r⟩
theorem seqT_same {H H' : Hp} {a : Addr} {xs : List V} (k : Same H H') (r : SqT K H a xs) : SqT K H' a xs := by
  rcases r with r | r
  · exact .inl (rd_same k r)
  · exact .inr r
mutual
theorem dp_same {H H' : Hp} (k : Same H H') : ∀ (D : PyData) (v : V), Dp K H v D → Dp K H' v D
  | .none, _, h => by cases h; exact .non
  | .bool b, _, h => by cases h; exact .bl b
  | .int i, _, h => by cases h; exact .int i
  | .str x, _, h => by cases h; exact .str x
  | .list ds, _, h => by cases h with | lst hs ha => exact .lst (k.seq hs) (dpAll_same k ds _ ha)
  | .tuple ds, _, h => by cases h with | tup hs ha => exact .tup (seqT_same k hs) (dpAll_same k ds _ ha)
  | .dict _, _, h => by cases h
theorem dpAll_same {H H' : Hp} (k : Same H H') : ∀ (Ds : List PyData) (vs : List V), DpAll K H vs Ds → DpAll K H' vs Ds
  | [], _, h => by cases h; exact .nil
  | D :: Ds, _, h => by cases h with | cons h1 h2 => exact .cons (dp_same k D _ h1) (dpAll_same k Ds _ h2)
end

/-! ### what isinstance says of data -/
def tagOf : PyData → String
  | .none => "NoneType" | .bool _ => "bool" | .int _ => "int" | .str _ => "str" | .list _ => "list" | .tuple _ => "tuple" | .dict _ => "dict"
theorem tyx_of {H : Hp} {v : V} {D : PyData} (h : Dp K H v D) : TyX K H v (.type (tagOf D)) := by
  cases h with
  | non => exact .base .non
  | bl b => exact .base (.bl b)
  | int i => exact .base (.int i)
  | str x => exact .base (.str x)
  | lst hs _ =>
    rcases hs with (hs | ⟨o, hs⟩) | ⟨o, its, n, lk, c, _⟩
    · exact .base (.lst hs)
    · exact .base (.frz hs)
    · exact .kList lk c
  | tup hs _ =>
    rcases hs with (hs | ⟨o, hs⟩) | ⟨o, its, n, lk, c, _⟩
    · exact .base (.tup hs)
    · exact .fTuple hs
    · exact .kTuple lk c
def isStrD : PyData → Bool | .str _ => true | _ => false
def isTupD : PyData → Bool | .tuple _ => true | _ => false
def isBoolD : PyData → Bool | .bool _ => true | _ => false
theorem kit_str (D : PyData) : PySem.W.kitOne K (.type (tagOf D)) (.type "str") = some (isStrD D) := by
  cases D <;> (refine kit_ty ?_; simp only [tagOf, isStrD]; decide +kernel)
theorem kit_tuple (D : PyData) : PySem.W.kitOne K (.type (tagOf D)) (.type "tuple") = some (isTupD D) := by
  cases D <;> (refine kit_ty ?_; simp only [tagOf, isTupD]; decide +kernel)
theorem kit_bool (D : PyData) : PySem.W.kitOne K (.type (tagOf D)) (.type "bool") = some (isBoolD D) := by
  cases D <;> (refine kit_ty ?_; simp only [tagOf, isBoolD]; decide +kernel)
theorem kit_dict_str : PySem.W.kitOne K (.type "dict") (.type "str") = some false := kit_ty (by decide +kernel)
theorem kit_dict_tuple : PySem.W.kitOne K (.type "dict") (.type "tuple") = some false := kit_ty (by decide +kernel)

/-! ### a comprehension over a text -/
theorem lc_str {x : Str} {g : TG} {tt : TT} {te : TE} {vs : List Nat} {σ : St} {H1 : Hp} {D : Addr} {Qd : Hp → Prop} (Pv : Nat → Hp → Prop) (h0 : Pv 0 (upd H1 D (.lst [])))
    (hs : ∀ i c H, x.cps.toList[i]? = some c → Pv i H → g (.str ⟨#[c]⟩) (wipe σ vs) H fun σ2 H2 => wipe σ2 vs = wipe σ vs ∧ tt σ2 H2 fun b H3 =>
      if b = true then te σ2 H3 fun y H4 => ∃ acc, H4 D = some (.lst acc) ∧ acc.length < sizeLine ∧ Pv (i + 1) (upd H4 D (.lst (acc ++ [y]))) else Pv (i + 1) H3) (hd : ∀ H, Pv x.cps.toList.length H → Qd H) :
    ∃ W : Nat → Nat → Hp → Prop, (∃ m, W 0 m (upd H1 D (.lst []))) ∧ ∀ i m H, W i m H →
      ((Its x).stop i H ∧ Qd H) ∨ ((Its x).go i H ∧ ∃ Nx : Hp → Prop, (∀ H', Nx H' → ∃ m', m' < m ∧ W (i + 1) m' H') ∧ ∀ x_1 H', (Its x).yld i H x_1 H' → g x_1 (wipe σ vs) H' fun σ2 H2 => wipe σ2 vs = wipe σ vs ∧ tt σ2 H2 fun b H3 =>
        if b = true then te σ2 H3 fun y H4 => ∃ acc, H4 D = some (.lst acc) ∧ acc.length < sizeLine ∧ Nx (upd H4 D (.lst (acc ++ [y]))) else Nx H3) := by
  refine ⟨fun i m H => m = x.cps.size - i ∧ i ≤ x.cps.size ∧ Pv i H, ⟨x.cps.size, by simp, Nat.zero_le _, h0⟩, ?_⟩
  rintro i m H ⟨rfl, hi, p⟩
  by_cases hlt : i < x.cps.size
  · refine .inr ⟨hlt, Pv (i + 1), fun H' p' => ⟨x.cps.size - (i + 1), by omega, rfl, hlt, p'⟩, fun v H' y => ?_⟩
    obtain ⟨e, c, hc, ev⟩ := y
    subst e ev
    exact hs i c _ (by rw [Array.getElem?_toList]; exact hc) p
  · have e : i = x.cps.size := by omega
    subst e
    exact .inl ⟨Nat.le_refl _, hd H p⟩
theorem same_fresh {H H' : Hp} {D : Addr} {o : HO} (k : Same H H') (n : H D = none) : Same H (upd H' D o) := fun b u q => by rw [upd_ne (ne_of_none q n)]; exact k _ _ q
theorem keep_fresh {d : Addr} {H H' : Hp} {D : Addr} {o : HO} (k : Keep d H H') (n : H D = none) : Keep d H (upd H' D o) := fun b u nd q => by rw [upd_ne (ne_of_none q n)]; exact k _ _ nd q
theorem take_next {α : Type} {xs : List α} {i : Nat} {c : α} (h : xs[i]? = some c) : xs.take (i + 1) = xs.take i ++ [c] := by
  rw [List.take_add_one, h]
  rfl

/-! ### names and forms -/
def zLetters : Str := Str.ofString "abcdefghijklmnopqrstuvwxyz"
def zDigits : Str := Str.ofString "0123456789"
def isL (c : Nat) : Bool := decide (c ∈ zLetters.cps.toList)
def isLD (c : Nat) : Bool := isL c || decide (c ∈ zDigits.cps.toList)
def isName (z : Str) : Bool := decide (1 ≤ z.length ∧ z.length ≤ 12) && ((z.cps.toList.head?.any isL) && z.cps.toList.all isLD)
def isNameD : PyData → Bool | .str z => isName z | _ => false
theorem inV_str (x : Str) : ∀ zs : List Str, inV (.str x) (zs.map V.str) = decide (x ∈ zs)
  | [] => by simp [inV]
  | z :: zs => by
    have ih := inV_str x zs
    unfold inV at ih ⊢
    rw [List.map_cons, List.any_cons, ih]
    by_cases e : z = x
    · subst e
      simp [eqV]
    · have e' : ¬ x = z := fun q => e q.symm
      simp [eqV, e, e']
def leafW : List Str := [Str.ofString "good", Str.ofString "counter"]
def halfW : List Str := [Str.ofString "both", Str.ofString "between", Str.ofString "offered", Str.ofString "chosen"]
def isForm : Nat → PyData → Bool
  | _, .tuple [.str x, n] => decide (x ∈ leafW) && isNameD n
  | 0, _ => false
  | k + 1, .tuple [.str x, a, b] => decide (x ∈ halfW) && (isForm k a && isForm k b)
  | _ + 1, _ => false
theorem isForm_tup2 (k : Nat) (a n : PyData) : isForm k (.tuple [a, n]) = (match a with | .str x => decide (x ∈ leafW) && isNameD n | _ => false) := by
  cases k <;> cases a <;> rfl
theorem isForm_tup3_0 (a b c : PyData) : isForm 0 (.tuple [a, b, c]) = false := by cases a <;> rfl
theorem isForm_tup3 (k : Nat) (a b c : PyData) : isForm (k + 1) (.tuple [a, b, c]) = (match a with | .str x => decide (x ∈ halfW) && (isForm k b && isForm k c) | _ => false) := by
  cases a <;> rfl
theorem isForm_tup_len (k : Nat) (ds : List PyData) (h2 : ds.length ≠ 2) (h3 : ds.length ≠ 3) : isForm k (.tuple ds) = false := by
  match ds, h2, h3 with
  | [], _, _ => cases k <;> rfl
  | [a], _, _ => cases k <;> cases a <;> rfl
  | [a, b], h, _ => exact absurd rfl h
  | [a, b, c], _, h => exact absurd rfl h
  | a :: b :: c :: d :: r, _, _ => cases k <;> cases a <;> rfl
theorem isForm_not_tup (k : Nat) (D : PyData) (h : isTupD D = false) : isForm k D = false := by
  cases D with
  | tuple ds => cases h
  | _ => cases k <;> rfl
def okStr (z : Str) : Bool := decide (z.length ≤ 1000) && z.cps.toList.all fun c => decide (c < 128)
mutual
def shortD : PyData → Bool
  | .str z => okStr z
  | .list xs => shortAll xs
  | .tuple xs => shortAll xs
  | .dict _ => false
  | _ => true
def shortAll : List PyData → Bool
  | [] => true
  | d :: ds => shortD d && shortAll ds
end
theorem shortAll_cons {d : PyData} {ds : List PyData} (h : shortAll (d :: ds) = true) : shortD d = true ∧ shortAll ds = true := by
  unfold shortAll at h
  exact Bool.and_eq_true_iff.mp h
theorem short_str {D : PyData} (h : shortD D = true) : ∀ z, D = .str z → z.length ≤ 1000 := by
  rintro z rfl
  unfold shortD okStr at h
  exact of_decide_eq_true (Bool.and_eq_true_iff.mp h).1
theorem strOk_of {z : Str} (h : okStr z = true) : PyData.strOk z = true := by
  unfold okStr at h
  unfold PyData.strOk
  have h2 := (Bool.and_eq_true_iff.mp h).2
  rw [List.all_eq_true] at h2
  rw [Array.all_eq_true']
  intro c hc
  have := of_decide_eq_true (h2 c (Array.mem_toList_iff.mpr hc))
  exact decide_eq_true (by omega)
mutual
theorem canLay_of : ∀ D : PyData, shortD D = true → D.canLay0 = true
  | .none, _ => by simp only [PyData.canLay0]
  | .bool _, _ => by simp only [PyData.canLay0]
  | .int _, _ => by simp only [PyData.canLay0]
  | .str x, h => by
    unfold shortD at h
    simp only [PyData.canLay0]
    exact strOk_of h
  | .list xs, h => by
    unfold shortD at h
    simp only [PyData.canLay0]
    exact canLayAll_of xs h
  | .tuple xs, h => by
    unfold shortD at h
    simp only [PyData.canLay0]
    exact canLayAll_of xs h
  | .dict _, h => by cases h
theorem canLayAll_of : ∀ xs : List PyData, shortAll xs = true → PyData.canLayAll0 xs = true
  | [], _ => by simp only [PyData.canLayAll0]
  | x :: xs, h => by
    have h' := shortAll_cons h
    simp only [PyData.canLayAll0, canLay_of x h'.1, canLayAll_of xs h'.2, Bool.and_self]
end
theorem shaped_of {D : PyData} (h : shortD D = true) (d : D.depth ≤ 64) : SeqAt.shaped D = true := by
  unfold SeqAt.shaped
  rw [canLay_of D h, decide_eq_true d]
  rfl
theorem depth_in {d : PyData} {ds : List PyData} (h : d ∈ ds) : d.depth + 1 ≤ (PyData.tuple ds).depth := by
  have key : ∀ ds : List PyData, d ∈ ds → d.depth ≤ PyData.depthAll ds := by
    intro ds
    induction ds with
    | nil => intro h; cases h
    | cons x xs ih =>
      intro h
      simp only [PyData.depthAll]
      rcases List.mem_cons.mp h with rfl | h
      · exact Nat.le_max_left _ _
      · exact Nat.le_trans (ih h) (Nat.le_max_right _ _)
  simp only [PyData.depth]
  have := key ds h
  omega
def memD (d : PyData) (zs : List Str) : Bool := match d with | .str x => decide (x ∈ zs) | _ => false
theorem any_eqv (d : PyData) : ∀ zs : List Str, ((zs.map PyData.str).any fun z => PyData.eqv z d) = memD d zs
  | [] => by cases d <;> rfl
  | z :: zs => by
    rw [List.map_cons, List.any_cons, any_eqv d zs]
    cases d with
    | str x =>
      unfold memD PyData.eqv
      by_cases e : z = x
      · subst e; simp
      · have e' : ¬ x = z := fun q => e q.symm
        simp [e, e']
    | _ => simp [memD, PyData.eqv]
theorem dpAll_strs {H : Hp} : ∀ zs : List Str, DpAll K H (zs.map V.str) (zs.map PyData.str)
  | [] => .nil
  | z :: zs => .cons (.str z) (dpAll_strs zs)
theorem dpAll_len {H : Hp} : ∀ {xs : List V} {ds : List PyData}, DpAll K H xs ds → xs.length = ds.length
  | _, _, .nil => rfl
  | _, _, .cons _ t => congrArg (· + 1) (dpAll_len t)
theorem inV_23 (n : Nat) : inV (.int n) [.int 2, .int 3] = (decide (n = 2) || decide (n = 3)) := by
  unfold inV
  simp only [List.any_cons, List.any_nil, Bool.or_false]
  have h2 : eqV (.int 2) (.int (n : Int)) = decide (n = 2) := by
    by_cases e : n = 2
    · subst e; rfl
    · rw [decide_eq_false e]
      show (if _ then _ else _) = _ <;> simp [eqV] <;> omega
  have h3 : eqV (.int 3) (.int (n : Int)) = decide (n = 3) := by
    by_cases e : n = 3
    · subst e; rfl
    · rw [decide_eq_false e]
      simp [eqV]
      omega
  rw [h2, h3]
end My

set_option Elab.async false
set_option linter.all false
set_option maxRecDepth 100000
namespace My
open PySem L2

structure Txt (K : PySem.W.Frag) (mg : Str → Option Value) where
  isinstance : mg "isinstance" = none
  len : mg "len" = none
  all : mg "all" = none
  str : mg "str" = none
  tuple : mg "tuple" = none
  int : mg "int" = none
  list : mg "list" = none
  abs : mg "abs" = none
  max : mg "max" = none
  min : mg "min" = none
  range : mg "range" = none
  bool : mg "bool" = none
  LETTERS : ∃ u, mg "LETTERS" = some u ∧ RelV (.str zLetters) u
  DIGITS : ∃ u, mg "DIGITS" = some u ∧ RelV (.str zDigits) u
  LONGEST_NAME : ∃ u, mg "LONGEST_NAME" = some u ∧ RelV (.int 12) u
  DEEPEST : ∃ u, mg "DEEPEST" = some u ∧ RelV (.int 12) u
  aLeaf : Addr
  LEAF_WORDS : ∃ u, mg "LEAF_WORDS" = some u ∧ RelV (.ref aLeaf) u
  sLeaf : ∀ H, SqT K H aLeaf (leafW.map V.str)
  aHalf : Addr
  HALVED_WORDS : ∃ u, mg "HALVED_WORDS" = some u ∧ RelV (.ref aHalf) u
  sHalf : ∀ H, SqT K H aHalf (halfW.map V.str)

/-- what is said of a name -/
def spName (K : PySem.W.Frag) : Sp := fun vs H Q _ => ∃ v, vs = [v] ∧
  ((∃ D, Dp K H v D ∧ (∀ z, D = .str z → z.length ≤ 1000) ∧ ∀ H', Same H H' → Q (.bl (isNameD D)) H') ∨ ((∃ (a : Addr) (kvs : List (Key × V)), v = .ref a ∧ H a = some (.dK kvs)) ∧ ∀ H', Same H H' → Q (.bl false) H'))

abbrev sfits_name : Stmt := top 14
abbrev Nfits_name : List Str := ["value", "sign"]
abbrev Pfits_name : List Str := ["value"]
theorem scfits_name : FnScope Nfits_name Pfits_name (defScope sfits_name) := ⟨rfl, rfl, rfl, by decide +kernel, rfl, by decide +kernel, by decide +kernel⟩
section
variable {P : Program} {w : World} {K : PySem.W.Frag} {mg : Str → Option Value} {base : Heap} {f : Addr} {fd : FuncData}

theorem ok_fits_name (T : Txt K mg) (F : Fun K "fits_name" "fits_name" sfits_name f fd) : FnOk P w K mg base CX0 2 f fd Pfits_name (spName K) := by
  refine F.ok scfits_name (fun vs H Q E h => ?_) (fun cdv A outer s H vs Q E hr h => ?_)
  · obtain ⟨v, rfl, _⟩ := h
    rfl
  obtain ⟨v, rfl, h⟩ := h
  refine ⟨_, (pss_cons (ps_if (PW.pt (pw_or (pt_not (pt_val (pe_callB call_isi rfl T.isinstance (by decide +kernel) (pa_cons (pv 0) (pa_cons (pe_bltn (v := .ty "str") rfl T.str (by decide +kernel) rfl) pa_nil))))) (pw_or1 (pt_not (pt_chain op_le op_le pe_int (pe_callB call_len rfl T.len (by decide +kernel) (pa_cons (pv 0) pa_nil)) (pe_globE T.LONGEST_NAME))))))
    (pss_one (ps_ret pe_bl))
    pss_nil)
  (pss_one (ps_ret (pe_and (pe_cmpR op_in_sign (pe_ix ix_seq (pv 0) pe_int (fun _ _ => rfl)) (pe_globE T.LETTERS) rfl) (pe_one (pe_callB (cr_all rfl) rfl T.all (by decide +kernel) (pa_cons (pe_lc (own := [("sign", 1)]) (g := (gName 1)) rfl scfits_name.nd (pi_str (pv 0)) (blkOk_by (own := [("sign", 1)]) (N := Nfits_name) (sc := defScope sfits_name) (by decide +kernel)) (fun _ _ _ _ _ => (pg_name (i := 1) scfits_name.nd rfl (Or.inl rfl))) (fun _ _ _ _ _ => pts_nil) (fun _ _ _ _ _ => (pe_or (pe_cmpR op_in_sign (pv 1) (pe_globE T.LETTERS) rfl) (pe_one (pe_cmpR op_in_sign (pv 1) (pe_globE T.DIGITS) rfl))))) pa_nil))))))), ?_⟩
  rcases h with ⟨D, hv, hz, q⟩ | ⟨⟨a, kvs, rfl, ha⟩, q⟩
  · refine ⟨_, rfl, _, _, _, _, _, rfl, .ty "str", tyx_of hv, kit_str D, _, rfl, ?_⟩
    by_cases hs : isStrD D = true
    · cases D with
      | str z =>
        cases hv
        have hz' : z.length ≤ 1000 := hz z rfl
        have hz2 : z.length ≤ sizeLine := Nat.le_of_lt (small1000 hz')
        refine iteF ⟨_, rfl, _, _, rfl, ⟨hz2, rfl⟩, 1, _, rfl, rfl, _, rfl, ?_⟩
        refine ite2 (fun c1 => ?_) (fun c1 => ?_)
        · refine ⟨_, _, rfl, rfl, _, rfl, ?_⟩
          by_cases c2 : (z.length : Int) ≤ 12
          · rw [decide_eq_true c2]
            have c1' : (1 : Int) ≤ z.length := of_decide_eq_true c1
            refine iteF ?_
            obtain ⟨c, hc⟩ : ∃ c, z.cps.toList[0]? = some c := ⟨_, List.getElem?_eq_getElem (by rw [Array.length_toList]; show 0 < z.length; omega)⟩
            refine ⟨_, rfl, .inr (.inr ⟨z, 0, c, rfl, rfl, hz2, atI_nat hc, c, zLetters, rfl, rfl, _, rfl, ?_⟩)⟩
            have hh : z.cps.toList.head? = some c := by rw [List.head?_eq_getElem?]; exact hc
            have en : isNameD (.str z) = (isL c && z.cps.toList.all isLD) := by
              show isName z = _
              unfold isName
              rw [hh, decide_eq_true (by omega : 1 ≤ z.length ∧ z.length ≤ 12)]
              rfl
            rw [en] at q
            refine ite2 (fun c3 => ?_) (fun c3 => ?_)
            · have c3' : isL c = true := c3
              rw [c3'] at q
              refine ⟨_, rfl, z, rfl, fun D nD => lc_str (x := z) (fun i H' => Same H H' ∧ H' D = some (.lst (((z.cps.toList.take i).map isLD).map V.bl))) ⟨same_new nD _, upd_same⟩ (fun i c H' hc ⟨k, e⟩ => ?_) (fun H' ⟨k, e⟩ => ?_)⟩
              · refine ⟨rfl, _, rfl, c, zLetters, rfl, rfl, _, rfl, ?_⟩
                have fin : ∀ b : Bool, b = isLD c → ∃ acc, H' D = some (HO.lst acc) ∧ acc.length < sizeLine ∧ Same H (upd H' D (.lst (acc ++ [.bl b]))) ∧
                    upd H' D (.lst (acc ++ [.bl b])) D = some (HO.lst (((z.cps.toList.take (i + 1)).map isLD).map V.bl)) := fun b eb => by
                  refine ⟨_, e, small1000 ?_, same_fresh k nD, ?_⟩
                  · rw [List.length_map, List.length_map, List.length_take]
                    have : z.cps.toList.length = z.length := Array.length_toList
                    omega
                  · rw [upd_same, take_next hc, List.map_append, List.map_append, eb]
                    rfl
                refine ite2 (fun c4 => ?_) (fun c4 => ?_)
                · refine fin true ?_
                  have : isL c = true := c4
                  unfold isLD
                  rw [this]
                  rfl
                · refine ⟨_, rfl, c, zDigits, rfl, rfl, ?_⟩
                  have : isL c = false := Bool.eq_false_iff.mpr c4
                  refine fin _ ?_
                  unfold isLD
                  rw [this]
                  rfl
              · rw [List.take_length] at e
                have g := q H' k
                refine ⟨D, z.cps.toList.map isLD, rfl, SqL.of e, ?_⟩
                have e2 : (z.cps.toList.map isLD).all id = z.cps.toList.all isLD := by rw [List.all_map]; rfl
                rw [e2]
                exact g
            · have c3' : isL c = false := Bool.eq_false_iff.mpr c3
              rw [c3'] at q
              exact q H (Same.refl H)
          · rw [decide_eq_false c2]
            refine iteT ?_
            have en : isNameD (.str z) = false := by
              show isName z = _
              unfold isName
              rw [decide_eq_false (by omega)]
              rfl
            rw [en] at q
            exact q H (Same.refl H)
        · have c1' : ¬ (1 : Int) ≤ z.length := fun c => c1 (decide_eq_true c)
          refine ⟨_, rfl, iteT ?_⟩
          have en : isNameD (.str z) = false := by
            show isName z = _
            unfold isName
            rw [decide_eq_false (by omega)]
            rfl
          rw [en] at q
          exact q H (Same.refl H)
      | _ => cases hs
    · have e : isNameD D = false := by cases D <;> first | rfl | exact absurd rfl hs
      rw [Bool.not_eq_true] at hs
      rw [hs]
      refine iteT (iteT ?_)
      have q' := q H (Same.refl H)
      rw [e] at q'
      exact q'
  · exact ⟨_, rfl, _, _, _, _, _, rfl, .ty "str", .base (.dK ha), kit_dict_str, _, rfl, iteT (iteT (q H (Same.refl H)))⟩
end
end My

set_option Elab.async false
set_option linter.all false
set_option maxRecDepth 100000
namespace My
open PySem L2
abbrev sfits_form : Stmt := top 15
abbrev Nfits_form : List Str := ["value", "room"]
abbrev Pfits_form : List Str := ["value", "room"]
theorem scfits_form : FnScope Nfits_form Pfits_form (defScope sfits_form) := ⟨rfl, rfl, rfl, by decide +kernel, rfl, by decide +kernel, by decide +kernel⟩

def spForm (K : PySem.W.Frag) (n : Nat) : Sp := fun vs H Q _ => ∃ (v : V) (k : Nat), vs = [v, .int k] ∧ k < n ∧
  ((∃ D, Dp K H v D ∧ shortD D = true ∧ ∀ H', Same H H' → Q (.bl (isForm k D)) H') ∨ ((∃ (a : Addr) (kvs : List (Key × V)), v = .ref a ∧ H a = some (.dK kvs)) ∧ ∀ H', Same H H' → Q (.bl false) H'))
section
variable {P : Program} {w : World} {K : PySem.W.Frag} {mg : Str → Option Value} {base : Heap} {f : Addr} {fd : FuncData}

theorem ok_fits_form {n : Nat} (T : Txt K mg) (F : Fun K "fits_form" "fits_form" sfits_form f fd) (Cfits_name : Cal P w K mg base "fits_name" 2 ["value"] (spName K)) (Cfits_form : Cal P w K mg base "fits_form" (2 + n) ["value", "room"] (spForm K n)) :
    FnOk P w K mg base CX0 (2 + n + 1) f fd Pfits_form (spForm K (n + 1)) := by
  refine F.ok scfits_form (fun vs H Q E h => ?_) (fun cdv A outer s H vs Q E hr h => ?_)
  · obtain ⟨v, k, rfl, _⟩ := h
    rfl
  obtain ⟨v, k, rfl, hk, h⟩ := h
  refine ⟨_, (pss_cons (ps_if (PW.pt (pw_or (pt_not (pt_val (pe_callB call_isi rfl T.isinstance (by decide +kernel) (pa_cons (pv 0) (pa_cons (pe_bltn (v := .ty "tuple") rfl T.tuple (by decide +kernel) rfl) pa_nil))))) (pw_or (pt_cmpR op_notIn_seq (pe_callB call_len rfl T.len (by decide +kernel) (pa_cons (pv 0) pa_nil)) (pe_tup (pa_cons pe_int (pa_cons pe_int pa_nil))) rfl) (pw_or1 (pt_not (pt_val (pe_callB call_isi rfl T.isinstance (by decide +kernel) (pa_cons (pe_ix ix_tup (pv 0) pe_int (fun _ _ => rfl)) (pa_cons (pe_bltn (v := .ty "str") rfl T.str (by decide +kernel) rfl) pa_nil)))))))))
    (pss_one (ps_ret pe_bl))
    pss_nil)
  (pss_cons (ps_if (pt_cmpR op_eq (pe_callB call_len rfl T.len (by decide +kernel) (pa_cons (pv 0) pa_nil)) pe_int (nomark _))
    (pss_one (ps_ret (pe_and (pe_cmpR op_in_seq (pe_ix ix_tup (pv 0) pe_int (fun _ _ => rfl)) (pe_globE T.LEAF_WORDS) rfl) (pe_one (pe_callC Cfits_name hr (pa_cons (pe_ix ix_tup (pv 0) pe_int (fun _ _ => rfl)) pa_nil))))))
    pss_nil)
  (pss_cons (ps_if (PW.pt (pw_or (pt_cmpR op_notIn_seq (pe_ix ix_tup (pv 0) pe_int (fun _ _ => rfl)) (pe_globE T.HALVED_WORDS) rfl) (pw_or1 (pt_cmpR op_eq (pv 1) pe_int (nomark _)))))
    (pss_one (ps_ret pe_bl))
    pss_nil)
  (pss_one (ps_ret (pe_and (pe_callC Cfits_form hr (pa_cons (pe_ix ix_tup (pv 0) pe_int (fun _ _ => rfl)) (pa_cons (pe_op op_sub (pv 1) pe_int) pa_nil))) (pe_one (pe_callC Cfits_form hr (pa_cons (pe_ix ix_tup (pv 0) pe_int (fun _ _ => rfl)) (pa_cons (pe_op op_sub (pv 1) pe_int) pa_nil)))))))))), ?_⟩
  rcases h with ⟨D, hv, hz, q⟩ | ⟨⟨a, kvs, rfl, ha⟩, q⟩
  · refine ⟨_, rfl, _, _, _, _, _, rfl, .ty "tuple", tyx_of hv, kit_tuple D, _, rfl, ?_⟩
    by_cases hs : isTupD D = true
    · cases D with
      | tuple ds =>
        cases hv with
        | @tup a xs _ hT hA =>
        have hl := dpAll_len hA
        refine iteF ⟨_, rfl, _, _, rfl, .inr ⟨xs, hT, rfl⟩, by show 2 ≤ sizeLine; decide, fun p np => ?_⟩
        have S1 : Same H (upd H p (.tup [.int 2, .int 3])) := same_new np _
        refine ⟨p, _, rfl, .inr (SqT.of upd_same), rfl, rfl, _, rfl, ?_⟩
        show (if (!inV (.int (xs.length : Nat)) [.int 2, .int 3]) = true then _ else _)
        rw [inV_23]
        match ds, xs, hA, hl with
        | [], [], hA, _ =>
          rw [isForm_tup_len _ _ (by simp) (by simp)] at q
          exact iteT (iteT (q _ S1))
        | [d], [x], hA, _ =>
          rw [isForm_tup_len _ _ (by simp) (by simp)] at q
          exact iteT (iteT (q _ S1))
        | [d, e], [x, y], hA, _ =>
          cases hA with | cons hx hA => cases hA with | cons hy _ =>
          have hzx := shortAll_cons (show shortAll [d, e] = true from by unfold shortD at hz; exact hz)
          have hzy := (shortAll_cons hzx.2).1
          refine ⟨_, rfl, a, _, _, x, rfl, rfl, seqT_same S1 hT, rfl, _, _, _, _, _, rfl, .ty "str", tyx_of (dp_same S1 _ _ hx), kit_str d, _, rfl, ?_⟩
          rw [isForm_tup2] at q
          by_cases hd : isStrD d = true
          · cases d with
            | str z =>
              cases hx
              refine iteF ⟨_, rfl, _, _, rfl, .inr ⟨_, seqT_same S1 hT, rfl⟩, rfl, _, rfl, ?_⟩
              refine iteT ⟨_, rfl, a, _, _, _, rfl, rfl, seqT_same S1 hT, rfl, T.aLeaf, _, rfl, .inr (T.sLeaf _), rfl, rfl, _, rfl, ?_⟩
              show (if inV (.str z) (leafW.map V.str) = true then _ else _)
              rw [inV_str]
              by_cases hm : z ∈ leafW
              · rw [decide_eq_true hm]
                refine iteT ⟨_, rfl, a, _, _, y, rfl, rfl, seqT_same S1 hT, rfl, y, rfl, .inl ⟨e, dp_same S1 _ _ hy, short_str hzy, fun H' S2 => ?_⟩⟩
                have g := q H' (S1.trans S2)
                simp only [decide_eq_true hm, Bool.true_and] at g
                exact g
              · rw [decide_eq_false hm]
                have g := q _ S1
                simp only [decide_eq_false hm, Bool.false_and] at g
                exact iteF g
            | _ => cases hd
          · rw [Bool.not_eq_true] at hd
            rw [hd]
            have g := q _ S1
            have g2 : Q (.bl false) (upd H p (.tup [.int 2, .int 3])) := by
              cases d <;> first | exact g | cases hd
            exact g2
        | [d, e, g], [x, y, z], hA, _ =>
          cases hA with | cons hx hA => cases hA with | cons hy hA => cases hA with | cons hw _ =>
          have hzx := shortAll_cons (show shortAll [d, e, g] = true from by unfold shortD at hz; exact hz)
          have hzy := shortAll_cons hzx.2
          have hzw := (shortAll_cons hzy.2).1
          refine ⟨_, rfl, a, _, _, x, rfl, rfl, seqT_same S1 hT, rfl, _, _, _, _, _, rfl, .ty "str", tyx_of (dp_same S1 _ _ hx), kit_str d, _, rfl, ?_⟩
          by_cases hd : isStrD d = true
          · cases d with
            | str t =>
              cases hx
              refine iteF ⟨_, rfl, _, _, rfl, .inr ⟨_, seqT_same S1 hT, rfl⟩, rfl, _, rfl, ?_⟩
              refine iteF ⟨_, rfl, a, _, _, _, rfl, rfl, seqT_same S1 hT, rfl, T.aHalf, _, rfl, .inr (T.sHalf _), rfl, rfl, _, rfl, ?_⟩
              show (if (!inV (.str t) (halfW.map V.str)) = true then _ else _)
              rw [inV_str]
              cases k with
              | zero =>
                rw [isForm_tup3_0] at q
                by_cases hm : t ∈ halfW
                · rw [decide_eq_true hm]
                  exact iteF ⟨_, rfl, rfl, _, rfl, iteT (q _ S1)⟩
                · rw [decide_eq_false hm]
                  exact iteT (iteT (q _ S1))
              | succ k =>
                rw [isForm_tup3] at q
                by_cases hm : t ∈ halfW
                · rw [decide_eq_true hm]
                  refine iteF ⟨_, rfl, rfl, _, rfl, ?_⟩
                  have ek : ¬ V.int ((k + 1 : Nat) : Int) = V.int 0 := fun z => by
                    have := V.int.inj z
                    omega
                  rw [decide_eq_false ek]
                  have e1 : ((k + 1 : Nat) : Int) - 1 = (k : Int) := by omega
                  refine iteF ⟨_, rfl, a, _, _, y, rfl, rfl, seqT_same S1 hT, rfl, _, rfl, _, _, rfl, rfl, ?_⟩
                  refine ⟨y, k, congrArg (fun i => [y, V.int i]) e1, by omega, .inl ⟨e, dp_same S1 _ _ hy, hzy.1, fun H2 S2 => ?_⟩⟩
                  have S3 := S1.trans S2
                  refine ⟨_, rfl, ?_⟩
                  by_cases hb : isForm k e = true
                  · rw [hb]
                    refine iteT ⟨_, rfl, a, _, _, z, rfl, rfl, seqT_same S3 hT, rfl, _, rfl, _, _, rfl, rfl, ?_⟩
                    refine ⟨z, k, congrArg (fun i => [z, V.int i]) e1, by omega, .inl ⟨g, dp_same S3 _ _ hw, hzw, fun H4 S4 => ?_⟩⟩
                    have g := q H4 (S3.trans S4)
                    simp only [decide_eq_true hm, Bool.true_and, hb] at g
                    exact g
                  · rw [Bool.not_eq_true] at hb
                    rw [hb]
                    have g := q H2 S3
                    simp only [hb, Bool.false_and, Bool.and_false] at g
                    exact iteF g
                · rw [decide_eq_false hm]
                  have g := q _ S1
                  simp only [decide_eq_false hm, Bool.false_and] at g
                  exact iteT (iteT g)
            | _ => cases hd
          · rw [Bool.not_eq_true] at hd
            rw [hd]
            have g := q _ S1
            have g2 : Q (.bl false) (upd H p (.tup [.int 2, .int 3])) := by
              cases k with
              | zero => rw [isForm_tup3_0] at g; exact g
              | succ k => rw [isForm_tup3] at g; cases d <;> first | exact g | cases hd
            exact g2
        | d :: e :: g :: i :: ds, x, hA, hl =>
          have e2 : x.length ≠ 2 := by rw [hl]; simp
          have e3 : x.length ≠ 3 := by rw [hl]; simp
          rw [decide_eq_false e2, decide_eq_false e3]
          have g := q _ S1
          rw [isForm_tup_len _ _ (by simp) (by simp)] at g
          exact iteT (iteT g)
      | _ => cases hs
    · rw [Bool.not_eq_true] at hs
      rw [hs]
      have q' := q H (Same.refl H)
      rw [isForm_not_tup k D hs] at q'
      exact iteT (iteT q')
  · exact ⟨_, rfl, _, _, _, _, _, rfl, .ty "tuple", .base (.dK ha), kit_dict_tuple, _, rfl, iteT (iteT (q H (Same.refl H)))⟩
end
end My

set_option Elab.async false
set_option linter.all false
set_option maxRecDepth 100000
namespace My
open PySem L2
abbrev s_law_is_name : Stmt := top 44
abbrev N_law_is_name : List Str := ["_law_value", "_law_sign"]
abbrev P_law_is_name : List Str := ["_law_value"]
theorem sc_law_is_name : FnScope N_law_is_name P_law_is_name (defScope s_law_is_name) := ⟨rfl, rfl, rfl, by decide +kernel, rfl, by decide +kernel, by decide +kernel⟩
abbrev s_law_is_form : Stmt := top 45
abbrev N_law_is_form : List Str := ["_law_value", "_law_tall"]
abbrev P_law_is_form : List Str := ["_law_value", "_law_tall"]
theorem sc_law_is_form : FnScope N_law_is_form P_law_is_form (defScope s_law_is_form) := ⟨rfl, rfl, rfl, by decide +kernel, rfl, by decide +kernel, by decide +kernel⟩
abbrev Nis_name : List Str := ["value"]
abbrev Pis_name : List Str := ["value"]
abbrev Nis_form : List Str := ["value"]
abbrev Pis_form : List Str := ["value"]
abbrev N_law_says : List Str := ["_law_told", "_law_due"]
abbrev P_law_says : List Str := ["_law_told", "_law_due"]
def zBoth : Str := Str.ofString "abcdefghijklmnopqrstuvwxyz0123456789"
theorem isLD_both (c : Nat) : decide (c ∈ zBoth.cps.toList) = isLD c := by
  have e : zBoth.cps.toList = zLetters.cps.toList ++ zDigits.cps.toList := by decide +kernel
  unfold isLD isL
  rw [e, ← Bool.decide_or]
  exact decide_eq_decide.mpr List.mem_append
theorem head_some {z : Str} (h : 1 ≤ z.length) : ∃ c, z.cps.toList[0]? = some c := ⟨_, List.getElem?_eq_getElem (by rw [Array.length_toList]; show 0 < z.length; omega)⟩
theorem isName_eq {z : Str} {c : Nat} (h1 : 1 ≤ z.length) (h2 : z.length ≤ 12) (hc : z.cps.toList[0]? = some c) : isName z = (isL c && z.cps.toList.all isLD) := by
  have hh : z.cps.toList.head? = some c := by rw [List.head?_eq_getElem?]; exact hc
  unfold isName
  rw [hh, decide_eq_true ⟨h1, h2⟩]
  rfl
theorem isName_out {z : Str} (h : ¬ (1 ≤ z.length ∧ z.length ≤ 12)) : isName z = false := by
  unfold isName
  rw [decide_eq_false h]
  rfl
theorem isForm_m2 (k : Nat) (a n : PyData) : isForm k (.tuple [a, n]) = (memD a leafW && isNameD n) := by rw [isForm_tup2]; cases a <;> rfl
theorem isForm_m3 (k : Nat) (a b c : PyData) : isForm (k + 1) (.tuple [a, b, c]) = (memD a halfW && (isForm k b && isForm k c)) := by rw [isForm_tup3]; cases a <;> rfl
/-- what is said of a form, all of which may be compared -/
def spFormL (K : PySem.W.Frag) (n : Nat) : Sp := fun vs H Q _ => ∃ (v : V) (k : Nat) (D : PyData), vs = [v, .int k] ∧ k < n ∧ Dp K H v D ∧ shortD D = true ∧ D.depth ≤ 60 ∧ ∀ H', Same H H' → Q (.bl (isForm k D)) H'
def spIsForm (K : PySem.W.Frag) : Sp := fun vs H Q _ => ∃ (v : V), vs = [v] ∧
  ((∃ D, Dp K H v D ∧ shortD D = true ∧ ∀ H', Same H H' → Q (.bl (isForm 12 D)) H') ∨ ((∃ (a : Addr) (kvs : List (Key × V)), v = .ref a ∧ H a = some (.dK kvs)) ∧ ∀ H', Same H H' → Q (.bl false) H'))
def spSays : Sp := fun vs H Q _ => ∃ a b : Bool, vs = [.bl a, .bl b] ∧ Q (.bl (a == b)) H
section
variable {P : Program} {w : World} {K : PySem.W.Frag} {mg : Str → Option Value} {base : Heap} {f : Addr} {fd : FuncData}
theorem ok_law_is_name (T : Txt K mg) (F : Fun K "_law_is_name" "_law_is_name" s_law_is_name f fd) : FnOk P w K mg base CX0 2 f fd P_law_is_name (spName K) := by
  refine F.ok sc_law_is_name (fun vs H Q E h => ?_) (fun cdv A outer s H vs Q E hr h => ?_)
  · obtain ⟨v, rfl, _⟩ := h
    rfl
  obtain ⟨v, rfl, h⟩ := h
  refine ⟨_, (pss_cons (ps_if (PW.pt (pw_or (pt_not (pt_val (pe_callB call_isi rfl T.isinstance (by decide +kernel) (pa_cons (pv 0) (pa_cons (pe_bltn (v := .ty "str") rfl T.str (by decide +kernel) rfl) pa_nil))))) (pw_or (pt_not (pt_chain op_le op_le pe_int (pe_callB call_len rfl T.len (by decide +kernel) (pa_cons (pv 0) pa_nil)) pe_int)) (pw_or1 (pt_cmpR op_notIn_sign (pe_ix ix_str (pv 0) pe_int (fun _ _ => rfl)) pe_str rfl)))))
    (pss_one (ps_ret pe_bl))
    pss_nil)
  (pss_one (ps_ret (pe_callB (cr_all rfl) rfl T.all (by decide +kernel) (pa_cons (pe_lc (own := [("_law_sign", 1)]) (g := (gName 1)) rfl sc_law_is_name.nd (pi_str (pv 0)) (blkOk_by (own := [("_law_sign", 1)]) (N := N_law_is_name) (sc := defScope s_law_is_name) (by decide +kernel)) (fun _ _ _ _ _ => (pg_name (i := 1) sc_law_is_name.nd rfl (Or.inl rfl))) (fun _ _ _ _ _ => pts_nil) (fun _ _ _ _ _ => (pe_cmpR op_in_sign (pv 1) pe_str rfl))) pa_nil))))), ?_⟩
  rcases h with ⟨D, hv, hz, q⟩ | ⟨⟨a, kvs, rfl, ha⟩, q⟩
  · refine ⟨_, rfl, _, _, _, _, _, rfl, .ty "str", tyx_of hv, kit_str D, _, rfl, ?_⟩
    by_cases hs : isStrD D = true
    · cases D with
      | str z =>
        cases hv
        have hz' : z.length ≤ 1000 := hz z rfl
        have hz2 : z.length ≤ sizeLine := Nat.le_of_lt (small1000 hz')
        refine iteF ⟨_, rfl, _, _, rfl, ⟨hz2, rfl⟩, 1, _, rfl, rfl, _, rfl, ?_⟩
        refine ite2 (fun c1 => ?_) (fun c1 => ?_)
        · refine ⟨_, _, rfl, rfl, _, rfl, ?_⟩
          by_cases c2 : (z.length : Int) ≤ 12
          · rw [decide_eq_true c2]
            have c1' : (1 : Int) ≤ z.length := of_decide_eq_true c1
            obtain ⟨c, hc⟩ := head_some (z := z) (by omega)
            have en : isNameD (.str z) = (isL c && z.cps.toList.all isLD) := isName_eq (by omega) (by omega) hc
            rw [en] at q
            refine iteF ⟨_, rfl, z, 0, c, rfl, rfl, hz2, atI_nat hc, c, zLetters, rfl, rfl, _, rfl, ?_⟩
            show (if (!isL c) = true then _ else _)
            by_cases c3 : isL c = true
            · rw [c3] at q ⊢
              refine iteF ?_
              refine ⟨_, rfl, z, rfl, fun D nD => lc_str (x := z) (fun i H' => Same H H' ∧ H' D = some (.lst (((z.cps.toList.take i).map isLD).map V.bl))) ⟨same_new nD _, upd_same⟩ (fun i c H' hc ⟨k, e⟩ => ?_) (fun H' ⟨k, e⟩ => ?_)⟩
              · refine ⟨rfl, _, rfl, c, zBoth, rfl, rfl, ?_⟩
                refine ⟨_, e, small1000 ?_, same_fresh k nD, ?_⟩
                · rw [List.length_map, List.length_map, List.length_take]
                  have : z.cps.toList.length = z.length := Array.length_toList
                  omega
                · rw [upd_same, take_next hc, List.map_append, List.map_append, isLD_both]
                  rfl
              · rw [List.take_length] at e
                have g := q H' k
                refine ⟨D, z.cps.toList.map isLD, rfl, SqL.of e, ?_⟩
                have e2 : (z.cps.toList.map isLD).all id = z.cps.toList.all isLD := by rw [List.all_map]; rfl
                rw [e2]
                exact g
            · rw [Bool.not_eq_true] at c3
              rw [c3] at q ⊢
              exact iteT (q H (Same.refl H))
          · rw [decide_eq_false c2]
            rw [show isNameD (.str z) = false from isName_out (by omega)] at q
            exact q H (Same.refl H)
        · have c1' : ¬ (1 : Int) ≤ z.length := fun c => c1 (decide_eq_true c)
          rw [show isNameD (.str z) = false from isName_out (by omega)] at q
          exact ⟨_, rfl, q H (Same.refl H)⟩
      | _ => cases hs
    · have e : isNameD D = false := by cases D <;> first | rfl | exact absurd rfl hs
      rw [Bool.not_eq_true] at hs
      rw [hs]
      have q' := q H (Same.refl H)
      rw [e] at q'
      exact q'
  · exact ⟨_, rfl, _, _, _, _, _, rfl, .ty "str", .base (.dK ha), kit_dict_str, _, rfl, q H (Same.refl H)⟩
theorem ok_law_is_form {n : Nat} (T : Txt K mg) (F : Fun K "_law_is_form" "_law_is_form" s_law_is_form f fd) (C_law_is_name : Cal P w K mg base "_law_is_name" 2 ["_law_value"] (spName K)) (C_law_is_form : Cal P w K mg base "_law_is_form" (2 + n) ["_law_value", "_law_tall"] (spFormL K n)) :
    FnOk P w K mg base CX0 (2 + n + 1) f fd P_law_is_form (spFormL K (n + 1)) := by
  refine F.ok sc_law_is_form (fun vs H Q E h => ?_) (fun cdv A outer s H vs Q E hr h => ?_)
  · obtain ⟨v, k, D, rfl, _⟩ := h
    rfl
  obtain ⟨v, k, D, rfl, hk, hv, hz, hd0, q⟩ := h
  have hu : A.units + 65 + 3 < cLine := by
    have := hr.un
    have e : (A.deeper (PyProof.Rows.envOfC (Str.ofString "_law_is_form") (defScope s_law_is_form) s.heap.objs.size f cdv)).units = A.units + 3 := rfl
    omega
  refine ⟨_, (pss_cons (ps_if (PW.pt (pw_or (pt_not (pt_val (pe_callB call_isi rfl T.isinstance (by decide +kernel) (pa_cons (pv 0) (pa_cons (pe_bltn (v := .ty "tuple") rfl T.tuple (by decide +kernel) rfl) pa_nil))))) (pw_or1 (pt_cmpR op_notIn_seq (pe_callB call_len rfl T.len (by decide +kernel) (pa_cons (pv 0) pa_nil)) (pe_lst (pa_cons pe_int (pa_cons pe_int pa_nil))) rfl))))
    (pss_one (ps_ret pe_bl))
    pss_nil)
  (pss_cons (ps_if (pt_cmpR op_eq (pe_callB call_len rfl T.len (by decide +kernel) (pa_cons (pv 0) pa_nil)) pe_int (nomark _))
    (pss_one (ps_ret (pe_and (pe_cmpR (op_inD (by show A.units + 3 + 65 < cLine; omega)) (pe_ix ix_tup (pv 0) pe_int (fun _ _ => rfl)) (pe_lst (pa_cons pe_str (pa_cons pe_str pa_nil))) rfl) (pe_one (pe_callC C_law_is_name hr (pa_cons (pe_ix ix_tup (pv 0) pe_int (fun _ _ => rfl)) pa_nil))))))
    pss_nil)
  (pss_cons (ps_if (PW.pt (pw_or (pt_cmpR op_eq (pv 1) pe_int (nomark _)) (pw_or1 (pt_cmpR (op_notInD (by show A.units + 3 + 65 < cLine; omega)) (pe_ix ix_tup (pv 0) pe_int (fun _ _ => rfl)) (pe_lst (pa_cons pe_str (pa_cons pe_str (pa_cons pe_str (pa_cons pe_str pa_nil))))) rfl))))
    (pss_one (ps_ret pe_bl))
    pss_nil)
  (pss_one (ps_ret (pe_and (pe_callC C_law_is_form hr (pa_cons (pe_ix ix_tup (pv 0) pe_int (fun _ _ => rfl)) (pa_cons (pe_op op_sub (pv 1) pe_int) pa_nil))) (pe_one (pe_callC C_law_is_form hr (pa_cons (pe_ix ix_tup (pv 0) pe_int (fun _ _ => rfl)) (pa_cons (pe_op op_sub (pv 1) pe_int) pa_nil)))))))))), ?_⟩
  refine ⟨_, rfl, _, _, _, _, _, rfl, .ty "tuple", tyx_of hv, kit_tuple D, _, rfl, ?_⟩
  by_cases hs : isTupD D = true
  · cases D with
    | tuple ds =>
      cases hv with
      | @tup a xs _ hT hA =>
      have hl := dpAll_len hA
      refine iteF ⟨_, rfl, _, _, rfl, .inr ⟨xs, hT, rfl⟩, by show 2 ≤ sizeLine; decide, fun p np => ?_⟩
      have S1 : Same H (upd H p (.lst [.int 2, .int 3])) := same_new np _
      refine ⟨p, _, rfl, .inl (SqL.of upd_same), rfl, rfl, _, rfl, ?_⟩
      show (if (!inV (.int (xs.length : Nat)) [.int 2, .int 3]) = true then _ else _)
      rw [inV_23]
      match ds, xs, hA, hl with
      | [], [], hA, _ =>
        rw [isForm_tup_len _ _ (by simp) (by simp)] at q
        exact iteT (q _ S1)
      | [d], [x], hA, _ =>
        rw [isForm_tup_len _ _ (by simp) (by simp)] at q
        exact iteT (q _ S1)
      | d :: e :: g :: i :: ds, x, hA, hl =>
        have e2 : x.length ≠ 2 := by rw [hl]; simp
        have e3 : x.length ≠ 3 := by rw [hl]; simp
        rw [decide_eq_false e2, decide_eq_false e3]
        have g := q _ S1
        rw [isForm_tup_len _ _ (by simp) (by simp)] at g
        exact iteT g
      | [d, e], [x, y], hA, _ =>
        cases hA with | cons hx hA => cases hA with | cons hy _ =>
        have hzx := shortAll_cons (show shortAll [d, e] = true from by unfold shortD at hz; exact hz)
        have hzy := (shortAll_cons hzx.2).1
        have dx := depth_in (d := d) (ds := [d, e]) (by simp)
        refine iteF ⟨_, rfl, _, _, rfl, .inr ⟨_, seqT_same S1 hT, rfl⟩, rfl, _, rfl, ?_⟩
        refine iteT ⟨_, rfl, a, _, _, x, rfl, rfl, seqT_same S1 hT, rfl, by show 2 ≤ sizeLine; decide, fun p2 np2 => ?_⟩
        have S2 := S1.trans (same_new np2 (.lst [.str (Str.ofString "good"), .str (Str.ofString "counter")]))
        refine ⟨d, leafW.map PyData.str, dp_same S2 _ _ hx, .lst (SqL.of upd_same) (dpAll_strs leafW), shaped_of hzx.1 (by omega), by decide +kernel, _, rfl, ?_⟩
        rw [any_eqv]
        rw [isForm_m2] at q
        by_cases hm : memD d leafW = true
        · rw [hm] at q ⊢
          exact iteT ⟨_, rfl, a, _, _, y, rfl, rfl, seqT_same S2 hT, rfl, y, rfl, .inl ⟨e, dp_same S2 _ _ hy, short_str hzy, fun H' S3 => q H' (S2.trans S3)⟩⟩
        · rw [Bool.not_eq_true] at hm
          rw [hm] at q ⊢
          exact iteF (q _ S2)
      | [d, e, g], [x, y, z], hA, _ =>
        cases hA with | cons hx hA => cases hA with | cons hy hA => cases hA with | cons hw _ =>
        have hzx := shortAll_cons (show shortAll [d, e, g] = true from by unfold shortD at hz; exact hz)
        have hzy := shortAll_cons hzx.2
        have hzw := (shortAll_cons hzy.2).1
        have dx := depth_in (d := d) (ds := [d, e, g]) (by simp)
        have dy := depth_in (d := e) (ds := [d, e, g]) (by simp)
        have dw := depth_in (d := g) (ds := [d, e, g]) (by simp)
        refine iteF ⟨_, rfl, _, _, rfl, .inr ⟨_, seqT_same S1 hT, rfl⟩, rfl, _, rfl, ?_⟩
        cases k with
        | zero =>
          rw [isForm_tup3_0] at q
          exact iteF ⟨_, rfl, rfl, _, rfl, iteT (q _ S1)⟩
        | succ k =>
          have ek : ¬ V.int ((k + 1 : Nat) : Int) = V.int 0 := fun z => by
            have := V.int.inj z
            omega
          have e1 : ((k + 1 : Nat) : Int) - 1 = (k : Int) := by omega
          refine iteF ⟨_, rfl, rfl, _, rfl, ?_⟩
          rw [decide_eq_false ek]
          refine iteF ⟨_, rfl, a, _, _, x, rfl, rfl, seqT_same S1 hT, rfl, by show 4 ≤ sizeLine; decide, fun p2 np2 => ?_⟩
          have S2 := S1.trans (same_new np2 (.lst [.str (Str.ofString "both"), .str (Str.ofString "between"), .str (Str.ofString "offered"), .str (Str.ofString "chosen")]))
          refine ⟨d, halfW.map PyData.str, dp_same S2 _ _ hx, .lst (SqL.of upd_same) (dpAll_strs halfW), shaped_of hzx.1 (by omega), by decide +kernel, _, rfl, ?_⟩
          rw [any_eqv]
          rw [isForm_m3] at q
          by_cases hm : memD d halfW = true
          · rw [hm] at q ⊢
            refine iteF ⟨_, rfl, a, _, _, y, rfl, rfl, seqT_same S2 hT, rfl, _, rfl, _, _, rfl, rfl, ?_⟩
            refine ⟨y, k, e, congrArg (fun i => [y, V.int i]) e1, by omega, dp_same S2 _ _ hy, hzy.1, by omega, fun H3 S3' => ?_⟩
            have S3 := S2.trans S3'
            refine ⟨_, rfl, ?_⟩
            by_cases hb : isForm k e = true
            · rw [hb] at q ⊢
              refine iteT ⟨_, rfl, a, _, _, z, rfl, rfl, seqT_same S3 hT, rfl, _, rfl, _, _, rfl, rfl, ?_⟩
              exact ⟨z, k, g, congrArg (fun i => [z, V.int i]) e1, by omega, dp_same S3 _ _ hw, hzw, by omega, fun H4 S4 => q H4 (S3.trans S4)⟩
            · rw [Bool.not_eq_true] at hb
              rw [hb] at q ⊢
              exact iteF (q _ S3)
          · rw [Bool.not_eq_true] at hm
            rw [hm] at q ⊢
            exact iteT (q _ S2)
    | _ => cases hs
  · rw [Bool.not_eq_true] at hs
    rw [hs]
    have q' := q H (Same.refl H)
    rw [isForm_not_tup k D hs] at q'
    exact q'
end
end My

set_option Elab.async false
set_option linter.all false
set_option maxRecDepth 100000
namespace My
open PySem L2
/-! ### the source of draws -/
def penK (L : Addr) (b l : Int) : List (Key × V) := [(.inr (Str.ofString "cells"), .ref L), (.inr (Str.ofString "begun"), .int b), (.inr (Str.ofString "left"), .int l)]
structure Pen (K : PySem.W.Frag) (H : Hp) (d L : Addr) (ns : List Int) (n : Nat) : Prop where
  ex : ∃ b l : Int, H d = some (.dK (penK L b l)) ∧ 0 ≤ b ∧ b ≤ n
  cells : SqL K H L (ns.map V.int)
  few : ns.length ≤ 63
section
variable {K : PySem.W.Frag} {H H' : Hp} {d L : Addr} {ns : List Int} {n m : Nat}
theorem Pen.isDk (p : Pen K H d L ns n) : IsDk H d := by
  obtain ⟨b, l, h, _⟩ := p.ex
  exact ⟨_, h⟩
theorem Pen.same (p : Pen K H d L ns n) (k : Same H H') : Pen K H' d L ns n := by
  obtain ⟨b, l, h, h0⟩ := p.ex
  exact ⟨⟨b, l, k _ _ h, h0⟩, k.seq p.cells, p.few⟩
theorem Pen.mono (p : Pen K H d L ns n) (h : n ≤ m) : Pen K H d L ns m := by
  obtain ⟨b, l, e, h0, h1⟩ := p.ex
  exact ⟨⟨b, l, e, h0, by omega⟩, p.cells, p.few⟩
/-- .. behind a change elsewhere: D is new since H -/
theorem Pen.fresh {D : Addr} {o : HO} {H0 : Hp} (p : Pen K H d L ns n) (k : Keep d H0 H) (c0 : SqL K H0 L (ns.map V.int)) (hd : IsDk H0 d) (nD : H0 D = none) : Pen K (upd H D o) d L ns n := by
  obtain ⟨b, l, h, h0⟩ := p.ex
  have ne : d ≠ D := by
    obtain ⟨kvs, e⟩ := hd
    exact ne_of_none e nD
  exact ⟨⟨b, l, by rw [upd_ne ne]; exact h, h0⟩, seqL_keep hd (keep_fresh k nD) c0, p.few⟩
theorem Pen.put {b l : Int} (p : Pen K H d L ns n) (h0 : 0 ≤ b) (h1 : b ≤ m) : Pen K (upd H d (.dK (penK L b l))) d L ns m :=
  ⟨⟨b, l, upd_same, h0, h1⟩, seqL_keep p.isDk (keep_put _) p.cells, p.few⟩
theorem get_cells {b l : Int} (h : H d = some (.dK (penK L b l))) : DGet H d (.str (Str.ofString "cells")) (some (.ref L)) := DGet.k (k := .inr (Str.ofString "cells")) h
theorem get_begun {b l : Int} (h : H d = some (.dK (penK L b l))) : DGet H d (.str (Str.ofString "begun")) (some (.int b)) := DGet.k (k := .inr (Str.ofString "begun")) h
theorem get_left {b l : Int} (h : H d = some (.dK (penK L b l))) : DGet H d (.str (Str.ofString "left")) (some (.int l)) := DGet.k (k := .inr (Str.ofString "left")) h
theorem put_begun {b l b' : Int} (h : H d = some (.dK (penK L b l))) : DPut H d (.str (Str.ofString "begun")) (.int b') (upd H d (.dK (penK L b' l))) := DPut.k (k := .inr (Str.ofString "begun")) h (by show 3 < sizeLine; decide)
theorem put_left {b l l' : Int} (h : H d = some (.dK (penK L b l))) : DPut H d (.str (Str.ofString "left")) (.int l') (upd H d (.dK (penK L b l'))) := DPut.k (k := .inr (Str.ofString "left")) h (by show 3 < sizeLine; decide)
theorem dpAll_ints : ∀ ns : List Int, DpAll K H (ns.map V.int) (ns.map PyData.int)
  | [] => .nil
  | n :: ns => .cons (.int n) (dpAll_ints ns)
theorem shaped_ints (ns : List Int) : SeqAt.shaped (.list (ns.map PyData.int)) = true := by
  have h1 : ∀ ns : List Int, PyData.canLayAll0 (ns.map PyData.int) = true := by
    intro ns
    induction ns with
    | nil => simp only [List.map_nil, PyData.canLayAll0]
    | cons n ns ih => simp only [List.map_cons, PyData.canLayAll0, PyData.canLay0, ih, Bool.and_self]
  have h2 : ∀ ns : List Int, PyData.depthAll (ns.map PyData.int) = 0 := by
    intro ns
    induction ns with
    | nil => simp only [List.map_nil, PyData.depthAll]
    | cons n ns ih => simp only [List.map_cons, PyData.depthAll, PyData.depth, ih, Nat.max_self]
  unfold SeqAt.shaped
  simp only [PyData.canLay0, PyData.depth, h1, h2]
  decide
theorem eqv_nil (ns : List Int) : PyData.eqv (.list (ns.map PyData.int)) (.list []) = ns.isEmpty := by
  cases ns <;> simp [PyData.eqv, PyData.eqvAll]
end
abbrev s_law_begin : Stmt := top 31
abbrev N_law_begin : List Str := ["_law_script"]
abbrev P_law_begin : List Str := ["_law_script"]
theorem sc_law_begin : FnScope N_law_begin P_law_begin (defScope s_law_begin) := ⟨rfl, rfl, rfl, by decide +kernel, rfl, by decide +kernel, by decide +kernel⟩
abbrev s_law_draw : Stmt := top 32
abbrev N_law_draw : List Str := ["_law_pen", "_law_span", "_law_digit", "_law_at", "_law_cell", "_law_n"]
abbrev P_law_draw : List Str := ["_law_pen", "_law_span"]
theorem sc_law_draw : FnScope N_law_draw P_law_draw (defScope s_law_draw) := ⟨rfl, rfl, rfl, by decide +kernel, rfl, by decide +kernel, by decide +kernel⟩
abbrev s_law_pick : Stmt := top 33
abbrev N_law_pick : List Str := ["_law_pen", "_law_some"]
abbrev P_law_pick : List Str := ["_law_pen", "_law_some"]
theorem sc_law_pick : FnScope N_law_pick P_law_pick (defScope s_law_pick) := ⟨rfl, rfl, rfl, by decide +kernel, rfl, by decide +kernel, by decide +kernel⟩
def spBegin (K : PySem.W.Frag) : Sp := fun vs H Q _ => ∃ (a : Addr) (ns : List Int), vs = [.ref a] ∧ SqL K H a (ns.map V.int) ∧ ns.length ≤ 63 ∧ ∀ d L H', Same H H' → Pen K H' d L ns 0 → Q (.ref d) H'
def spDraw (K : PySem.W.Frag) : Sp := fun vs H Q _ => ∃ (d L : Addr) (ns : List Int) (n : Nat) (m : Int), vs = [.ref d, .int m] ∧ Pen K H d L ns n ∧ n < 2 ^ 40 ∧ 0 < m ∧ m ≤ 2 ^ 20 ∧
  ∀ (r : Int) H', 0 ≤ r → r < m → Keep d H H' → Pen K H' d L ns (n + 1) → Q (.int r) H'
def spPick (K : PySem.W.Frag) : Sp := fun vs H Q _ => ∃ (d L : Addr) (ns : List Int) (n : Nat) (v : V), vs = [.ref d, v] ∧ Pen K H d L ns n ∧ n < 2 ^ 40 ∧
  ((∃ (a : Addr) (xs : List V), v = .ref a ∧ SqL K H a xs ∧ xs ≠ [] ∧ xs.length ≤ 1000 ∧ ∀ x H', x ∈ xs → Keep d H H' → Pen K H' d L ns (n + 1) → Q x H') ∨
   (∃ z : Str, v = .str z ∧ 1 ≤ z.length ∧ z.length ≤ 1000 ∧ ∀ c H', c ∈ z.cps.toList → Keep d H H' → Pen K H' d L ns (n + 1) → Q (.str ⟨#[c]⟩) H'))
section
variable {P : Program} {w : World} {K : PySem.W.Frag} {mg : Str → Option Value} {base : Heap} {f : Addr} {fd : FuncData}
theorem ok_law_begin (T : Txt K mg) (F : Fun K "_law_begin" "_law_begin" s_law_begin f fd) : FnOk P w K mg base CX0 1 f fd P_law_begin (spBegin K) := by
  refine F.ok sc_law_begin (fun vs H Q E h => ?_) (fun cdv A outer s H vs Q E hr h => ?_)
  · obtain ⟨a, ns, rfl, _⟩ := h
    rfl
  obtain ⟨a, ns, rfl, hS, h63, q⟩ := h
  refine ⟨_, (pss_one (ps_ret (pe_disp (pps_cons pe_str (pe_callTy call_list_of rfl T.list (by decide +kernel) (pa_cons (pe_slice sl_list (pv 0) po_none (po_some pe_int)) pa_nil)) (pps_cons pe_str pe_int (pps_cons pe_str pe_int pps_nil))) (by rfl) (by rfl) (fun z => by cases z) (by decide)))), ?_⟩
  refine fun d nd => ⟨_, rfl, _, rfl, a, _, rfl, (same_new nd _).seq hS, fun p1 n1 => ⟨p1, _, rfl, .inl (SqL.of upd_same), fun p2 n2 => ⟨?_, penK p2 0 0, rfl, by show 3 ≤ 15; decide, ?_⟩⟩⟩
  · have e1 : upd (upd H d (.dK [])) p1 (.lst (cutV (ns.map V.int) none (some 63))) d = some (.dK []) := same_new n1 _ _ _ upd_same
    exact same_new n2 _ _ _ e1
  · have e1 : upd (upd H d (.dK [])) p1 (.lst (cutV (ns.map V.int) none (some 63))) d = some (.dK []) := same_new n1 _ _ _ upd_same
    have ne : p2 ≠ d := fun z => (ne_of_none e1 n2) z.symm
    have c : cutV (ns.map V.int) none (some 63) = ns.map V.int := by
      have el : (ns.map V.int).length = ns.length := List.length_map _
      show (ns.map V.int).take (min 63 (ns.map V.int).length - 0) = _
      rw [Nat.min_eq_right (by omega), Nat.sub_zero, List.take_length]
    refine q d p2 _ ?_ ⟨⟨0, 0, upd_same, by omega, by omega⟩, ?_, h63⟩
    · exact fun b o hb => by
        have nb : b ≠ d := ne_of_none hb nd
        rw [upd_ne nb]
        exact same_new n2 _ _ _ (same_new n1 _ _ _ (same_new nd _ _ _ hb))
    · refine SqL.of ?_
      rw [upd_ne ne, upd_same, c]
theorem ok_law_draw (T : Txt K mg) (F : Fun K "_law_draw" "_law_draw" s_law_draw f fd) : FnOk P w K mg base CX0 1 f fd P_law_draw (spDraw K) := by
  refine F.ok sc_law_draw (fun vs H Q E h => ?_) (fun cdv A outer s H vs Q E hr h => ?_)
  · obtain ⟨d, L, ns, n, m, rfl, _⟩ := h
    rfl
  obtain ⟨d, L, ns, n, m, rfl, p, hn, hm, hm2, q⟩ := h
  refine ⟨_, (pss_cons (ps_if (pt_cmpR op_gt (pe_dget (hu_of hr) (pv 0) pe_str (fun _ _ => rfl)) pe_int (nomark _))
    (pss_cons (ps_set (i := 2) sc_law_draw.nd rfl (Or.inl rfl) (pe_op op_mod (pe_callTy call_int1 rfl T.int (by decide +kernel) (pa_cons (pe_dget (hu_of hr) (pv 0) pe_str (fun _ _ => rfl)) pa_nil)) (pv 1)))
    (pss_cons (ps_dput (hu_of hr) (pv 0) pe_str (pe_op op_fdivW (pe_dget (hu_of hr) (pv 0) pe_str (fun _ _ => rfl)) (pv 1)) rfl)
    (pss_one (ps_ret (pv 2)))))
    pss_nil)
  (pss_cons (ps_set (i := 3) sc_law_draw.nd rfl (Or.inl rfl) (pe_dget (hu_of hr) (pv 0) pe_str (fun _ _ => rfl)))
  (pss_cons (ps_dput (hu_of hr) (pv 0) pe_str (pe_op op_add (pv 3) pe_int) rfl)
  (pss_cons (ps_set (i := 4) sc_law_draw.nd rfl (Or.inl rfl) (pe_op op_add (pe_op op_mul pe_int (pv 3)) pe_int))
  (pss_cons (ps_if (pt_cmpR (op_neD hr.units) (pe_dget (hu_of hr) (pv 0) pe_str (fun _ _ => rfl)) (pe_lst pa_nil) (nomark _))
    (pss_one (ps_set (i := 4) sc_law_draw.nd rfl (Or.inl rfl) (pe_ix ix_list (pe_dget (hu_of hr) (pv 0) pe_str (fun _ _ => rfl)) (pe_op op_mod (pe_callTy call_int1 rfl T.int (by decide +kernel) (pa_cons (pv 3) pa_nil)) (pe_callB call_len rfl T.len (by decide +kernel) (pa_cons (pe_dget (hu_of hr) (pv 0) pe_str (fun _ _ => rfl)) pa_nil))) (fun _ _ => rfl))))
    pss_nil)
  (pss_cons (ps_if (PW.pt (pw_and (pt_cmpR op_lt (pv 3) (pe_callB call_len rfl T.len (by decide +kernel) (pa_cons (pe_dget (hu_of hr) (pv 0) pe_str (fun _ _ => rfl)) pa_nil)) (nomark _)) (pw_and1 (pt_cmpR op_ge (pe_callB call_abs rfl T.abs (by decide +kernel) (pa_cons (pv 4) pa_nil)) (pe_op op_pow pe_int pe_int) (nomark _)))))
    (pss_cons (ps_dput (hu_of hr) (pv 0) pe_str (pe_op op_fdivW (pe_op op_sub (pe_callB call_abs rfl T.abs (by decide +kernel) (pa_cons (pv 4) pa_nil)) (pe_op op_pow pe_int pe_int)) (pv 1)) rfl)
    (pss_one (ps_ret (pe_op op_mod (pe_callTy call_int1 rfl T.int (by decide +kernel) (pa_cons (pe_op op_sub (pe_callB call_abs rfl T.abs (by decide +kernel) (pa_cons (pv 4) pa_nil)) (pe_op op_pow pe_int pe_int)) pa_nil)) (pv 1)))))
    pss_nil)
  (pss_cons (ps_set (i := 5) sc_law_draw.nd rfl (Or.inl rfl) (pe_op op_add (pe_op op_mul (pe_op op_mod (pe_callTy call_int1 rfl T.int (by decide +kernel) (pa_cons (pv 4) pa_nil)) pe_int) pe_int) (pe_op op_mul (pe_op op_mul pe_int (pv 3)) (pv 3))))
  (pss_cons (ps_set (i := 5) sc_law_draw.nd rfl (Or.inl rfl) (pe_op op_mod (pe_callTy call_int1 rfl T.int (by decide +kernel) (pa_cons (pe_op op_add (pe_op op_add (pv 5) (pe_op op_mul pe_int (pv 3))) pe_int) pa_nil)) pe_int))
  (pss_cons (ps_set (i := 5) sc_law_draw.nd rfl (Or.inl rfl) (pe_op op_mod (pe_callTy call_int1 rfl T.int (by decide +kernel) (pa_cons (pe_op op_add (pe_op op_add (pe_op op_add (pe_op op_mul (pv 5) (pv 5)) (pe_op op_mul pe_int (pv 5))) (pe_op op_mul pe_int (pv 3))) pe_int) pa_nil)) pe_int))
  (pss_cons (ps_set (i := 5) sc_law_draw.nd rfl (Or.inl rfl) (pe_op op_mod (pe_callTy call_int1 rfl T.int (by decide +kernel) (pa_cons (pe_op op_add (pe_op op_add (pe_op op_mul (pv 5) (pv 5)) (pe_op op_mul pe_int (pv 5))) (pv 3)) pa_nil)) pe_int))
  (pss_one (ps_ret (pe_op op_mod (pe_callTy call_int1 rfl T.int (by decide +kernel) (pa_cons (pe_op op_fdivW (pe_op op_mod (pe_callTy call_int1 rfl T.int (by decide +kernel) (pa_cons (pe_op op_mul (pv 5) (pe_op op_add (pv 5) pe_int)) pa_nil)) pe_int) pe_int) pa_nil)) (pv 1)))))))))))))), ?_⟩
  obtain ⟨b, l, hd, hb0, hbn⟩ := p.ex
  have hb : -(2 ^ 64) < b ∧ b < 2 ^ 64 := by omega
  have hdiv : L2.CDivW 0 m := wide_div hm (b := 21) (by omega) (by decide) (by decide)
  have kd : IsDk H d := p.isDk
  refine ⟨_, rfl, d, _, rfl, get_left hd, _, _, rfl, rfl, _, rfl, ?_⟩
  refine ite2 (fun c => ?_) (fun c => ?_)
  · refine ⟨_, rfl, d, _, rfl, get_left hd, .inl ⟨_, rfl, _, rfl, _, _, rfl, rfl, hm, ?_⟩⟩
    refine ⟨_, rfl, d, _, rfl, get_left hd, _, rfl, _, _, rfl, rfl, hdiv, _, rfl, d, _, rfl, put_left hd, _, rfl, ?_⟩
    exact q _ _ (Int.emod_nonneg _ (by omega)) (Int.emod_lt_of_pos _ hm) (keep_put _) (p.put hb0 (by omega))
  · refine ⟨_, rfl, d, _, rfl, get_begun hd, ?_⟩
    refine ⟨_, rfl, _, _, rfl, rfl, _, rfl, d, _, rfl, put_begun hd, ?_⟩
    have h1 : upd H d (.dK (penK L (b + 1) l)) d = some (.dK (penK L (b + 1) l)) := upd_same
    have p1 : Pen K (upd H d (.dK (penK L (b + 1) l))) d L ns (n + 1) := p.put (by omega) (by omega)
    have k1 : Keep d H (upd H d (.dK (penK L (b + 1) l))) := keep_put _
    generalize upd H d (.dK (penK L (b + 1) l)) = H1 at h1 p1 k1 ⊢
    refine ⟨_, rfl, _, _, rfl, rfl, .inl ⟨by decide, by decide⟩, _, _, rfl, rfl, ?_⟩
    refine ⟨_, rfl, d, _, rfl, get_cells h1, by show 0 ≤ sizeLine; decide, fun p0 np0 => ⟨.list (ns.map PyData.int), .list [], .lst ((same_new np0 _).seq p1.cells) (dpAll_ints ns), .lst (SqL.of upd_same) .nil, shaped_ints ns, by decide, _, rfl, ?_⟩⟩
    have h2 := same_new np0 (.lst []) _ _ h1
    have p2 := p1.same (same_new np0 (.lst []))
    have k2 : Keep d H (upd H1 p0 (.lst [])) := k1.trans (Same.toKeep (same_new np0 (.lst [])))
    generalize upd H1 p0 (.lst []) = H2 at h2 p2 k2 ⊢
    rw [eqv_nil]
    have hlen : ∀ x, (ns.map V.int).length = x → ns.length = x := fun x e => by rw [List.length_map] at e; exact e
    generalize hcv : (101 * b + 47 : Int) = c0
    refine ite2 (fun c1 => ?a) (fun c1 => ?b)
    case' a =>
      have hne : 0 < ns.length := by
        cases ns with
        | nil => cases c1
        | cons _ _ => exact Nat.succ_pos _
      have hpos : (0 : Int) < ((ns.map V.int).length : Nat) := by rw [List.length_map]; omega
      have hlt : (b % ((ns.map V.int).length : Nat)).toNat < ns.length := by
        have h3 := Int.emod_nonneg b (b := (((ns.map V.int).length : Nat) : Int)) (by omega)
        have h4 := Int.emod_lt_of_pos b hpos
        rw [List.length_map] at *
        omega
      have hat : atI (ns.map V.int) (b % ((ns.map V.int).length : Nat)) = some (V.int ns[(b % ((ns.map V.int).length : Nat)).toNat]) := by
        have h3 := Int.emod_nonneg b (b := (((ns.map V.int).length : Nat) : Int)) (by omega)
        have e := Int.toNat_of_nonneg h3
        have g := atI_nat (xs := ns.map V.int) (j := (b % ((ns.map V.int).length : Nat)).toNat) (v := V.int ns[(b % ((ns.map V.int).length : Nat)).toNat]) (by rw [List.getElem?_map, List.getElem?_eq_getElem hlt]; rfl)
        rw [e] at g
        exact g
      generalize ns[(b % ((ns.map V.int).length : Nat)).toNat] = c2 at hat
      refine ⟨_, rfl, d, _, rfl, get_cells h2, _, rfl, .inl ⟨_, rfl, _, rfl, d, _, rfl, get_cells h2, _, _, rfl, .inl ⟨_, p2.cells, rfl⟩, _, _, rfl, rfl, hpos, L, _, _, _, rfl, rfl, p2.cells, hat, ?_⟩⟩
    all_goals
      refine ⟨_, rfl, _, rfl, d, _, rfl, get_cells h2, _, _, rfl, .inl ⟨_, p2.cells, rfl⟩, _, _, rfl, rfl, _, rfl, ?_⟩
      refine ite2 (fun c4 => ?_) (fun c4 => ?_)
      refine ⟨_, rfl, _, rfl, _, _, rfl, rfl, ⟨by decide, by decide, by decide⟩, _, _, rfl, rfl, _, rfl, ?_⟩
      refine ite2 (fun c5 => ?_) (fun c5 => ?_)
      refine ⟨_, rfl, _, rfl, _, _, rfl, rfl, ⟨by decide, by decide, by decide⟩, _, _, rfl, rfl, _, rfl, _, _, rfl, rfl, hdiv, _, rfl, d, _, rfl, put_left h2, ?_⟩
      refine ⟨_, rfl, _, rfl, _, _, rfl, rfl, ⟨by decide, by decide, by decide⟩, _, _, rfl, rfl, .inl ⟨_, rfl, _, rfl, _, _, rfl, rfl, hm, ?_⟩⟩
      exact q _ _ (Int.emod_nonneg _ (by omega)) (Int.emod_lt_of_pos _ hm) (k2.trans (keep_put _)) (p2.put (by omega) (by omega))
      all_goals
        refine ⟨_, rfl, .inl ⟨_, rfl, _, _, rfl, rfl, (by show (0 : Int) < 2147483423; decide), _, _, rfl, rfl, .inr ⟨by decide, by decide⟩, _, rfl, _, _, rfl, rfl, .inl ⟨by decide, by decide⟩, _, rfl, _, _, rfl, rfl, .inr hb, _, _, rfl, rfl, ?_⟩⟩
        refine ⟨_, rfl, _, rfl, _, _, rfl, rfl, .inl ⟨by decide, by decide⟩, _, _, rfl, rfl, _, _, rfl, rfl, .inl ⟨_, rfl, _, _, rfl, rfl, (by show (0 : Int) < 2147483399; decide), ?_⟩⟩
        refine ⟨_, rfl, _, rfl, _, _, rfl, rfl, .inl ⟨by omega, by omega⟩, _, rfl, _, _, rfl, rfl, .inl ⟨by decide, by decide⟩, _, _, rfl, rfl, _, rfl, _, _, rfl, rfl, .inl ⟨by decide, by decide⟩, _, _, rfl, rfl, _, _, rfl, rfl, .inl ⟨_, rfl, _, _, rfl, rfl, (by show (0 : Int) < 2147483353; decide), ?_⟩⟩
        refine ⟨_, rfl, _, rfl, _, _, rfl, rfl, .inl ⟨by omega, by omega⟩, _, rfl, _, _, rfl, rfl, .inl ⟨by decide, by decide⟩, _, _, rfl, rfl, _, rfl, _, _, rfl, rfl, .inl ⟨_, rfl, _, _, rfl, rfl, (by show (0 : Int) < 2147483323; decide), ?_⟩⟩
        refine ⟨_, rfl, _, rfl, _, _, rfl, rfl, _, _, rfl, rfl, .inl ⟨by omega, by omega⟩, .inl ⟨_, rfl, _, _, rfl, rfl, (by show (0 : Int) < 2147483269; decide), _, _, rfl, rfl, ⟨by decide, by decide⟩, .inl ⟨_, rfl, _, rfl, _, _, rfl, rfl, hm, ?_⟩⟩⟩
        exact q _ _ (Int.emod_nonneg _ (by omega)) (Int.emod_lt_of_pos _ hm) k2 p2
end
end My

set_option Elab.async false
set_option linter.all false
set_option maxRecDepth 100000
namespace My
open PySem L2 SX
theorem atI_int {α : Type} {xs : List α} {r : Int} (h0 : 0 ≤ r) (h1 : r < (xs.length : Int)) : ∃ x, atI xs r = some x ∧ x ∈ xs := by
  have h : r.toNat < xs.length := by omega
  refine ⟨xs[r.toNat], ?_, List.getElem_mem h⟩
  have e := atI_nat (xs := xs) (j := r.toNat) (v := xs[r.toNat]) (List.getElem?_eq_getElem h)
  rw [Int.toNat_of_nonneg h0] at e
  exact e
theorem joinL_signs : ∀ cs : List Nat, TL.joinL [] (cs.map fun c => [c]) = cs
  | [] => rfl
  | [c] => rfl
  | c :: e :: r => by
    have ih := joinL_signs (e :: r)
    simp only [List.map_cons] at ih ⊢
    unfold TL.joinL
    rw [ih]
    rfl
theorem join_signs (cs : List Nat) : Txt.join (Str.ofString "") (cs.map fun c => (⟨#[c]⟩ : Str)) = S cs := by
  have e := join_S [] (cs.map fun c => [c])
  rw [joinL_signs, List.map_map] at e
  exact e
theorem sum_signs : ∀ cs : List Nat, ((cs.map fun c => (⟨#[c]⟩ : Str)).map (·.length)).sum = cs.length
  | [] => rfl
  | c :: cs => by
    have ih := sum_signs cs
    rw [List.map_cons, List.map_cons, List.sum_cons, ih, List.length_cons]
    show 1 + cs.length = cs.length + 1
    omega
theorem isName_cs {c : Nat} {cs : List Nat} (h : isL c = true) (hs : ∀ x ∈ cs, isLD x = true) (hl : cs.length ≤ 11) : isName (S (c :: cs)) = true := by
  have e := isName_eq (z := S (c :: cs)) (c := c) (by rw [S_len]; exact Nat.succ_pos _) (by rw [S_len, List.length_cons]; omega) rfl
  rw [e, h]
  show (true && (c :: cs).all isLD) = true
  rw [Bool.true_and, List.all_eq_true]
  intro x hx
  rcases List.mem_cons.mp hx with rfl | hx
  · unfold isLD
    rw [h]
    rfl
  · exact hs x hx
theorem isLD_asc {c : Nat} (h : isLD c = true) : c < 128 := by
  rw [← isLD_both] at h
  have h2 := of_decide_eq_true h
  have e : ∀ x ∈ zBoth.cps.toList, x < 128 := by decide +kernel
  exact e c h2
theorem okStr_of_name {z : Str} (h : isName z = true) : okStr z = true := by
  have h12 : 1 ≤ z.length ∧ z.length ≤ 12 := by
    by_cases c : 1 ≤ z.length ∧ z.length ≤ 12
    · exact c
    · rw [isName_out c] at h
      cases h
  obtain ⟨c, hc⟩ := head_some h12.1
  rw [isName_eq h12.1 h12.2 hc] at h
  have h2 := (Bool.and_eq_true_iff.mp h).2
  rw [List.all_eq_true] at h2
  unfold okStr
  rw [decide_eq_true (by omega), Bool.true_and, List.all_eq_true]
  intro x hx
  exact decide_eq_true (isLD_asc (h2 x hx))
theorem name_len {z : Str} (h : isName z = true) : 1 ≤ z.length ∧ z.length ≤ 12 := by
  by_cases c : 1 ≤ z.length ∧ z.length ≤ 12
  · exact c
  · rw [isName_out c] at h
    cases h
abbrev s_law_name : Stmt := top 41
abbrev N_law_name : List Str := ["_law_pen", "_law_letters", "_law_many", "_law_rest", "_law_k"]
abbrev P_law_name : List Str := ["_law_pen"]
theorem sc_law_name : FnScope N_law_name P_law_name (defScope s_law_name) := ⟨rfl, rfl, rfl, by decide +kernel, rfl, by decide +kernel, by decide +kernel⟩
abbrev s_law_names : Stmt := top 42
abbrev N_law_names : List Str := ["_law_pen", "_law_most", "_law_k"]
abbrev P_law_names : List Str := ["_law_pen", "_law_most"]
theorem sc_law_names : FnScope N_law_names P_law_names (defScope s_law_names) := ⟨rfl, rfl, rfl, by decide +kernel, rfl, by decide +kernel, by decide +kernel⟩
def spNameOf (K : PySem.W.Frag) : Sp := fun vs H Q _ => ∃ (d L : Addr) (ns : List Int) (n : Nat), vs = [.ref d] ∧ Pen K H d L ns n ∧ n < 2 ^ 39 ∧
  ∀ z H', isName z = true → Keep d H H' → Pen K H' d L ns (n + 13) → Q (.str z) H'
def spNames (K : PySem.W.Frag) : Sp := fun vs H Q _ => ∃ (d L : Addr) (ns : List Int) (n m : Nat), vs = [.ref d, .int m] ∧ Pen K H d L ns n ∧ n < 2 ^ 38 ∧ 0 < m ∧ m ≤ 100 ∧
  ∀ a zs H', (∀ z ∈ zs, isName z = true) → zs ≠ [] → zs.length ≤ m → H' a = some (.lst (zs.map V.str)) → Keep d H H' → Pen K H' d L ns (n + 1 + 13 * m) → Q (.ref a) H'
section
variable {P : Program} {w : World} {K : PySem.W.Frag} {mg : Str → Option Value} {base : Heap} {f : Addr} {fd : FuncData}
theorem ok_law_pick (T : Txt K mg) (F : Fun K "_law_pick" "_law_pick" s_law_pick f fd) (C_law_draw : Cal P w K mg base "_law_draw" 1 ["_law_pen", "_law_span"] (spDraw K)) : FnOk P w K mg base CX0 2 f fd P_law_pick (spPick K) := by
  refine F.ok sc_law_pick (fun vs H Q E h => ?_) (fun cdv A outer s H vs Q E hr h => ?_)
  · obtain ⟨d, L, ns, n, v, rfl, _⟩ := h
    rfl
  obtain ⟨d, L, ns, n, v, rfl, p, hn, h⟩ := h
  refine ⟨_, (pss_one (ps_ret (pe_ix ix_seq (pv 1) (pe_callC C_law_draw hr (pa_cons (pv 0) (pa_cons (pe_callB call_len rfl T.len (by decide +kernel) (pa_cons (pv 1) pa_nil)) pa_nil))) (fun _ _ => rfl)))), ?_⟩
  rcases h with ⟨a, xs, rfl, hS, hne, hl, q⟩ | ⟨z, rfl, h1, h2, q⟩
  · have hpos : 0 < xs.length := by
      cases xs with
      | nil => exact absurd rfl hne
      | cons _ _ => exact Nat.succ_pos _
    refine ⟨_, rfl, _, rfl, _, rfl, _, _, rfl, .inl ⟨xs, hS, rfl⟩, d, L, ns, n, (xs.length : Int), rfl, p, hn, by omega, by omega, fun r H' r0 r1 k p' => ?_⟩
    obtain ⟨x, hx, hm⟩ := atI_int (xs := xs) r0 r1
    exact .inl ⟨a, xs, r, x, rfl, rfl, seqL_keep p.isDk k hS, hx, q x H' hm k p'⟩
  · have hz : z.length ≤ sizeLine := Nat.le_of_lt (small1000 h2)
    refine ⟨_, rfl, _, rfl, _, rfl, _, _, rfl, ⟨hz, rfl⟩, d, L, ns, n, (z.length : Int), rfl, p, hn, by omega, by omega, fun r H' r0 r1 k p' => ?_⟩
    have el : z.cps.toList.length = z.length := Array.length_toList
    obtain ⟨x, hx, hm⟩ := atI_int (xs := z.cps.toList) (r := r) r0 (by rw [el]; exact r1)
    exact .inr (.inr ⟨z, r, x, rfl, rfl, hz, hx, q x H' hm k p'⟩)
theorem ok_law_name (T : Txt K mg) (F : Fun K "_law_name" "_law_name" s_law_name f fd) (C_law_pick : Cal P w K mg base "_law_pick" 2 ["_law_pen", "_law_some"] (spPick K)) : FnOk P w K mg base CX0 3 f fd P_law_name (spNameOf K) := by
  refine F.ok sc_law_name (fun vs H Q E h => ?_) (fun cdv A outer s H vs Q E hr h => ?_)
  · obtain ⟨d, L, ns, n, rfl, _⟩ := h
    rfl
  obtain ⟨d, L, ns, n, rfl, p, hn, q⟩ := h
  refine ⟨_, (pss_cons (ps_set (i := 1) sc_law_name.nd rfl (Or.inr rfl) pe_str)
  (pss_cons (ps_set (i := 2) sc_law_name.nd rfl (Or.inl rfl) (pe_callC C_law_pick hr (pa_cons (pv 0) (pa_cons (pe_lst (pa_cons pe_int (pa_cons pe_int (pa_cons pe_int (pa_cons pe_int (pa_cons pe_int (pa_cons pe_int (pa_cons pe_int pa_nil)))))))) pa_nil))))
  (pss_cons (ps_setLc (i := 3) (own := [("_law_k", 4)]) (g := (gName 4)) rfl sc_law_name.nd rfl rfl (sw_true rfl rfl rfl (by decide +kernel)) (pi_range1 rfl T.range (pa_cons (pv 2) pa_nil)) (blkOk_by (own := [("_law_k", 4)]) (N := N_law_name) (sc := defScope s_law_name) (by decide +kernel)) (fun _ _ _ _ _ => (pg_name (i := 4) sc_law_name.nd rfl (Or.inl rfl))) (fun _ _ _ _ _ => pts_nil) (fun _ _ _ _ _ => (pe_callC C_law_pick hr (pa_cons (pv 0) (pa_cons (pe_op op_add_str (pv 1) pe_str) pa_nil)))))
  (pss_one (ps_ret (pe_join pe_str (pe_op op_cat (pe_lst (pa_cons (pe_callC C_law_pick hr (pa_cons (pv 0) (pa_cons (pv 1) pa_nil))) pa_nil)) (pv 3)))))))), ?_⟩
  refine ⟨_, rfl, by show 7 ≤ sizeLine; decide, fun p0 np0 => ?_⟩
  refine ⟨d, L, ns, n, _, rfl, p.same (same_new np0 _), by omega, .inl ⟨p0, _, rfl, SqL.of upd_same, by simp, by show 7 ≤ 1000; decide, fun x H1 hx k1 p1 => ?_⟩⟩
  have k1' : Keep d H H1 := (Same.toKeep (same_new np0 _)).trans k1
  obtain ⟨m, rfl, hm⟩ : ∃ m : Nat, x = V.int m ∧ m ≤ 11 := by
    simp only [List.mem_cons, List.not_mem_nil, or_false] at hx
    rcases hx with rfl | rfl | rfl | rfl | rfl | rfl | rfl <;>
      first | exact ⟨0, rfl, by decide⟩ | exact ⟨1, rfl, by decide⟩ | exact ⟨2, rfl, by decide⟩ | exact ⟨5, rfl, by decide⟩ | exact ⟨10, rfl, by decide⟩ | exact ⟨11, rfl, by decide⟩
  refine ⟨_, rfl, (m : Int), rfl, by omega, by omega, fun D nD => lc_range (lo := 0) (n := (m : Int).toNat)
    (fun i H' => Keep d H1 H' ∧ Pen K H' d L ns (n + 1 + i) ∧ ∃ cs : List Nat, cs.length = i ∧ (∀ c ∈ cs, isLD c = true) ∧ H' D = some (.lst (cs.map fun c => V.str ⟨#[c]⟩))) ?_ (fun i H2 hi ⟨k2, p2, cs, hcs, hld, e⟩ => ?_) (fun H2 ⟨k2, p2, cs, hcs, hld, e⟩ => ?_)⟩
  · exact ⟨Same.toKeep (same_new nD _), p1.fresh (Keep.refl _ _) p1.cells p1.isDk nD, [], rfl, by simp, upd_same⟩
  · refine ⟨rfl, _, rfl, _, rfl, _, _, rfl, rfl, by decide, ?_⟩
    refine ⟨d, L, ns, n + 1 + i, _, rfl, p2, by omega, .inr ⟨zBoth, rfl, by decide +kernel, by decide +kernel, fun c H3 hc k3 p3 => ?_⟩⟩
    have nDd : D ≠ d := by
      obtain ⟨kvs, ed⟩ := p1.isDk
      exact (ne_of_none ed nD).symm
    refine ⟨_, k3 D _ nDd e, small1000 (by rw [List.length_map]; omega), keep_fresh (k2.trans k3) nD, p3.fresh (k2.trans k3) p1.cells p1.isDk nD, cs ++ [c], by rw [List.length_append, hcs]; rfl, ?_, ?_⟩
    · intro x hx
      rcases List.mem_append.mp hx with hx | hx
      · exact hld x hx
      · rw [List.mem_singleton.mp hx, ← isLD_both]
        exact decide_eq_true hc
    · rw [upd_same, List.map_append]
      rfl
  · have em : (m : Int).toNat = m := Int.toNat_natCast m
    rw [em] at hcs p2
    refine ⟨⟨_, rfl⟩, _, rfl, _, rfl, d, L, ns, n + 1 + m, _, rfl, p2, by omega, .inr ⟨zLetters, rfl, by decide +kernel, by decide +kernel, fun c H3 hc k3 p3 => ⟨by show 1 ≤ sizeLine; decide, fun pA nA => ?_⟩⟩⟩
    have nDd : D ≠ d := by
      obtain ⟨kvs, ed⟩ := p1.isDk
      exact (ne_of_none ed nD).symm
    have e3 := same_new nA (.lst [.str ⟨#[c]⟩]) _ _ (k3 D _ nDd e)
    refine ⟨_, rfl, pA, D, _, _, rfl, rfl, upd_same, e3, Nat.le_of_lt (small1000 (by rw [List.length_map, List.length_singleton]; omega)), fun pB nB => ?_⟩
    have kF : Keep d H (upd (upd H3 pA (.lst [.str ⟨#[c]⟩])) pB (.lst ([V.str ⟨#[c]⟩] ++ cs.map fun c => V.str ⟨#[c]⟩))) :=
      ((k1'.trans k2).trans k3).trans ((Same.toKeep (same_new nA _)).trans (Same.toKeep (same_new nB _)))
    have pF := (p3.same (same_new nA (.lst [.str ⟨#[c]⟩]))).same (same_new nB (.lst ([V.str ⟨#[c]⟩] ++ cs.map fun c => V.str ⟨#[c]⟩)))
    refine ⟨_, pB, (c :: cs).map (fun c => (⟨#[c]⟩ : Str)), rfl, rfl, .inl (SqL.of ?_), ?_, ?_⟩
    · rw [upd_same, List.map_map]
      rfl
    · rw [sum_signs, List.length_map]
      show (c :: cs).length + (c :: cs).length * 0 ≤ 16777216
      rw [List.length_cons]
      omega
    · rw [join_signs]
      exact q _ _ (isName_cs (decide_eq_true hc) hld (by omega)) kF (pF.mono (by omega))
theorem ok_law_names (T : Txt K mg) (F : Fun K "_law_names" "_law_names" s_law_names f fd) (C_law_draw : Cal P w K mg base "_law_draw" 1 ["_law_pen", "_law_span"] (spDraw K)) (C_law_name : Cal P w K mg base "_law_name" 3 ["_law_pen"] (spNameOf K)) : FnOk P w K mg base CX0 4 f fd P_law_names (spNames K) := by
  refine F.ok sc_law_names (fun vs H Q E h => ?_) (fun cdv A outer s H vs Q E hr h => ?_)
  · obtain ⟨d, L, ns, n, m, rfl, _⟩ := h
    rfl
  obtain ⟨d, L, ns, n, m, rfl, p, hn, h0, hm, q⟩ := h
  refine ⟨_, (pss_one (ps_ret (pe_lc (own := [("_law_k", 2)]) (g := (gName 2)) rfl sc_law_names.nd (pi_range1 rfl T.range (pa_cons (pe_op op_add pe_int (pe_callC C_law_draw hr (pa_cons (pv 0) (pa_cons (pv 1) pa_nil)))) pa_nil)) (blkOk_by (own := [("_law_k", 2)]) (N := N_law_names) (sc := defScope s_law_names) (by decide +kernel)) (fun _ _ _ _ _ => (pg_name (i := 2) sc_law_names.nd rfl (Or.inl rfl))) (fun _ _ _ _ _ => pts_nil) (fun _ _ _ _ _ => (pe_callC C_law_name hr (pa_cons (pv 0) pa_nil)))))), ?_⟩
  refine ⟨_, rfl, _, rfl, d, L, ns, n, m, rfl, p, by omega, by omega, by omega, fun r H1 r0 r1 k1 p1 => ?_⟩
  refine ⟨_, _, rfl, rfl, 1 + r, rfl, by omega, by omega, fun D nD => lc_range (lo := 0) (n := (1 + r).toNat)
    (fun i H' => Keep d H1 H' ∧ Pen K H' d L ns (n + 1 + 13 * i) ∧ ∃ zs : List Str, zs.length = i ∧ (∀ z ∈ zs, isName z = true) ∧ H' D = some (.lst (zs.map V.str))) ?_ (fun i H2 hi ⟨k2, p2, zs, hcs, hld, e⟩ => ?_) (fun H2 ⟨k2, p2, zs, hcs, hld, e⟩ => ?_)⟩
  · exact ⟨Same.toKeep (same_new nD _), p1.fresh (Keep.refl _ _) p1.cells p1.isDk nD, [], rfl, by simp, upd_same⟩
  · refine ⟨rfl, _, rfl, d, L, ns, n + 1 + 13 * i, rfl, p2, by omega, fun z H3 hz k3 p3 => ?_⟩
    have nDd : D ≠ d := by
      obtain ⟨kvs, ed⟩ := p1.isDk
      exact (ne_of_none ed nD).symm
    refine ⟨_, k3 D _ nDd e, small1000 (by rw [List.length_map]; omega), keep_fresh (k2.trans k3) nD, (p3.fresh (k2.trans k3) p1.cells p1.isDk nD).mono (by omega), zs ++ [z], by rw [List.length_append, hcs]; rfl, ?_, ?_⟩
    · intro x hx
      rcases List.mem_append.mp hx with hx | hx
      · exact hld x hx
      · rw [List.mem_singleton.mp hx]
        exact hz
    · rw [upd_same, List.map_append]
      rfl
  · refine q D zs H2 hld ?_ (by omega) e (k1.trans k2) (p2.mono (by omega))
    rintro rfl
    rw [List.length_nil] at hcs
    omega
end
end My

set_option Elab.async false
set_option linter.all false
set_option maxRecDepth 100000
namespace My
open PySem L2 SX
theorem memD_inv {d : PyData} {zs : List Str} (h : memD d zs = true) : ∃ x, d = .str x ∧ x ∈ zs := by
  cases d with
  | str x => exact ⟨x, rfl, of_decide_eq_true h⟩
  | _ => cases h
theorem isNameD_inv {d : PyData} (h : isNameD d = true) : ∃ x, d = .str x ∧ isName x = true := by
  cases d with
  | str x => exact ⟨x, rfl, h⟩
  | _ => cases h
theorem isForm_inv {k : Nat} {D : PyData} (h : isForm k D = true) :
    (∃ w n, D = .tuple [.str w, .str n] ∧ w ∈ leafW ∧ isName n = true) ∨ ∃ j w a b, k = j + 1 ∧ D = .tuple [.str w, a, b] ∧ w ∈ halfW ∧ isForm j a = true ∧ isForm j b = true := by
  by_cases ht : isTupD D = true
  · cases D with
    | tuple ds =>
      match ds with
      | [a, n] =>
        rw [isForm_m2, Bool.and_eq_true] at h
        obtain ⟨w, rfl, hw⟩ := memD_inv h.1
        obtain ⟨x, rfl, hx⟩ := isNameD_inv h.2
        exact .inl ⟨w, x, rfl, hw, hx⟩
      | [a, b, c] =>
        cases k with
        | zero => rw [isForm_tup3_0] at h; cases h
        | succ j =>
          rw [isForm_m3, Bool.and_eq_true, Bool.and_eq_true] at h
          obtain ⟨w, rfl, hw⟩ := memD_inv h.1
          exact .inr ⟨j, w, b, c, rfl, rfl, hw, h.2.1, h.2.2⟩
      | [] => rw [isForm_tup_len _ _ (by simp) (by simp)] at h; cases h
      | [_] => rw [isForm_tup_len _ _ (by simp) (by simp)] at h; cases h
      | _ :: _ :: _ :: _ :: _ => rw [isForm_tup_len _ _ (by simp) (by simp)] at h; cases h
    | _ => cases ht
  · rw [Bool.not_eq_true] at ht
    rw [isForm_not_tup k D ht] at h
    cases h
theorem isForm_leaf (k : Nat) {w n : Str} (hw : w ∈ leafW) (hn : isName n = true) : isForm k (.tuple [.str w, .str n]) = true := by
  rw [isForm_m2]
  show (decide (w ∈ leafW) && isName n) = true
  rw [decide_eq_true hw, hn]
  rfl
theorem isForm_node {k : Nat} {w : Str} {a b : PyData} (hw : w ∈ halfW) (ha : isForm k a = true) (hb : isForm k b = true) : isForm (k + 1) (.tuple [.str w, a, b]) = true := by
  rw [isForm_m3, ha, hb]
  show (decide (w ∈ halfW) && _) = true
  rw [decide_eq_true hw]
  rfl
theorem isForm_up : ∀ {k : Nat} {D : PyData}, isForm k D = true → isForm (k + 1) D = true := by
  intro k
  induction k with
  | zero =>
    intro D h
    rcases isForm_inv h with ⟨w, n, rfl, hw, hn⟩ | ⟨j, w, a, b, e, _⟩
    · exact isForm_leaf _ hw hn
    · cases e
  | succ k ih =>
    intro D h
    rcases isForm_inv h with ⟨w, n, rfl, hw, hn⟩ | ⟨j, w, a, b, e, rfl, hw, ha, hb⟩
    · exact isForm_leaf _ hw hn
    · obtain rfl : k = j := by omega
      exact isForm_node hw (ih ha) (ih hb)
theorem isForm_le {k m : Nat} {D : PyData} (h : isForm k D = true) (l : k ≤ m) : isForm m D = true := by
  induction l with
  | refl => exact h
  | step _ ih => exact isForm_up ih
theorem okStr_leaf : ∀ w ∈ leafW, okStr w = true := by decide +kernel
theorem okStr_half : ∀ w ∈ halfW, okStr w = true := by decide +kernel
theorem short_form : ∀ {k : Nat} {D : PyData}, isForm k D = true → shortD D = true := by
  intro k
  induction k with
  | zero =>
    intro D h
    rcases isForm_inv h with ⟨w, n, rfl, hw, hn⟩ | ⟨j, w, a, b, e, _⟩
    · simp only [shortD, shortAll, okStr_leaf w hw, okStr_of_name hn, Bool.and_self]
    · cases e
  | succ k ih =>
    intro D h
    rcases isForm_inv h with ⟨w, n, rfl, hw, hn⟩ | ⟨j, w, a, b, e, rfl, hw, ha, hb⟩
    · simp only [shortD, shortAll, okStr_leaf w hw, okStr_of_name hn, Bool.and_self]
    · obtain rfl : k = j := by omega
      have h1 := ih ha
      have h2 := ih hb
      unfold shortD
      simp only [shortAll, h1, h2, Bool.and_true]
      unfold shortD
      exact okStr_half w hw
theorem depth_form : ∀ {k : Nat} {D : PyData}, isForm k D = true → D.depth ≤ k + 1 := by
  intro k
  induction k with
  | zero =>
    intro D h
    rcases isForm_inv h with ⟨w, n, rfl, hw, hn⟩ | ⟨j, w, a, b, e, _⟩
    · simp [PyData.depth, PyData.depthAll]
    · cases e
  | succ k ih =>
    intro D h
    rcases isForm_inv h with ⟨w, n, rfl, hw, hn⟩ | ⟨j, w, a, b, e, rfl, hw, ha, hb⟩
    · simp [PyData.depth, PyData.depthAll]
    · obtain rfl : k = j := by omega
      have h1 := ih ha
      have h2 := ih hb
      simp only [PyData.depth, PyData.depthAll]
      omega
theorem arg_eq {x y : V} {G : V → Hp → Prop} {H : Hp} (e : x = y) (h : G y H) : G x H := by
  rw [e]
  exact h
/-- the least depth of a form -/
def Deep (j : Nat) (D : PyData) : Prop := isForm j D = true ∧ ∀ i, i < j → isForm i D = false
theorem deep_node {x y : Nat} {w : Str} {a b : PyData} (hw : w ∈ halfW) (ha : Deep x a) (hb : Deep y b) {m : Nat} (hm : m = x ∨ m = y) (hx : x ≤ m) (hy : y ≤ m) : Deep (m + 1) (.tuple [.str w, a, b]) := by
  refine ⟨isForm_node hw (isForm_le ha.1 hx) (isForm_le hb.1 hy), fun i hi => ?_⟩
  cases i with
  | zero => exact isForm_tup3_0 _ _ _
  | succ i =>
    rw [isForm_m3]
    rcases hm with rfl | rfl
    · rw [ha.2 i (by omega), Bool.false_and, Bool.and_false]
    · rw [hb.2 i (by omega), Bool.and_false, Bool.and_false]
theorem deep_leaf {w n : Str} (hw : w ∈ leafW) (hn : isName n = true) : Deep 0 (.tuple [.str w, .str n]) := ⟨isForm_leaf 0 hw hn, fun i hi => by omega⟩
def lvs : PyData → List PyData
  | .tuple [a, b] => [.tuple [a, b]]
  | .tuple [_, a, b] => lvs a ++ lvs b
  | _ => []
theorem lvs2 (a b : PyData) : lvs (.tuple [a, b]) = [.tuple [a, b]] := by rw [lvs]
theorem lvs3 (w a b : PyData) : lvs (.tuple [w, a, b]) = lvs a ++ lvs b := by rw [lvs]
/-- the names of the leaves are among these -/
def NmIn (zs : List Str) (D : PyData) : Prop := ∀ L ∈ lvs D, ∃ w z, L = .tuple [.str w, .str z] ∧ z ∈ zs
/-- the leaves are among those of E, or two more -/
def LvSub (D E : PyData) : Prop := ∀ L ∈ lvs D, L ∈ lvs E ∨ L = .tuple [.str (Str.ofString "good"), .str (Str.ofString "a")] ∨ L = .tuple [.str (Str.ofString "counter"), .str (Str.ofString "b")]
abbrev s_law_depth : Stmt := top 37
abbrev N_law_depth : List Str := ["_law_form"]
abbrev P_law_depth : List Str := ["_law_form"]
theorem sc_law_depth : FnScope N_law_depth P_law_depth (defScope s_law_depth) := ⟨rfl, rfl, rfl, by decide +kernel, rfl, by decide +kernel, by decide +kernel⟩
abbrev s_law_shape : Stmt := top 43
abbrev N_law_shape : List Str := ["_law_pen", "_law_names_here", "_law_many", "_law_tall", "_law_room", "_law_low", "_law_high", "_law_way", "_law_left", "_law_word", "_law_one"]
abbrev P_law_shape : List Str := ["_law_pen", "_law_names_here", "_law_many", "_law_tall"]
theorem sc_law_shape : FnScope N_law_shape P_law_shape (defScope s_law_shape) := ⟨rfl, rfl, rfl, by decide +kernel, rfl, by decide +kernel, by decide +kernel⟩
abbrev s_law_deeper : Stmt := top 48
abbrev N_law_deeper : List Str := ["_law_form", "_law_tall", "_law_k"]
abbrev P_law_deeper : List Str := ["_law_form", "_law_tall"]
theorem sc_law_deeper : FnScope N_law_deeper P_law_deeper (defScope s_law_deeper) := ⟨rfl, rfl, rfl, by decide +kernel, rfl, by decide +kernel, by decide +kernel⟩
def spDepth (K : PySem.W.Frag) (k : Nat) : Sp := fun vs H Q _ => ∃ (v : V) (D : PyData) (k' : Nat), vs = [v] ∧ k' < k ∧ Dp K H v D ∧ isForm k' D = true ∧ ∀ (j : Nat) H', j ≤ k' → Deep j D → Same H H' → Q (.int j) H'
def spDeeper (K : PySem.W.Frag) : Sp := fun vs H Q _ => ∃ (v : V) (D : PyData) (t : Nat), vs = [v, .int t] ∧ 12 ≤ t ∧ t ≤ 2000 ∧ Dp K H v D ∧ isForm 12 D = true ∧ ∀ v' D' H', Dp K H' v' D' → Deep t D' ∨ (t = 12 ∧ isForm 12 D' = true) → (lvs D').length ≤ (lvs D).length + t → LvSub D' D → Same H H' → Q v' H'
def spShape (K : PySem.W.Frag) (k : Nat) : Sp := fun vs H Q _ => ∃ (d L : Addr) (ns : List Int) (n : Nat) (a : Addr) (zs : List Str) (m t : Nat), vs = [.ref d, .ref a, .int m, .int t] ∧ t < k ∧ Pen K H d L ns n ∧ n + 5 * m < 2 ^ 39 ∧
  SqL K H a (zs.map V.str) ∧ zs ≠ [] ∧ zs.length ≤ 1000 ∧ (∀ z ∈ zs, isName z = true) ∧ 1 ≤ m ∧ m ≤ 1000 ∧ m ≤ 2 ^ t ∧ t ≤ 60 ∧
  ∀ v D H', Dp K H' v D → isForm t D = true → (lvs D).length = m → NmIn zs D → Keep d H H' → Pen K H' d L ns (n + (5 * m - 3)) → Q v H'
section
variable {P : Program} {w : World} {K : PySem.W.Frag} {mg : Str → Option Value} {base : Heap} {f : Addr} {fd : FuncData}
theorem ok_law_depth {k : Nat} (T : Txt K mg) (F : Fun K "_law_depth" "_law_depth" s_law_depth f fd) (C_law_depth : Cal P w K mg base "_law_depth" k ["_law_form"] (spDepth K k)) : FnOk P w K mg base CX0 (k + 1) f fd P_law_depth (spDepth K (k + 1)) := by
  refine F.ok sc_law_depth (fun vs H Q E h => ?_) (fun cdv A outer s H vs Q E hr h => ?_)
  · obtain ⟨v, D, k', rfl, _⟩ := h
    rfl
  obtain ⟨v, D, k', rfl, hk, hv, hD, q⟩ := h
  refine ⟨_, (pss_one (ps_ret (pe_ifExp (pt_cmpR op_eq (pe_callB call_len rfl T.len (by decide +kernel) (pa_cons (pv 0) pa_nil)) pe_int (nomark _)) pe_int (pe_op op_add pe_int (pe_callB (cr_max rfl) rfl T.max (by decide +kernel) (pa_cons (pe_lst (pa_cons (pe_callC C_law_depth hr (pa_cons (pe_ix ix_tup (pv 0) pe_int (fun _ _ => rfl)) pa_nil)) (pa_cons (pe_callC C_law_depth hr (pa_cons (pe_ix ix_tup (pv 0) pe_int (fun _ _ => rfl)) pa_nil)) pa_nil))) pa_nil)))))), ?_⟩
  rcases isForm_inv hD with ⟨x, n, rfl, hx, hn⟩ | ⟨j, x, a, b, rfl, rfl, hx, ha, hb⟩
  · cases hv with | @tup p xs _ hT hA => cases hA with | cons h1 hA => cases hA with | cons h2 hN =>
    cases hN
    refine ⟨_, rfl, _, _, rfl, .inr ⟨_, hT, rfl⟩, rfl, _, rfl, ?_⟩
    exact q 0 H (Nat.zero_le _) (deep_leaf hx hn) (Same.refl H)
  · cases hv with | @tup p xs _ hT hA => cases hA with | cons h1 hA => cases hA with | cons h2 hA => cases hA with | cons h3 hN =>
    cases hN
    refine ⟨_, rfl, _, _, rfl, .inr ⟨_, hT, rfl⟩, rfl, _, rfl, ?_⟩
    refine iteF ⟨_, rfl, p, _, _, _, rfl, rfl, hT, rfl, _, a, j, rfl, by omega, h2, ha, fun ja H1 la da S1 => ?_⟩
    refine ⟨_, rfl, p, _, _, _, rfl, rfl, seqT_same S1 hT, rfl, _, b, j, rfl, by omega, dp_same S1 _ _ h3, hb, fun jb H2 lb db S2 => ?_⟩
    refine ⟨by show 2 ≤ sizeLine; decide, fun p2 n2 => ⟨p2, [(ja : Int), (jb : Int)], rfl, SqL.of upd_same, by simp, fun m hm hle => ?_⟩⟩
    obtain ⟨M, rfl⟩ : ∃ M : Nat, m = (M : Int) := by
      simp only [List.mem_cons, List.not_mem_nil, or_false] at hm
      rcases hm with rfl | rfl
      · exact ⟨ja, rfl⟩
      · exact ⟨jb, rfl⟩
    have l1 := hle (ja : Int) (by simp)
    have l2 := hle (jb : Int) (by simp)
    have hM : M = ja ∨ M = jb := by
      simp only [List.mem_cons, List.not_mem_nil, or_false] at hm
      omega
    refine ⟨_, _, rfl, rfl, ?_⟩
    have e : (1 + (M : Int)) = ((M + 1 : Nat) : Int) := by omega
    show Q (.int (1 + (M : Int))) _
    rw [e]
    exact q (M + 1) _ (by omega) (deep_node hx da db hM (by omega) (by omega)) ((S1.trans S2).trans (same_new n2 _))
theorem ok_law_deeper (T : Txt K mg) (F : Fun K "_law_deeper" "_law_deeper" s_law_deeper f fd) (C_law_depth : Cal P w K mg base "_law_depth" 13 ["_law_form"] (spDepth K 13)) : FnOk P w K mg base CX0 14 f fd P_law_deeper (spDeeper K) := by
  refine F.ok sc_law_deeper (fun vs H Q E h => ?_) (fun cdv A outer s H vs Q E hr h => ?_)
  · obtain ⟨v, D, t, rfl, _⟩ := h
    rfl
  obtain ⟨v, D, t, rfl, h12, ht, hv, hD, q⟩ := h
  refine ⟨_, (pss_cons (ps_for PassesOwn.never rfl (pi_range1 rfl T.range (pa_cons (pe_op op_sub (pv 1) (pe_callC C_law_depth hr (pa_cons (pv 0) pa_nil))) pa_nil)) (pg_name (i := 2) sc_law_deeper.nd rfl (Or.inl rfl))
    (pss_one (ps_set (i := 0) sc_law_deeper.nd rfl (Or.inl rfl) (pe_ifExp (pt_cmpR op_eq (pe_op op_mod (pe_callTy call_int1 rfl T.int (by decide +kernel) (pa_cons (pv 2) pa_nil)) pe_int) pe_int (nomark _)) (pe_tup (pa_cons pe_str (pa_cons (pv 0) (pa_cons (pe_tup (pa_cons pe_str (pa_cons pe_str pa_nil))) pa_nil)))) (pe_tup (pa_cons pe_str (pa_cons (pe_tup (pa_cons pe_str (pa_cons pe_str pa_nil))) (pa_cons (pv 0) pa_nil))))))))
  (pss_one (ps_ret (pv 0)))), ?_⟩
  refine ⟨_, rfl, _, rfl, v, D, 12, rfl, by omega, hv, hD, fun j H1 hj dj S1 => ?_⟩
  refine ⟨_, _, rfl, rfl, (t : Int) - (j : Int), rfl, by omega, by omega, ?_⟩
  refine for_range (lo := 0) (n := ((t : Int) - (j : Int)).toNat) (fun i σ H' => Same H H' ∧ ∃ v' x D', σ = [some v', some (.int t), x] ∧ Dp K H' v' D' ∧ Deep (j + i) D' ∧ (lvs D').length ≤ (lvs D).length + i ∧ LvSub D' D) ⟨S1, v, none, D, rfl, dp_same S1 _ _ hv, dj, Nat.le_refl _, fun L m => .inl m⟩
    (fun i σ H2 hi ⟨S2, v', x, D', eσ, hv', dv, lv, sb⟩ => ?_) (fun σ H2 ⟨S2, v', x, D', eσ, hv', dv, lv, sb⟩ => ?_)
  · subst eσ
    refine ⟨_, rfl, .inl ⟨_, rfl, _, _, rfl, rfl, (by show (0 : Int) < 2; decide), rfl, _, rfl, ?_⟩⟩
    have hn : isName (Str.ofString "a") = true := by decide +kernel
    have hn2 : isName (Str.ofString "b") = true := by decide +kernel
    refine ite2 (fun c => ?_) (fun c => ?_)
    · refine ⟨_, rfl, by show 2 ≤ sizeLine; decide, fun p1 n1 => ⟨by show 3 ≤ sizeLine; decide, fun p2 n2 => ?_⟩⟩
      have S3 := same_new n1 (.tup [.str (Str.ofString "good"), .str (Str.ofString "a")])
      have S4 := S3.trans (same_new n2 (.tup [.str (Str.ofString "both"), v', .ref p1]))
      refine ⟨S2.trans S4, .ref p2, _, .tuple [.str (Str.ofString "both"), D', .tuple [.str (Str.ofString "good"), .str (Str.ofString "a")]], rfl, .tup (SqT.of upd_same) (.cons (.str _) (.cons (dp_same S4 _ _ hv') (.cons (.tup (SqT.of (same_new n2 _ _ _ upd_same)) (.cons (.str _) (.cons (.str _) .nil))) .nil))), ?_, by rw [lvs3, lvs2, List.length_append]; simp only [List.length_cons, List.length_nil]; omega, fun L m => by
        rw [lvs3, lvs2] at m
        rcases List.mem_append.mp m with m | m
        · exact sb L m
        · exact .inr (.inl (List.mem_singleton.mp m))⟩
      exact deep_node (x := j + i) (y := 0) (m := j + i) (by decide +kernel) dv (deep_leaf (by decide +kernel) hn) (.inl rfl) (by omega) (by omega)
    · refine ⟨by show 2 ≤ sizeLine; decide, fun p1 n1 => ⟨_, rfl, by show 3 ≤ sizeLine; decide, fun p2 n2 => ?_⟩⟩
      have S3 := same_new n1 (.tup [.str (Str.ofString "counter"), .str (Str.ofString "b")])
      have S4 := S3.trans (same_new n2 (.tup [.str (Str.ofString "chosen"), .ref p1, v']))
      refine ⟨S2.trans S4, .ref p2, _, .tuple [.str (Str.ofString "chosen"), .tuple [.str (Str.ofString "counter"), .str (Str.ofString "b")], D'], rfl, .tup (SqT.of upd_same) (.cons (.str _) (.cons (.tup (SqT.of (same_new n2 _ _ _ upd_same)) (.cons (.str _) (.cons (.str _) .nil))) (.cons (dp_same S4 _ _ hv') .nil))), ?_, by rw [lvs3, lvs2, List.length_append]; simp only [List.length_cons, List.length_nil]; omega, fun L m => by
        rw [lvs3, lvs2] at m
        rcases List.mem_append.mp m with m | m
        · exact .inr (.inr (List.mem_singleton.mp m))
        · exact sb L m⟩
      exact deep_node (x := 0) (y := j + i) (m := j + i) (by decide +kernel) (deep_leaf (by decide +kernel) hn2) dv (.inr rfl) (by omega) (by omega)
  · subst eσ
    have e : j + ((t : Int) - (j : Int)).toNat = t := by omega
    rw [e] at dv
    exact ⟨_, rfl, q v' D' H2 hv' (.inl dv) (by omega) sb S2⟩
set_option maxHeartbeats 2000000 in
theorem ok_law_shape {k : Nat} (T : Txt K mg) (F : Fun K "_law_shape" "_law_shape" s_law_shape f fd) (C_law_draw : Cal P w K mg base "_law_draw" 1 ["_law_pen", "_law_span"] (spDraw K)) (C_law_pick : Cal P w K mg base "_law_pick" 2 ["_law_pen", "_law_some"] (spPick K))
    (C_law_shape : Cal P w K mg base "_law_shape" (2 + k) P_law_shape (spShape K k)) : FnOk P w K mg base CX0 (2 + k + 1) f fd P_law_shape (spShape K (k + 1)) := by
  refine F.ok sc_law_shape (fun vs H Q E h => ?_) (fun cdv A outer s H vs Q E hr h => ?_)
  · obtain ⟨d, L, ns, n, a, zs, m, t, rfl, _⟩ := h
    rfl
  obtain ⟨d, L, ns, n, a, zs, m, t, rfl, htk, p, hn, hS, hne, hzl, hzs, hm1, hm2, hm3, ht60, q⟩ := h
  refine ⟨_, (pss_cons (ps_if (pt_cmpR op_eq (pv 2) pe_int (nomark _))
    (pss_one (ps_ret (pe_tup (pa_cons (pe_callC C_law_pick hr (pa_cons (pv 0) (pa_cons (pe_lst (pa_cons pe_str (pa_cons pe_str pa_nil))) pa_nil))) (pa_cons (pe_callC C_law_pick hr (pa_cons (pv 0) (pa_cons (pv 1) pa_nil))) pa_nil)))))
    pss_nil)
  (pss_cons (ps_set (i := 4) sc_law_shape.nd rfl (Or.inl rfl) (pe_op op_shl pe_int (pe_op op_sub (pv 3) pe_int)))
  (pss_cons (ps_par (i := 5) (j := 6) (by rfl) sc_law_shape.nd rfl rfl (by decide) rfl rfl (pa_cons (pe_callB (call_max2 rfl) rfl T.max (by decide +kernel) (pa_cons pe_int (pa_cons (pe_op op_sub (pv 2) (pv 4)) pa_nil))) (pa_cons (pe_callB (call_min2 rfl) rfl T.min (by decide +kernel) (pa_cons (pe_op op_sub (pv 2) pe_int) (pa_cons (pv 4) pa_nil))) pa_nil)) (by rfl))
  (pss_cons (ps_set (i := 7) sc_law_shape.nd rfl (Or.inl rfl) (pe_callC C_law_draw hr (pa_cons (pv 0) (pa_cons pe_int pa_nil))))
  (pss_cons (ps_set (i := 8) sc_law_shape.nd rfl (Or.inl rfl) (pe_op op_add (pv 5) (pe_callC C_law_draw hr (pa_cons (pv 0) (pa_cons (pe_op op_add (pe_op op_sub (pv 6) (pv 5)) pe_int) pa_nil)))))
  (pss_cons (ps_if (pt_cmpR op_lt (pv 7) pe_int (nomark _))
    (pss_one (ps_set (i := 8) sc_law_shape.nd rfl (Or.inl rfl) (pe_ifExp (pt_cmpR op_eq (pv 7) pe_int (nomark _)) (pv 5) (pv 6))))
    pss_nil)
  (pss_cons (ps_set (i := 9) sc_law_shape.nd rfl (Or.inl rfl) (pe_callC C_law_pick hr (pa_cons (pv 0) (pa_cons (pe_lst (pa_cons pe_str (pa_cons pe_str (pa_cons pe_str (pa_cons pe_str pa_nil))))) pa_nil))))
  (pss_cons (ps_set (i := 10) sc_law_shape.nd rfl (Or.inl rfl) (pe_callC C_law_shape hr (pa_cons (pv 0) (pa_cons (pv 1) (pa_cons (pv 8) (pa_cons (pe_op op_sub (pv 3) pe_int) pa_nil))))))
  (pss_one (ps_ret (pe_tup (pa_cons (pv 9) (pa_cons (pv 10) (pa_cons (pe_callC C_law_shape hr (pa_cons (pv 0) (pa_cons (pv 1) (pa_cons (pe_op op_sub (pv 2) (pv 8)) (pa_cons (pe_op op_sub (pv 3) pe_int) pa_nil))))) pa_nil)))))))))))))), ?_⟩
  refine ⟨_, rfl, rfl, _, rfl, ?_⟩
  refine ite2 (fun c => ?_) (fun c => ?_)
  · have hm : m = 1 := by
      have := V.int.inj (of_decide_eq_true c)
      omega
    subst hm
    refine ⟨_, rfl, by show 2 ≤ sizeLine; decide, fun p0 np0 => ?_⟩
    refine ⟨d, L, ns, n, _, rfl, p.same (same_new np0 _), by omega, .inl ⟨p0, _, rfl, SqL.of upd_same, by simp, by show 2 ≤ 1000; decide, fun x H1 hx k1 p1 => ?_⟩⟩
    have k1' : Keep d H H1 := (Same.toKeep (same_new np0 _)).trans k1
    refine ⟨_, rfl, _, rfl, d, L, ns, n + 1, _, rfl, p1, by omega, .inl ⟨a, _, rfl, seqL_keep p.isDk k1' hS, by simp [hne], by rw [List.length_map]; exact hzl, fun y H2 hy k2 p2 => ⟨by show 2 ≤ sizeLine; decide, fun p3 n3 => ?_⟩⟩⟩
    obtain ⟨w', rfl, hw⟩ : ∃ w', x = .str w' ∧ w' ∈ leafW := by
      have : x ∈ leafW.map V.str := hx
      obtain ⟨w', hw, e⟩ := List.mem_map.mp this
      exact ⟨w', e.symm, hw⟩
    obtain ⟨z, hz, rfl⟩ := List.mem_map.mp hy
    exact q (.ref p3) (.tuple [.str w', .str z]) _ (.tup (SqT.of upd_same) (.cons (.str _) (.cons (.str _) .nil))) (isForm_leaf _ hw (hzs z hz)) (by first | (rw [lvs2]; done) | (rw [lvs2]; rfl)) (fun L m => by
      rw [lvs2] at m
      exact ⟨w', z, List.mem_singleton.mp m, hz⟩) ((k1'.trans k2).trans (Same.toKeep (same_new n3 _))) ((p2.same (same_new n3 _)).mono (by omega))
  · have hm : m ≠ 1 := fun e => c (by subst e; rfl)
    obtain ⟨t', rfl⟩ : ∃ t', t = t' + 1 := by
      cases t with
      | zero => simp at hm3; omega
      | succ t' => exact ⟨t', rfl⟩
    have hpow : (2 : Nat) ^ (t' + 1) = 2 * 2 ^ t' := by rw [Nat.pow_succ]; omega
    generalize hR : (2 : Nat) ^ t' = R at hpow
    rw [hpow] at hm3
    have hR1 : 1 ≤ R := by rw [← hR]; exact Nat.one_le_two_pow
    refine ⟨_, rfl, _, _, rfl, rfl, _, _, rfl, rfl, ⟨by omega, by omega, by decide⟩, ?_⟩
    have eR : (1 : Int) * 2 ^ (((t' + 1 : Nat) : Int) - 1).toNat = (R : Int) := by
      have : (((t' + 1 : Nat) : Int) - 1).toNat = t' := by omega
      rw [this, ← hR, Int.one_mul]
      norm_cast
    dsimp only
    rw [eR]
    refine ⟨_, rfl, _, rfl, _, _, rfl, rfl, _, _, rfl, _, rfl, _, _, rfl, rfl, _, rfl, _, _, rfl, _, _, rfl, ?_⟩
    have hE1 : 1 ≤ (if (m : Int) - (R : Int) > 1 then (m : Int) - (R : Int) else 1) ∧ (m : Int) - R ≤ (if (m : Int) - (R : Int) > 1 then (m : Int) - (R : Int) else 1) ∧
        ((if (m : Int) - (R : Int) > 1 then (m : Int) - (R : Int) else 1) = 1 ∨ (if (m : Int) - (R : Int) > 1 then (m : Int) - (R : Int) else 1) = (m : Int) - R) := by
      split <;> omega
    have hE2 : (if (R : Int) < (m : Int) - 1 then (R : Int) else (m : Int) - 1) ≤ (m : Int) - 1 ∧ (if (R : Int) < (m : Int) - 1 then (R : Int) else (m : Int) - 1) ≤ R ∧
        ((if (R : Int) < (m : Int) - 1 then (R : Int) else (m : Int) - 1) = (m : Int) - 1 ∨ (if (R : Int) < (m : Int) - 1 then (R : Int) else (m : Int) - 1) = R) := by
      split <;> omega
    generalize hE1e : (if (m : Int) - (R : Int) > 1 then (m : Int) - (R : Int) else 1) = E1 at hE1 ⊢
    generalize hE2e : (if (R : Int) < (m : Int) - 1 then (R : Int) else (m : Int) - 1) = E2 at hE2 ⊢
    have pick3 : ∀ x : Int, E1 ≤ x → x ≤ E2 → ∃ lf : Nat, x = (lf : Int) ∧ 1 ≤ lf ∧ lf ≤ R ∧ 1 ≤ m - lf ∧ m - lf ≤ R ∧ lf ≤ m := fun x h1 h2 =>
      ⟨x.toNat, by omega, by omega, by omega, by omega, by omega, by omega⟩
    refine ⟨_, rfl, d, L, ns, n, 5, rfl, p, by omega, by decide, by decide, fun way H1 w0 w5 k1 p1 => ?_⟩
    refine ⟨_, rfl, _, rfl, _, rfl, _, rfl, _, _, rfl, rfl, _, _, rfl, rfl, d, L, ns, n + 1, E2 - E1 + 1, rfl, p1, by omega, by omega, by omega, fun r H2 r0 r1 k2 p2 => ?_⟩
    refine ⟨_, _, rfl, rfl, ?_⟩
    refine ⟨_, rfl, _, _, rfl, rfl, _, rfl, ?_⟩
    have k12 := k1.trans k2
    have e1 : ((t' + 1 : Nat) : Int) - 1 = (t' : Int) := by omega
    refine ite2 (fun c2 => ?_) (fun c2 => ?_)
    refine ⟨_, rfl, rfl, _, rfl, ?_⟩
    refine ite2 (fun c3 => ?_) (fun c3 => ?_)
    case' refine_1 =>
      obtain ⟨lf, rfl, l1, l2, l3, l4, l5⟩ := pick3 E1 (by omega) (by omega)
      refine ⟨_, rfl, ?_⟩
    case' refine_2 =>
      obtain ⟨lf, rfl, l1, l2, l3, l4, l5⟩ := pick3 E2 (by omega) (by omega)
      refine ⟨_, rfl, ?_⟩
    case' refine_2.refine_2.refine_2 =>
      obtain ⟨lf, elf, l1, l2, l3, l4, l5⟩ := pick3 (E1 + r) (by omega) (by omega)
      dsimp only
      rw [elf]
    all_goals
      refine ⟨_, rfl, by show 4 ≤ sizeLine; decide, fun p4 n4 => ?_⟩
      refine ⟨d, L, ns, n + 2, _, rfl, p2.same (same_new n4 _), by omega, .inl ⟨p4, _, rfl, SqL.of upd_same, by simp, by show 4 ≤ 1000; decide, fun x H3 hx k3 p3 => ?_⟩⟩
      have k3' := (k12.trans (Same.toKeep (same_new n4 _))).trans k3
      obtain ⟨w', rfl, hw⟩ : ∃ w', x = .str w' ∧ w' ∈ halfW := by
        have : x ∈ halfW.map V.str := hx
        obtain ⟨w', hw, e⟩ := List.mem_map.mp this
        exact ⟨w', e.symm, hw⟩
      refine ⟨_, rfl, _, rfl, _, rfl, _, rfl, _, _, rfl, rfl, d, L, ns, n + 3, a, zs, lf, t', congrArg (fun i => [V.ref d, V.ref a, V.int (lf : Int), V.int i]) e1, by omega, p3, by omega, seqL_keep p.isDk k3' hS, hne, hzl, hzs, l1, by omega, by omega, by omega, fun v1 D1 H4 hd1 hf1 hv1 nm1 k4 p4' => ?_⟩
      have k4' := k3'.trans k4
      have e2 : (m : Int) - (lf : Int) = ((m - lf : Nat) : Int) := by omega
      refine ⟨_, rfl, _, rfl, _, rfl, _, rfl, _, rfl, _, rfl, _, _, rfl, rfl, _, rfl, _, _, rfl, rfl, d, L, ns, n + 3 + (5 * lf - 3), a, zs, m - lf, t', ?_, by omega, p4', by omega, seqL_keep p.isDk k4' hS, hne, hzl, hzs, l3, by omega, by omega, by omega, fun v2 D2 H5 hd2 hf2 hv2 nm2 k5 p5 => ⟨by show 3 ≤ sizeLine; decide, fun p6 n6 => ?_⟩⟩
      · show [V.ref d, V.ref a, V.int ((m : Int) - (lf : Int)), V.int (((t' + 1 : Nat) : Int) - 1)] = _
        rw [e1, e2]
      · have S6 := same_new n6 (.tup [.str w', v1, v2])
        exact q (.ref p6) (.tuple [.str w', D1, D2]) _ (.tup (SqT.of upd_same) (.cons (.str _) (.cons (dp_same S6 _ _ (dp_keep p4'.isDk k5 _ _ hd1))  (.cons (dp_same S6 _ _ hd2) .nil)))) (isForm_node hw hf1 hf2) (by rw [lvs3, List.length_append, hv1, hv2]; omega) (fun L m => by
          rw [lvs3] at m
          rcases List.mem_append.mp m with m | m
          · exact nm1 L m
          · exact nm2 L m) ((k4'.trans k5).trans (Same.toKeep S6)) ((p5.same S6).mono (by omega))
end
end My

set_option Elab.async false
set_option linter.all false
set_option maxRecDepth 100000
namespace My
open PySem PySem.Spec PyProof.Rows L2 SX HT
/-! ### t[::-1] -/
section
variable {prog : Program} {w : World} {A : Around} {E : Value → Shared → Prop} {s : Shared}
theorem back_applied {sl : Addr} {vk : Value} {n : Nat} {Q : Int × Int × Nat → Shared → Prop} (hs : s.heap.IsSliceOf sl .none .none vk) (pk : IsPart vk (some (-1)))
    (h : Q ((n : Int) - 1, -1, n) s) : wpAny (model prog w) A (Builtin.Slice.sliceApplied (.ref sl) (pure (n : Int))) Q E s := by
  obtain ⟨o, ho, hc, hd⟩ := id hs
  unfold Builtin.Slice.sliceApplied Builtin.Slice.sliceFields
  refine wpAny_bind (wpAny_bind (wpAny_field ho hd (x := .none) rfl (wpAny_bind (wpAny_field ho hd (x := .none) rfl (wpAny_bind (wpAny_field ho hd (x := vk) rfl (wpAny_pure ?_)))))))
  refine wpAny_bind (slicePart_ pk ?_)
  show wpAny _ _ (if ((-1 : Int) == 0) = true then _ else _) _ _ s
  rw [if_neg (by decide)]
  refine wpAny_bind (slicePart_none (wpAny_bind (slicePart_none (wpAny_bind (wpAny_pure ?_)))))
  have e : Builtin.Slice.sliceAdjust none none (-1) (n : Int) = ((n : Int) - 1, -1) := rfl
  show wpAny _ _ (match Builtin.Slice.sliceAdjust none none (-1) (n : Int) with | (lo, hi) => pure (lo, (-1 : Int), Builtin.Slice.slicePlaces lo hi (-1))) _ _ s
  rw [e]
  have e2 : Builtin.Slice.slicePlaces ((n : Int) - 1) (-1) (-1) = n := by
    unfold Builtin.Slice.slicePlaces
    rw [if_neg (by decide)]
    by_cases hn : n = 0
    · subst hn; rfl
    · rw [if_pos (by omega)]
      have : ((n : Int) - 1 - -1 - 1) / (- -1) + 1 = (n : Int) := by
        show ((n : Int) - 1 - -1 - 1) / 1 + 1 = (n : Int)
        rw [Int.ediv_one]
        omega
      rw [this, Int.toNat_natCast]
  show wpAny _ _ (pure ((n : Int) - 1, (-1 : Int), Builtin.Slice.slicePlaces ((n : Int) - 1) (-1) (-1))) _ _ s
  rw [e2]
  exact wpAny_pure h
theorem back_picked (xs : Array Value) : ((List.range xs.size).filterMap fun (k : Nat) => xs[(((xs.size : Int) - 1) + (k : Int) * (-1)).toNat]?).toArray = xs.toList.reverse.toArray := by
  have e : (List.range xs.size).filterMap (fun (k : Nat) => xs[(((xs.size : Int) - 1) + (k : Int) * (-1)).toNat]?) = ((List.range xs.size).map fun k => xs.size - 1 - k).filterMap (xs[·]?) := by
    rw [List.filterMap_map]
    congr 1
    funext k
    have : (((xs.size : Int) - 1) + (k : Int) * (-1)).toNat = xs.size - 1 - k := by omega
    rw [this]
    rfl
  rw [e, PySem.W.krv_range, List.filterMap_reverse, PySem.W.krv_all]
theorem back_item {t sl : Addr} {items : Array Value} {vk : Value} {Q : Value → Shared → Prop} (ht : IsTup s.heap t items) (hs : s.heap.IsSliceOf sl .none .none vk) (pk : IsPart vk (some (-1)))
    (h : Q (.ref s.heap.objs.size) { s with heap := s.heap.push { cls := .type "tuple", data := .seq items.toList.reverse.toArray } }) (hz : items.size ≤ sizeLine) : wpAny (model prog w) A (getItem (.ref t) (.ref sl)) Q E s := by
  have hsz : sizeOk (.seq items.toList.reverse.toArray) := by
    show items.toList.reverse.toArray.size ≤ sizeLine
    rw [List.size_toArray, List.length_reverse, Array.length_toList]
    exact hz
  obtain ⟨o, ho, hc, hd⟩ := id hs
  have hT : s.TypeIs (.ref sl) "slice" := ⟨o, ho, hc⟩
  unfold getItem
  try with_reducible refine wpAny_holding ?_
  first | refine wpAny_bind (wpAny_pure ?_) | skip
  refine wpAny_bind (wpAny_sequenceKey ht.typeIs (by decide) (wpAny_bind (wpAny_callSpecial?_slot (name := Str.ofString "__getitem__") ht.typeIs slot_tuple_getitem (wpAny_call_entry slot_tuple_getitem ht.typeIs entry_tuple_getitem ?_ (args_tuple_getitem _ _)))))
  show wpAny _ _ (Builtin.Tuple.tupleItemsOf (.ref t) >>= _) _ _ s
  refine wpAny_bind (tupleItemsOf_ ht (wpAny_bind (wpAny_typeOf hT ?_)))
  rw [if_pos (by decide)]
  refine wpAny_bind (back_applied hs pk ?_)
  have hno : ¬ ((((items.size : Int) - 1) == 0 && (-1 : Int) == 1 && items.size == items.size) = true) := by
    rw [Bool.and_eq_true, Bool.and_eq_true]
    rintro ⟨⟨_, q⟩, _⟩
    exact absurd q (by decide)
  show wpAny _ _ (if (((items.size : Int) - 1) == 0 && (-1 : Int) == 1 && items.size == items.size) = true then _ else _) _ _ s
  rw [if_neg hno, back_picked]
  first
    | exact wpAny_bind (m := Builtin.Tuple.tupleExact _) (wpAny_newObj_type (wpAny_pure ⟨_, rfl, wpAny_pure h⟩) hsz)
    | exact wpAny_bind (m := Builtin.Tuple.tupleExact _) (wpAny_newObj_type (wpAny_bind (wpAny_pure (wpAny_pure ⟨_, rfl, wpAny_pure h⟩))) hsz)
    | exact wpAny_bind (wpAny_bind (m := Builtin.Tuple.tupleExact _) (wpAny_newObj_type (wpAny_pure (wpAny_pure ⟨_, rfl, wpAny_pure h⟩)) hsz))
    | exact wpAny_bind (wpAny_bind (m := Builtin.Tuple.tupleExact _) (wpAny_newObj_type (wpAny_pure ⟨_, rfl, wpAny_pure h⟩) hsz))
end
section
variable {X : Cx}
def tRevT (K : PySem.W.Frag) (te : TE) : TE := fun σ H Q => te σ H fun x H1 => ∃ a xs, x = .ref a ∧ SqT K H1 a xs ∧ ∀ p, H1 p = none → Q (.ref p) (upd H1 p (.tup xs.reverse))
theorem pe_revT {e : Expr} {te : TE} {k : Nat} {p1 p2 p3 pos : Pos} (he : PE X e te) : PE X (.Subscript e (.Slice none none (some (.UnaryOp .USub (.Constant (.int 1) k p1) p2)) p3) pos) (tRevT X.K te) := by
  refine ⟨fun pins s σ H Q I h => Subscript_ (thn (he.run pins s σ H _ I h) fun v s1 ⟨x, H1, I1, r1, a, xs, ex, hx, q⟩ => ?_)⟩
  subst ex
  cases r1
  have hst : PO X (some (.UnaryOp .USub (.Constant (.int 1) k p1) p2)) (tPart (tUn (rU fun i => .int (-i)) (tC (.int 1)))) := po_some (pe_un un_neg pe_int)
  refine wpAny_Slice (thn (po_none.run pins s1 σ H1 (fun o H2 => o = none ∧ H2 = H1) I1 ⟨rfl, rfl⟩) fun vl s2 ⟨l, H2, I2, pl, el, e2⟩ => ?_)
  subst el e2
  refine thn (po_none.run pins s2 σ H2 (fun o H3 => o = none ∧ H3 = H2) I2 ⟨rfl, rfl⟩) fun vu s3 ⟨u, H3, I3, pu, eu, e3⟩ => ?_
  subst eu e3
  refine thn (hst.run pins s3 σ H3 (fun o H4 => o = some (-1) ∧ H4 = H3) I3 ⟨1, rfl, -1, rfl, rfl, rfl⟩) fun vs s4 ⟨o, H4, I4, ps, eo, e4⟩ => ?_
  subst eo e4
  cases pl
  cases pu
  have I5 : Inv X pins σ H4 { s4 with heap := s4.heap.push { cls := .type "slice", data := .fields #[.none, .none, vs] } } := I4.kept (t' := s4.toks) fun b ob q => Heap.get?_push_of_some _ q
  obtain ⟨its, r, ht, hz⟩ := I5.tuple hx
  have hlen := r.length
  show wpAny (model X.prog X.w) X.A (subscriptTail e (.Slice none none (some (.UnaryOp .USub (.Constant (.int 1) k p1) p2)) p3) (.ref a) (.ref s4.heap.objs.size)) (EP X pins σ Q) X.xe { s4 with heap := s4.heap.push { cls := .type "slice", data := .fields #[.none, .none, vs] } }
  refine tail_any (ops := [.ref a, .ref s4.heap.objs.size]) ht.typeIs (slot_tuple_getitem.lookup) ?_ (by with_unfolding_all rfl)
  refine back_item ht (Heap.IsSliceOf.new _ .none .none vs) ps ?_ (by rw [List.size_toArray]; omega)
  refine ⟨.ref _, _, I5.laid (t' := s4.toks) (o := .tup xs.reverse) (fun b ob q => Heap.get?_push_of_some _ q) (Nat.le_refl _) ?_, rfl, q _ (I5.hok.fresh (Nat.le_refl _))⟩
  exact ⟨by rw [List.length_reverse]; exact hz, its.reverse, r.reverse, _, Heap.get?_push_size _ rfl, rfl, _, rfl⟩
end
/-! ### texts that are short and of plain signs -/
theorem okS {z : Str} : okStr z = true ↔ z.length ≤ 1000 ∧ ∀ c ∈ z.cps.toList, c < 128 := by
  unfold okStr
  rw [Bool.and_eq_true, List.all_eq_true]
  constructor
  · exact fun h => ⟨of_decide_eq_true h.1, fun c hc => of_decide_eq_true (h.2 c hc)⟩
  · exact fun h => ⟨decide_eq_true h.1, fun c hc => decide_eq_true (h.2 c hc)⟩
theorem tl_len (z : Str) : z.cps.toList.length = z.length := Array.length_toList
theorem cut_tl (z : Str) (lo hi : Option Int) : (cutS z lo hi).cps.toList = (z.cps.toList.drop (HT.sIx z.length 0 lo)).take (HT.sIx z.length z.length hi - HT.sIx z.length 0 lo) := rfl
theorem cut_len (z : Str) (lo hi : Option Int) : (cutS z lo hi).length ≤ z.length := by
  rw [← tl_len, cut_tl, List.length_take, List.length_drop, tl_len]
  omega
theorem cut_asc {z : Str} (lo hi : Option Int) (h : ∀ c ∈ z.cps.toList, c < 128) : ∀ c ∈ (cutS z lo hi).cps.toList, c < 128 := fun c hc => by
  rw [cut_tl] at hc
  exact h c (List.mem_of_mem_drop (List.mem_of_mem_take hc))
theorem cat_tl (a b : Str) : (a ++ b).cps.toList = a.cps.toList ++ b.cps.toList := TL.tl_append a b
theorem cat_len (a b : Str) : (a ++ b).length = a.length + b.length := by
  rw [← tl_len, cat_tl, List.length_append, tl_len, tl_len]
theorem cat_asc {a b : Str} (ha : ∀ c ∈ a.cps.toList, c < 128) (hb : ∀ c ∈ b.cps.toList, c < 128) : ∀ c ∈ (a ++ b).cps.toList, c < 128 := fun c hc => by
  rw [cat_tl] at hc
  rcases List.mem_append.mp hc with hc | hc
  · exact ha c hc
  · exact hb c hc
theorem one_asc {c : Nat} (h : c < 128) : ∀ x ∈ (⟨#[c]⟩ : Str).cps.toList, x < 128 := fun x hx => by
  rw [List.mem_singleton.mp hx]
  exact h
theorem upper_ok {z : Str} (h : ∀ c ∈ z.cps.toList, c < 128) : (Txt.upper z).length = z.length ∧ ∀ c ∈ (Txt.upper z).cps.toList, c < 128 := by
  have e := upper_S (a := z.cps.toList) (by rw [List.all_eq_true]; exact fun c hc => decide_eq_true (h c hc))
  rw [S_tl] at e
  rw [e]
  refine ⟨by rw [S_len, List.length_map, tl_len], fun c hc => ?_⟩
  obtain ⟨x, hx, rfl⟩ := List.mem_map.mp (show c ∈ z.cps.toList.map up1 from hc)
  have := h x hx
  unfold up1
  split <;> omega
end My

set_option Elab.async false
set_option linter.all false
set_option maxRecDepth 100000
namespace My
open PySem L2 SX
abbrev s_law_bent_name : Stmt := top 46
abbrev N_law_bent_name : List Str := ["_law_pen", "_law_name_here", "_law_at", "_law_sign", "_law_way"]
abbrev P_law_bent_name : List Str := ["_law_pen", "_law_name_here"]
theorem sc_law_bent_name : FnScope N_law_bent_name P_law_bent_name (defScope s_law_bent_name) := ⟨rfl, rfl, rfl, by decide +kernel, rfl, by decide +kernel, by decide +kernel⟩
mutual
def widD : PyData → Bool
  | .list xs => decide (xs.length ≤ 1000) && widAll xs
  | .tuple xs => decide (xs.length ≤ 1000) && widAll xs
  | .dict _ => false
  | _ => true
def widAll : List PyData → Bool
  | [] => true
  | d :: ds => widD d && widAll ds
end
theorem wid_form : ∀ {k : Nat} {D : PyData}, isForm k D = true → widD D = true := by
  intro k
  induction k with
  | zero =>
    intro D h
    rcases isForm_inv h with ⟨w, n, rfl, hw, hn⟩ | ⟨j, w, a, b, e, _⟩
    · rfl
    · cases e
  | succ k ih =>
    intro D h
    rcases isForm_inv h with ⟨w, n, rfl, hw, hn⟩ | ⟨j, w, a, b, e, rfl, hw, ha, hb⟩
    · rfl
    · obtain rfl : k = j := by omega
      show (true && (true && (widD a && (widD b && true)))) = true
      rw [ih ha, ih hb]
      rfl
def spBentName (K : PySem.W.Frag) : Sp := fun vs H Q _ => ∃ (d L : Addr) (ns : List Int) (n : Nat) (z : Str), vs = [.ref d, .str z] ∧ Pen K H d L ns n ∧ n < 2 ^ 39 ∧ isName z = true ∧
  ∀ v D H', Dp K H' v D → shortD D = true → widD D = true → D.depth ≤ 1 → Keep d H H' → Pen K H' d L ns (n + 4) → Q v H'
def zSigns : Str := Str.ofString "AZ_-~ .,()*|&+09az\n\t"
theorem signs_asc : ∀ c ∈ zSigns.cps.toList, c < 128 := by decide +kernel
theorem add_fit {a b : Str} (ha : a.length ≤ 400) (hb : b.length ≤ 400) : a.length + b.length ≤ sizeLine := Nat.le_of_lt (small1000 (by omega))
section
variable {P : Program} {w : World} {K : PySem.W.Frag} {mg : Str → Option Value} {base : Heap} {f : Addr} {fd : FuncData}
theorem ok_law_bent_name (T : Txt K mg) (F : Fun K "_law_bent_name" "_law_bent_name" s_law_bent_name f fd) (C_law_draw : Cal P w K mg base "_law_draw" 1 ["_law_pen", "_law_span"] (spDraw K)) (C_law_pick : Cal P w K mg base "_law_pick" 2 ["_law_pen", "_law_some"] (spPick K)) :
    FnOk P w K mg base CX0 3 f fd P_law_bent_name (spBentName K) := by
  refine F.ok sc_law_bent_name (fun vs H Q E h => ?_) (fun cdv A outer s H vs Q E hr h => ?_)
  · obtain ⟨d, L, ns, n, z, rfl, _⟩ := h
    rfl
  obtain ⟨d, L, ns, n, z, rfl, p, hn, hname, q⟩ := h
  refine ⟨_, (pss_cons (ps_par (i := 2) (j := 3) (by rfl) sc_law_bent_name.nd rfl rfl (by decide) rfl rfl (pa_cons (pe_callC C_law_draw hr (pa_cons (pv 0) (pa_cons (pe_callB call_len rfl T.len (by decide +kernel) (pa_cons (pv 1) pa_nil)) pa_nil))) (pa_cons (pe_callC C_law_pick hr (pa_cons (pv 0) (pa_cons pe_str pa_nil))) pa_nil)) (by rfl))
  (pss_cons (ps_set (i := 4) sc_law_bent_name.nd rfl (Or.inl rfl) (pe_callC C_law_draw hr (pa_cons (pv 0) (pa_cons pe_int pa_nil))))
  (pss_cons (ps_if (pt_cmpR op_lt (pv 4) pe_int (nomark _))
    (pss_one (ps_ret (pe_op op_add_str (pe_op op_add_str (pe_slice sl_str (pv 1) po_none (po_some (pv 2))) (pv 3)) (pe_slice sl_str (pv 1) (po_some (pe_op op_add (pv 2) pe_int)) po_none))))
    pss_nil)
  (pss_cons (ps_if (pt_cmpR op_lt (pv 4) pe_int (nomark _))
    (pss_one (ps_ret (pe_op op_add_str (pe_op op_add_str (pe_slice sl_str (pv 1) po_none (po_some (pv 2))) (pv 3)) (pe_slice sl_str (pv 1) (po_some (pv 2)) po_none))))
    pss_nil)
  (pss_cons (ps_if (pt_cmpR op_lt (pv 4) pe_int (nomark _))
    (pss_one (ps_ret (pe_slice sl_str (pe_op op_add_str (pv 1) pe_str) po_none (po_some (pe_op op_add pe_int (pe_callC C_law_draw hr (pa_cons (pv 0) (pa_cons pe_int pa_nil))))))))
    pss_nil)
  (pss_one (ps_ret (pe_ix ix_list (pe_lst (pa_cons (pe_op op_add_str (pe_slice sl_str (pv 1) po_none (po_some (pv 2))) (pe_slice sl_str (pv 1) (po_some (pe_op op_add (pv 2) pe_int)) po_none)) (pa_cons (pe_op op_add_str (pv 1) (pv 3)) (pa_cons (pe_upper (pv 1)) (pa_cons (pe_lst (pa_cons (pv 1) pa_nil)) (pa_cons pe_int pa_nil)))))) (pe_op op_sub (pv 4) pe_int) (fun _ _ => rfl))))))))), ?_⟩
  have hl12 := name_len hname
  have hz : z.length ≤ sizeLine := Nat.le_of_lt (small1000 (by omega))
  have hasc := (okS.mp (okStr_of_name hname)).2
  have hcl : ∀ lo hi, (cutS z lo hi).length ≤ 12 := fun lo hi => Nat.le_trans (cut_len z lo hi) hl12.2
  refine ⟨_, rfl, _, rfl, _, _, rfl, ⟨hz, rfl⟩, d, L, ns, n, _, rfl, p, by omega, by omega, by omega, fun at_ H1 a0 a1 k1 p1 => ?_⟩
  refine ⟨_, rfl, d, L, ns, n + 1, _, rfl, p1, by omega, .inr ⟨zSigns, rfl, by decide +kernel, by decide +kernel, fun c H2 hc k2 p2 => ⟨_, _, rfl, ?_⟩⟩⟩
  have hc1 := one_asc (signs_asc c hc)
  have l1 : (⟨#[c]⟩ : Str).length = 1 := rfl
  refine ⟨_, rfl, d, L, ns, n + 2, 12, rfl, p2, by omega, by decide, by decide, fun way H3 w0 w1 k3 p3 => ?_⟩
  have kk := (k1.trans k2).trans k3
  refine ⟨_, rfl, _, _, rfl, rfl, _, rfl, ?_⟩
  have fin : ∀ (t : Str) H', t.length ≤ 400 → (∀ c ∈ t.cps.toList, c < 128) → Keep d H H' → Pen K H' d L ns (n + 4) → Q (.str t) H' := fun t H' hl ha hk hp =>
    q (.str t) (.str t) H' (.str t) (by unfold shortD; exact okS.mpr ⟨by omega, ha⟩) rfl (by simp [PyData.depth]) hk hp
  refine ite2 (fun c1 => ?_) (fun c1 => ?_)
  · refine ⟨_, rfl, _, rfl, _, rfl, z, rfl, hz, _, rfl, _, _, rfl, rfl, add_fit (by have := hcl none (some at_); omega) (by omega), _, rfl, _, rfl, _, _, rfl, rfl, _, rfl, z, rfl, hz, _, _, rfl, rfl, add_fit (by rw [cat_len]; have := hcl none (some at_); omega) (by have := hcl (some (at_ + 1)) none; omega), ?_⟩
    refine fin _ _ ?_ (cat_asc (cat_asc (cut_asc _ _ hasc) hc1) (cut_asc _ _ hasc)) kk (p3.mono (by omega))
    rw [cat_len, cat_len]
    have h1 := hcl none (some at_)
    have h2 := hcl (some (at_ + 1)) none
    omega
  refine ⟨_, rfl, _, _, rfl, rfl, _, rfl, ?_⟩
  refine ite2 (fun c2 => ?_) (fun c2 => ?_)
  · refine ⟨_, rfl, _, rfl, _, rfl, z, rfl, hz, _, rfl, _, _, rfl, rfl, add_fit (by have := hcl none (some at_); omega) (by omega), _, rfl, _, rfl, _, rfl, z, rfl, hz, _, _, rfl, rfl, add_fit (by rw [cat_len]; have := hcl none (some at_); omega) (by have := hcl (some at_) none; omega), ?_⟩
    refine fin _ _ ?_ (cat_asc (cat_asc (cut_asc _ _ hasc) hc1) (cut_asc _ _ hasc)) kk (p3.mono (by omega))
    rw [cat_len, cat_len]
    have h1 := hcl none (some at_)
    have h2 := hcl (some at_) none
    omega
  refine ⟨_, rfl, _, _, rfl, rfl, _, rfl, ?_⟩
  refine ite2 (fun c3 => ?_) (fun c3 => ?_)
  · have hm : (Str.ofString "a1b2c3d4e5f6").length ≤ 100 := by decide +kernel
    have hm2 : ∀ c ∈ (Str.ofString "a1b2c3d4e5f6").cps.toList, c < 128 := by decide +kernel
    refine ⟨_, rfl, _, _, rfl, rfl, add_fit (by omega) (by omega), _, rfl, d, L, ns, n + 3, 2, rfl, p3, by omega, by decide, by decide, fun r H4 r0 r1 k4 p4 => ?_⟩
    refine ⟨_, _, rfl, rfl, _, rfl, _, rfl, by rw [cat_len]; exact Nat.le_of_lt (small1000 (by omega)), ?_⟩
    refine fin _ _ ?_ (cut_asc _ _ (cat_asc hasc hm2)) (kk.trans k4) (p4.mono (by omega))
    refine Nat.le_trans (cut_len _ _ _) ?_
    rw [cat_len]
    omega
  · have c3' : ¬ way < 7 := fun z => c3 (decide_eq_true z)
    refine ⟨_, rfl, _, rfl, _, rfl, z, rfl, hz, _, rfl, _, rfl, _, _, rfl, rfl, _, rfl, z, rfl, hz, _, _, rfl, rfl, add_fit (by have := hcl none (some at_); omega) (by have := hcl (some (at_ + 1)) none; omega), ?_⟩
    refine ⟨_, rfl, _, rfl, _, _, rfl, rfl, add_fit (by omega) (by omega), _, rfl, ⟨_, rfl⟩, _, rfl, rfl, by omega, _, rfl, by show 1 ≤ sizeLine; decide, fun p5 n5 => ⟨by show 5 ≤ sizeLine; decide, fun p6 n6 => ?_⟩⟩
    have kf : Keep d H (upd (upd H3 p5 (.lst [.str z])) p6 (.lst [.str (cutS z none (some at_) ++ cutS z (some (at_ + 1)) none), .str (z ++ ⟨#[c]⟩), .str (Txt.upper z), .ref p5, .int 5])) := kk.trans ((Same.toKeep (same_new n5 _)).trans (Same.toKeep (same_new n6 _)))
    have pf := (((p3.same (same_new n5 (.lst [.str z]))).same (same_new n6 (.lst [.str (cutS z none (some at_) ++ cutS z (some (at_ + 1)) none), .str (z ++ ⟨#[c]⟩), .str (Txt.upper z), .ref p5, .int 5]))).mono (show n + 2 + 1 ≤ n + 4 by omega))
    have e5 := same_new n6 (.lst [.str (cutS z none (some at_) ++ cutS z (some (at_ + 1)) none), .str (z ++ ⟨#[c]⟩), .str (Txt.upper z), .ref p5, .int 5]) _ _ (upd_same (H := H3) (a := p5) (o := .lst [.str z]))
    have hup := upper_ok hasc
    have hway : way = 7 ∨ way = 8 ∨ way = 9 ∨ way = 10 ∨ way = 11 := by omega
    rcases hway with rfl | rfl | rfl | rfl | rfl
    · refine ⟨_, rfl, _, _, rfl, rfl, p6, _, _, _, rfl, rfl, SqL.of upd_same, rfl, ?_⟩
      refine fin _ _ ?_ (cat_asc (cut_asc _ _ hasc) (cut_asc _ _ hasc)) kf pf
      rw [cat_len]
      have h1 := hcl none (some at_)
      have h2 := hcl (some (at_ + 1)) none
      omega
    · refine ⟨_, rfl, _, _, rfl, rfl, p6, _, _, _, rfl, rfl, SqL.of upd_same, rfl, ?_⟩
      refine fin _ _ ?_ (cat_asc hasc hc1) kf pf
      rw [cat_len]
      omega
    · refine ⟨_, rfl, _, _, rfl, rfl, p6, _, _, _, rfl, rfl, SqL.of upd_same, rfl, ?_⟩
      exact fin _ _ (by omega) hup.2 kf pf
    · refine ⟨_, rfl, _, _, rfl, rfl, p6, _, _, _, rfl, rfl, SqL.of upd_same, rfl, ?_⟩
      refine q (.ref p5) (.list [.str z]) _ (.lst (SqL.of e5) (.cons (.str z) .nil)) ?_ rfl (by simp [PyData.depth, PyData.depthAll]) kf pf
      simp only [shortD, shortAll, okStr_of_name hname, Bool.and_self]
    · refine ⟨_, rfl, _, _, rfl, rfl, p6, _, _, _, rfl, rfl, SqL.of upd_same, rfl, ?_⟩
      exact q (.int 5) (.int 5) _ (.int 5) (by simp only [shortD]) rfl (by simp [PyData.depth]) kf pf
end
end My

set_option Elab.async false
set_option linter.all false
set_option maxRecDepth 100000
namespace My
open PySem PySem.Spec PyProof.Rows L2 SX
/-! ### the same rules, the heap behind them left open -/
/-- a new object -/
def New (o : HO) (Q : VK) (H : Hp) : Prop := ∀ p H', Same H H' → H' p = some o → Q (.ref p) H'
/-- a tuple, new or not -/
def NewT (K : PySem.W.Frag) (xs : List V) (Q : VK) (H : Hp) : Prop := ∀ p H', Same H H' → SqT K H' p xs → Q (.ref p) H'
theorem New.go {o : HO} {Q : VK} {H : Hp} (h : New o Q H) : ∀ p, H p = none → Q (.ref p) (upd H p o) := fun p np => h p _ (same_new np o) upd_same
theorem NewT.go {K : PySem.W.Frag} {xs : List V} {Q : VK} {H : Hp} (h : NewT K xs Q H) : ∀ p, H p = none → Q (.ref p) (upd H p (.tup xs)) := fun p np => h p _ (same_new np _) (SqT.of upd_same)
theorem le1k {n : Nat} (h : Nat.ble n 1000 = true := by rfl) : n ≤ 1000 := Nat.le_of_ble_eq_true h
theorem fit1000 {n : Nat} (h : n ≤ 1000) : n ≤ sizeLine := Nat.le_of_lt (small1000 h)
def nTup (K : PySem.W.Frag) (t : TA) : TE := fun σ H Q => t σ H fun xs H1 => xs.length ≤ 1000 ∧ NewT K xs Q H1
def nLst (t : TA) : TE := fun σ H Q => t σ H fun xs H1 => xs.length ≤ 1000 ∧ New (.lst xs) Q H1
def nCatT (K : PySem.W.Frag) : R2 := fun x y H Q => ∃ a b xs ys, x = .ref a ∧ y = .ref b ∧ SqT K H a xs ∧ SqT K H b ys ∧ xs.length + ys.length ≤ 1000 ∧ NewT K (xs ++ ys) Q H
def nCatL : R2 := fun x y H Q => ∃ l b xs zs, x = .ref l ∧ y = .ref b ∧ H l = some (.lst xs) ∧ H b = some (.lst zs) ∧ xs.length + zs.length ≤ 1000 ∧ New (.lst (xs ++ zs)) Q H
def nSlT (K : PySem.W.Frag) : V → Option Int → Option Int → Hp → VK → Prop := fun x lo hi H Q => ∃ a xs, x = .ref a ∧ SqT K H a xs ∧ NewT K (cutV xs lo hi) Q H
def nListOf (K : PySem.W.Frag) : List V → Hp → VK → Prop := fun xs H Q => ∃ p ys, xs = [.ref p] ∧ (SqL K H p ys ∨ SqT K H p ys) ∧ New (.lst ys) Q H
section
variable {X : Cx} {es : List Expr} {t : TA} {pos : Pos}
theorem pe_tupN {x1} (h : PA X es t) : PE X (.Tuple es x1 pos) (nTup X.K t) := by
  refine ⟨fun pins s σ H Q I hq => wpAny_Tuple_spliced (thn (h.run pos pins s σ H _ I hq) fun us s1 ⟨xs, H1, I1, r, z, q⟩ => ⟨by rw [← r.length]; exact fit1000 z, ?_⟩)⟩
  have hf := I1.hok.fresh (Nat.le_refl s1.heap.objs.size)
  exact ⟨.ref s1.heap.objs.size, upd H1 s1.heap.objs.size (.tup xs), I1.laid (t' := s1.toks) (fun b u e => Heap.get?_push_of_some _ e) (Nat.le_refl _) ⟨fit1000 z, us, r, ⟨_, Heap.get?_push_size _ rfl, rfl, _, rfl⟩⟩, rfl, q.go _ hf⟩
theorem pe_lstN (h : PA X es t) : PE X (.List es pos) (nLst t) := by
  refine ⟨fun pins s σ H Q I hq => wpAny_List_spliced (thn (h.run pos pins s σ H _ I hq) fun us s1 ⟨xs, H1, I1, r, z, q⟩ => ⟨by rw [← r.length]; exact fit1000 z, ?_⟩)⟩
  have hf := I1.hok.fresh (Nat.le_refl s1.heap.objs.size)
  exact ⟨.ref s1.heap.objs.size, upd H1 s1.heap.objs.size (.lst xs), I1.laid (t' := s1.toks) (fun b u e => Heap.get?_push_of_some _ e) (Nat.le_refl _) ⟨fit1000 z, us, 0, r, Heap.get?_push_size _ rfl⟩, rfl, q.go _ hf⟩
theorem op_catTN : OpR X (binaryOp .Add) (nCatT X.K) := by
  intro pins s σ H x y v u Q I rx ry ⟨a, b, xs, ys, ex, ey, hx, hy, hl, q⟩
  refine op_catA pins s σ H x y v u Q I rx ry ⟨a, b, xs, ys, ex, ey, hx, hy, fit1000 hl, fun e => ?_, fun _ e => ?_, fun _ _ => q.go⟩
  · subst e
    exact q b H (Same.refl H) hy
  · subst e
    exact q a H (Same.refl H) (by rw [List.append_nil]; exact hx)
theorem op_catLN : OpR X (binaryOp .Add) nCatL := by
  intro pins s σ H x y v u Q I rx ry ⟨l, b, xs, zs, ex, ey, hx, hy, hl, q⟩
  exact op_cat pins s σ H x y v u Q I rx ry ⟨l, b, xs, zs, ex, ey, hx, hy, fit1000 hl, q.go⟩
theorem sl_tupN : SlR X (nSlT X.K) := by
  intro pins s σ H x v vl vu lo hi sl Q I rx hs pl pu ⟨a, xs, ex, hx, q⟩
  refine sl_tupA pins s σ H x v vl vu lo hi sl Q I rx hs pl pu ⟨a, xs, ex, hx, fun ⟨e1, e2⟩ => ?_, fun _ => q.go⟩
  refine q a H (Same.refl H) ?_
  have e : cutV xs lo hi = xs := by
    unfold cutV
    rw [e1, e2, List.drop_zero, Nat.sub_zero, List.take_length]
  rw [e]
  exact hx
theorem call_listN : CallR X (.type "list") (nListOf X.K) := by
  intro pins s σ H xs us Q I r ⟨p, ys, ex, hy, q⟩
  exact call_list_of pins s σ H xs us Q I r ⟨p, ys, ex, hy, q.go⟩
end
abbrev s_law_bent : Stmt := top 47
abbrev N_law_bent : List Str := ["_law_pen", "_law_form", "_law_at", "_law_rest", "_law_odd"]
abbrev P_law_bent : List Str := ["_law_pen", "_law_form"]
theorem sc_law_bent : FnScope N_law_bent P_law_bent (defScope s_law_bent) := ⟨rfl, rfl, rfl, by decide +kernel, rfl, by decide +kernel, by decide +kernel⟩
def spBent (K : PySem.W.Frag) (k : Nat) : Sp := fun vs H Q _ => ∃ (d L : Addr) (ns : List Int) (n : Nat) (v : V) (D : PyData) (k' : Nat), vs = [.ref d, v] ∧ k' < k ∧ k' ≤ 40 ∧ Pen K H d L ns n ∧ n + 3 * k' < 2 ^ 38 ∧ Dp K H v D ∧ isForm k' D = true ∧
  ∀ v' D' H', Dp K H' v' D' → shortD D' = true → widD D' = true → D'.depth ≤ k' + 4 → Keep d H H' → Pen K H' d L ns (n + (2 * k' + 5)) → Q v' H'
theorem okStr_s : ∀ w ∈ leafW ++ halfW, okStr (w ++ Str.ofString "s") = true := by decide +kernel
theorem word_len : ∀ w ∈ leafW ++ halfW, w.length ≤ 100 := by decide +kernel
section
variable {P : Program} {w : World} {K : PySem.W.Frag} {mg : Str → Option Value} {base : Heap} {f : Addr} {fd : FuncData}
set_option maxHeartbeats 4000000 in
theorem ok_law_bent {k : Nat} (T : Txt K mg) (F : Fun K "_law_bent" "_law_bent" s_law_bent f fd) (C_law_draw : Cal P w K mg base "_law_draw" 1 ["_law_pen", "_law_span"] (spDraw K)) (C_law_pick : Cal P w K mg base "_law_pick" 2 ["_law_pen", "_law_some"] (spPick K))
    (C_law_bent_name : Cal P w K mg base "_law_bent_name" 3 P_law_bent_name (spBentName K)) (C_law_bent : Cal P w K mg base "_law_bent" (3 + k) P_law_bent (spBent K k)) : FnOk P w K mg base CX0 (3 + k + 1) f fd P_law_bent (spBent K (k + 1)) := by
  refine F.ok sc_law_bent (fun vs H Q E h => ?_) (fun cdv A outer s H vs Q E hr h => ?_)
  · obtain ⟨d, L, ns, n, v, D, k', rfl, _⟩ := h
    rfl
  obtain ⟨d, L, ns, n, v, D, k', rfl, hk, hk40, p, hn, hv, hD, q⟩ := h
  refine ⟨_, (pss_cons (ps_if (PW.pt (pw_and (pt_cmpR op_eq (pe_callB call_len rfl T.len (by decide +kernel) (pa_cons (pv 1) pa_nil)) pe_int (nomark _)) (pw_and1 (pt_cmpR op_gt (pe_callC C_law_draw hr (pa_cons (pv 0) (pa_cons pe_int pa_nil))) pe_int (nomark _)))))
    (pss_cons (ps_set (i := 2) sc_law_bent.nd rfl (Or.inl rfl) (pe_op op_add pe_int (pe_callC C_law_draw hr (pa_cons (pv 0) (pa_cons pe_int pa_nil)))))
    (pss_one (ps_ret (pe_op op_catTN (pe_op op_catTN (pe_slice sl_tupN (pv 1) po_none (po_some (pv 2))) (pe_tupN (pa_cons (pe_callC C_law_bent hr (pa_cons (pv 0) (pa_cons (pe_ix ix_tup (pv 1) (pv 2) (fun _ _ => rfl)) pa_nil))) pa_nil))) (pe_slice sl_tupN (pv 1) (po_some (pe_op op_add (pv 2) pe_int)) po_none)))))
    pss_nil)
  (pss_cons (ps_if (PW.pt (pw_and (pt_cmpR op_eq (pe_callB call_len rfl T.len (by decide +kernel) (pa_cons (pv 1) pa_nil)) pe_int (nomark _)) (pw_and1 (pt_cmpR op_eq (pe_callC C_law_draw hr (pa_cons (pv 0) (pa_cons pe_int pa_nil))) pe_int (nomark _)))))
    (pss_one (ps_ret (pe_tupN (pa_cons (pe_ix ix_tup (pv 1) pe_int (fun _ _ => rfl)) (pa_cons (pe_callC C_law_bent_name hr (pa_cons (pv 0) (pa_cons (pe_ix ix_tup (pv 1) pe_int (fun _ _ => rfl)) pa_nil))) pa_nil)))))
    pss_nil)
  (pss_cons (ps_set (i := 3) sc_law_bent.nd rfl (Or.inl rfl) (pe_slice sl_tupN (pv 1) (po_some pe_int) po_none))
  (pss_cons (ps_set (i := 4) sc_law_bent.nd rfl (Or.inl rfl) (pe_lstN (pa_cons (pe_callTy call_listN rfl T.list (by decide +kernel) (pa_cons (pv 1) pa_nil)) (pa_cons (pe_op op_catTN (pv 1) (pe_tupN (pa_cons (pe_ix ix_tup (pv 1) (pe_un un_neg pe_int) (fun _ _ => rfl)) pa_nil))) (pa_cons (pe_slice sl_tupN (pv 1) po_none (po_some (pe_un un_neg pe_int))) (pa_cons (pe_op op_catTN (pe_tupN (pa_cons (pe_op op_add_str (pe_ix ix_tup (pv 1) pe_int (fun _ _ => rfl)) pe_str) pa_nil)) (pv 3)) (pa_cons (pe_op op_catTN (pe_tupN (pa_cons pe_int pa_nil)) (pv 3)) (pa_cons (pe_ix ix_tup (pv 1) pe_int (fun _ _ => rfl)) (pa_cons pe_non (pa_cons pe_bl (pa_cons (pe_tupN pa_nil) pa_nil)))))))))))
  (pss_cons (ps_set (i := 4) sc_law_bent.nd rfl (Or.inl rfl) (pe_op op_catLN (pv 4) (pe_lstN (pa_cons (pe_op op_catTN (pe_tupN (pa_cons pe_str pa_nil)) (pv 3)) (pa_cons (pe_op op_catTN (pe_tupN (pa_cons pe_str pa_nil)) (pv 3)) (pa_cons (pe_revT (pv 1)) (pa_cons (pe_op op_catTN (pe_tupN (pa_cons (pe_ix ix_tup (pv 1) pe_int (fun _ _ => rfl)) (pa_cons (pe_lstN (pa_cons (pe_ix ix_tup (pv 1) pe_int (fun _ _ => rfl)) pa_nil)) pa_nil))) (pe_slice sl_tupN (pv 1) (po_some pe_int) po_none)) (pa_cons (pe_tupN (pa_cons (pv 1) pa_nil)) pa_nil))))))))
  (pss_one (ps_ret (pe_callC C_law_pick hr (pa_cons (pv 0) (pa_cons (pv 4) pa_nil)))))))))), ?_⟩
  have kd := p.isDk
  have hshort := short_form hD
  have hdep := depth_form hD
  -- what is left when the form itself is changed, for both sorts of forms
  rcases isForm_inv hD with ⟨wd, nm, rfl, hw, hnm⟩ | ⟨j, wd, a, b, rfl, rfl, hw, ha, hb⟩
  · cases hv with | @tup t xs _ hT hA => cases hA with | @cons x0 xs1 _ _ h0 hA => cases hA with | @cons x1 xs2 _ _ h1 hN =>
    cases hN
    cases h0
    cases h1
    refine ⟨_, rfl, _, _, rfl, .inr ⟨_, hT, rfl⟩, rfl, _, rfl, ?_⟩
    refine iteF ⟨_, rfl, _, _, rfl, .inr ⟨_, hT, rfl⟩, rfl, _, rfl, ?_⟩
    refine iteT ⟨_, rfl, d, L, ns, n, 2, rfl, p, by omega, by decide, by decide, fun r H1 r0 r1 k1 p1 => ⟨rfl, _, rfl, ?_⟩⟩
    refine ite2 (fun c1 => ?_) (fun c1 => ?_)
    · refine ⟨_, rfl, t, _, _, _, rfl, rfl, seqT_keep kd k1 hT, rfl, _, rfl, _, rfl, t, _, _, _, rfl, rfl, seqT_keep kd k1 hT, rfl, d, L, ns, n + 1, nm, rfl, p1, by omega, hnm, fun v' D' H2 hd' hs' hw' hdp' k2 p2 => ⟨by show 2 ≤ 1000; decide, fun c3 H3 S3 g3 => ?_⟩⟩
      refine q (.ref c3) (.tuple [.str wd, D']) H3 (.tup g3 (.cons (.str _) (.cons (dp_same S3 _ _ hd') .nil))) ?_ ?_ ?_ ((k1.trans k2).trans (Same.toKeep S3)) ((p2.same S3).mono (by omega))
      · simp only [shortD, shortAll, okStr_leaf wd hw, hs', Bool.and_self]
      · simp [widD, widAll, hw']
      · simp only [PyData.depth, PyData.depthAll]
        omega
    · have okw := okStr_leaf wd hw
      have oks := okStr_s wd (List.mem_append_left _ hw)
      have okb : okStr (Str.ofString "both") = true := by decide +kernel
      have okc : okStr (Str.ofString "counter") = true := by decide +kernel
      have sa : okStr nm = true := okStr_of_name hnm
      have hwl := word_len wd (List.mem_append_left _ hw)
      have hT1 := seqT_keep kd k1 hT
      have W0 : Same H1 H1 := Same.refl H1
      refine ⟨_, rfl, _, rfl, t, _, rfl, (seqT_same W0 hT1), fun cR hp1 S1 g1 => ?_⟩
      have W1 := W0.trans S1
      refine ⟨_, rfl, t, _, rfl, .inr (seqT_same W1 hT1), fun l1 hp2 S2 g2 => ?_⟩
      have W2 := W1.trans S2
      refine ⟨_, rfl, _, rfl, _, rfl, t, _, _, _, rfl, rfl, (seqT_same W2 hT1), rfl, le1k, fun c2 hp3 S3 g3 => ?_⟩
      have W3 := W2.trans S3
      refine ⟨t, c2, _, _, rfl, rfl, (seqT_same W3 hT1), g3, le1k, fun c3 hp4 S4 g4 => ?_⟩
      have W4 := W3.trans S4
      refine ⟨_, rfl, _, rfl, _, rfl, t, _, rfl, (seqT_same W4 hT1), fun c4 hp5 S5 g5 => ?_⟩
      have W5 := W4.trans S5
      refine ⟨_, rfl, t, _, _, _, rfl, rfl, (seqT_same W5 hT1), rfl, _, _, rfl, rfl, add_fit (by omega) (by decide +kernel), le1k, fun c5 hp6 S6 g6 => ?_⟩
      have W6 := W5.trans S6
      refine ⟨_, rfl, c5, cR, _, _, rfl, rfl, g6, (seqT_same (((((S2).trans S3).trans S4).trans S5).trans S6) g1), le1k, fun c6 hp7 S7 g7 => ?_⟩
      have W7 := W6.trans S7
      refine ⟨le1k, fun c7 hp8 S8 g8 => ?_⟩
      have W8 := W7.trans S8
      refine ⟨_, rfl, c7, cR, _, _, rfl, rfl, g8, (seqT_same (((((((S2).trans S3).trans S4).trans S5).trans S6).trans S7).trans S8) g1), le1k, fun c8 hp9 S9 g9 => ?_⟩
      have W9 := W8.trans S9
      refine ⟨_, rfl, t, _, _, _, rfl, rfl, (seqT_same W9 hT1), rfl, le1k, fun c9 hp10 S10 g10 => ?_⟩
      have W10 := W9.trans S10
      refine ⟨le1k, fun l2 hp11 S11 g11 => ?_⟩
      have W11 := W10.trans S11
      refine ⟨_, rfl, le1k, fun c11 hp12 S12 g12 => ?_⟩
      have W12 := W11.trans S12
      refine ⟨_, rfl, c11, cR, _, _, rfl, rfl, g12, (seqT_same (((((((((((S2).trans S3).trans S4).trans S5).trans S6).trans S7).trans S8).trans S9).trans S10).trans S11).trans S12) g1), le1k, fun c12 hp13 S13 g13 => ?_⟩
      have W13 := W12.trans S13
      refine ⟨le1k, fun c13 hp14 S14 g14 => ?_⟩
      have W14 := W13.trans S14
      refine ⟨_, rfl, c13, cR, _, _, rfl, rfl, g14, (seqT_same (((((((((((((S2).trans S3).trans S4).trans S5).trans S6).trans S7).trans S8).trans S9).trans S10).trans S11).trans S12).trans S13).trans S14) g1), le1k, fun c14 hp15 S15 g15 => ?_⟩
      have W15 := W14.trans S15
      refine ⟨_, rfl, t, _, rfl, (seqT_same W15 hT1), fun c15 n15 => ?_⟩
      obtain ⟨hp16, e16, S16, g16⟩ : ∃ h, upd hp15 c15 (.tup ([.str wd, .str nm] : List V).reverse) = h ∧ Same hp15 h ∧ SqT K h c15 ([.str wd, .str nm] : List V).reverse := ⟨_, rfl, same_new n15 _, SqT.of upd_same⟩
      rw [e16]
      have W16 := W15.trans S16
      refine ⟨_, rfl, t, _, _, _, rfl, rfl, (seqT_same W16 hT1), rfl, _, rfl, t, _, _, _, rfl, rfl, (seqT_same W16 hT1), rfl, le1k, fun l16 hp17 S17 g17 => ?_⟩
      have W17 := W16.trans S17
      refine ⟨le1k, fun c17 hp18 S18 g18 => ?_⟩
      have W18 := W17.trans S18
      refine ⟨_, rfl, _, rfl, t, _, rfl, (seqT_same W18 hT1), fun c18 hp19 S19 g19 => ?_⟩
      have W19 := W18.trans S19
      refine ⟨c17, c18, _, _, rfl, rfl, (seqT_same (S19) g18), g19, le1k, fun c19 hp20 S20 g20 => ?_⟩
      have W20 := W19.trans S20
      refine ⟨_, rfl, le1k, fun c20 hp21 S21 g21 => ?_⟩
      have W21 := W20.trans S21
      refine ⟨le1k, fun l21 hp22 S22 g22 => ?_⟩
      have W22 := W21.trans S22
      refine ⟨l2, l21, _, _, rfl, rfl, (((((((((((S12).trans S13).trans S14).trans S15).trans S16).trans S17).trans S18).trans S19).trans S20).trans S21).trans S22) _ _ g11, g22, le1k, fun l22 hp23 S23 g23 => ?_⟩
      have W23 := W22.trans S23
      have pV := p1.same W23
      refine ⟨_, rfl, _, rfl, d, L, ns, n + 1, _, rfl, pV, by omega, .inl ⟨l22, _, rfl, SqL.of g23, by simp, le1k, fun x HW hx kW pW => ?_⟩⟩
      have kF := (k1.trans (Same.toKeep W23)).trans kW
      have kdV := pV.isDk
      have two : ∀ i : Nat, i = i := fun _ => rfl
      have fin : ∀ D' : PyData, Dp K HW x D' → shortD D' = true → widD D' = true → D'.depth ≤ k' + 4 → Q x HW := fun D' e1 e2 ew e3 => q x D' HW e1 e2 ew e3 kF (pW.mono (by omega))
      simp only [List.cons_append, List.nil_append, List.mem_cons, List.not_mem_nil, or_false] at hx
      rcases hx with rfl | rfl | rfl | rfl | rfl | rfl | rfl | rfl | rfl | rfl | rfl | rfl | rfl | rfl
      · refine fin (.list [.str wd, .str nm]) (.lst (seqL_keep kdV kW (SqL.of ((((((((((((((((((((((S3).trans S4).trans S5).trans S6).trans S7).trans S8).trans S9).trans S10).trans S11).trans S12).trans S13).trans S14).trans S15).trans S16).trans S17).trans S18).trans S19).trans S20).trans S21).trans S22).trans S23) _ _ g2))) (.cons (.str _) (.cons (.str nm) .nil))) ?_ ?_ ?_
        · first | exact sa | simp only [shortD, shortAll, okw, oks, okb, okc, sa, Bool.and_self]
        · first | rfl | simp [widD, widAll]
        · first | omega | (simp only [PyData.depth, PyData.depthAll]; omega)
      · refine fin (.tuple [.str wd, .str nm, .str nm]) (.tup (seqT_keep kdV kW (seqT_same (((((((((((((((((((S5).trans S6).trans S7).trans S8).trans S9).trans S10).trans S11).trans S12).trans S13).trans S14).trans S15).trans S16).trans S17).trans S18).trans S19).trans S20).trans S21).trans S22).trans S23) g4)) (.cons (.str _) (.cons (.str nm) (.cons (.str nm) .nil)))) ?_ ?_ ?_
        · first | exact sa | simp only [shortD, shortAll, okw, oks, okb, okc, sa, Bool.and_self]
        · first | rfl | simp [widD, widAll]
        · first | omega | (simp only [PyData.depth, PyData.depthAll]; omega)
      · refine fin (.tuple [.str wd]) (.tup (seqT_keep kdV kW (seqT_same ((((((((((((((((((S6).trans S7).trans S8).trans S9).trans S10).trans S11).trans S12).trans S13).trans S14).trans S15).trans S16).trans S17).trans S18).trans S19).trans S20).trans S21).trans S22).trans S23) g5)) (.cons (.str _) .nil)) ?_ ?_ ?_
        · first | exact sa | simp only [shortD, shortAll, okw, oks, okb, okc, sa, Bool.and_self]
        · first | rfl | simp [widD, widAll]
        · first | omega | (simp only [PyData.depth, PyData.depthAll]; omega)
      · refine fin (.tuple [.str (wd ++ Str.ofString "s"), .str nm]) (.tup (seqT_keep kdV kW (seqT_same ((((((((((((((((S8).trans S9).trans S10).trans S11).trans S12).trans S13).trans S14).trans S15).trans S16).trans S17).trans S18).trans S19).trans S20).trans S21).trans S22).trans S23) g7)) (.cons (.str _) (.cons (.str nm) .nil))) ?_ ?_ ?_
        · first | exact sa | simp only [shortD, shortAll, okw, oks, okb, okc, sa, Bool.and_self]
        · first | rfl | simp [widD, widAll]
        · first | omega | (simp only [PyData.depth, PyData.depthAll]; omega)
      · refine fin (.tuple [.int 1, .str nm]) (.tup (seqT_keep kdV kW (seqT_same ((((((((((((((S10).trans S11).trans S12).trans S13).trans S14).trans S15).trans S16).trans S17).trans S18).trans S19).trans S20).trans S21).trans S22).trans S23) g9)) (.cons (.int _) (.cons (.str nm) .nil))) ?_ ?_ ?_
        · first | exact sa | simp only [shortD, shortAll, okw, oks, okb, okc, sa, Bool.and_self]
        · first | rfl | simp [widD, widAll]
        · first | omega | (simp only [PyData.depth, PyData.depthAll]; omega)
      · refine fin (.str nm) (.str nm) ?_ ?_ ?_
        · first | exact sa | simp only [shortD, shortAll, okw, oks, okb, okc, sa, Bool.and_self]
        · first | rfl | simp [widD, widAll]
        · first | omega | (simp only [PyData.depth, PyData.depthAll]; omega)
      · refine fin (.none) .non ?_ ?_ ?_
        · first | exact sa | simp only [shortD, shortAll, okw, oks, okb, okc, sa, Bool.and_self]
        · first | rfl | simp [widD, widAll]
        · first | omega | (simp only [PyData.depth, PyData.depthAll]; omega)
      · refine fin (.bool true) (.bl true) ?_ ?_ ?_
        · first | exact sa | simp only [shortD, shortAll, okw, oks, okb, okc, sa, Bool.and_self]
        · first | rfl | simp [widD, widAll]
        · first | omega | (simp only [PyData.depth, PyData.depthAll]; omega)
      · refine fin (.tuple []) (.tup (seqT_keep kdV kW (seqT_same (((((((((((((S11).trans S12).trans S13).trans S14).trans S15).trans S16).trans S17).trans S18).trans S19).trans S20).trans S21).trans S22).trans S23) g10)) .nil) ?_ ?_ ?_
        · first | exact sa | simp only [shortD, shortAll, okw, oks, okb, okc, sa, Bool.and_self]
        · first | rfl | simp [widD, widAll]
        · first | omega | (simp only [PyData.depth, PyData.depthAll]; omega)
      · refine fin (.tuple [.str (Str.ofString "both"), .str nm]) (.tup (seqT_keep kdV kW (seqT_same ((((((((((S14).trans S15).trans S16).trans S17).trans S18).trans S19).trans S20).trans S21).trans S22).trans S23) g13)) (.cons (.str _) (.cons (.str nm) .nil))) ?_ ?_ ?_
        · first | exact sa | simp only [shortD, shortAll, okw, oks, okb, okc, sa, Bool.and_self]
        · first | rfl | simp [widD, widAll]
        · first | omega | (simp only [PyData.depth, PyData.depthAll]; omega)
      · refine fin (.tuple [.str (Str.ofString "counter"), .str nm]) (.tup (seqT_keep kdV kW (seqT_same ((((((((S16).trans S17).trans S18).trans S19).trans S20).trans S21).trans S22).trans S23) g15)) (.cons (.str _) (.cons (.str nm) .nil))) ?_ ?_ ?_
        · first | exact sa | simp only [shortD, shortAll, okw, oks, okb, okc, sa, Bool.and_self]
        · first | rfl | simp [widD, widAll]
        · first | omega | (simp only [PyData.depth, PyData.depthAll]; omega)
      · refine fin (.tuple [.str nm, .str wd]) (.tup (seqT_keep kdV kW (seqT_same (((((((S17).trans S18).trans S19).trans S20).trans S21).trans S22).trans S23) g16)) (.cons (.str _) (.cons (.str _) .nil))) ?_ ?_ ?_
        · first | exact sa | simp only [shortD, shortAll, okw, oks, okb, okc, sa, Bool.and_self]
        · first | rfl | simp [widD, widAll]
        · first | omega | (simp only [PyData.depth, PyData.depthAll]; omega)
      · refine fin (.tuple [.str wd, .list [.str nm]]) (.tup (seqT_keep kdV kW (seqT_same (((S21).trans S22).trans S23) g20)) (.cons (.str _) (.cons (.lst (seqL_keep kdV kW (SqL.of (((((((S18).trans S19).trans S20).trans S21).trans S22).trans S23) _ _ g17))) (.cons (.str nm) .nil)) .nil))) ?_ ?_ ?_
        · first | exact sa | simp only [shortD, shortAll, okw, oks, okb, okc, sa, Bool.and_self]
        · first | rfl | simp [widD, widAll]
        · first | omega | (simp only [PyData.depth, PyData.depthAll]; omega)
      · refine fin (.tuple [.tuple [.str wd, .str nm]]) (.tup (seqT_keep kdV kW (seqT_same ((S22).trans S23) g21)) (.cons (.tup (seqT_keep kd kF hT) (.cons (.str _) (.cons (.str nm) .nil))) .nil)) ?_ ?_ ?_
        · first | exact sa | simp only [shortD, shortAll, okw, oks, okb, okc, sa, Bool.and_self]
        · first | rfl | simp [widD, widAll]
        · first | omega | (simp only [PyData.depth, PyData.depthAll]; omega)
  · cases hv with | @tup t xs _ hT hA => cases hA with | @cons x0 xs1 _ _ h0 hA => cases hA with | @cons x1 xs2 _ _ h1 hA => cases hA with | @cons x2 xs3 _ _ h2 hN =>
    cases hN
    cases h0
    refine ⟨_, rfl, _, _, rfl, .inr ⟨_, hT, rfl⟩, rfl, _, rfl, ?_⟩
    refine iteT ⟨_, rfl, d, L, ns, n, 4, rfl, p, by omega, by decide, by decide, fun r H1 r0 r1 k1 p1 => ⟨_, _, rfl, rfl, _, rfl, ?_⟩⟩
    refine ite2 (fun c1 => ?_) (fun c1 => ?_)
    · refine ⟨_, rfl, d, L, ns, n + 1, 2, rfl, p1, by omega, by decide, by decide, fun r2 H2 r20 r21 k2 p2 => ⟨_, _, rfl, rfl, ?_⟩⟩
      have kk := k1.trans k2
      have hr2 : r2 = 0 ∨ r2 = 1 := by omega
      rcases hr2 with rfl | rfl
      · refine ⟨_, rfl, _, rfl, _, rfl, t, _, rfl, seqT_keep kd kk hT, fun c1 H3 S3 g3 => ?_⟩
        refine ⟨_, rfl, _, rfl, _, rfl, t, _, _, x1, rfl, rfl, seqT_same S3 (seqT_keep kd kk hT), rfl, d, L, ns, n + 2, x1, a, j, rfl, by omega, by omega, p2.same S3, by omega, dp_same S3 _ _ (dp_keep kd kk _ _ h1), ha, fun v' D' H4 hd' hs' hw' hdp' k4 p4 => ⟨by show 1 ≤ 1000; decide, fun c2 H5 S5 g5 => ?_⟩⟩
        refine ⟨c1, c2, _, _, rfl, rfl, seqT_same S5 (seqT_keep (p2.same S3).isDk k4 g3), g5, le1k, fun c3 H6 S6 g6 => ?_⟩
        have kx := ((kk.trans (Same.toKeep S3)).trans k4).trans (Same.toKeep (S5.trans S6))
        refine ⟨_, rfl, _, rfl, _, _, rfl, rfl, _, rfl, t, _, rfl, seqT_keep kd kx hT, fun c4 H7 S7 g7 => ?_⟩
        refine ⟨c3, c4, _, _, rfl, rfl, seqT_same S7 g6, g7, le1k, fun c5 H8 S8 g8 => ?_⟩
        refine q (.ref c5) (.tuple [.str wd, D', b]) H8 (.tup (show SqT K H8 c5 [.str wd, v', x2] from g8) (.cons (.str _) (.cons (dp_same (S5.trans (S6.trans (S7.trans S8))) _ _ hd') (.cons (dp_keep kd (kx.trans (Same.toKeep (S7.trans S8))) _ _ h2) .nil)))) ?_ ?_ ?_ (kx.trans (Same.toKeep (S7.trans S8))) ((p4.same (S5.trans (S6.trans (S7.trans S8)))).mono (by omega))
        · simp only [shortD, shortAll, okStr_half wd hw, hs', short_form hb, Bool.and_self]
        · simp [widD, widAll, hw', wid_form hb]
        · have hdb := depth_form hb
          simp only [PyData.depth, PyData.depthAll]
          omega
      · refine ⟨_, rfl, _, rfl, _, rfl, t, _, rfl, seqT_keep kd kk hT, fun c1 H3 S3 g3 => ?_⟩
        refine ⟨_, rfl, _, rfl, _, rfl, t, _, _, x2, rfl, rfl, seqT_same S3 (seqT_keep kd kk hT), rfl, d, L, ns, n + 2, x2, b, j, rfl, by omega, by omega, p2.same S3, by omega, dp_same S3 _ _ (dp_keep kd kk _ _ h2), hb, fun v' D' H4 hd' hs' hw' hdp' k4 p4 => ⟨by show 1 ≤ 1000; decide, fun c2 H5 S5 g5 => ?_⟩⟩
        refine ⟨c1, c2, _, _, rfl, rfl, seqT_same S5 (seqT_keep (p2.same S3).isDk k4 g3), g5, le1k, fun c3 H6 S6 g6 => ?_⟩
        have kx := ((kk.trans (Same.toKeep S3)).trans k4).trans (Same.toKeep (S5.trans S6))
        refine ⟨_, rfl, _, rfl, _, _, rfl, rfl, _, rfl, t, _, rfl, seqT_keep kd kx hT, fun c4 H7 S7 g7 => ?_⟩
        refine ⟨c3, c4, _, _, rfl, rfl, seqT_same S7 g6, g7, le1k, fun c5 H8 S8 g8 => ?_⟩
        refine q (.ref c5) (.tuple [.str wd, a, D']) H8 (.tup (show SqT K H8 c5 [.str wd, x1, v'] from g8) (.cons (.str _) (.cons (dp_keep kd (kx.trans (Same.toKeep (S7.trans S8))) _ _ h1) (.cons (dp_same (S5.trans (S6.trans (S7.trans S8))) _ _ hd') .nil)))) ?_ ?_ ?_ (kx.trans (Same.toKeep (S7.trans S8))) ((p4.same (S5.trans (S6.trans (S7.trans S8)))).mono (by omega))
        · simp only [shortD, shortAll, okStr_half wd hw, hs', short_form ha, Bool.and_self]
        · simp [widD, widAll, hw', wid_form ha]
        · have hda := depth_form ha
          simp only [PyData.depth, PyData.depthAll]
          omega
    · refine ⟨_, rfl, _, _, rfl, .inr ⟨_, seqT_keep kd k1 hT, rfl⟩, rfl, _, rfl, ?_⟩
      have okw := okStr_half wd hw
      have oks := okStr_s wd (List.mem_append_right _ hw)
      have okb : okStr (Str.ofString "both") = true := by decide +kernel
      have okc : okStr (Str.ofString "counter") = true := by decide +kernel
      have sa := short_form ha
      have sb := short_form hb
      have wa := wid_form ha
      have wb := wid_form hb
      have hda := depth_form ha
      have hdb := depth_form hb
      have hwl := word_len wd (List.mem_append_right _ hw)
      have hT1 := seqT_keep kd k1 hT
      have W0 : Same H1 H1 := Same.refl H1
      refine ⟨_, rfl, _, rfl, t, _, rfl, (seqT_same W0 hT1), fun cR hp1 S1 g1 => ?_⟩
      have W1 := W0.trans S1
      refine ⟨_, rfl, t, _, rfl, .inr (seqT_same W1 hT1), fun l1 hp2 S2 g2 => ?_⟩
      have W2 := W1.trans S2
      refine ⟨_, rfl, _, rfl, _, rfl, t, _, _, _, rfl, rfl, (seqT_same W2 hT1), rfl, le1k, fun c2 hp3 S3 g3 => ?_⟩
      have W3 := W2.trans S3
      refine ⟨t, c2, _, _, rfl, rfl, (seqT_same W3 hT1), g3, le1k, fun c3 hp4 S4 g4 => ?_⟩
      have W4 := W3.trans S4
      refine ⟨_, rfl, _, rfl, _, rfl, t, _, rfl, (seqT_same W4 hT1), fun c4 hp5 S5 g5 => ?_⟩
      have W5 := W4.trans S5
      refine ⟨_, rfl, t, _, _, _, rfl, rfl, (seqT_same W5 hT1), rfl, _, _, rfl, rfl, add_fit (by omega) (by decide +kernel), le1k, fun c5 hp6 S6 g6 => ?_⟩
      have W6 := W5.trans S6
      refine ⟨_, rfl, c5, cR, _, _, rfl, rfl, g6, (seqT_same (((((S2).trans S3).trans S4).trans S5).trans S6) g1), le1k, fun c6 hp7 S7 g7 => ?_⟩
      have W7 := W6.trans S7
      refine ⟨le1k, fun c7 hp8 S8 g8 => ?_⟩
      have W8 := W7.trans S8
      refine ⟨_, rfl, c7, cR, _, _, rfl, rfl, g8, (seqT_same (((((((S2).trans S3).trans S4).trans S5).trans S6).trans S7).trans S8) g1), le1k, fun c8 hp9 S9 g9 => ?_⟩
      have W9 := W8.trans S9
      refine ⟨_, rfl, t, _, _, _, rfl, rfl, (seqT_same W9 hT1), rfl, le1k, fun c9 hp10 S10 g10 => ?_⟩
      have W10 := W9.trans S10
      refine ⟨le1k, fun l2 hp11 S11 g11 => ?_⟩
      have W11 := W10.trans S11
      refine ⟨_, rfl, le1k, fun c11 hp12 S12 g12 => ?_⟩
      have W12 := W11.trans S12
      refine ⟨_, rfl, c11, cR, _, _, rfl, rfl, g12, (seqT_same (((((((((((S2).trans S3).trans S4).trans S5).trans S6).trans S7).trans S8).trans S9).trans S10).trans S11).trans S12) g1), le1k, fun c12 hp13 S13 g13 => ?_⟩
      have W13 := W12.trans S13
      refine ⟨le1k, fun c13 hp14 S14 g14 => ?_⟩
      have W14 := W13.trans S14
      refine ⟨_, rfl, c13, cR, _, _, rfl, rfl, g14, (seqT_same (((((((((((((S2).trans S3).trans S4).trans S5).trans S6).trans S7).trans S8).trans S9).trans S10).trans S11).trans S12).trans S13).trans S14) g1), le1k, fun c14 hp15 S15 g15 => ?_⟩
      have W15 := W14.trans S15
      refine ⟨_, rfl, t, _, rfl, (seqT_same W15 hT1), fun c15 n15 => ?_⟩
      obtain ⟨hp16, e16, S16, g16⟩ : ∃ h, upd hp15 c15 (.tup ([.str wd, x1, x2] : List V).reverse) = h ∧ Same hp15 h ∧ SqT K h c15 ([.str wd, x1, x2] : List V).reverse := ⟨_, rfl, same_new n15 _, SqT.of upd_same⟩
      rw [e16]
      have W16 := W15.trans S16
      refine ⟨_, rfl, t, _, _, _, rfl, rfl, (seqT_same W16 hT1), rfl, _, rfl, t, _, _, _, rfl, rfl, (seqT_same W16 hT1), rfl, le1k, fun l16 hp17 S17 g17 => ?_⟩
      have W17 := W16.trans S17
      refine ⟨le1k, fun c17 hp18 S18 g18 => ?_⟩
      have W18 := W17.trans S18
      refine ⟨_, rfl, _, rfl, t, _, rfl, (seqT_same W18 hT1), fun c18 hp19 S19 g19 => ?_⟩
      have W19 := W18.trans S19
      refine ⟨c17, c18, _, _, rfl, rfl, (seqT_same (S19) g18), g19, le1k, fun c19 hp20 S20 g20 => ?_⟩
      have W20 := W19.trans S20
      refine ⟨_, rfl, le1k, fun c20 hp21 S21 g21 => ?_⟩
      have W21 := W20.trans S21
      refine ⟨le1k, fun l21 hp22 S22 g22 => ?_⟩
      have W22 := W21.trans S22
      refine ⟨l2, l21, _, _, rfl, rfl, (((((((((((S12).trans S13).trans S14).trans S15).trans S16).trans S17).trans S18).trans S19).trans S20).trans S21).trans S22) _ _ g11, g22, le1k, fun l22 hp23 S23 g23 => ?_⟩
      have W23 := W22.trans S23
      have pV := p1.same W23
      refine ⟨_, rfl, _, rfl, d, L, ns, n + 1, _, rfl, pV, by omega, .inl ⟨l22, _, rfl, SqL.of g23, by simp, le1k, fun x HW hx kW pW => ?_⟩⟩
      have kF := (k1.trans (Same.toKeep W23)).trans kW
      have kdV := pV.isDk
      have two : ∀ i : Nat, i = i := fun _ => rfl
      have fin : ∀ D' : PyData, Dp K HW x D' → shortD D' = true → widD D' = true → D'.depth ≤ j + 1 + 4 → Q x HW := fun D' e1 e2 ew e3 => q x D' HW e1 e2 ew e3 kF (pW.mono (by omega))
      simp only [List.cons_append, List.nil_append, List.mem_cons, List.not_mem_nil, or_false] at hx
      rcases hx with rfl | rfl | rfl | rfl | rfl | rfl | rfl | rfl | rfl | rfl | rfl | rfl | rfl | rfl
      · refine fin (.list [.str wd, a, b]) (.lst (seqL_keep kdV kW (SqL.of ((((((((((((((((((((((S3).trans S4).trans S5).trans S6).trans S7).trans S8).trans S9).trans S10).trans S11).trans S12).trans S13).trans S14).trans S15).trans S16).trans S17).trans S18).trans S19).trans S20).trans S21).trans S22).trans S23) _ _ g2))) (.cons (.str _) (.cons (dp_keep kd kF _ _ h1) (.cons (dp_keep kd kF _ _ h2) .nil)))) ?_ ?_ ?_
        · first | exact sa | simp only [shortD, shortAll, okw, oks, okb, okc, sa, sb, Bool.and_self]
        · first | rfl | exact wa | exact wb | simp [widD, widAll, wa, wb]
        · first | omega | (simp only [PyData.depth, PyData.depthAll]; omega)
      · refine fin (.tuple [.str wd, a, b, b]) (.tup (seqT_keep kdV kW (seqT_same (((((((((((((((((((S5).trans S6).trans S7).trans S8).trans S9).trans S10).trans S11).trans S12).trans S13).trans S14).trans S15).trans S16).trans S17).trans S18).trans S19).trans S20).trans S21).trans S22).trans S23) g4)) (.cons (.str _) (.cons (dp_keep kd kF _ _ h1) (.cons (dp_keep kd kF _ _ h2) (.cons (dp_keep kd kF _ _ h2) .nil))))) ?_ ?_ ?_
        · first | exact sa | simp only [shortD, shortAll, okw, oks, okb, okc, sa, sb, Bool.and_self]
        · first | rfl | exact wa | exact wb | simp [widD, widAll, wa, wb]
        · first | omega | (simp only [PyData.depth, PyData.depthAll]; omega)
      · refine fin (.tuple [.str wd, a]) (.tup (seqT_keep kdV kW (seqT_same ((((((((((((((((((S6).trans S7).trans S8).trans S9).trans S10).trans S11).trans S12).trans S13).trans S14).trans S15).trans S16).trans S17).trans S18).trans S19).trans S20).trans S21).trans S22).trans S23) g5)) (.cons (.str _) (.cons (dp_keep kd kF _ _ h1) .nil))) ?_ ?_ ?_
        · first | exact sa | simp only [shortD, shortAll, okw, oks, okb, okc, sa, sb, Bool.and_self]
        · first | rfl | exact wa | exact wb | simp [widD, widAll, wa, wb]
        · first | omega | (simp only [PyData.depth, PyData.depthAll]; omega)
      · refine fin (.tuple [.str (wd ++ Str.ofString "s"), a, b]) (.tup (seqT_keep kdV kW (seqT_same ((((((((((((((((S8).trans S9).trans S10).trans S11).trans S12).trans S13).trans S14).trans S15).trans S16).trans S17).trans S18).trans S19).trans S20).trans S21).trans S22).trans S23) g7)) (.cons (.str _) (.cons (dp_keep kd kF _ _ h1) (.cons (dp_keep kd kF _ _ h2) .nil)))) ?_ ?_ ?_
        · first | exact sa | simp only [shortD, shortAll, okw, oks, okb, okc, sa, sb, Bool.and_self]
        · first | rfl | exact wa | exact wb | simp [widD, widAll, wa, wb]
        · first | omega | (simp only [PyData.depth, PyData.depthAll]; omega)
      · refine fin (.tuple [.int 1, a, b]) (.tup (seqT_keep kdV kW (seqT_same ((((((((((((((S10).trans S11).trans S12).trans S13).trans S14).trans S15).trans S16).trans S17).trans S18).trans S19).trans S20).trans S21).trans S22).trans S23) g9)) (.cons (.int _) (.cons (dp_keep kd kF _ _ h1) (.cons (dp_keep kd kF _ _ h2) .nil)))) ?_ ?_ ?_
        · first | exact sa | simp only [shortD, shortAll, okw, oks, okb, okc, sa, sb, Bool.and_self]
        · first | rfl | exact wa | exact wb | simp [widD, widAll, wa, wb]
        · first | omega | (simp only [PyData.depth, PyData.depthAll]; omega)
      · refine fin (a) (dp_keep kd kF _ _ h1) ?_ ?_ ?_
        · first | exact sa | simp only [shortD, shortAll, okw, oks, okb, okc, sa, sb, Bool.and_self]
        · first | rfl | exact wa | exact wb | simp [widD, widAll, wa, wb]
        · first | omega | (simp only [PyData.depth, PyData.depthAll]; omega)
      · refine fin (.none) .non ?_ ?_ ?_
        · first | exact sa | simp only [shortD, shortAll, okw, oks, okb, okc, sa, sb, Bool.and_self]
        · first | rfl | exact wa | exact wb | simp [widD, widAll, wa, wb]
        · first | omega | (simp only [PyData.depth, PyData.depthAll]; omega)
      · refine fin (.bool true) (.bl true) ?_ ?_ ?_
        · first | exact sa | simp only [shortD, shortAll, okw, oks, okb, okc, sa, sb, Bool.and_self]
        · first | rfl | exact wa | exact wb | simp [widD, widAll, wa, wb]
        · first | omega | (simp only [PyData.depth, PyData.depthAll]; omega)
      · refine fin (.tuple []) (.tup (seqT_keep kdV kW (seqT_same (((((((((((((S11).trans S12).trans S13).trans S14).trans S15).trans S16).trans S17).trans S18).trans S19).trans S20).trans S21).trans S22).trans S23) g10)) .nil) ?_ ?_ ?_
        · first | exact sa | simp only [shortD, shortAll, okw, oks, okb, okc, sa, sb, Bool.and_self]
        · first | rfl | exact wa | exact wb | simp [widD, widAll, wa, wb]
        · first | omega | (simp only [PyData.depth, PyData.depthAll]; omega)
      · refine fin (.tuple [.str (Str.ofString "both"), a, b]) (.tup (seqT_keep kdV kW (seqT_same ((((((((((S14).trans S15).trans S16).trans S17).trans S18).trans S19).trans S20).trans S21).trans S22).trans S23) g13)) (.cons (.str _) (.cons (dp_keep kd kF _ _ h1) (.cons (dp_keep kd kF _ _ h2) .nil)))) ?_ ?_ ?_
        · first | exact sa | simp only [shortD, shortAll, okw, oks, okb, okc, sa, sb, Bool.and_self]
        · first | rfl | exact wa | exact wb | simp [widD, widAll, wa, wb]
        · first | omega | (simp only [PyData.depth, PyData.depthAll]; omega)
      · refine fin (.tuple [.str (Str.ofString "counter"), a, b]) (.tup (seqT_keep kdV kW (seqT_same ((((((((S16).trans S17).trans S18).trans S19).trans S20).trans S21).trans S22).trans S23) g15)) (.cons (.str _) (.cons (dp_keep kd kF _ _ h1) (.cons (dp_keep kd kF _ _ h2) .nil)))) ?_ ?_ ?_
        · first | exact sa | simp only [shortD, shortAll, okw, oks, okb, okc, sa, sb, Bool.and_self]
        · first | rfl | exact wa | exact wb | simp [widD, widAll, wa, wb]
        · first | omega | (simp only [PyData.depth, PyData.depthAll]; omega)
      · refine fin (.tuple [b, a, .str wd]) (.tup (seqT_keep kdV kW (seqT_same (((((((S17).trans S18).trans S19).trans S20).trans S21).trans S22).trans S23) g16)) (.cons (dp_keep kd kF _ _ h2) (.cons (dp_keep kd kF _ _ h1) (.cons (.str _) .nil)))) ?_ ?_ ?_
        · first | exact sa | simp only [shortD, shortAll, okw, oks, okb, okc, sa, sb, Bool.and_self]
        · first | rfl | exact wa | exact wb | simp [widD, widAll, wa, wb]
        · first | omega | (simp only [PyData.depth, PyData.depthAll]; omega)
      · refine fin (.tuple [.str wd, .list [a], b]) (.tup (seqT_keep kdV kW (seqT_same (((S21).trans S22).trans S23) g20)) (.cons (.str _) (.cons (.lst (seqL_keep kdV kW (SqL.of (((((((S18).trans S19).trans S20).trans S21).trans S22).trans S23) _ _ g17))) (.cons (dp_keep kd kF _ _ h1) .nil)) (.cons (dp_keep kd kF _ _ h2) .nil)))) ?_ ?_ ?_
        · first | exact sa | simp only [shortD, shortAll, okw, oks, okb, okc, sa, sb, Bool.and_self]
        · first | rfl | exact wa | exact wb | simp [widD, widAll, wa, wb]
        · first | omega | (simp only [PyData.depth, PyData.depthAll]; omega)
      · refine fin (.tuple [.tuple [.str wd, a, b]]) (.tup (seqT_keep kdV kW (seqT_same ((S22).trans S23) g21)) (.cons (.tup (seqT_keep kd kF hT) (.cons (.str _) (.cons (dp_keep kd kF _ _ h1) (.cons (dp_keep kd kF _ _ h2) .nil)))) .nil)) ?_ ?_ ?_
        · first | exact sa | simp only [shortD, shortAll, okw, oks, okb, okc, sa, sb, Bool.and_self]
        · first | rfl | exact wa | exact wb | simp [widD, widAll, wa, wb]
        · first | omega | (simp only [PyData.depth, PyData.depthAll]; omega)
end
end My

set_option Elab.async false
set_option linter.all false
set_option maxRecDepth 100000
namespace Odd
open PySem
/-- the entries have these keys, in their order -/
def Ks (w : World) (h : Heap) (es : Array DictEntry) (ks : List NestedKey) : Prop := es.size = ks.length ∧ ∀ (i : Nat) (e : DictEntry) (k : NestedKey), es[i]? = some e → ks[i]? = some k → e.hash = k.hash w ∧ NestedIs h k e.key ∧ k.depth ≤ 8
section
variable {prog : Program} {w : World} {A : Around} {E : Value → Shared → Prop} {s : Shared}
theorem eqB {x y : NestedKey} {a b : Value} {Q : Bool → Shared → Prop} (hu : A.units + 8 < cLine) (ha : NestedIs s.heap x a) (hb : NestedIs s.heap y b) (h8 : x.depth ≤ 8) (h : Q (decide (x = y)) s) : wpAny (model prog w) A (PySem.eqBool a b) Q E s :=
  eqAt_key x y A s _ _ ha hb (by omega) _ _ _ _ (by rw [← NestedKey.decide_eq]; exact h)
theorem Ks.at {h : Heap} {es : Array DictEntry} {ks : List NestedKey} (K : Ks w h es ks) {i : Nat} {e : DictEntry} (he : es[i]? = some e) : ∃ k, ks[i]? = some k ∧ e.hash = k.hash w ∧ NestedIs h k e.key ∧ k.depth ≤ 8 := by
  have hi : i < es.size := by
    rcases Nat.lt_or_ge i es.size with c | c
    · exact c
    · rw [Array.getElem?_eq_none c] at he
      cases he
  have hk : ks[i]? = some (ks[i]'(by rw [← K.1]; exact hi)) := List.getElem?_eq_getElem _
  exact ⟨_, hk, K.2 i e _ he hk⟩
theorem Ks.to {h : Heap} {es : Array DictEntry} {ks : List NestedKey} (K : Ks w h es ks) {i : Nat} {k : NestedKey} (hk : ks[i]? = some k) : ∃ e, es[i]? = some e ∧ e.hash = k.hash w ∧ NestedIs h k e.key ∧ k.depth ≤ 8 := by
  have hi : i < ks.length := by
    rcases Nat.lt_or_ge i ks.length with c | c
    · exact c
    · rw [List.getElem?_eq_none c] at hk
      cases hk
  have he : es[i]? = some (es[i]'(by rw [K.1]; exact hi)) := Array.getElem?_eq_getElem _
  exact ⟨_, he, K.2 i _ _ he hk⟩
theorem tells_quiet {key : Value} {k : NestedKey} {stored : List Value} {Q : Bool → Shared → Prop} (hkey : NestedIs s.heap k key) (h8 : k.depth ≤ 8)
    (hst : ∀ v ∈ stored, ∃ k', NestedIs s.heap k' v ∧ k'.depth ≤ 8) (h : Q false s) : wpAny (model prog w) A (tableMayTell key stored) Q E s := by
  unfold tableMayTell
  split
  · exact wpAny_pure h
  · refine wpAny_bind (quiet_key k key 8 s hkey h8 A E _ ?_)
    simp only [Bool.not_true, Bool.false_eq_true, if_false]
    refine wpAny_bind ?_
    refine wpAny_forIn_list _ (fun rest r s' => s' = s ∧ r = (none, ()) ∧ ∀ v ∈ rest, ∃ k', NestedIs s.heap k' v ∧ k'.depth ≤ 8) _ ?_ ?_ _ _ ⟨rfl, rfl, hst⟩
    · rintro x rest r s' ⟨rfl, rfl, hr⟩
      obtain ⟨k', hb, hb8⟩ := hr x List.mem_cons_self
      refine wpAny_bind (quiet_key k' x 8 s' hb hb8 A E _ ?_)
      simp only [Bool.not_true, Bool.false_eq_true, if_false]
      exact wpAny_pure ⟨rfl, rfl, fun v hv => hr v (List.mem_cons_of_mem _ hv)⟩
    · rintro r s' ⟨rfl, rfl, _⟩
      exact wpAny_pure h
theorem idx_unique {ks : List NestedKey} (hn : ks.Nodup) {i j : Nat} {k : NestedKey} (hi : ks[i]? = some k) (hj : ks[j]? = some k) : i = j := by
  have h1 : i < ks.length := by
    rcases Nat.lt_or_ge i ks.length with c | c
    · exact c
    · rw [List.getElem?_eq_none c] at hi
      cases hi
  exact (List.getElem?_inj h1 hn).mp (hi.trans hj.symm)
theorem find {d : Addr} {o : Obj} {es : Array DictEntry} {ep : Nat} {ks : List NestedKey} {k : NestedKey} {key : Value} {Q : Option Nat → Shared → Prop} (hu : A.units + 8 < cLine) (hkey : NestedIs s.heap k key) (h8 : k.depth ≤ 8)
    (ho : s.heap.get? d = some o) (hd : o.data = .dict es ep) (hE : Ks w s.heap es ks) (hn : ks.Nodup)
    (hnone : (∀ j : Nat, ks[j]? ≠ some k) → Q none s) (hsome : ∀ j : Nat, ks[j]? = some k → Q (some j) s) :
    wpAny (model prog w) A (dictFind d key (k.hash w)) Q E s := by
  have hsz : es.size = ks.length := hE.1
  have haskey : ∀ (j : Nat), ks[j]? = some k → ((es[j]?.map (·.hash)) == some (k.hash w)) = true := by
    intro j hj
    obtain ⟨e, he, hh, _⟩ := hE.to hj
    rw [he, Option.map_some, hh]
    simp
  have hst : ∀ v ∈ (placesWithHash es.size (fun i => es[i]?.map (·.hash)) (k.hash w)).filterMap (fun i => es[i]?.map (·.key)), ∃ k', NestedIs s.heap k' v ∧ k'.depth ≤ 8 := by
    intro v hv
    obtain ⟨i, _, hi⟩ := List.mem_filterMap.mp hv
    cases hei : es[i]? with
    | none => rw [hei] at hi; cases hi
    | some e =>
      rw [hei] at hi
      obtain rfl : e.key = v := by simpa using hi
      obtain ⟨k', _, _, h1, h2⟩ := hE.at hei
      exact ⟨k', h1, h2⟩
  unfold dictFind
  try with_reducible refine wpAny_holding ?_
  refine wpAny_bind (wpAny_dictEntries ho hd ?_)
  dsimp only
  have old : wpAny (model prog w) A (dictWalkPlain d key (k.hash w) es (placesWithHash es.size (fun i => es[i]?.map (·.hash)) (k.hash w))) Q E s := by
    refine wpAny_bind ?_
    refine wpAny_forIn_list _
      (fun rest b s' => s' = s ∧ b = (none, ()) ∧ ∃ i, rest = (List.range' i (es.size - i)).filter (fun i => (es[i]?.map (·.hash)) == some (k.hash w)) ∧ i ≤ es.size ∧
        ∀ j : Nat, j < i → ks[j]? ≠ some k) _ ?_ ?_ _ _
      ⟨rfl, rfl, 0, by rw [placesWithHash, List.range_eq_range', Nat.sub_zero], Nat.zero_le _, fun _ h => absurd h (Nat.not_lt_zero _)⟩
    · rintro x rest b s' ⟨rfl, rfl, i, hr, hi, hno⟩
      obtain ⟨hix, hxn, hpx, hskip, hrest⟩ := filter_range'_cons _ _ _ _ _ hr.symm
      have hlt : x < es.size := by omega
      have hex : es[x]? = some es[x] := Array.getElem?_eq_getElem hlt
      obtain ⟨k', hk', hhash, hib, hib8⟩ := hE.at hex
      have hnext : ¬ k' = k → ∃ i, rest = (List.range' i (es.size - i)).filter (fun i => (es[i]?.map (·.hash)) == some (k.hash w)) ∧ i ≤ es.size ∧
          ∀ j : Nat, j < i → ks[j]? ≠ some k := fun hne =>
        ⟨x + 1, by rw [hrest]; congr 2; omega, hlt, fun j hji hj => by
          rcases Nat.lt_or_ge j i with h | h
          · exact hno j h hj
          · rcases Nat.lt_or_ge j x with h' | h'
            · have := hskip j h h'
              rw [haskey j hj] at this
              exact absurd this (by decide)
            · have : j = x := by omega
              subst this
              rw [hk'] at hj
              exact hne (Option.some.inj hj)⟩
      simp only [hex]
      by_cases hh : (es[x].hash == k.hash w) = true
      · rw [if_pos hh]
        refine wpAny_bind (wpAny_dictEpoch ho hd (wpAny_bind (eqB hu hib hkey hib8 (wpAny_bind (wpAny_dictEpoch ho hd ?_)))))
        show wpAny _ _ (if (ep != ep) = true then _ else _) _ E _
        rw [if_neg (by simp)]
        by_cases hkk : k' = k
        · rw [decide_eq_true hkk]
          subst hkk
          exact wpAny_bind (wpAny_rule (wpAny_pure (wpAny_pure (hsome x hk'))))
        · rw [decide_eq_false hkk]
          exact wpAny_bind (wpAny_rule (wpAny_pure ⟨rfl, rfl, hnext hkk⟩))
      · rw [if_neg hh]
        refine wpAny_pure ⟨rfl, rfl, hnext ?_⟩
        intro hkk
        rw [hhash, hkk] at hh; simp at hh
    · rintro b s' ⟨rfl, rfl, i, hr, hi, hno⟩
      refine wpAny_pure (hnone fun j hj => ?_)
      rcases Nat.lt_or_ge j i with h | h
      · exact hno j h hj
      · obtain ⟨e, he, _⟩ := hE.to hj
        have hjl : j < es.size := by
          rcases Nat.lt_or_ge j es.size with h' | h'
          · exact h'
          · rw [Array.getElem?_eq_none h'] at he; cases he
        have := List.filter_eq_nil_iff.mp hr.symm j (List.mem_range'_1.mpr ⟨h, by omega⟩)
        exact this (haskey j hj)
  cases hkey
  case tup a o' vs n ks' ha hb hc hd' =>
    have hkey : NestedIs s.heap (.tup ks') (.ref a) := .tup ha hb hc hd'
    clear old
    generalize NestedKey.tup ks' = k at *
    have hany : ¬ (es.any fun e => e.key == Value.ref a && e.hash != k.hash w) = true := by
      rw [Array.any_eq_true]
      rintro ⟨i, hi, hc⟩
      obtain ⟨k', _, hh, hib, _⟩ := hE.at (Array.getElem?_eq_getElem hi)
      simp only [Bool.and_eq_true, beq_iff_eq, bne_iff_ne, ne_eq] at hc
      obtain ⟨hxa, hne⟩ := hc
      rw [hxa] at hib
      rw [hh, NestedIs.inj _ _ _ hib hkey] at hne
      exact hne rfl
    try dsimp only
    rw [if_neg (show ¬ ((Value.ref a :: (placesWithHash es.size (fun i => es[i]?.map (·.hash)) (k.hash w)).filterMap (fun i => es[i]?.map (·.key))).all carriedByValue) = true by simp [carriedByValue])]
    rw [if_neg hany]
    generalize Value.ref a = key at *
    by_cases hone : (((placesWithHash es.size (fun i => es[i]?.map (·.hash)) (k.hash w)).filterMap (fun i => es[i]?.map (·.key))) == [key]) = true <;>
    (first | rw [if_pos hone] | rw [if_neg hone]) <;> (first | refine wpAny_bind (wpAny_pure ?_) | refine wpAny_bind (tells_quiet hkey h8 hst ?_)) <;> (
      rw [if_neg (by simp)]
      refine wpAny_bind ?_
      refine wpAny_forIn_list _
        (fun rest b s' => s' = s ∧ ∃ i hit, b = (none, hit) ∧ rest = (List.range' i (es.size - i)).filter (fun i => (es[i]?.map (·.hash)) == some (k.hash w)) ∧ i ≤ es.size ∧
          ((hit = none ∧ ∀ j : Nat, j < i → ks[j]? ≠ some k) ∨ ∃ j : Nat, hit = some j ∧ j < i ∧ ks[j]? = some k)) _ ?_ ?_ _ _
        ⟨rfl, 0, none, rfl, by rw [placesWithHash, List.range_eq_range', Nat.sub_zero], Nat.zero_le _, .inl ⟨rfl, fun _ h => absurd h (Nat.not_lt_zero _)⟩⟩
      · rintro x rest b s' ⟨rfl, i, hit, rfl, hr, hi, hH⟩
        obtain ⟨hix, hxn, hpx, hskip, hrest⟩ := filter_range'_cons _ _ _ _ _ hr.symm
        have hlt : x < es.size := by omega
        have hrest' : rest = (List.range' (x + 1) (es.size - (x + 1))).filter (fun i => (es[i]?.map (·.hash)) == some (k.hash w)) := by rw [hrest]; congr 2; omega
        have hex : es[x]? = some es[x] := Array.getElem?_eq_getElem hlt
        obtain ⟨k', hkv, hhash, hib, hib8⟩ := hE.at hex
        have hHx : (hit = none ∧ ∀ j : Nat, j < x → ks[j]? ≠ some k) ∨ ∃ j : Nat, hit = some j ∧ j < x ∧ ks[j]? = some k := by
          rcases hH with ⟨h0, hno⟩ | ⟨j, h1, hji, hj⟩
          · refine .inl ⟨h0, fun j hjx hj => ?_⟩
            rcases Nat.lt_or_ge j i with h | h
            · exact hno j h hj
            · have := hskip j h hjx
              rw [haskey j hj] at this
              exact absurd this (by decide)
          · exact .inr ⟨j, h1, by omega, hj⟩
        have hstay : ¬ k' = k → ((hit = none ∧ ∀ j : Nat, j < x + 1 → ks[j]? ≠ some k) ∨ ∃ j : Nat, hit = some j ∧ j < x + 1 ∧ ks[j]? = some k) := by
          intro hne
          rcases hHx with ⟨h0, hno⟩ | ⟨j, h1, hjx, hj⟩
          · refine .inl ⟨h0, fun j hjx hj => ?_⟩
            rcases Nat.lt_or_ge j x with h | h
            · exact hno j h hj
            · have hjx' : j = x := by omega
              subst hjx'
              rw [hkv] at hj
              exact hne (Option.some.inj hj)
          · exact .inr ⟨j, h1, by omega, hj⟩
        rw [hex]
        dsimp only
        by_cases hh : (es[x].hash == k.hash w) = true
        · rw [if_pos hh]
          refine wpAny_bind (wpAny_dictEpoch ho hd (wpAny_bind (eqB hu hib hkey hib8 (wpAny_bind (wpAny_dictEpoch ho hd ?_)))))
          show wpAny _ _ (if (ep != ep) = true then _ else _) _ E _
          rw [if_neg (by simp)]
          by_cases hkk : k' = k
          · rw [decide_eq_true hkk]
            subst hkk
            rcases hHx with ⟨rfl, _⟩ | ⟨j, _, hjx, hj⟩
            · first | rw [if_pos rfl] | skip
              simp only [Option.isSome_none, Bool.false_eq_true, if_false]
              first | refine wpAny_bind (wpAny_pure ?_) | skip
              refine wpAny_bind (wpAny_rule ?_)
              split
              · exact wpAny_pure (wpAny_pure (hsome x hkv))
              · exact wpAny_pure ⟨rfl, x + 1, some x, rfl, hrest', hlt, .inr ⟨x, rfl, Nat.lt_succ_self x, hkv⟩⟩
            · exact absurd (idx_unique hn hj hkv) (by omega)
          · rw [decide_eq_false hkk]
            simp only [Bool.false_eq_true, if_false]
            refine wpAny_bind (wpAny_rule ?_)
            first | rw [if_neg (by simp)] | skip
            first
              | exact wpAny_pure ⟨rfl, x + 1, hit, rfl, hrest', hlt, hstay hkk⟩
              | exact wpAny_bind (wpAny_pure (wpAny_pure ⟨rfl, x + 1, hit, rfl, hrest', hlt, hstay hkk⟩))
        · rw [if_neg hh]
          refine wpAny_pure ⟨rfl, x + 1, hit, rfl, hrest', hlt, hstay ?_⟩
          intro hkk
          rw [hhash, hkk] at hh; simp at hh
      · rintro b s' ⟨rfl, i, hit, rfl, hr, hi, hH⟩
        rcases hH with ⟨rfl, hno⟩ | ⟨j, rfl, _, hj⟩
        · refine wpAny_pure (hnone fun j hj => ?_)
          rcases Nat.lt_or_ge j i with h | h
          · exact hno j h hj
          · obtain ⟨e, he, _⟩ := hE.to hj
            have hjl : j < es.size := by
              rcases Nat.lt_or_ge j es.size with h' | h'
              · exact h'
              · rw [Array.getElem?_eq_none h'] at he; cases he
            have := List.filter_eq_nil_iff.mp hr.symm j (List.mem_range'_1.mpr ⟨h, by omega⟩)
            exact this (haskey j hj)
        · exact wpAny_pure (hsome j hj))
  case none =>
    have hkey : NestedIs s.heap .none .none := .none
    generalize NestedKey.none = k at *
    try dsimp only
    by_cases hall : ((Value.none :: (placesWithHash es.size (fun i => es[i]?.map (·.hash)) (k.hash w)).filterMap (fun i => es[i]?.map (·.key))).all carriedByValue) = true
    · rw [if_pos hall]
      exact old
    rw [if_neg hall]
    generalize Value.none = key at *
    by_cases hone : (((placesWithHash es.size (fun i => es[i]?.map (·.hash)) (k.hash w)).filterMap (fun i => es[i]?.map (·.key))) == [key]) = true <;>
    (first | rw [if_pos hone] | rw [if_neg hone]) <;> (first | refine wpAny_bind (wpAny_pure ?_) | refine wpAny_bind (tells_quiet hkey h8 hst ?_)) <;> (
      rw [if_neg (by simp)]
      refine wpAny_bind ?_
      refine wpAny_forIn_list _
        (fun rest b s' => s' = s ∧ ∃ i hit, b = (none, hit) ∧ rest = (List.range' i (es.size - i)).filter (fun i => (es[i]?.map (·.hash)) == some (k.hash w)) ∧ i ≤ es.size ∧
          ((hit = none ∧ ∀ j : Nat, j < i → ks[j]? ≠ some k) ∨ ∃ j : Nat, hit = some j ∧ j < i ∧ ks[j]? = some k)) _ ?_ ?_ _ _
        ⟨rfl, 0, none, rfl, by rw [placesWithHash, List.range_eq_range', Nat.sub_zero], Nat.zero_le _, .inl ⟨rfl, fun _ h => absurd h (Nat.not_lt_zero _)⟩⟩
      · rintro x rest b s' ⟨rfl, i, hit, rfl, hr, hi, hH⟩
        obtain ⟨hix, hxn, hpx, hskip, hrest⟩ := filter_range'_cons _ _ _ _ _ hr.symm
        have hlt : x < es.size := by omega
        have hrest' : rest = (List.range' (x + 1) (es.size - (x + 1))).filter (fun i => (es[i]?.map (·.hash)) == some (k.hash w)) := by rw [hrest]; congr 2; omega
        have hex : es[x]? = some es[x] := Array.getElem?_eq_getElem hlt
        obtain ⟨k', hkv, hhash, hib, hib8⟩ := hE.at hex
        have hHx : (hit = none ∧ ∀ j : Nat, j < x → ks[j]? ≠ some k) ∨ ∃ j : Nat, hit = some j ∧ j < x ∧ ks[j]? = some k := by
          rcases hH with ⟨h0, hno⟩ | ⟨j, h1, hji, hj⟩
          · refine .inl ⟨h0, fun j hjx hj => ?_⟩
            rcases Nat.lt_or_ge j i with h | h
            · exact hno j h hj
            · have := hskip j h hjx
              rw [haskey j hj] at this
              exact absurd this (by decide)
          · exact .inr ⟨j, h1, by omega, hj⟩
        have hstay : ¬ k' = k → ((hit = none ∧ ∀ j : Nat, j < x + 1 → ks[j]? ≠ some k) ∨ ∃ j : Nat, hit = some j ∧ j < x + 1 ∧ ks[j]? = some k) := by
          intro hne
          rcases hHx with ⟨h0, hno⟩ | ⟨j, h1, hjx, hj⟩
          · refine .inl ⟨h0, fun j hjx hj => ?_⟩
            rcases Nat.lt_or_ge j x with h | h
            · exact hno j h hj
            · have hjx' : j = x := by omega
              subst hjx'
              rw [hkv] at hj
              exact hne (Option.some.inj hj)
          · exact .inr ⟨j, h1, by omega, hj⟩
        rw [hex]
        dsimp only
        by_cases hh : (es[x].hash == k.hash w) = true
        · rw [if_pos hh]
          refine wpAny_bind (wpAny_dictEpoch ho hd (wpAny_bind (eqB hu hib hkey hib8 (wpAny_bind (wpAny_dictEpoch ho hd ?_)))))
          show wpAny _ _ (if (ep != ep) = true then _ else _) _ E _
          rw [if_neg (by simp)]
          by_cases hkk : k' = k
          · rw [decide_eq_true hkk]
            subst hkk
            rcases hHx with ⟨rfl, _⟩ | ⟨j, _, hjx, hj⟩
            · first | rw [if_pos rfl] | skip
              simp only [Option.isSome_none, Bool.false_eq_true, if_false]
              first | refine wpAny_bind (wpAny_pure ?_) | skip
              refine wpAny_bind (wpAny_rule ?_)
              split
              · exact wpAny_pure (wpAny_pure (hsome x hkv))
              · exact wpAny_pure ⟨rfl, x + 1, some x, rfl, hrest', hlt, .inr ⟨x, rfl, Nat.lt_succ_self x, hkv⟩⟩
            · exact absurd (idx_unique hn hj hkv) (by omega)
          · rw [decide_eq_false hkk]
            simp only [Bool.false_eq_true, if_false]
            refine wpAny_bind (wpAny_rule ?_)
            first | rw [if_neg (by simp)] | skip
            first
              | exact wpAny_pure ⟨rfl, x + 1, hit, rfl, hrest', hlt, hstay hkk⟩
              | exact wpAny_bind (wpAny_pure (wpAny_pure ⟨rfl, x + 1, hit, rfl, hrest', hlt, hstay hkk⟩))
        · rw [if_neg hh]
          refine wpAny_pure ⟨rfl, x + 1, hit, rfl, hrest', hlt, hstay ?_⟩
          intro hkk
          rw [hhash, hkk] at hh; simp at hh
      · rintro b s' ⟨rfl, i, hit, rfl, hr, hi, hH⟩
        rcases hH with ⟨rfl, hno⟩ | ⟨j, rfl, _, hj⟩
        · refine wpAny_pure (hnone fun j hj => ?_)
          rcases Nat.lt_or_ge j i with h | h
          · exact hno j h hj
          · obtain ⟨e, he, _⟩ := hE.to hj
            have hjl : j < es.size := by
              rcases Nat.lt_or_ge j es.size with h' | h'
              · exact h'
              · rw [Array.getElem?_eq_none h'] at he; cases he
            have := List.filter_eq_nil_iff.mp hr.symm j (List.mem_range'_1.mpr ⟨h, by omega⟩)
            exact this (haskey j hj)
        · exact wpAny_pure (hsome j hj))
  case bool =>
    rename_i b i e
    have hkey : NestedIs s.heap (.num i) (.bool b) := .bool e
    generalize NestedKey.num i = k at *
    try dsimp only
    by_cases hall : ((Value.bool b :: (placesWithHash es.size (fun i => es[i]?.map (·.hash)) (k.hash w)).filterMap (fun i => es[i]?.map (·.key))).all carriedByValue) = true
    · rw [if_pos hall]
      exact old
    rw [if_neg hall]
    generalize Value.bool b = key at *
    by_cases hone : (((placesWithHash es.size (fun i => es[i]?.map (·.hash)) (k.hash w)).filterMap (fun i => es[i]?.map (·.key))) == [key]) = true <;>
    (first | rw [if_pos hone] | rw [if_neg hone]) <;> (first | refine wpAny_bind (wpAny_pure ?_) | refine wpAny_bind (tells_quiet hkey h8 hst ?_)) <;> (
      rw [if_neg (by simp)]
      refine wpAny_bind ?_
      refine wpAny_forIn_list _
        (fun rest b s' => s' = s ∧ ∃ i hit, b = (none, hit) ∧ rest = (List.range' i (es.size - i)).filter (fun i => (es[i]?.map (·.hash)) == some (k.hash w)) ∧ i ≤ es.size ∧
          ((hit = none ∧ ∀ j : Nat, j < i → ks[j]? ≠ some k) ∨ ∃ j : Nat, hit = some j ∧ j < i ∧ ks[j]? = some k)) _ ?_ ?_ _ _
        ⟨rfl, 0, none, rfl, by rw [placesWithHash, List.range_eq_range', Nat.sub_zero], Nat.zero_le _, .inl ⟨rfl, fun _ h => absurd h (Nat.not_lt_zero _)⟩⟩
      · rintro x rest b s' ⟨rfl, i, hit, rfl, hr, hi, hH⟩
        obtain ⟨hix, hxn, hpx, hskip, hrest⟩ := filter_range'_cons _ _ _ _ _ hr.symm
        have hlt : x < es.size := by omega
        have hrest' : rest = (List.range' (x + 1) (es.size - (x + 1))).filter (fun i => (es[i]?.map (·.hash)) == some (k.hash w)) := by rw [hrest]; congr 2; omega
        have hex : es[x]? = some es[x] := Array.getElem?_eq_getElem hlt
        obtain ⟨k', hkv, hhash, hib, hib8⟩ := hE.at hex
        have hHx : (hit = none ∧ ∀ j : Nat, j < x → ks[j]? ≠ some k) ∨ ∃ j : Nat, hit = some j ∧ j < x ∧ ks[j]? = some k := by
          rcases hH with ⟨h0, hno⟩ | ⟨j, h1, hji, hj⟩
          · refine .inl ⟨h0, fun j hjx hj => ?_⟩
            rcases Nat.lt_or_ge j i with h | h
            · exact hno j h hj
            · have := hskip j h hjx
              rw [haskey j hj] at this
              exact absurd this (by decide)
          · exact .inr ⟨j, h1, by omega, hj⟩
        have hstay : ¬ k' = k → ((hit = none ∧ ∀ j : Nat, j < x + 1 → ks[j]? ≠ some k) ∨ ∃ j : Nat, hit = some j ∧ j < x + 1 ∧ ks[j]? = some k) := by
          intro hne
          rcases hHx with ⟨h0, hno⟩ | ⟨j, h1, hjx, hj⟩
          · refine .inl ⟨h0, fun j hjx hj => ?_⟩
            rcases Nat.lt_or_ge j x with h | h
            · exact hno j h hj
            · have hjx' : j = x := by omega
              subst hjx'
              rw [hkv] at hj
              exact hne (Option.some.inj hj)
          · exact .inr ⟨j, h1, by omega, hj⟩
        rw [hex]
        dsimp only
        by_cases hh : (es[x].hash == k.hash w) = true
        · rw [if_pos hh]
          refine wpAny_bind (wpAny_dictEpoch ho hd (wpAny_bind (eqB hu hib hkey hib8 (wpAny_bind (wpAny_dictEpoch ho hd ?_)))))
          show wpAny _ _ (if (ep != ep) = true then _ else _) _ E _
          rw [if_neg (by simp)]
          by_cases hkk : k' = k
          · rw [decide_eq_true hkk]
            subst hkk
            rcases hHx with ⟨rfl, _⟩ | ⟨j, _, hjx, hj⟩
            · first | rw [if_pos rfl] | skip
              simp only [Option.isSome_none, Bool.false_eq_true, if_false]
              first | refine wpAny_bind (wpAny_pure ?_) | skip
              refine wpAny_bind (wpAny_rule ?_)
              split
              · exact wpAny_pure (wpAny_pure (hsome x hkv))
              · exact wpAny_pure ⟨rfl, x + 1, some x, rfl, hrest', hlt, .inr ⟨x, rfl, Nat.lt_succ_self x, hkv⟩⟩
            · exact absurd (idx_unique hn hj hkv) (by omega)
          · rw [decide_eq_false hkk]
            simp only [Bool.false_eq_true, if_false]
            refine wpAny_bind (wpAny_rule ?_)
            first | rw [if_neg (by simp)] | skip
            first
              | exact wpAny_pure ⟨rfl, x + 1, hit, rfl, hrest', hlt, hstay hkk⟩
              | exact wpAny_bind (wpAny_pure (wpAny_pure ⟨rfl, x + 1, hit, rfl, hrest', hlt, hstay hkk⟩))
        · rw [if_neg hh]
          refine wpAny_pure ⟨rfl, x + 1, hit, rfl, hrest', hlt, hstay ?_⟩
          intro hkk
          rw [hhash, hkk] at hh; simp at hh
      · rintro b s' ⟨rfl, i, hit, rfl, hr, hi, hH⟩
        rcases hH with ⟨rfl, hno⟩ | ⟨j, rfl, _, hj⟩
        · refine wpAny_pure (hnone fun j hj => ?_)
          rcases Nat.lt_or_ge j i with h | h
          · exact hno j h hj
          · obtain ⟨e, he, _⟩ := hE.to hj
            have hjl : j < es.size := by
              rcases Nat.lt_or_ge j es.size with h' | h'
              · exact h'
              · rw [Array.getElem?_eq_none h'] at he; cases he
            have := List.filter_eq_nil_iff.mp hr.symm j (List.mem_range'_1.mpr ⟨h, by omega⟩)
            exact this (haskey j hj)
        · exact wpAny_pure (hsome j hj))
  case int =>
    rename_i i t
    have hkey : NestedIs s.heap (.num i) (.int i t) := .int i t
    generalize NestedKey.num i = k at *
    try dsimp only
    by_cases hall : ((Value.int i t :: (placesWithHash es.size (fun i => es[i]?.map (·.hash)) (k.hash w)).filterMap (fun i => es[i]?.map (·.key))).all carriedByValue) = true
    · rw [if_pos hall]
      exact old
    rw [if_neg hall]
    generalize Value.int i t = key at *
    by_cases hone : (((placesWithHash es.size (fun i => es[i]?.map (·.hash)) (k.hash w)).filterMap (fun i => es[i]?.map (·.key))) == [key]) = true <;>
    (first | rw [if_pos hone] | rw [if_neg hone]) <;> (first | refine wpAny_bind (wpAny_pure ?_) | refine wpAny_bind (tells_quiet hkey h8 hst ?_)) <;> (
      rw [if_neg (by simp)]
      refine wpAny_bind ?_
      refine wpAny_forIn_list _
        (fun rest b s' => s' = s ∧ ∃ i hit, b = (none, hit) ∧ rest = (List.range' i (es.size - i)).filter (fun i => (es[i]?.map (·.hash)) == some (k.hash w)) ∧ i ≤ es.size ∧
          ((hit = none ∧ ∀ j : Nat, j < i → ks[j]? ≠ some k) ∨ ∃ j : Nat, hit = some j ∧ j < i ∧ ks[j]? = some k)) _ ?_ ?_ _ _
        ⟨rfl, 0, none, rfl, by rw [placesWithHash, List.range_eq_range', Nat.sub_zero], Nat.zero_le _, .inl ⟨rfl, fun _ h => absurd h (Nat.not_lt_zero _)⟩⟩
      · rintro x rest b s' ⟨rfl, i, hit, rfl, hr, hi, hH⟩
        obtain ⟨hix, hxn, hpx, hskip, hrest⟩ := filter_range'_cons _ _ _ _ _ hr.symm
        have hlt : x < es.size := by omega
        have hrest' : rest = (List.range' (x + 1) (es.size - (x + 1))).filter (fun i => (es[i]?.map (·.hash)) == some (k.hash w)) := by rw [hrest]; congr 2; omega
        have hex : es[x]? = some es[x] := Array.getElem?_eq_getElem hlt
        obtain ⟨k', hkv, hhash, hib, hib8⟩ := hE.at hex
        have hHx : (hit = none ∧ ∀ j : Nat, j < x → ks[j]? ≠ some k) ∨ ∃ j : Nat, hit = some j ∧ j < x ∧ ks[j]? = some k := by
          rcases hH with ⟨h0, hno⟩ | ⟨j, h1, hji, hj⟩
          · refine .inl ⟨h0, fun j hjx hj => ?_⟩
            rcases Nat.lt_or_ge j i with h | h
            · exact hno j h hj
            · have := hskip j h hjx
              rw [haskey j hj] at this
              exact absurd this (by decide)
          · exact .inr ⟨j, h1, by omega, hj⟩
        have hstay : ¬ k' = k → ((hit = none ∧ ∀ j : Nat, j < x + 1 → ks[j]? ≠ some k) ∨ ∃ j : Nat, hit = some j ∧ j < x + 1 ∧ ks[j]? = some k) := by
          intro hne
          rcases hHx with ⟨h0, hno⟩ | ⟨j, h1, hjx, hj⟩
          · refine .inl ⟨h0, fun j hjx hj => ?_⟩
            rcases Nat.lt_or_ge j x with h | h
            · exact hno j h hj
            · have hjx' : j = x := by omega
              subst hjx'
              rw [hkv] at hj
              exact hne (Option.some.inj hj)
          · exact .inr ⟨j, h1, by omega, hj⟩
        rw [hex]
        dsimp only
        by_cases hh : (es[x].hash == k.hash w) = true
        · rw [if_pos hh]
          refine wpAny_bind (wpAny_dictEpoch ho hd (wpAny_bind (eqB hu hib hkey hib8 (wpAny_bind (wpAny_dictEpoch ho hd ?_)))))
          show wpAny _ _ (if (ep != ep) = true then _ else _) _ E _
          rw [if_neg (by simp)]
          by_cases hkk : k' = k
          · rw [decide_eq_true hkk]
            subst hkk
            rcases hHx with ⟨rfl, _⟩ | ⟨j, _, hjx, hj⟩
            · first | rw [if_pos rfl] | skip
              simp only [Option.isSome_none, Bool.false_eq_true, if_false]
              first | refine wpAny_bind (wpAny_pure ?_) | skip
              refine wpAny_bind (wpAny_rule ?_)
              split
              · exact wpAny_pure (wpAny_pure (hsome x hkv))
              · exact wpAny_pure ⟨rfl, x + 1, some x, rfl, hrest', hlt, .inr ⟨x, rfl, Nat.lt_succ_self x, hkv⟩⟩
            · exact absurd (idx_unique hn hj hkv) (by omega)
          · rw [decide_eq_false hkk]
            simp only [Bool.false_eq_true, if_false]
            refine wpAny_bind (wpAny_rule ?_)
            first | rw [if_neg (by simp)] | skip
            first
              | exact wpAny_pure ⟨rfl, x + 1, hit, rfl, hrest', hlt, hstay hkk⟩
              | exact wpAny_bind (wpAny_pure (wpAny_pure ⟨rfl, x + 1, hit, rfl, hrest', hlt, hstay hkk⟩))
        · rw [if_neg hh]
          refine wpAny_pure ⟨rfl, x + 1, hit, rfl, hrest', hlt, hstay ?_⟩
          intro hkk
          rw [hhash, hkk] at hh; simp at hh
      · rintro b s' ⟨rfl, i, hit, rfl, hr, hi, hH⟩
        rcases hH with ⟨rfl, hno⟩ | ⟨j, rfl, _, hj⟩
        · refine wpAny_pure (hnone fun j hj => ?_)
          rcases Nat.lt_or_ge j i with h | h
          · exact hno j h hj
          · obtain ⟨e, he, _⟩ := hE.to hj
            have hjl : j < es.size := by
              rcases Nat.lt_or_ge j es.size with h' | h'
              · exact h'
              · rw [Array.getElem?_eq_none h'] at he; cases he
            have := List.filter_eq_nil_iff.mp hr.symm j (List.mem_range'_1.mpr ⟨h, by omega⟩)
            exact this (haskey j hj)
        · exact wpAny_pure (hsome j hj))
  case text =>
    rename_i x t
    have hkey : NestedIs s.heap (.text x) (.str x t) := .text x t
    generalize hgk : NestedKey.text x = k at *
    dsimp only
    by_cases hstr : (es.all fun e => isExactStrKey e.key) = true
    · rw [if_pos hstr]
      unfold foundByValue
      have his : ∀ (j : Nat) (e : DictEntry), es[j]? = some e → (e.key.isStr x = true ↔ ks[j]? = some k) := fun j e he => by
        obtain ⟨k', hk', hh, hi, _⟩ := hE.at he
        have h0 : isExactStrKey e.key = true := by
          rw [Array.all_eq_true] at hstr
          rcases Nat.lt_or_ge j es.size with c | c
          · rw [Array.getElem?_eq_getElem c] at he
            obtain rfl := Option.some.inj he
            exact hstr j c
          · rw [Array.getElem?_eq_none c] at he; cases he
        rw [hk']
        revert h0 hi
        generalize e.key = q
        intro hi h0
        cases hi with
        | text y u =>
          rw [← hgk]
          constructor
          · intro h
            have : y = x := by simpa [Value.isStr] using h
            rw [this]
          · intro h
            injection Option.some.inj h with h
            rw [h]
            simp [Value.isStr]
        | _ => cases h0
      cases hf : es.findIdx? (fun e => e.key.isStr x) with
      | none =>
        refine wpAny_pure (hnone fun j hj => ?_)
        obtain ⟨e, he, _⟩ := hE.to hj
        have := (his j e he).mpr hj
        have h2 := Array.findIdx?_eq_none_iff.mp hf e (Array.mem_of_getElem? he)
        rw [this] at h2
        cases h2
      | some i =>
        obtain ⟨hlt, hi, _⟩ := Array.findIdx?_eq_some_iff_getElem.mp hf
        have hex : es[i]? = some es[i] := Array.getElem?_eq_getElem hlt
        have hki := (his i _ hex).mp hi
        obtain ⟨k', hk', hh, hib, hib8⟩ := hE.at hex
        obtain rfl : k' = k := Option.some.inj (hk'.symm.trans hki)
        simp only [hex]
        refine wpAny_bind (wpAny_dictEpoch ho hd (wpAny_bind (eqB hu hib hkey hib8 (wpAny_bind (wpAny_dictEpoch ho hd ?_)))))
        show wpAny _ _ (if (ep != ep) = true then _ else _) _ E _
        rw [if_neg (by simp), decide_eq_true rfl]
        exact wpAny_bind (wpAny_rule (wpAny_pure (hsome i hki)))
    rw [if_neg hstr]
    by_cases hall : ((Value.str x t :: (placesWithHash es.size (fun i => es[i]?.map (·.hash)) (k.hash w)).filterMap (fun i => es[i]?.map (·.key))).all carriedByValue) = true
    · rw [if_pos hall]
      exact old
    rw [if_neg hall]
    generalize Value.str x t = key at *
    by_cases hone : (((placesWithHash es.size (fun i => es[i]?.map (·.hash)) (k.hash w)).filterMap (fun i => es[i]?.map (·.key))) == [key]) = true <;>
    (first | rw [if_pos hone] | rw [if_neg hone]) <;> (first | refine wpAny_bind (wpAny_pure ?_) | refine wpAny_bind (tells_quiet hkey h8 hst ?_)) <;> (
      rw [if_neg (by simp)]
      refine wpAny_bind ?_
      refine wpAny_forIn_list _
        (fun rest b s' => s' = s ∧ ∃ i hit, b = (none, hit) ∧ rest = (List.range' i (es.size - i)).filter (fun i => (es[i]?.map (·.hash)) == some (k.hash w)) ∧ i ≤ es.size ∧
          ((hit = none ∧ ∀ j : Nat, j < i → ks[j]? ≠ some k) ∨ ∃ j : Nat, hit = some j ∧ j < i ∧ ks[j]? = some k)) _ ?_ ?_ _ _
        ⟨rfl, 0, none, rfl, by rw [placesWithHash, List.range_eq_range', Nat.sub_zero], Nat.zero_le _, .inl ⟨rfl, fun _ h => absurd h (Nat.not_lt_zero _)⟩⟩
      · rintro x rest b s' ⟨rfl, i, hit, rfl, hr, hi, hH⟩
        obtain ⟨hix, hxn, hpx, hskip, hrest⟩ := filter_range'_cons _ _ _ _ _ hr.symm
        have hlt : x < es.size := by omega
        have hrest' : rest = (List.range' (x + 1) (es.size - (x + 1))).filter (fun i => (es[i]?.map (·.hash)) == some (k.hash w)) := by rw [hrest]; congr 2; omega
        have hex : es[x]? = some es[x] := Array.getElem?_eq_getElem hlt
        obtain ⟨k', hkv, hhash, hib, hib8⟩ := hE.at hex
        have hHx : (hit = none ∧ ∀ j : Nat, j < x → ks[j]? ≠ some k) ∨ ∃ j : Nat, hit = some j ∧ j < x ∧ ks[j]? = some k := by
          rcases hH with ⟨h0, hno⟩ | ⟨j, h1, hji, hj⟩
          · refine .inl ⟨h0, fun j hjx hj => ?_⟩
            rcases Nat.lt_or_ge j i with h | h
            · exact hno j h hj
            · have := hskip j h hjx
              rw [haskey j hj] at this
              exact absurd this (by decide)
          · exact .inr ⟨j, h1, by omega, hj⟩
        have hstay : ¬ k' = k → ((hit = none ∧ ∀ j : Nat, j < x + 1 → ks[j]? ≠ some k) ∨ ∃ j : Nat, hit = some j ∧ j < x + 1 ∧ ks[j]? = some k) := by
          intro hne
          rcases hHx with ⟨h0, hno⟩ | ⟨j, h1, hjx, hj⟩
          · refine .inl ⟨h0, fun j hjx hj => ?_⟩
            rcases Nat.lt_or_ge j x with h | h
            · exact hno j h hj
            · have hjx' : j = x := by omega
              subst hjx'
              rw [hkv] at hj
              exact hne (Option.some.inj hj)
          · exact .inr ⟨j, h1, by omega, hj⟩
        rw [hex]
        dsimp only
        by_cases hh : (es[x].hash == k.hash w) = true
        · rw [if_pos hh]
          refine wpAny_bind (wpAny_dictEpoch ho hd (wpAny_bind (eqB hu hib hkey hib8 (wpAny_bind (wpAny_dictEpoch ho hd ?_)))))
          show wpAny _ _ (if (ep != ep) = true then _ else _) _ E _
          rw [if_neg (by simp)]
          by_cases hkk : k' = k
          · rw [decide_eq_true hkk]
            subst hkk
            rcases hHx with ⟨rfl, _⟩ | ⟨j, _, hjx, hj⟩
            · first | rw [if_pos rfl] | skip
              simp only [Option.isSome_none, Bool.false_eq_true, if_false]
              first | refine wpAny_bind (wpAny_pure ?_) | skip
              refine wpAny_bind (wpAny_rule ?_)
              split
              · exact wpAny_pure (wpAny_pure (hsome x hkv))
              · exact wpAny_pure ⟨rfl, x + 1, some x, rfl, hrest', hlt, .inr ⟨x, rfl, Nat.lt_succ_self x, hkv⟩⟩
            · exact absurd (idx_unique hn hj hkv) (by omega)
          · rw [decide_eq_false hkk]
            simp only [Bool.false_eq_true, if_false]
            refine wpAny_bind (wpAny_rule ?_)
            first | rw [if_neg (by simp)] | skip
            first
              | exact wpAny_pure ⟨rfl, x + 1, hit, rfl, hrest', hlt, hstay hkk⟩
              | exact wpAny_bind (wpAny_pure (wpAny_pure ⟨rfl, x + 1, hit, rfl, hrest', hlt, hstay hkk⟩))
        · rw [if_neg hh]
          refine wpAny_pure ⟨rfl, x + 1, hit, rfl, hrest', hlt, hstay ?_⟩
          intro hkk
          rw [hhash, hkk] at hh; simp at hh
      · rintro b s' ⟨rfl, i, hit, rfl, hr, hi, hH⟩
        rcases hH with ⟨rfl, hno⟩ | ⟨j, rfl, _, hj⟩
        · refine wpAny_pure (hnone fun j hj => ?_)
          rcases Nat.lt_or_ge j i with h | h
          · exact hno j h hj
          · obtain ⟨e, he, _⟩ := hE.to hj
            have hjl : j < es.size := by
              rcases Nat.lt_or_ge j es.size with h' | h'
              · exact h'
              · rw [Array.getElem?_eq_none h'] at he; cases he
            have := List.filter_eq_nil_iff.mp hr.symm j (List.mem_range'_1.mpr ⟨h, by omega⟩)
            exact this (haskey j hj)
        · exact wpAny_pure (hsome j hj))
end
end Odd

set_option Elab.async false
set_option linter.all false
set_option maxRecDepth 100000
namespace Odd
open PySem L2
/-- keys of a dict here: texts, None, a tuple of one text -/
inductive OK where
  | txt (z : Str)
  | non
  | tpl (b : Addr) (z : Str)
def OK.nk : OK → NestedKey | .txt z => .text z | .non => .none | .tpl _ z => .tup [.text z]
def OK.v : OK → V | .txt z => .str z | .non => .non | .tpl b _ => .ref b
def rent (w : World) (kv : OK × V) (e : DictEntry) : Prop := RelV kv.1.v e.key ∧ e.hash = kv.1.nk.hash w ∧ RelV kv.2 e.val
def odP (w : World) (a : Addr) (kvs : List (OK × V)) (h : Heap) : Prop := (a == sysModules) = false ∧ kvs.length ≤ sizeLine ∧ ∃ o es ep, h.get? a = some o ∧ o.ExactDict ∧ o.data = .dict es ep ∧ Paired (rent w) kvs es.toList
def OD (w : World) (a : Addr) (kvs : List (OK × V)) : HO := .ext (odP w a kvs)
def tk (p : Str × V) : OK × V := (.txt p.1, p.2)
def kk (p : Str × V) : Key × V := (.inr p.1, p.2)
/-- the dict at a holds these, in this order -/
def OR (w : World) (H : Hp) (a : Addr) (kvs : List (OK × V)) : Prop := (∃ zs : List (Str × V), kvs = zs.map tk ∧ Rd H a (.dK (zs.map kk))) ∨ Rd H a (OD w a kvs)
def Tpl (H : Hp) (kvs : List (OK × V)) : Prop := ∀ b z v, ((.tpl b z : OK), v) ∈ kvs → H b = some (.tup [.str z])
section
variable {P : Program} {w : World} {H : Hp} {h : Heap} {a : Addr} {kvs : List (OK × V)}
theorem odP.ok (x : odP w a kvs h) : ObjOk P w H h a (OD w a kvs) :=
  ⟨x, by obtain ⟨_, _, o, _, _, ho, _⟩ := x; exact ⟨o, ho⟩, fun h1 h2 ⟨a1, a2, o, es, ep, e, r⟩ k => ⟨a1, a2, o, es, ep, k _ e, r⟩⟩
theorem rent_of : ∀ (zs : List (Str × V)) (vs : List (Key × Value)) (l : List DictEntry), PySem.Pairs (mixKind P w) l vs → KV (zs.map kk) vs → (∀ e ∈ l, ∃ k, (mixKind P w).is k e.key = true ∧ e.hash = (mixKind P w).hash k) → Paired (rent w) (zs.map tk) l
  | [], vs, l, p, r, _ => by
    cases r
    cases p
    exact .nil
  | z :: zs, vs, l, p, r, hk => by
    cases r with | cons r1 r =>
    cases p with | cons p1 p2 p =>
    rename_i q qs e es
    refine .cons ⟨?_, ?_, ?_⟩ (rent_of zs qs es p r fun x hx => hk x (List.mem_cons_of_mem _ hx))
    · have : (kk z).1 = q.1 := r1.1
      rw [← this] at p1
      exact relV_key (show keyIs (.inr z.1) e.key = true from p1)
    · obtain ⟨k, h1, h2⟩ := hk e List.mem_cons_self
      have e1 : k = q.1 := (mixKind P w).inj _ _ _ h1 p1
      have e2 : (kk z).1 = q.1 := r1.1
      rw [h2, e1, ← e2]
      rfl
    · rw [p2]
      exact r1.2
theorem OR.view (ok : HOk P w H h) (r : OR w H a kvs) : odP w a kvs h := by
  rcases r with ⟨zs, rfl, r⟩ | r
  · obtain ⟨z, hd, vs, rel, o, es, ep, ho, hx, hdt, hk, hp, _⟩ := dk_rd ok r
    refine ⟨hd, by rw [List.length_map] at z ⊢; exact z, o, es, ep, ho, hx, hdt, rent_of zs vs _ hp rel fun e he => hk e (Array.mem_toList_iff.mp he)⟩
  · exact (r.ok ok).1
theorem OK.is {k : OK} {u : Value} (ok : HOk P w H h) (hb : ∀ b z, k = .tpl b z → H b = some (.tup [.str z])) (r : RelV k.v u) : NestedIs h k.nk u ∧ k.nk.depth ≤ 8 := by
  cases k with
  | txt z =>
    obtain ⟨t, rfl⟩ := (show ∃ t, u = Value.str z t from r)
    exact ⟨.text z t, by simp [OK.nk, NestedKey.depth]⟩
  | non =>
    obtain rfl := (show u = Value.none from r)
    exact ⟨.none, by simp [OK.nk, NestedKey.depth]⟩
  | tpl b z =>
    obtain rfl := (show u = Value.ref b from r)
    obtain ⟨_, its, rr, o, h1, h2, n, h3⟩ := (show ObjOk P w H h b (.tup [.str z]) from ok b _ (hb b z rfl))
    refine ⟨.tup h1 h2 h3 ?_, by simp [OK.nk, NestedKey.depth, NestedKey.depthAll]⟩
    cases rr with | cons r1 rr =>
    cases rr
    obtain ⟨t, rfl⟩ := r1
    exact .cons (.text z t) .nil
theorem paired_at2 {α β : Type} {r : α → β → Prop} : ∀ {xs : List α} {ys : List β} {i : Nat} {x : α} {y : β}, Paired r xs ys → xs[i]? = some x → ys[i]? = some y → r x y
  | _, _, 0, _, _, .cons h _, e1, e2 => by cases e1; cases e2; exact h
  | _, _, i + 1, _, _, .cons _ t, e1, e2 => paired_at2 t e1 e2
theorem ks_of {es : Array DictEntry} (ok : HOk P w H h) (tp : Tpl H kvs) (p : Paired (rent w) kvs es.toList) : Ks w h es (kvs.map fun q => q.1.nk) := by
  have l := Paired.length p
  refine ⟨by rw [List.length_map, l, Array.length_toList], fun i e k he hk => ?_⟩
  rw [List.getElem?_map] at hk
  obtain ⟨q, hq, rfl⟩ := Option.map_eq_some_iff.mp hk
  have r := paired_at2 p hq (by rw [Array.getElem?_toList]; exact he)
  have n := OK.is (k := q.1) ok (fun b z e => tp b z q.2 (by rw [← e]; exact List.mem_of_getElem? hq)) r.1
  exact ⟨r.2.1, n.1, n.2⟩
end
section
variable {X : Cx} {pins : List (Addr × Obj)} {σ : St} {H : Hp} {s : Shared} {a : Addr} {kvs : List (OK × V)} {A : Around} {E : Value → Shared → Prop}
/-- a key that is there: its value -/
theorem dictGet_there {k : OK} {u : Value} {i : Nat} {v : V} {Q : Option Value → Shared → Prop} (hu : A.units + 8 < cLine) (I : Inv X pins σ H s) (o : OR X.w H a kvs) (tp : Tpl H kvs) (hn : (kvs.map fun q => q.1.nk).Nodup) (hi : kvs[i]? = some (k, v)) (ru : RelV k.v u)
    (h : ∀ w' s', Inv X pins σ H s' → RelV v w' → Q (some w') s') : wpAny (model X.prog X.w) A (dictGet a u) Q E s := by
  obtain ⟨hd, hz, ob, es, ep, ho, hx, hdt, hp⟩ := o.view I.hok
  have K := ks_of I.hok tp hp
  have n := OK.is (k := k) I.hok (fun b z e => tp b z v (by rw [← e]; exact List.mem_of_getElem? hi)) ru
  have hki : (kvs.map fun q => q.1.nk)[i]? = some k.nk := by rw [List.getElem?_map, hi]; rfl
  obtain ⟨e, he, _⟩ := K.to hki
  have r := paired_at2 hp hi (by rw [Array.getElem?_toList]; exact he)
  unfold dictGet
  try with_reducible refine wpAny_holding ?_
  refine wpAny_bind (pyHash_key _ _ _ _ _ n.1 (by omega) (wpAny_bind (find (s := { s with toks := s.toks + k.nk.draws }) hu n.1 n.2 ho hdt K hn ?_ ?_)))
  · intro no
    exact absurd hki (no i)
  · intro j hj
    obtain rfl := idx_unique hn hki hj
    refine wpAny_bind (wpAny_dictEntries (s := { s with toks := s.toks + k.nk.draws }) ho hdt ?_)
    rw [he]
    exact wpAny_pure (h _ _ (I.tok _) r.2.2)
theorem getItem_there {k : OK} {u : Value} {i : Nat} {v : V} {Q : Value → Shared → Prop} (hu : A.units + 9 < cLine) (I : Inv X pins σ H s) (o : OR X.w H a kvs) (tp : Tpl H kvs) (hn : (kvs.map fun q => q.1.nk).Nodup) (hi : kvs[i]? = some (k, v)) (ru : RelV k.v u)
    (h : ∀ w' s', Inv X pins σ H s' → RelV v w' → Q w' s') : wpAny (model X.prog X.w) A (getItem (.ref a) u) Q E s := by
  obtain ⟨hd, hz, ob, es, ep, ho, hx, hdt, hp⟩ := o.view I.hok
  have hT : s.TypeIs (.ref a) "dict" := ⟨ob, ho, hx.1⟩
  unfold getItem
  try with_reducible refine wpAny_holding ?_
  refine wpAny_bind (wpAny_sequenceKey hT (by decide) ?_)
  refine wpAny_bind (wpAny_callSpecial?_slot (name := Str.ofString "__getitem__") hT slot_dict_getitem
    (wpAny_call_entry slot_dict_getitem hT entry_dict_getitem ?_ (args_dict_getitem _ _)))
  show wpAny _ _ (dictGet a u >>= _) _ _ s
  exact wpAny_bind (dictGet_there (by show A.units + 1 + 8 < cLine; omega) I o tp hn hi ru fun w' s' I' r' => wpAny_pure ⟨w', rfl, wpAny_pure (h w' s' I' r')⟩)
/-- a key that is not there: set at the end -/
theorem setItem_new {k : OK} {u r : Value} {v : V} {Q : Unit → Shared → Prop} (hu : A.units + 9 < cLine) (I : Inv X pins σ H s) (o : OR X.w H a kvs) (mu : Mut (H a)) (tp : Tpl H kvs) (hk : ∀ b z, k = .tpl b z → H b = some (.tup [.str z])) (hn : (kvs.map fun q => q.1.nk).Nodup) (hl : kvs.length < sizeLine)
    (hi : k.nk ∉ kvs.map fun q => q.1.nk) (ru : RelV k.v u) (rv : RelV v r) (h : ∀ s', Inv X pins σ (upd H a (OD X.w a (kvs ++ [(k, v)]))) s' → Q () s') : wpAny (model X.prog X.w) A (setItem (.ref a) u r) Q E s := by
  obtain ⟨hd, hz, ob, es, ep, ho, hx, hdt, hp⟩ := o.view I.hok
  have K := ks_of I.hok tp hp
  have n := OK.is (k := k) I.hok hk ru
  have hT : s.TypeIs (.ref a) "dict" := ⟨ob, ho, hx.1⟩
  have hsz : es.size ≤ sizeLine := by rw [← Array.length_toList, ← Paired.length hp]; exact hz
  unfold setItem
  try with_reducible refine wpAny_holding ?_
  refine wpAny_bind (wpAny_sequenceKey hT (by decide) ?_)
  refine wpAny_bind (wpAny_callSpecial?_slot (name := Str.ofString "__setitem__") hT slot_dict_setitem
    (wpAny_call_entry slot_dict_setitem hT entry_dict_setitem ?_ (args_dict_setitem _ _ _)))
  show wpAny _ _ (Builtin.Dict.notOrdered "__setitem__" ⟨[.ref a, u, r], []⟩ >>= _) _ _ s
  refine wpAny_bind (wpAny_notOrdered_dict hT ?_)
  show wpAny _ _ (dictSet a u r >>= _) _ _ s
  refine wpAny_bind ?_
  unfold dictSet
  try with_reducible refine wpAny_holding ?_
  refine wpAny_bind (pyHash_key _ _ _ _ _ n.1 (by show A.units + 1 + _ < cLine; omega) ?_)
  unfold dictSetHashed
  try with_reducible refine wpAny_holding ?_
  refine wpAny_bind (find (s := { s with toks := s.toks + k.nk.draws }) (by show A.units + 1 + 8 < cLine; omega) n.1 n.2 ho hdt K hn ?_ ?_)
  · intro no
    refine wpAny_bind (wpAny_rule (wpAny_updateDictKeys (hz := hsz) (s := { s with toks := s.toks + k.nk.draws }) ho hdt (wpAny_pure ⟨.none, rfl, wpAny_pure (h _ ?_)⟩)))
    have hg := Heap.get?_update_self (h := s.heap) (Obj.mapDictKeys fun x => x.push ⟨k.nk.hash X.w, u, r⟩) ho (Obj.isFreed_of_dict (Obj.data_mapDictKeys hdt _))
    refine d_write (t' := s.toks + k.nk.draws) (I.tok _) mu (Heap.SameBut.update ..) ⟨_, hg⟩ (odP.ok ⟨hd, by rw [List.length_append]; exact hl, _, _, ep + 1, hg, hx.mapDictKeys _, Obj.data_mapDictKeys hdt _, ?_⟩)
    rw [Array.toList_push]
    exact Paired.snoc hp ⟨ru, rfl, rv⟩
  · intro j hj
    exact absurd (List.mem_of_getElem? hj) hi
end
end Odd

set_option Elab.async false
set_option linter.all false
set_option maxRecDepth 100000
namespace Odd
open PySem L2
abbrev NdK (kvs : List (OK × V)) : Prop := (kvs.map fun q => q.1.nk).Nodup
/-! ### isinstance -/
def TyO (w : World) (K : PySem.W.Frag) (H : Hp) (x : V) (t : Value) : Prop := TyX K H x t ∨ ∃ a kvs, x = .ref a ∧ OR w H a kvs ∧ t = .type "dict"
theorem kit_ofO {X : Cx} {pins : List (Addr × Obj)} {σ : St} {H : Hp} {s : Shared} {x : V} {u t : Value} (I : Inv X pins σ H s) (rx : RelV x u) (ty : TyO X.w X.K H x t) : ∃ P : Heap → Prop, PySem.W.KitX X.K u t P ∧ P s.heap ∧ u ≠ .builtin "__main__.__loader__#opaque" := by
  rcases ty with ty | ⟨a, kvs, rfl, o, rfl⟩
  · exact kit_of I rx ty
  · cases (show u = Value.ref a from rx)
    obtain ⟨hd, hz, ob, es, ep, ho, hx, _⟩ := o.view I.hok
    exact ⟨_, PySem.W.kitx_dict, ⟨ob, ho, hx.1⟩, fun z => nomatch z⟩
def rIsiO (w : World) (K : PySem.W.Frag) : List V → Hp → VK → Prop := fun xs H Q => ∃ (x c : V) (t u : Value) (b : Bool), xs = [x, c] ∧ ClsV c u ∧ TyO w K H x t ∧ PySem.W.kitOne K t u = some b ∧ Q (.bl b) H
def rIsiTO (w : World) (K : PySem.W.Frag) : List V → Hp → VK → Prop := fun xs H Q => ∃ (x : V) (tp : Addr) (cs : List V) (t : Value) (us : List Value) (b : Bool), xs = [x, .ref tp] ∧ H tp = some (.tup cs) ∧ Paired ClsV cs us ∧ TyO w K H x t ∧ PySem.W.kitAny K t us = some b ∧ Q (.bl b) H
section
variable {X : Cx}
theorem call_isiO : CallR X (.builtin "isinstance") (rIsiO X.w X.K) := by
  intro pins s σ H xs us Q I r h
  obtain ⟨x, c, t, u, b, rfl, k, ty, e, q⟩ := h
  obtain ⟨u1, u2, rfl, r1, r2⟩ := vals2 r
  have e2 := k.eq r2
  subst e2
  obtain ⟨P, Z, p, hx⟩ := kit_ofO I r1 ty
  exact PySem.W.kia_one Z I.kIn p e hx fun tk => ⟨.bl b, H, I.tok tk, rfl, q⟩
theorem call_isiTO : CallR X (.builtin "isinstance") (rIsiTO X.w X.K) := by
  intro pins s σ H xs us Q I r h
  obtain ⟨x, tp, cs, t, ws, b, rfl, hT, k, ty, e, q⟩ := h
  obtain ⟨u1, u2, rfl, r1, r2⟩ := vals2 r
  cases (show u2 = Value.ref tp from r2)
  obtain ⟨P, Z, p, hx⟩ := kit_ofO I r1 ty
  obtain ⟨_, its, rv, o, h1, h2, n, h3⟩ := (show ObjOk X.prog X.w H s.heap tp (.tup cs) from I.hok tp _ hT)
  have e3 := ClsV.all k rv
  subst e3
  obtain ⟨oc, od, dt, sl⟩ := o
  simp only at h2 h3
  subst h2 h3
  exact PySem.W.kia_tup Z I.kIn p h1 e hx fun tk => ⟨.bl b, H, I.tok tk, rfl, q⟩
end
/-! ### d[k], d[k] = v -/
def tOGet (w : World) (td ty : TE) : TE := fun σ H Q => td σ H fun x H1 => ty σ H1 fun y H2 => ∃ (a : Addr) (kvs : List (OK × V)) (k : OK) (i : Nat) (v : V), x = .ref a ∧ y = k.v ∧ OR w H2 a kvs ∧ Tpl H2 kvs ∧ NdK kvs ∧ kvs[i]? = some (k, v) ∧ Q v H2
def sOPut (w : World) (td ty tv : TE) : TS := fun D σ H => tv σ H fun v H1 => td σ H1 fun x H2 => ty σ H2 fun y H3 => ∃ (a : Addr) (kvs : List (OK × V)) (k : OK), x = .ref a ∧ y = k.v ∧ OR w H3 a kvs ∧ Mut (H3 a) ∧ Tpl H3 kvs ∧ (∀ b z, k = .tpl b z → H3 b = some (.tup [.str z])) ∧
  NdK kvs ∧ kvs.length < sizeLine ∧ (k.nk ∉ kvs.map fun q => q.1.nk) ∧ D.nx σ (upd H3 a (OD w a (kvs ++ [(k, v)])))
section
variable {X : Cx} {o i e value tg : Expr} {pos pos' apos cpos : Pos} {td ty tv : TE}
theorem pe_oget (hu : X.A.units + 64 < cLine) (ho : PE X o td) (hi : PE X i ty) (hs : NoSl i) : PE X (.Subscript o i pos) (tOGet X.w td ty) := by
  refine ⟨fun pins s σ H Q I h => ?_⟩
  refine subD_of PySem.F.slot_dict_getitem.lookup hs (thn (ho.run pins s σ H _ I h) fun u s1 ⟨x, H1, I1, rx, q1⟩ => thn (hi.run pins s1 σ H1 _ I1 q1) fun iv s2 ⟨y, H2, I2, ry, a, kvs, k, j, v, ex, ey, g, tp, nd, hj, q2⟩ => ?_)
  subst ex
  subst ey
  obtain rfl : u = Value.ref a := rx
  obtain ⟨hd, hz, ob, es, ep, hob, hx, _⟩ := g.view I2.hok
  exact ⟨⟨ob, hob, hx.1⟩, getItem_there (by omega) I2 g tp nd hj ry fun w' s3 I3 rw' => ⟨v, H2, I3, rw', q2⟩⟩
theorem ps_oput (hu : X.A.units + 64 < cLine) (ho : PE X o td) (hi : PE X i ty) (hv : PE X value tv) (hs : swapsWith value (some (.Subscript o i pos')) pos.line X.env = pure false) :
    PS X (.Assign [.Subscript o i pos'] value pos) (sOPut X.w td ty tv) := by
  refine ⟨fun pins s σ H D I h => ?_⟩
  refine wpAny_Assign_Subscript (thn (hv.run pins s σ H _ I h) fun r s1 ⟨v, H1, I1, rv, q1⟩ => thn (ho.run pins s1 σ H1 _ I1 q1) fun u s2 ⟨x, H2, I2, rx, q2⟩ => thn (hi.run pins s2 σ H2 _ I2 q2) fun iv s3 ⟨y, H3, I3, ry, a, kvs, k, ex, ey, g, mu, tp, hk, nd, hl, hn, q3⟩ => ?_) hs
  subst ex
  subst ey
  obtain rfl : u = Value.ref a := rx
  exact setItem_new (by omega) I3 g mu tp hk nd hl hn ry rv fun s4 I4 => ⟨σ, _, I4, q3⟩
end
/-! ### for k in d -/
def FrzR (w : World) (H : Hp) (d : Addr) (o : Obj) (kvs : List (OK × V)) : Prop := (∃ zs : List (Str × V), kvs = zs.map tk ∧ H d = some (.frz o (.dK (zs.map kk)))) ∨ H d = some (.frz o (OD w d kvs))
theorem FrzR.or {w : World} {H : Hp} {d : Addr} {o : Obj} {kvs : List (OK × V)} (h : FrzR w H d o kvs) : OR w H d kvs := h.elim (fun ⟨zs, e, h⟩ => .inl ⟨zs, e, .inr ⟨o, h⟩⟩) fun h => .inr (.inr ⟨o, h⟩)
def Ito (w : World) (d : Addr) (o : Obj) (kvs : List (OK × V)) : It :=
  ⟨fun i H => FrzR w H d o kvs ∧ i < kvs.length, fun i H x H' => H' = H ∧ ∃ k v, kvs[i]? = some (k, v) ∧ x = k.v, fun i H => FrzR w H d o kvs ∧ kvs.length ≤ i⟩
section
variable {X : Cx} {pins : List (Addr × Obj)} {σ : St} {H : Hp} {s : Shared} {d : Addr} {o : Obj} {kvs : List (OK × V)}
theorem frzO (I : Inv X pins σ H s) (h : FrzR X.w H d o kvs) :
    (d == sysModules) = false ∧ s.heap.get? d = some o ∧ o.ExactDict ∧ ∃ (es : Array DictEntry) (ep : Nat), o.data = .dict es ep ∧ es.size = kvs.length ∧ Paired (rent X.w) kvs es.toList := by
  have e : s.heap.get? d = some o := by
    rcases h with ⟨zs, _, h⟩ | h
    · obtain ⟨hd, _⟩ := I.hok d _ h
      exact hd
    · obtain ⟨hd, _⟩ := I.hok d _ h
      exact hd
  obtain ⟨hd, hz, ob, es, ep, ho, hx, hdt, hp⟩ := h.or.view I.hok
  rw [e] at ho
  obtain rfl := Option.some.inj ho
  exact ⟨hd, e, hx, es, ep, hdt, by rw [← Array.length_toList, Paired.length hp], hp⟩
end
section
variable {P : Program} {w : World} {K : PySem.W.Frag} {tg : Expr} {d : Addr} {o : Obj} {es : Array DictEntry} {ep : Nat}
theorem turn_okeys {kvs : List (OK × V)} (it : Addr) (hod : o.data = .dict es ep) : Turn P w K tg (Ito w d o kvs) [it] it (fun i h => h.IsKeyIter it d i kvs.length ep) where
  mem := by simp
  obj := fun i h st b hb => by
    have e : b = it := by simpa using hb
    subst e
    obtain ⟨oi, e, c, dd⟩ := st
    exact ⟨oi, e, fun v z => by rw [dd] at z; cases z⟩
  keep := fun i h h' st k => st.at fun oi e => k it (by simp) oi e
  item := by
    intro X hP hw hK hc i pins s σ H E I hf st hg
    subst hP hw hK
    obtain ⟨hd, hi⟩ := hg
    obtain ⟨f0, f1, f2, f3, f4, f5⟩ := hf it (by simp)
    obtain ⟨hs, hgd, hx, es', ep', hdt, hsz, hp⟩ := frzO I hd
    obtain ⟨rfl, rfl⟩ := dict_ep hod hdt
    obtain ⟨⟨k, v⟩, hkv⟩ : ∃ p, kvs[i]? = some p := ⟨kvs[i], List.getElem?_eq_getElem hi⟩
    have hen : es'[i]? = some es'[i] := Array.getElem?_eq_getElem (by omega)
    have r := paired_at2 hp hkv (by rw [Array.getElem?_toList]; exact hen)
    refine next_key_item st hgd hdt hsz hen fun h' st' sb => ?_
    have I1 : Inv X pins σ H { s with heap := h' } := I.turned (t' := s.toks) (fun b ob hb e => (sb.2 b hb).trans e) f0 f1 f3 f4 f5
    obtain ⟨oi, e, c, dd⟩ := id st'
    exact ⟨_, rfl, go_of (s := { s with heap := h' }) e c dd (by decide) ⟨k.v, H, I1, r.1, ⟨rfl, k, v, hkv, rfl⟩, st', fun b hb => (hf b hb).1⟩⟩
  done := by
    intro X hP hw hK hc i pins s σ H E I hf st hg
    subst hP hw hK
    obtain ⟨hd, hi⟩ := hg
    obtain ⟨f0, f1, f2, f3, f4, f5⟩ := hf it (by simp)
    obtain ⟨hs, hgd, hx, es', ep', hdt, hsz, hp⟩ := frzO I hd
    obtain ⟨rfl, rfl⟩ := dict_ep hod hdt
    exact next_key_end (I.ok.hd hc) st hgd hdt hsz hi fun h' eb => ⟨rfl, I.turned (t' := s.toks) (fun b ob hb e => eb b ob hb e) f0 f1 f3 f4 f5⟩
  self := fun A i s Q E st h => by
    refine wpAny_pyIter_slot st.typeIs PySem.F.slot_dict_keyiterator_iter (wpAny_call_entry PySem.F.slot_dict_keyiterator_iter st.typeIs PySem.F.entry_dict_keyiterator_iter ?_ (PySem.F.args_dict_keyiterator_iter_1 _))
    show wpAny _ _ (ret (.ref it)) _ _ s
    exact wpAny_pure ⟨_, rfl, "dict_keyiterator", _, st.typeIs, PySem.F.slot_dict_keyiterator_next.lookup, h⟩
end
def iOKeys (w : World) (td : TE) : TI := fun σ H R => td σ H fun x H1 => ∃ d o kvs, x = .ref d ∧ FrzR w H1 d o kvs ∧ R (Ito w d o kvs) H1
theorem pi_okeys {X : Cx} {tg e : Expr} {td : TE} (he : PE X e td) : PI X tg e (iOKeys X.w td) := by
  refine ⟨fun pins s σ H R I h => ?_⟩
  refine thn (he.run pins s σ H _ I h) fun u s1 ⟨x, H1, I1, rx, d, o, kvs, ex, hd, q⟩ => ?_
  subst ex
  obtain rfl : u = Value.ref d := rx
  obtain ⟨hs, hgd, hx, es, ep, hdt, hsz, hp⟩ := frzO I1 hd
  refine iter_keys hs hgd hx hdt (pi_one (tk := s1.toks) I1 _ (turn_okeys _ hdt) ⟨_, Heap.get?_push_size _ rfl, rfl, ?_⟩ q)
  rw [hsz] <;> rfl
end Odd

set_option Elab.async false
set_option linter.all false
set_option maxRecDepth 100000
namespace Odd
open PySem L2
section
variable {X : Cx} {pins : List (Addr × Obj)} {σ : St} {H : Hp} {s : Shared} {a : Addr} {kvs : List (OK × V)} {A : Around} {E : Value → Shared → Prop}
theorem samePairs_self {nm : String} {Q : Bool → Shared → Prop} (hu : A.units + 8 < cLine) (I : Inv X pins σ H s) (o : OR X.w H a kvs) (tp : Tpl H kvs) (hn : NdK kvs) (h : Q true s) :
    wpAny (model X.prog X.w) A (Builtin.Dict.samePairs nm a a) Q E s := by
  obtain ⟨hd, hz, ob, es, ep, ho, hx, hdt, hp⟩ := o.view I.hok
  have K := ks_of I.hok tp hp
  unfold Builtin.Dict.samePairs Builtin.Dict.showsAll
  rw [if_neg (show ¬ (a == sysModules) = true by rw [hd]; exact Bool.false_ne_true)]
  refine wpAny_bind (wpAny_pure (wpAny_bind (wpAny_pure ?_)))
  refine wpAny_bind (wpAny_dictEntries ho hdt ?_)
  dsimp only
  refine wpAny_bind (wpAny_dictEntries ho hdt ?_)
  rw [if_neg (by simp)]
  refine wpAny_bind (wpAny_dictEpoch ho hdt ?_)
  refine wpAny_bind ?_
  rw [Std.Legacy.Range.forIn_eq_forIn_range']
  simp only [Std.Legacy.Range.size, Nat.sub_zero, Nat.add_sub_cancel, Nat.div_one]
  refine wpAny_forIn_list _
    (fun rest q s' => s' = s ∧ q = (none, ()) ∧ ∃ i, rest = List.range' i (es.size - i) ∧ i ≤ es.size)
    _ ?_ ?_ _ _ ⟨rfl, rfl, 0, by simp, Nat.zero_le _⟩
  · rintro x rest q s' ⟨rfl, rfl, i, hr, hi⟩
    have hlt : i < es.size := by
      rcases Nat.lt_or_ge i es.size with h | h
      · exact h
      · rw [Nat.sub_eq_zero_of_le h] at hr; simp at hr
    obtain ⟨rfl, hrest⟩ : x = i ∧ rest = List.range' (i + 1) (es.size - (i + 1)) := by
      have e : es.size - i = (es.size - (i + 1)) + 1 := by omega
      rw [e, List.range'_succ] at hr
      injection hr with h1 h2
      exact ⟨h1, h2⟩
    refine wpAny_bind (wpAny_dictEntries ho hdt ?_)
    have hex : es[x]? = some es[x] := Array.getElem?_eq_getElem hlt
    rw [hex]
    obtain ⟨k, hk, hh, hik, h8⟩ := K.at hex
    show wpAny _ _ (holding [es[x].key, es[x].val] _ >>= _) _ _ _
    rw [hh]
    refine wpAny_bind (wpAny_holding (wpAny_bind (find hu hik h8 ho hdt K hn (fun no => absurd hk (no x)) fun j hj => ?_)))
    obtain rfl := idx_unique hn hk hj
    refine wpAny_bind (wpAny_dictEntries ho hdt ?_)
    rw [hex]
    refine wpAny_holding (SeqAt.EqAt.same _ _ _ _ _ ?_)
    show wpAny _ _ (if (!true) = true then _ else _) _ _ _
    rw [if_neg (by decide)]
    refine wpAny_bind (wpAny_dictEpoch ho hdt ?_)
    rw [if_neg (by simp)]
    exact wpAny_pure ⟨rfl, rfl, x + 1, hrest, hlt⟩
  · rintro q s' ⟨rfl, rfl, i, hr, hi⟩
    exact wpAny_pure h
theorem eq_self {Q : Value → Shared → Prop} (hu : A.units + 9 < cLine) (I : Inv X pins σ H s) (o : OR X.w H a kvs) (tp : Tpl H kvs) (hn : NdK kvs) (h : Q (.bool true) s) :
    wpAny (model X.prog X.w) A (compareOp .Eq (.ref a) (.ref a)) Q E s := by
  obtain ⟨hd, hz, ob, es, ep, ho, hx, hdt, hp⟩ := o.view I.hok
  have hT : s.TypeIs (.ref a) "dict" := ⟨ob, ho, hx.1⟩
  refine wpAny_richCompare_same_room (op := .Eq) hT hT PySem.F.slot_dict_eq (wpAny_call_entry PySem.F.slot_dict_eq hT PySem.F.entry_dict_eq ?_ (PySem.F.args_dict_eq_2 _ _)) (by omega)
  show wpAny _ _ (Builtin.Dict.dictSlotArgs "__eq__" ⟨[.ref a, .ref a], []⟩ >>= _) _ _ s
  refine wpAny_bind ?_
  unfold Builtin.Dict.dictSlotArgs
  refine wpAny_bind (wpAny_notOrdered_dict hT ?_)
  show wpAny _ _ (pure (Value.ref a, Value.ref a)) _ _ s
  refine wpAny_pure ?_
  refine wpAny_bind (wpAny_isInstance (T := "dict") hT PySem.F.sub_dict_dict ?_)
  simp only [Bool.not_true, Bool.false_eq_true, if_false]
  refine wpAny_bind (wpAny_pure (wpAny_bind (wpAny_pure ?_)))
  refine wpAny_bind (samePairs_self (by show A.units + 1 + 8 < cLine; omega) I o tp hn ?_)
  refine wpAny_pure ⟨_, rfl, ?_, ?_⟩
  · exact fun x => nomatch x
  · simpa using h
end
/-- a dict is equal to itself -/
def rSelf (w : World) : R2 := fun x y H Q => ∃ a kvs, x = .ref a ∧ y = .ref a ∧ OR w H a kvs ∧ Tpl H kvs ∧ NdK kvs ∧ Q (.bl true) H
theorem op_self {X : Cx} (hu : X.A.units + 64 < cLine) : OpR X (compareOp .Eq) (rSelf X.w) := by
  intro pins s σ H x y v u Q I rx ry h
  obtain ⟨a, kvs, rfl, rfl, o, tp, nd, q⟩ := h
  obtain rfl : v = Value.ref a := rx
  obtain rfl : u = Value.ref a := ry
  exact eq_self (by omega) I o tp nd ⟨.bl true, H, I, rfl, q⟩
theorem OR.same {w : World} {H H' : Hp} {a : Addr} {kvs : List (OK × V)} (s : ∀ b o, H b = some o → H' b = some o) (h : OR w H a kvs) : OR w H' a kvs := by
  rcases h with ⟨zs, e, h⟩ | h
  · exact .inl ⟨zs, e, h.elim (fun h => .inl (s _ _ h)) fun ⟨o, h⟩ => .inr ⟨o, s _ _ h⟩⟩
  · exact .inr (h.elim (fun h => .inl (s _ _ h)) fun ⟨o, h⟩ => .inr ⟨o, s _ _ h⟩)
theorem Tpl.same {H H' : Hp} {kvs : List (OK × V)} (s : ∀ b o, H b = some o → H' b = some o) (h : Tpl H kvs) : Tpl H' kvs := fun b z v m => s _ _ (h b z v m)
end Odd

set_option Elab.async false
set_option linter.all false
set_option maxRecDepth 100000
/-! closures as values: a lambda without parameters that is handed on to defs, and called there -/
namespace Clo
open PySem PySem.Spec PyProof.Rows L2 LamX
/-- the object at c is just o -/
def Pin (c : Addr) (o : Obj) : HO := .ext fun h => h.get? c = some o
theorem pin_ok {P : Program} {w : World} {H : Hp} {h : Heap} {c : Addr} {o : Obj} (e : h.get? c = some o) : ObjOk P w H h c (Pin c o) :=
  ⟨e, ⟨o, e⟩, fun h1 h2 q st => st _ q⟩
theorem pin_get {P : Program} {w : World} {H : Hp} {h : Heap} {c : Addr} {o : Obj} (hok : HOk P w H h) (e : H c = some (Pin c o)) : h.get? c = some o := (hok c _ e).1
/-- the cells at C known to the object; .. forgotten -/
def plus (C : Addr → Option Obj) (H : Hp) : Hp := fun b => match C b with | some o => some (Pin b o) | none => H b
def minus (C : Addr → Option Obj) (H : Hp) : Hp := fun b => match C b with | some _ => none | none => H b
section
variable {C : Addr → Option Obj} {H H' : Hp} {b : Addr} {o : Obj} {u : HO}
theorem plus_in (e : C b = some o) : plus C H b = some (Pin b o) := by unfold plus; rw [e]
theorem plus_out (e : C b = none) : plus C H b = H b := by unfold plus; rw [e]
theorem minus_in (e : C b = some o) : minus C H b = none := by unfold minus; rw [e]
theorem minus_out (e : C b = none) : minus C H b = H b := by unfold minus; rw [e]
theorem out_of (e : H b = some u) (f : ∀ c o, C c = some o → H c = none) : C b = none := by
  cases q : C b with
  | none => rfl
  | some o =>
    rw [f b o q] at e
    cases e
theorem pin_own {c x : Addr} : Pin c o ≠ .own x := fun z => by
  have z' : HO.ext _ = HO.own x := z
  cases z'
theorem pin_tup {c : Addr} {xs : List V} : Pin c o ≠ .tup xs := fun z => by
  have z' : HO.ext _ = HO.tup xs := z
  cases z'
theorem pin_frz {c : Addr} {p : Obj} : Pin c o ≠ .frz p u := fun z => by
  have z' : HO.ext _ = HO.frz p u := z
  cases z'
theorem pin_tbl {c : Addr} {ps : Array Value} : Pin c o ≠ .tbl ps := fun z => by
  have z' : HO.ext _ = HO.tbl ps := z
  cases z'
/-- Hm is H without the cells -/
structure Less (C : Addr → Option Obj) (Hm H : Hp) (h : Heap) : Prop where
  inn : ∀ c o, C c = some o → Hm c = none ∧ H c = some (Pin c o) ∧ h.get? c = some o
  out : ∀ b, C b = none → Hm b = H b
theorem less_plus {h : Heap} (f : ∀ c o, C c = some o → H c = none ∧ h.get? c = some o) : Less C H (plus C H) h :=
  ⟨fun c o e => ⟨(f c o e).1, plus_in e, (f c o e).2⟩, fun b e => (plus_out e).symm⟩
theorem less_minus {P : Program} {w : World} {h : Heap} (hok : HOk P w H h) (f : ∀ c o, C c = some o → H c = some (Pin c o)) : Less C (minus C H) H h :=
  ⟨fun c o e => ⟨minus_in e, f c o e, (hok c _ (f c o e)).1⟩, fun b e => minus_out e⟩
end
section
variable {P : Program} {w : World} {C : Addr → Option Obj} {H Hm H' : Hp} {h h' : Heap} {fs : List Addr}
theorem Less.cells (L : Less C Hm H h) {b : Addr} {u : HO} (e : H b = some u) (n : ∀ o, u ≠ Pin b o) : C b = none := by
  cases q : C b with
  | none => rfl
  | some o =>
    rw [(L.inn b o q).2.1] at e
    exact absurd (Option.some.inj e).symm (n o)
theorem Less.hok (L : Less C Hm H h) (k : HOk P w Hm h) : HOk P w H h := fun b u e => by
  cases q : C b with
  | some o =>
    rw [(L.inn b o q).2.1] at e
    cases e
    exact pin_ok (L.inn b o q).2.2
  | none =>
    rw [← L.out b q] at e
    refine (k b u e).stay (fun _ _ _ z => z) (fun c z => ?_) fun c xs z => ?_
    · cases qc : C c with
      | none => rw [← L.out c qc]; exact z
      | some o => rw [(L.inn c o qc).1] at z; cases z
    · cases qc : C c with
      | none => rw [← L.out c qc]; exact z
      | some o => rw [(L.inn c o qc).1] at z; cases z
theorem Less.hokm (L : Less C Hm H h) (k : HOk P w H h) : HOk P w Hm h := fun b u e => by
  have qb : C b = none := by
    cases q : C b with
    | none => rfl
    | some o => rw [(L.inn b o q).1] at e; cases e
  rw [L.out b qb] at e
  refine (k b u e).stay (fun _ _ _ z => z) (fun c z => ?_) fun c xs z => ?_
  · rw [L.out c (L.cells z fun o => Ne.symm pin_own)]; exact z
  · rw [L.out c (L.cells z fun o => Ne.symm pin_tup)]; exact z
/-- what is kept over Hm is kept over H, the cells told again -/
theorem un_plus (L : Less C Hm H h) (u : Un fs [] Hm H' h h') (nf : ∀ c o, C c = some o → c ∉ fs) : Un fs [] H (plus C H') h h' ∧ (∀ c o, C c = some o → h'.get? c = some o ∧ H' c = none) := by
  have cell : ∀ c o, C c = some o → h'.get? c = some o ∧ H' c = none := fun c o e => by
    have i := L.inn c o e
    exact ⟨u.keep c o i.2.2 i.1 (nf c o e) (by simp), u.free c o i.2.2 i.1 (by simp)⟩
  have nn : ∀ {b}, H b = none → C b = none := fun {b} n => by
    cases q : C b with
    | none => rfl
    | some o => rw [(L.inn b o q).2.1] at n; cases n
  refine ⟨⟨fun b o e n hb hx => ?_, fun b o e n hb hx => ?_, fun b o e n hx => ?_, u.there, fun b xs e => ?_, fun b o v e => ?_, fun b ps e => ?_⟩, cell⟩
  · exact u.keep b o e (by rw [L.out b (nn n)]; exact n) hb hx
  · exact u.slot b o e (by rw [L.out b (nn n)]; exact n) hb hx
  · rw [plus_out (nn n)]
    exact u.free b o e (by rw [L.out b (nn n)]; exact n) hx
  · have q := L.cells e fun o => Ne.symm pin_tup
    rw [plus_out q]
    exact u.tups b xs (by rw [L.out b q]; exact e)
  · have q := L.cells e fun o' => Ne.symm pin_frz
    rw [plus_out q]
    exact u.frzs b o v (by rw [L.out b q]; exact e)
  · have q := L.cells e fun o => Ne.symm pin_tbl
    rw [plus_out q]
    exact u.tbls b ps (by rw [L.out b q]; exact e)
/-- what is kept over H, the cells known behind it too, is kept over Hm -/
theorem un_minus (L : Less C Hm H h) (u : Un fs [] H H' h h') (hok : HOk P w H' h') (st : ∀ c o, C c = some o → H' c = some (Pin c o)) : Un fs [] Hm (minus C H') h h' := by
  have cell : ∀ c o, C c = some o → h'.get? c = some o := fun c o e => (hok c _ (st c o e)).1
  refine ⟨fun b o e n hb hx => ?_, fun b o e n hb hx => ?_, fun b o e n hx => ?_, u.there, fun b xs e => ?_, fun b o v e => ?_, fun b ps e => ?_⟩
  · cases q : C b with
    | some o' =>
      have := (L.inn b o' q).2.2
      rw [e] at this
      cases this
      exact cell b o q
    | none => exact u.keep b o e (by rw [← L.out b q]; exact n) hb hx
  · cases q : C b with
    | some o' =>
      have := (L.inn b o' q).2.2
      rw [e] at this
      cases this
      exact ⟨o.slots, cell b o q⟩
    | none => exact u.slot b o e (by rw [← L.out b q]; exact n) hb hx
  · cases q : C b with
    | some o' => exact minus_in q
    | none =>
      rw [minus_out q]
      exact u.free b o e (by rw [← L.out b q]; exact n) hx
  · have q : C b = none := by
      cases q : C b with
      | none => rfl
      | some o => rw [(L.inn b o q).1] at e; cases e
    rw [minus_out q]
    exact u.tups b xs (by rw [← L.out b q]; exact e)
  · have q : C b = none := by
      cases q : C b with
      | none => rfl
      | some o => rw [(L.inn b o q).1] at e; cases e
    rw [minus_out q]
    exact u.frzs b o v (by rw [← L.out b q]; exact e)
  · have q : C b = none := by
      cases q : C b with
      | none => rfl
      | some o => rw [(L.inn b o q).1] at e; cases e
    rw [minus_out q]
    exact u.tbls b ps (by rw [← L.out b q]; exact e)
end
section
variable {P : Program} {w : World} {C : Addr → Option Obj} {H Hm : Hp} {s s' : Shared} {outer : List Env}
theorem ce_plus {Q : VK} {u : Value} (L : Less C Hm H s.heap) (nf : ∀ c o, C c = some o → c ∉ frs outer) (h : CE outer P w Hm s (fun v H' => (∀ c o, C c = some o → H' c = none) → Q v (plus C H')) u s') : CE outer P w H s Q u s' := by
  obtain ⟨v, H', os, bare, un, hok, r, q⟩ := h
  obtain ⟨un', cell⟩ := un_plus L un nf
  exact ⟨v, plus C H', os, bare, un', (less_plus fun c o e => ⟨(cell c o e).2, (cell c o e).1⟩).hok hok, r, q fun c o e => (cell c o e).2⟩
theorem ce_minus {Q : VK} {u : Value} (L : Less C Hm H s.heap) (h : CE outer P w H s (fun v H' => (∀ c o, C c = some o → H' c = some (Pin c o)) ∧ Q v (minus C H')) u s') : CE outer P w Hm s Q u s' := by
  obtain ⟨v, H', os, bare, un, hok, r, st, q⟩ := h
  exact ⟨v, minus C H', os, bare, un_minus L un hok st, (less_minus hok st).hokm hok, r, q⟩
theorem cx_plus {E : XK} {u : Value} (L : Less C Hm H s.heap) (nf : ∀ c o, C c = some o → c ∉ frs outer) (h : L2.CX P w outer Hm s (fun cls d H' => (∀ c o, C c = some o → H' c = none) → E cls d (plus C H')) u s') : L2.CX P w outer H s E u s' := by
  obtain ⟨a, B, H', cls, d, eu, fl, hok, ub, na, os, ag, q⟩ := h
  have nn : ∀ {b}, H b = none → C b = none := fun {b} n => by
    cases q : C b with
    | none => rfl
    | some o => rw [(L.inn b o q).2.1] at n; cases n
  have cell : ∀ c o, C c = some o → B.get? c = some o ∧ H' c = none := fun c o e => by
    have i := L.inn c o e
    exact ⟨ub.keep c o i.2.2 i.1 (nf c o e), ub.free c o i.2.2 i.1⟩
  refine ⟨a, B, plus C H', cls, d, eu, fl, (less_plus fun c o e => ⟨(cell c o e).2, (cell c o e).1⟩).hok hok, ⟨fun b o e n hb => ?_, ub.slot, fun b o e n => ?_, ub.there, fun b xs e => ?_, fun b o v e => ?_, fun b ps e => ?_⟩, ?_, os, ag, q fun c o e => (cell c o e).2⟩
  · exact ub.keep b o e (by rw [L.out b (nn n)]; exact n) hb
  · rw [plus_out (nn n)]
    exact ub.free b o e (by rw [L.out b (nn n)]; exact n)
  · have q := L.cells e fun o => Ne.symm pin_tup
    rw [plus_out q]
    exact ub.tups b xs (by rw [L.out b q]; exact e)
  · have q := L.cells e fun o' => Ne.symm pin_frz
    rw [plus_out q]
    exact ub.frzs b o v (by rw [L.out b q]; exact e)
  · have q := L.cells e fun o => Ne.symm pin_tbl
    rw [plus_out q]
    exact ub.tbls b ps (by rw [L.out b q]; exact e)
  · have qa : C a = none := by
      cases q : C a with
      | none => rfl
      | some o =>
        have h1 := (cell a o q).1
        rw [fl.2.1] at h1
        cases h1
    rw [plus_out qa]
    exact na
end

/-! ### the cells of a frame -/
/-- C: the objects of the cells that env knows, with the values of the names -/
structure CellsAt (env : Env) (N : List Str) (σ : L2.St) (C : Addr → Option Obj) : Prop where
  all : ∀ x c, env.cells.lookup x = some c → ∃ o v, C c = some o ∧ o.data = .cell v
  val : ∀ (i : Nat) (x : Str) (v : V) (c : Addr), N[i]? = some x → σ[i]? = some (some v) → (env.kindOf x = some .cell ∨ env.kindOf x = some .free) → env.cells.lookup x = some c → ∃ o u, C c = some o ∧ o.data = .cell (some u) ∧ RelV v u
section
variable {X : Cx} {pins : List (Addr × Obj)} {σ : L2.St} {H : Hp} {s : Shared}
open Classical in
theorem cells_of (I : Inv X pins σ H s) : ∃ C : Addr → Option Obj, CellsAt X.env X.N σ C ∧ (∀ c o, C c = some o → s.heap.get? c = some o ∧ H c = none ∧ ∃ x, X.env.cells.lookup x = some c) := by
  refine ⟨fun c => if ∃ x, X.env.cells.lookup x = some c then s.heap.get? c else none, ⟨fun x c e => ?_, fun i x v c hn hs hk e => ?_⟩, fun c o e => ?_⟩
  · obtain ⟨v, o, ho, hd⟩ := I.cell x c e
    exact ⟨o, v, by rw [if_pos ⟨x, e⟩]; exact ho, hd⟩
  · obtain ⟨m, hm, hl⟩ := I.loc
    have vis : Vis X.env.scope x := hk.elim (fun k => .inr (.inl k)) (fun k => .inr (.inr k))
    obtain ⟨u, ru, q⟩ := hl i x v hn hs vis
    rcases q with ⟨k', _⟩ | ⟨_, c', e', o, ho, hd⟩
    · rcases hk with k | k <;> rw [k] at k' <;> cases k'
    · rw [e] at e'
      cases e'
      exact ⟨o, u, by rw [if_pos ⟨x, e⟩]; exact ho, hd, ru⟩
  · have e : (if ∃ x, X.env.cells.lookup x = some c then s.heap.get? c else none) = some o := e
    by_cases hx : ∃ x, X.env.cells.lookup x = some c
    · rw [if_pos hx] at e
      obtain ⟨x, ex⟩ := hx
      exact ⟨e, I.freeC x c ex, x, ex⟩
    · rw [if_neg hx] at e
      cases e
end
section
variable {X : Cx} {σ : L2.St} {C : Addr → Option Obj} {HZ : Hp} {s1 : Shared}
/-- the lambda's body, entered anywhere while the cells lie as C tells -/
theorem lam_start3 {A : Around} {outer : List Env} {E : XK} {scope : Scope} {f c' : Addr} {h₁ : Heap} {tk : Nat} (ok : X.Ok) (len : σ.length = X.N.length) (L : LamS X.env.scope scope) (KC : CellsAt X.env X.N σ C) (lie : ∀ c o, C c = some o → s1.heap.get? c = some o) (off : ∀ c o, C c = some o → HZ c = none)
    (e0 : Env0 X.prog X.w X.K X.mg X.base A outer s1 HZ) (hd : A.handled = none) (hns : h₁.Ns s1.heap.objs.size fun y => ([] : List (Str × Value)).reverse.lookup y) (kp : ∀ b o, s1.heap.get? b = some o → h₁.get? b = some o) :
    Inv (lamCx X A outer s1 HZ E scope f c') [] σ HZ { s1 with heap := h₁, toks := tk } := by
  have old : ∀ {x c}, (cloFrom X.env.cells scope.names []).lookup x = some c → X.env.cells.lookup x = some c := fun {x c} lk => by
    rcases cloFrom_mem (PySem.mem_of_lookup lk) with z | ⟨nm, at_⟩
    · exact absurd z (by simp)
    · obtain ⟨d, hl⟩ := L.has ok _ nm rfl
      have hl : X.env.cells.lookup x = some d := hl
      rw [at_, hl]
      rfl
  have seek : ∀ {x}, scope.names.lookup x = some .free → ∃ c, (cloFrom X.env.cells scope.names []).lookup x = some c := fun {x} lk =>
    mem_lookup (cloFrom_has (cells := X.env.cells) (acc := []) (PySem.mem_of_lookup lk))
  have noE : ∀ b : Addr, b ∉ (lamCx X A outer s1 HZ E scope f c').ex := fun b z => nomatch (show b ∈ ([] : List Addr) from z)
  refine ⟨⟨e0.mod, L.kind, rfl, rfl, Nat.le_refl _, fun x y c l1 l2 => ok.inj x y c (old l1) (old l2), fun x kx => ?_, fun x c z => ?_, fun _ => hd, Around.frames_deeper e0.frames, .inr ⟨rfl, rfl⟩, fun b z => (noE b z).elim, e0.bs, e0.bsz, fun b _ _ => noE b, fun b z => (noE b z).elim, e0.funs, e0.frf⟩,
    rfl, e0.bare, Un.kept kp, ⟨_, hns, fun i x v l1 l2 vs => ?_⟩, fun x c lk => ?_, e0.hok.fresh (Nat.le_refl _), fun x c lk => ?_, fun p z => (nomatch (show p ∈ ([] : List (Addr × Obj)) ++ [] from z)), e0.hok.kept kp, len⟩
  · have kx : scope.names.lookup x = some .cell ∨ scope.names.lookup x = some .free := kx
    rcases kx with k | k
    · exact ((L.own _ (PySem.mem_of_lookup k)).2 rfl).elim
    · exact seek k
  · exact nomatch (show false = true from z)
  · have vs : Vis scope x := vs
    rcases vs with k | k | k
    · exact ((L.own _ (PySem.mem_of_lookup k)).1 rfl).elim
    · exact ((L.own _ (PySem.mem_of_lookup k)).2 rfl).elim
    · have kk : X.env.kindOf x = some .cell ∨ X.env.kindOf x = some .free := L.free _ (PySem.mem_of_lookup k) rfl
      obtain ⟨c, lk⟩ := seek k
      obtain ⟨o, u, co, od, ru⟩ := KC.val i x v c l1 l2 kk (old lk)
      exact ⟨u, ru, .inr ⟨.inr k, c, lk, o, kp _ _ (lie c o co), od⟩⟩
  · obtain ⟨o, v, co, od⟩ := KC.all x c (old lk)
    exact ⟨v, o, kp _ _ (lie c o co), od⟩
  · obtain ⟨o, v, co, od⟩ := KC.all x c (old lk)
    exact off c o co
end

/-! ### a closure -/
/-- what a call of the object at f, without arguments, does -/
def Act (P : Program) (w : World) (K : PySem.W.Frag) (mg : Str → Option Value) (base : Heap) (k : Nat) (f : Addr) (tl : Hp → VK → XK → Prop) : Prop :=
  ∀ (A : Around) (outer : List Env) (s : Shared) (H : Hp) (Q : VK) (E : XK), Room k A → Env0 P w K mg base A outer s H → tl H Q E →
    codeAny (model P w) A (.call (.ref f) ⟨[], []⟩) (CR (L2.CX P w) outer P w H s Q E) s
theorem Act.mono {P : Program} {w : World} {K : PySem.W.Frag} {mg : Str → Option Value} {base : Heap} {j k : Nat} {f : Addr} {tl : Hp → VK → XK → Prop} (a : Act P w K mg base j f tl) (h : j ≤ k) : Act P w K mg base k f tl :=
  fun A outer s H Q E r => a A outer s H Q E (r.mono h)
/-- the reading of a lambda's call, wherever it comes: its object and the cells are known, the body's reading holds without them -/
def tlX (f c' : Addr) (fo : Obj) (q : Str) (C : Addr → Option Obj) (σ : L2.St) (t : XK → TE) : Hp → VK → XK → Prop := fun H Q E =>
  H f = some (Pin f fo) ∧ H c' = some (CodeO c' q) ∧ (∀ c o, C c = some o → H c = some (Pin c o)) ∧ t (fun cls d H' => (∀ c o, C c = some o → H' c = none) → E cls d (plus C H')) σ (minus C H) (fun v H' => (∀ c o, C c = some o → H' c = none) → Q v (plus C H'))
section
variable {X : Cx} {σ : L2.St} {C : Addr → Option Obj}
theorem act_ok {f c' : Addr} {pm ctv : Value} {params : Arguments} {body : Expr} {scope : Scope} {k : Nat} {t : XK → TE} (ok : X.Ok) (len : σ.length = X.N.length) (L : LamS X.env.scope scope) (KC : CellsAt X.env X.N σ C)
    (hbind : bindArgs (PySem.W.kla_fn "<lambda>" (X.env.qual ++ "<lambda>") params body scope (cloFrom X.env.cells scope.names []) pm (.ref c') ctv) ⟨[], []⟩ = pure [])
    (hbody : ∀ (A : Around) (outer : List Env) (s : Shared) (H : Hp) (E : XK), Room k (A.deeper (lamEnv X scope s.heap.objs.size f c')) → PE (lamCx X A outer s H E scope f c') body (t E)) :
    Act X.prog X.w X.K X.mg X.base (k + 1) f (tlX f c' (PySem.W.kla_obj "<lambda>" (X.env.qual ++ "<lambda>") params body scope (cloFrom X.env.cells scope.names []) pm c' ctv) (X.env.qual ++ "<lambda>") C σ t) := by
  intro A outer s H Q E hr e0 h
  obtain ⟨hf, hc, hC, ht⟩ := h
  have gf := pin_get e0.hok hf
  obtain ⟨⟨oc, vs, tq, g1, g2, g3⟩, _, _⟩ := e0.hok c' _ hc
  have LS : Less C (minus C H) H s.heap := less_minus e0.hok hC
  have nf : ∀ c o, C c = some o → c ∉ frs outer := fun c o e z => by
    have := e0.frf c z
    rw [hC c o e] at this
    cases this
  have e1 : Env0 X.prog X.w X.K X.mg X.base A outer s (minus C H) := ⟨e0.frames, e0.mod, fun b o e => ⟨(e0.bs b o e).1, by
      cases q : C b with
      | some o' => exact minus_in q
      | none => rw [minus_out q]; exact (e0.bs b o e).2⟩, e0.bsz, e0.funs, fun b hb => by
      cases q : C b with
      | some o' => exact minus_in q
      | none => rw [minus_out q]; exact e0.frf b hb, LS.hokm e0.hok, e0.bare⟩
  have lim : s.heap.NoLimit := e0.mod.nolimit.keeps fun b o e => (e0.bs b o e).1
  refine PySem.W.kla_callFunE hr.depth gf rfl L.co L.gen rfl ⟨c', oc, vs, tq, rfl, g1, g2, g3⟩ ?_
  rw [hbind]
  refine wpAny_pure (wpAny_newFunctionEnv (fun y hy => (L.own y hy).2) (fun y hy => nomatch hy) (fun h₁ hns hsb => ⟨lim.fresh _ hsb, ?_⟩) L.kind)
  show codeAny _ _ (.expr body (lamEnv X scope s.heap.objs.size f c')) _ _
  have kp : ∀ b o, s.heap.get? b = some o → h₁.get? b = some o := fun b o g => hsb.extBut b o (Nat.ne_of_lt (Heap.lt_size g)) (Heap.get?_push_of_some _ g)
  have J : Inv (lamCx X A outer s (minus C H) (fun cls d H' => (∀ c o, C c = some o → H' c = none) → E cls d (plus C H')) scope f c') [] σ (minus C H) { s with heap := h₁, toks := s.toks + ([] : List (Str × Value)).length } :=
    lam_start3 ok len L KC (fun c o e => (LS.inn c o e).2.2) (fun c o e => (LS.inn c o e).1) e1 hr.hd hns kp
  refine PySem.W.kla_codeExpr (wpAny_mono ((hbody A outer s (minus C H) _ (hr.deeper _)).run [] _ _ _ _ J ht) (fun v s' hq => ?_) fun e s' hq => ?_)
  · obtain ⟨v', H', J', rv, q⟩ := hq
    exact ce_plus LS nf ⟨v', H', J'.os, J'.bare, J'.base, J'.hok, rv, q⟩
  · exact wpAny_mono hq (fun _ s2 z => cx_plus LS nf z) fun e2 s2 z => cx_plus LS nf z
end

/-! ### a lambda is made -/
section
variable {X : Cx} {pins : List (Addr × Obj)} {σ : L2.St} {H : Hp} {s : Shared}
theorem pin_lay {h' : Heap} {o : Obj} {tk : Nat} (nf : o.isFreed = false) (I : Inv X pins σ H { s with heap := h', toks := tk }) : Inv X pins σ (upd H h'.objs.size (Pin h'.objs.size o)) { s with heap := h'.push o, toks := tk } :=
  I.laid (t' := tk) (fun b u g => Heap.get?_push_of_some _ g) (Nat.le_refl _) (pin_ok (Heap.get?_push_size _ nf))
theorem new_same {p : Addr} {o : HO} (n : H p = none) : ∀ b u, H b = some u → upd H p o b = some u := fun b u g => by
  rw [upd_ne (ne_of_none g n)]
  exact g
/-- a lambda is made, and known from then on -/
theorem lam_make3 {T : List (Addr × Str)} {c P : Addr} {params : Arguments} {body : Expr} {scope : Scope} {pos : Pos} {E : Value → Shared → Prop} {Q : Value → Shared → Prop} (I : Inv X pins σ H s) (TB : TabB X.base X.mg c P) (hcode : X.env.code = .ref c)
    (inT : (P, X.env.qual ++ "<lambda>") ∈ T) (one : ∀ p ∈ T, p.1 = P → p.2 = X.env.qual ++ "<lambda>") (tabs : Tabs T H) (nodef : defaultsOf params X.env = ([], [])) (free : ∀ y ∈ scope.names, y.2 = .free → ∃ c, X.env.cells.lookup y.1 = some c)
    (h : ∀ (f c' : Addr) (pm ctv : Value) (H1 : Hp) (s' : Shared), Inv X pins σ H1 s' → ExtN H H1 → Tabs T H1 → H f = none →
      H1 f = some (Pin f (PySem.W.kla_obj "<lambda>" (X.env.qual ++ "<lambda>") params body scope (cloFrom X.env.cells scope.names []) pm c' ctv)) → H1 c' = some (CodeO c' (X.env.qual ++ "<lambda>")) → Q (.ref f) s') :
    wpAny (model X.prog X.w) X.A (eval (.Lambda params body scope pos) X.env) Q E s := by
  obtain ⟨ps, tP, tOk, tAll⟩ := tabs _ inT
  have bP : s.heap.BuiltinsAt X.mg P := TB.bm.keeps I.bk
  have gP : s.heap.get? P = some { cls := .none, data := .fields ps } := I.hok P _ tP
  refine PySem.W.kla_eval nodef ?_
  cases among : codeAmong pos ps.toList with
  | some cv =>
    obtain ⟨c', rfl, known⟩ := tAll pos cv among
    refine PySem.W.kla_makeFunctionHit (mg := X.mg) (c := c) (P := P) (ps := ps) (closure_ok free) I.ok.glob (I.mod.glob.keeps I.bk) hcode (TB.code.keeps I.bk) gP tOk among bP fun ctv h' tk kept bigger => ?_
    have J : Inv X pins σ H { s with heap := h', toks := tk } := I.kept kept
    have n := J.hok.fresh (Nat.le_refl h'.objs.size)
    exact h _ c' _ ctv _ _ (pin_lay rfl J) (ExtN.of (new_same n)) (tabs.ext (new_same n)) n upd_same (new_same n _ _ known)
  | none =>
    refine PySem.W.kla_makeFunction (mg := X.mg) (c := c) (P := P) (ps := ps) (closure_ok free) I.ok.glob (I.mod.glob.keeps I.bk) hcode (TB.code.keeps I.bk) gP tOk among TB.gP bP fun c' ctv h' tk but ge lt rc tab => ?_
    obtain ⟨c2, oc, vs, tq, ec, g1, g2, g3⟩ := rc
    cases ec
    have J := inv_table (q := X.env.qual ++ "<lambda>") (t' := tk) (more := #[rawInt pos.line, rawInt pos.col, .ref c']) (h' := h') I tP (fun b o nb g => but b o nb g) tab ge ⟨oc, vs, tq, g1, g2, g3⟩
    have nc : H c' = none := I.hok.fresh ge
    have n := J.hok.fresh (Nat.le_refl h'.objs.size)
    have nH : H h'.objs.size = none := I.hok.fresh (Nat.le_trans ge (Nat.le_of_lt lt))
    have E1 : ExtN H (upd (upd H P (.tbl (ps ++ #[rawInt pos.line, rawInt pos.col, .ref c']))) c' (CodeO c' (X.env.qual ++ "<lambda>"))) := fun b u g no => by
      have nP : b ≠ P := fun z => no ps (Option.some.inj (g.symm.trans (z ▸ tP)))
      rw [upd_ne (ne_of_none g nc), upd_ne nP]
      exact g
    have T1 : Tabs T (upd (upd H P (.tbl (ps ++ #[rawInt pos.line, rawInt pos.col, .ref c']))) c' (CodeO c' (X.env.qual ++ "<lambda>"))) := fun p hp => by
      by_cases eP : p.1 = P
      · rw [one p hp eP, eP]
        refine ⟨ps ++ #[rawInt pos.line, rawInt pos.col, .ref c'], by rw [upd_ne (ne_of_none tP nc), upd_same], ?_, fun pos' cv hcv => ?_⟩
        · rw [Array.toList_append]
          exact PySem.TriplesOk_snoc _ _ _ _ tOk
        · rw [Array.toList_append] at hcv
          rcases among_app _ tOk hcv with z | z
          · obtain ⟨d, ed, kd⟩ := tAll pos' cv z
            exact ⟨d, ed, E1 _ _ kd codeO_ne⟩
          · exact ⟨c', z, upd_same⟩
      · obtain ⟨qs, b1, b2, b3⟩ := tabs p hp
        refine ⟨qs, by rw [upd_ne (ne_of_none b1 nc), upd_ne eP]; exact b1, b2, fun pos' cv hcv => ?_⟩
        obtain ⟨d, ed, kd⟩ := b3 pos' cv hcv
        exact ⟨d, ed, E1 _ _ kd codeO_ne⟩
    refine h _ c' _ ctv _ _ (pin_lay rfl J) (fun b u g no => new_same n _ _ (E1 b u g no)) (T1.ext (new_same n)) nH upd_same (new_same n _ _ upd_same)
end

/-- a def's object -/
def FnObj (o : Obj) : Prop := ∃ (oc : Value) (od : Option Addr) (fd : FuncData) (osl : Array (Option Value)), o = ⟨oc, od, .func fd, osl⟩
/-- the expression lambda: body -/
def tLam3 (X : Cx) (T : List (Addr × Str)) (k : Nat) (t : XK → TE) : TE := fun σ H Q => Tabs T H ∧ ∀ (f : Addr) (fo : Obj) (c' : Addr) (H1 : Hp), ExtN H H1 → Tabs T H1 → H f = none → H1 f = some (Pin f fo) → H1 c' = some (CodeO c' (X.env.qual ++ "<lambda>")) →
  FnObj fo → (∀ C, CellsAt X.env X.N σ C → Act X.prog X.w X.K X.mg X.base (k + 1) f (tlX f c' fo (X.env.qual ++ "<lambda>") C σ t)) → Q (.ref f) H1
/-- a call of v, without arguments, from here -/
def Does (P : Program) (w : World) (K : PySem.W.Frag) (mg : Str → Option Value) (base : Heap) (k : Nat) (v : V) (H : Hp) (Q : VK) (E : XK) : Prop :=
  ∃ (f : Addr) (fo : Obj) (tl : Hp → VK → XK → Prop), v = .ref f ∧ FnObj fo ∧ H f = some (Pin f fo) ∧ Act P w K mg base k f tl ∧ tl H Q E
theorem Does.mono {P : Program} {w : World} {K : PySem.W.Frag} {mg : Str → Option Value} {base : Heap} {j k : Nat} {v : V} {H : Hp} {Q : VK} {E : XK} (d : Does P w K mg base j v H Q E) (h : j ≤ k) : Does P w K mg base k v H Q E := by
  obtain ⟨f, fo, tl, e, n, p, a, t⟩ := d
  exact ⟨f, fo, tl, e, n, p, a.mono h, t⟩
/-- x(), x the slot i -/
def tAct (P : Program) (w : World) (K : PySem.W.Frag) (mg : Str → Option Value) (base : Heap) (i k : Nat) (E : L2.St → XK) : TE := fun σ H Q => ∃ v, σ[i]? = some (some v) ∧ Does P w K mg base k v H Q (E σ)
/-- a def's call, the caller's cells known while it runs -/
def tCallT (X : Cx) (sp : Sp) (t : TA) : TE := fun σ H Q => t σ H fun vs H1 => ∀ C, CellsAt X.env X.N σ C → (∀ c o, C c = some o → H1 c = none) →
  sp vs (plus C H1) (fun v H' => (∀ c o, C c = some o → H' c = some (Pin c o)) ∧ Q v (minus C H')) C8.E0
section
variable {X : Cx}
theorem pe_lam {T : List (Addr × Str)} {c P : Addr} {k : Nat} {params : Arguments} {body : Expr} {scope : Scope} {t : XK → TE} {pos : Pos} (TB : TabB X.base X.mg c P) (hcode : X.env.code = .ref c)
    (inT : (P, X.env.qual ++ "<lambda>") ∈ T) (one : ∀ p ∈ T, p.1 = P → p.2 = X.env.qual ++ "<lambda>") (L : LamS X.env.scope scope) (nodef : defaultsOf params X.env = ([], []))
    (hbind : ∀ (q : Str) (cl : List (Str × Addr)) (pm cv ctv : Value), bindArgs (PySem.W.kla_fn "<lambda>" q params body scope cl pm cv ctv) ⟨[], []⟩ = pure [])
    (hbody : ∀ (A : Around) (outer : List Env) (s : Shared) (H : Hp) (E : XK) (f c' : Addr), Room k (A.deeper (lamEnv X scope s.heap.objs.size f c')) → PE (lamCx X A outer s H E scope f c') body (t E)) :
    PE X (.Lambda params body scope pos) (tLam3 X T k t) := by
  refine ⟨fun pins s σ H Q I h => ?_⟩
  obtain ⟨tabs, h⟩ := h
  refine lam_make3 I TB hcode inT one tabs nodef (L.has I.ok) fun f c' pm ctv H1 s1 I1 x1 t1 n1 k1 k2 => ?_
  exact ⟨.ref f, H1, I1, rfl, h f _ c' H1 x1 t1 n1 k1 k2 ⟨_, _, _, _, rfl⟩ fun C KC => act_ok I1.ok I1.len L KC (hbind _ _ _ _ _) fun A outer s H E r => hbody A outer s H E f c' r⟩
theorem pe_act3 {i k : Nat} {a : Str} {E : L2.St → XK} {p1 p2 : Pos} (hr : Room k X.A) (hx : ∀ σ, PassesAt (L2.CX X.prog X.w) X σ (E σ)) (hN : X.N[i]? = some a) (hv : Vis X.env.scope a)
    (hd : (a == ("__debug__" : Str)) = false := by decide) (hcd : (a == ("__classdict__" : Str)) = false := by decide) : PE X (.Call (.Name a p1) [] [] p2) (tAct X.prog X.w X.K X.mg X.base i k E) := by
  refine ⟨fun pins s σ H Q I h => ?_⟩
  obtain ⟨w, hs, f, fo, tl, ew, ⟨oc, od, fd, osl, efo⟩, hf, act, ht⟩ := h
  subst ew
  refine wpAny_Call_Name_kw (thn ((pe_var (pos := p1) (i := i) hN hv hd hcd).run pins s σ H (fun v H1 => v = .ref f ∧ H1 = H) I ⟨.ref f, hs, rfl, rfl⟩) fun u s1 hu => ?_)
  obtain ⟨v, H1, I1, rv, ev, eH⟩ := hu
  subst ev
  rw [eH] at I1
  obtain rfl : u = Value.ref f := rv
  have gf := pin_get I1.hok hf
  refine PySem.W.callWith_F0 ⟨oc, od, fd, osl, by rw [gf, efo]⟩ ?_
  refine wpAny_call (codeAny_mono (act X.A X.stack s1 H Q (E σ) hr I1.env0 ht) fun r s2 hq => ?_)
  cases r with
  | error e => exact hx σ pins H s1 e s2 I1 hq
  | ok fl =>
    cases fl with
    | ret u => exact I1.after hq
    | next => exact False.elim hq
    | brk => exact False.elim hq
    | cont => exact False.elim hq
/-- f(..), the caller's cells known while it runs -/
theorem pe_callT {k : Nat} {f : Addr} {fd : FuncData} {ps : List Str} {sp : Sp} {x : Str} {p pos : Pos} {e : Expr} {es : List Expr} {t : TA} (F : FnOk X.prog X.w X.K X.mg X.base C8.CX0 k f fd ps sp) (hr : Room k X.A) (hg : Gl X x) (hm : X.mg x = some (.ref f)) (hk : PySem.W.keepIn X.K (.ref f) = true)
    (hb : Binds X.K fd ps []) (hfn : ∀ x, X.fn x = true) (ha : PA X (e :: es) t) (hdb : (x == ("__debug__" : Str)) = false := by decide) (he : starEach (e :: es) X.env = (false, eval e X.env) :: starEach es X.env := by rfl)
    (hpl : (backTo pos (starEach es X.env)).any (·.1) = false := by rfl) : PE X (.Call (.Name x p) (e :: es) [] pos) (tCallT X sp t) := by
  refine ⟨fun pins s σ H Q I h => ?_⟩
  refine wpAny_Call_Name_kw (ld_glob I hg hm ?_ hdb)
  refine PySem.W.callWith_K (h₀ := X.base) I.ok.mod.kin hk (thn (ha.run pos pins s σ H _ I h) fun us s1 ⟨vs, H1, I1, r, q⟩ => ⟨I1.kIn, ?_⟩) he hpl
  obtain ⟨C, KC, hC⟩ := cells_of I1
  have q := q C KC fun c o e => (hC c o e).2.1
  have LS : Less C H1 (plus C H1) s1.heap := less_plus fun c o e => ⟨(hC c o e).2.1, (hC c o e).1⟩
  have big : ∀ c o, C c = some o → X.s_0.heap.objs.size ≤ c := fun c o e => by
    obtain ⟨y, ey⟩ := (hC c o e).2.2
    exact I1.ok.cab y c (hfn y) ey
  have none_of : ∀ b, b < X.s_0.heap.objs.size → C b = none := fun b lt => by
    cases z : C b with
    | none => rfl
    | some o => exact absurd (Nat.lt_of_lt_of_le lt (big b o z)) (Nat.lt_irrefl _)
  have e0 := I1.env0
  have e1 : Env0 X.prog X.w X.K X.mg X.base X.A X.stack s1 (plus C H1) := ⟨e0.frames, e0.mod, fun b o g => ⟨(e0.bs b o g).1, by
      rw [plus_out (none_of b (Nat.lt_of_lt_of_le (Heap.lt_size g) I1.ok.bsz))]
      exact (e0.bs b o g).2⟩, e0.bsz, e0.funs, fun b hb => by
      have nb : C b = none := by
        rcases List.mem_cons.mp (I1.stkSub b hb) with z | z
        · rw [z]
          cases w : C X.env.locals with
          | none => rfl
          | some o =>
            obtain ⟨y, ey⟩ := (hC _ o w).2.2
            exact absurd rfl (I1.cne y _ ey)
        · obtain ⟨_, o, ho, _⟩ := I1.ok.funs.mem z
          exact none_of b (Heap.lt_size ho)
      rw [plus_out nb]
      exact e0.frf b hb, LS.hok e0.hok, e0.bare⟩
  have hl : us.length = ps.length := by rw [← r.length]; exact F.len _ _ _ _ q
  have b := hb s1 us I1.kIn (by rw [List.append_nil]; exact hl)
  rw [List.append_nil] at b
  refine wpAny_call (codeAny_mono (F.run X.A X.stack s1 (plus C H1) ⟨us, []⟩ us vs _ C8.E0 hr e1 b r q) fun rr s2 hq => ?_)
  cases rr with
  | error e => exact (show False from hq).elim
  | ok fl =>
    cases fl with
    | ret u => exact I1.after (ce_minus LS hq)
    | next => exact False.elim hq
    | brk => exact False.elim hq
    | cont => exact False.elim hq
end
end Clo

set_option Elab.async false
set_option linter.all false
set_option maxRecDepth 100000
/-! several except clauses, each with a name (the same one) -/
namespace Clo
open PySem PySem.Spec PyProof.Rows L2 LamX
/-- the ends of a suite behind which its name is gone -/
def goneD (i : Nat) (D : Ends) : Ends where
  nx := fun τ G => D.nx (τ.set i none) G
  rt := D.rt
  bk := fun τ G => D.bk (τ.set i none) G
  ct := fun τ G => D.ct (τ.set i none) G
/-- what the clauses wish, one behind the other; the caught one stands in slot i -/
def wNam (K : PySem.W.Frag) (i : Nat) (Wout : WX) (D : Ends) : List (Value × (Addr → Value → Option Addr → TS)) → WX
  | [] => Wout
  | (k, ts) :: more => fun cls d τ G => ∃ b, PySem.W.exmOne K cls k = some b ∧ (b = true → ∀ a, G a = none → ts a cls d (goneD i D) (τ.set i (some (.ref a))) G) ∧ (b = false → wNam K i Wout D more cls d τ G)
inductive HdsN (X : Cx) (n : Str) : List ExceptHandler → List (Value × (Addr → Value → Option Addr → TS)) → Prop
  | nil : HdsN X n [] []
  | cons {x : Str} {k : Value} {ts : Addr → Value → Option Addr → TS} {st : Stmt} {sts : List Stmt} {p1 p2 : Pos} {more : List ExceptHandler} {l : List (Value × (Addr → Value → Option Addr → TS))} (nm : Names X x k)
      (su : ∀ (a : Addr) (oe : Obj) (cls : Value) (d : Option Addr) (pn : List (Addr × Obj)), Zc cls d oe → (∃ vs, oe.data = .fields vs) → PSs (X.suite a ((a, oe) :: pn)) (st :: sts) (ts a cls d)) (r : HdsN X n more l) :
      HdsN X n (.ExceptHandler (some (.Name x p1)) (some n) (st :: sts) p2 :: more) ((k, ts) :: l)
section
variable {X : Cx} {body : List Stmt} {h₀ : ExceptHandler} {hds : List ExceptHandler} {l : List (Value × (Addr → Value → Option Addr → TS))} {pos : Pos} {tb : WX → TS} {Wout : WX} {n : Str} {i : Nat}
theorem ps_try_nam (st : X.stack = X.env :: X.outer) (fr : X.env.frame = some X.env.locals) (nd : X.N.Nodup) (at_ : X.N[i]? = some n) (lc : X.env.kindOf n = some .local) (tk : Takes X Wout)
    (hb : ∀ (W : WX) (pn : List (Addr × Obj)) (xe : Value → Shared → Prop), Takes (X.tr pn xe) W → PassesOwn (model X.prog X.w) X.A X.env xe → PSs (X.tr pn xe) body (tb W)) (hh : HdsN X n (h₀ :: hds) l) :
    PS X (.Try body (h₀ :: hds) [] [] pos) (fun D τ G => tb (wNam X.K i Wout D l) D τ G) := by
  refine ⟨fun pins s τ G D I hyp => ?_⟩
  have ok := I.ok
  have frames : X.A.frames = some (X.env :: X.outer) := by
    rw [ok.frames, st]
  refine wpAny_Try_except (wpAny_mono ((hb (wNam X.K i Wout D l) (X.pn ++ pins)
    (fun e s₁ => wpAny (model X.prog X.w) X.A (noteFrame e X.env) (fun _ s₂ => wpAny (model X.prog X.w) X.A (setFlight e none)
      (fun _ s₃ => wpAny (model X.prog X.w) X.A (handleBy e X.env (h₀ :: hds)) (SP X pins D) X.xe s₃) X.xe s₂) X.xe s₁)
    (fun u s' air => ?_) PassesOwn.looking).run [] s τ G D (I.toTry _) hyp) (fun f s1 z => ?_) (fun e s1 z => z))
  · obtain ⟨a, B, sI, pins', τ', G', cls, d, rfl, J', below, up, sky, new, os, bare, wish⟩ := air
    have J : Inv X pins τ' G' sI := J'.ofTry ok
    have sky1 : Sky B (X.env :: X.outer) a (Zc cls d) X.env.locals s'.heap := by
      rw [← st]
      exact sky
    show wpAny (model X.prog X.w) X.A (noteFrame (.ref a) X.env) _ _ _
    refine Sky.land Zc.steady frames fr sky1 fun h3 fly up3 => ?_
    have J3 : Inv X pins τ' G' { s' with heap := h3 } := J.landed below fly.1 (up.trans up3) os bare
    obtain ⟨oe, vs, ge, ze, de⟩ := fly.there
    have noFrame : a ∉ frs (X.env :: X.outer) := fun m => by
      obtain ⟨_, o', g', other⟩ := fly.2.2.1.mem m
      rw [ge] at g'
      cases g'
      exact other _ de
    have noLoc : a ≠ X.env.locals := fun z => noFrame (List.mem_filterMap.mpr ⟨X.env, List.mem_cons_self, by rw [fr, z]⟩)
    have noOut : a ∉ X.fs := fun m => by
      obtain ⟨e, me, q⟩ := List.mem_filterMap.mp m
      exact noFrame (List.mem_filterMap.mpr ⟨e, List.mem_cons_of_mem _ me, q⟩)
    have S3 := J3.suite ge de new noLoc noOut
    have go : ∀ {hs : List ExceptHandler} {ll : List (Value × (Addr → Value → Option Addr → TS))}, HdsN X n hs ll → wNam X.K i Wout D ll cls d τ' G' → wpAny (model X.prog X.w) X.A (handleBy (.ref a) X.env hs) (SP X pins D) X.xe { s' with heap := h3 } := by
      intro hs ll hk
      induction hk with
      | nil =>
        intro wish
        refine wpAny_handleBy_nil ?_
        obtain ⟨_, _, _, oe', vs', T, oT, tt, ge', _, de', g1, _⟩ := id fly
        have out : wpAny (model X.prog X.w) X.A (setFlight (.ref a) X.env.frame) (fun _ s4 => wpAny (model X.prog X.w) X.A (throw (.ref a) : Sem Flow) (SP X pins D) X.xe s4) X.xe { s' with heap := h3 } := by
          rw [fr]
          exact HandSPX.setFlight_upZ fly fun h4 hh4 up4 => wpAny_throw (tk _ _ ⟨a, B, sI, pins, τ', G', cls, d, rfl, J, below, (up.trans up3).trans up4, .inr (.inr (by rw [st]; exact hh4)), new, os, bare, wish⟩)
        unfold PySem.passOn
        refine wpAny_bind (wpAny_field ge' de' g1 ?_)
        rw [if_neg (show ¬ (Value.ref T == Value.none) = true from by simp)]
        first
          | exact wpAny_bind (wpAny_pure (wpAny_bind out))
          | exact wpAny_bind out
      | @cons x k ts st0 sts p1 p2 more ll nm su r ih =>
        intro wish
        obtain ⟨b, decided, yes, no⟩ := wish
        refine wpAny_handleBy_cons (codeAny_handlers_test ?_) (by intro q; cases q)
        have tyOf : PySem.W.Looks (model X.prog X.w) h3 (typeOf (.ref a)) cls := fun A Q E s k q => wpAny_typeOf_ref (k _ _ ge) (by rw [ze.1]; exact q)
        have named : ∀ {Q : Value → Shared → Prop} {E : Value → Shared → Prop}, Q k { s' with heap := h3 } → wpAny (model X.prog X.w) (X.A.mark (some (.ref a))) (eval (.Name x p1) X.env) Q E { s' with heap := h3 } := fun {Q E} q => by
          obtain ⟨g, dbg, m | ⟨m, v, nn⟩⟩ := nm
          · exact ld_glob (X := X.suite a ((a, oe) :: (X.pn ++ pins))) S3 g m q dbg
          · exact ld_blt (X := X.suite a ((a, oe) :: (X.pn ++ pins))) S3 g m v q nn dbg
        refine named ((PySem.W.exm_one (M := model X.prog X.w) (J3.kIn) tyOf decided).here ?_)
        cases b with
        | false =>
          show wpAny _ X.A (handleBy (.ref a) X.env more) _ _ _
          exact ih (no rfl)
        | true =>
          refine codeAny_handlers_suite_as (HandSPX.lands_againZ fly fun h4 fly4 up4 => ?_)
          have J4 : Inv X pins τ' G' { s' with heap := h4 } := J.landed below fly4.1 ((up.trans up3).trans up4) os bare
          obtain ⟨oe4, vs4, ge4, ze4, de4⟩ := fly4.there
          refine store_ok (X := X.suite a ((a, oe4) :: (X.pn ++ pins))) (v := .ref a) (J4.suite ge4 de4 new noLoc noOut) nd at_ (.inl lc) rfl (fun s5 S5 => ?_) (.inr lc)
          refine wpAny_mono ((su a oe4 cls d (X.pn ++ pins) ze4 ⟨_, de4⟩).run [] s5 _ G' _ S5 (yes rfl a new)) (fun f s6 z => ?_) (fun _ _ z => z.elim)
          have away : ∀ {τ6 : L2.St} {G6 : Hp} {Q : Shared → Prop}, Inv (X.suite a ((a, oe4) :: (X.pn ++ pins))) [] τ6 G6 s6 → (∀ s7, Inv X pins (τ6.set i none) G6 s7 → Q s7) →
              wpAny (model X.prog X.w) X.A (do bindName X.env n .none; unbindBehindTheSuite X.env n p2) (fun _ s7 => Q s7) X.xe s6 := fun S6 hq => gone_ok (S6.unsuite ok) nd at_ lc hq
          cases f with
          | next =>
            obtain ⟨τ6, G6, S6, q6⟩ := z
            exact away S6 fun s7 J7 => ⟨_, _, J7, q6⟩
          | brk =>
            obtain ⟨τ6, G6, S6, q6⟩ := z
            exact away S6 fun s7 J7 => ⟨_, _, J7, q6⟩
          | cont =>
            obtain ⟨τ6, G6, S6, q6⟩ := z
            exact away S6 fun s7 J7 => ⟨_, _, J7, q6⟩
          | ret u =>
            obtain ⟨v6, τ6, G6, S6, r6, q6⟩ := z
            exact away S6 fun s7 J7 => ⟨_, _, _, J7, r6, q6⟩
    exact go hh wish
  · cases f with
    | next =>
      obtain ⟨τ', G', J', q⟩ := z
      exact wpAny_execs_nil ⟨τ', G', J'.ofTry ok, q⟩
    | brk =>
      obtain ⟨τ', G', J', q⟩ := z
      exact ⟨τ', G', J'.ofTry ok, q⟩
    | cont =>
      obtain ⟨τ', G', J', q⟩ := z
      exact ⟨τ', G', J'.ofTry ok, q⟩
    | ret u =>
      obtain ⟨v, τ', G', J', r, q⟩ := z
      exact ⟨v, τ', G', J'.ofTry ok, r, q⟩
end
end Clo

set_option Elab.async false
set_option linter.all false
set_option maxRecDepth 100000
namespace My
open PySem L2
/-! ### two values that are the same in all their parts -/
def flatv : V → Bool
  | .non => true
  | .bl _ => true
  | .int _ => true
  | .str _ => true
  | _ => false
def Tw (w : World) (K : PySem.W.Frag) (H : Hp) : Nat → V → V → Prop
  | 0, _, _ => False
  | n + 1, v, u => (v = u ∧ flatv v = true) ∨ (∃ (a : Addr) (kvs : List (Odd.OK × V)), v = .ref a ∧ u = .ref a ∧ Odd.OR w H a kvs ∧ Odd.Tpl H kvs ∧ Odd.NdK kvs) ∨
    (∃ (a b : Addr) (xs ys : List V), v = .ref a ∧ u = .ref b ∧ SqT K H a xs ∧ SqT K H b ys ∧ xs.length ≤ 1000 ∧ Paired (Tw w K H n) xs ys) ∨
    (∃ (a b : Addr) (xs ys : List V), v = .ref a ∧ u = .ref b ∧ SqL K H a xs ∧ SqL K H b ys ∧ xs.length ≤ 1000 ∧ Paired (Tw w K H n) xs ys)
theorem paired_imp {α β : Type} {r s : α → β → Prop} (h : ∀ x y, r x y → s x y) : ∀ {xs : List α} {ys : List β}, Paired r xs ys → Paired s xs ys
  | _, _, .nil => .nil
  | _, _, .cons a b => .cons (h _ _ a) (paired_imp h b)
theorem paired_at {α β : Type} {r : α → β → Prop} : ∀ {xs : List α} {ys : List β} {i : Nat} {x : α} {y : β}, Paired r xs ys → xs[i]? = some x → ys[i]? = some y → r x y
  | _, _, _, _, _, .nil, e, _ => by simp at e
  | _, _, 0, _, _, .cons a _, e1, e2 => by
    simp at e1 e2
    rw [← e1, ← e2]
    exact a
  | _, _, i + 1, _, _, .cons _ b, e1, e2 => paired_at (i := i) b (by simpa using e1) (by simpa using e2)
variable {w : World} {K : PySem.W.Frag}
theorem tw_same {H H' : Hp} (s : Same H H') : ∀ {n : Nat} {v u : V}, Tw w K H n v u → Tw w K H' n v u
  | 0, _, _, h => h
  | n + 1, v, u, h => by
    rcases h with h | ⟨a, kvs, e1, e2, ha, h1, h2⟩ | ⟨a, b, xs, ys, e1, e2, sa, sb, hl, hp⟩ | ⟨a, b, xs, ys, e1, e2, sa, sb, hl, hp⟩
    · exact .inl h
    · exact .inr (.inl ⟨a, kvs, e1, e2, ha.same s, h1.same s, h2⟩)
    · exact .inr (.inr (.inl ⟨a, b, xs, ys, e1, e2, seqT_same s sa, seqT_same s sb, hl, paired_imp (fun _ _ => tw_same s) hp⟩))
    · exact .inr (.inr (.inr ⟨a, b, xs, ys, e1, e2, s.seq sa, s.seq sb, hl, paired_imp (fun _ _ => tw_same s) hp⟩))
theorem tw_mono {H : Hp} : ∀ {n m : Nat} {v u : V}, n ≤ m → Tw w K H n v u → Tw w K H m v u
  | 0, _, _, _, _, h => h.elim
  | n + 1, 0, _, _, hm, _ => absurd hm (by omega)
  | n + 1, m + 1, v, u, hm, h => by
    have le : n ≤ m := by omega
    rcases h with h | h | ⟨a, b, xs, ys, e1, e2, sa, sb, hl, hp⟩ | ⟨a, b, xs, ys, e1, e2, sa, sb, hl, hp⟩
    · exact .inl h
    · exact .inr (.inl h)
    · exact .inr (.inr (.inl ⟨a, b, xs, ys, e1, e2, sa, sb, hl, paired_imp (fun _ _ => tw_mono le) hp⟩))
    · exact .inr (.inr (.inr ⟨a, b, xs, ys, e1, e2, sa, sb, hl, paired_imp (fun _ _ => tw_mono le) hp⟩))
theorem widAll_cons {d : PyData} {ds : List PyData} (h : widAll (d :: ds) = true) : widD d = true ∧ widAll ds = true := by
  unfold widAll at h
  exact Bool.and_eq_true_iff.mp h
mutual
theorem tw_dp {H : Hp} : ∀ (D : PyData) (v u : V), widD D = true → Dp K H v D → Dp K H u D → Tw w K H (D.depth + 1) v u
  | .none, _, _, _, h, g => by cases h; cases g; exact .inl ⟨rfl, rfl⟩
  | .bool b, _, _, _, h, g => by cases h; cases g; exact .inl ⟨rfl, rfl⟩
  | .int i, _, _, _, h, g => by cases h; cases g; exact .inl ⟨rfl, rfl⟩
  | .str x, _, _, _, h, g => by cases h; cases g; exact .inl ⟨rfl, rfl⟩
  | .list ds, _, _, s, h, g => by
    unfold widD at s
    obtain ⟨s1, s2⟩ := Bool.and_eq_true_iff.mp s
    cases h with
    | lst hs ha =>
    cases g with
    | lst gs ga =>
      simp only [PyData.depth]
      exact .inr (.inr (.inr ⟨_, _, _, _, rfl, rfl, hs, gs, by rw [dpAll_len ha]; exact of_decide_eq_true s1, tw_dpAll ds _ _ s2 ha ga⟩))
  | .tuple ds, _, _, s, h, g => by
    unfold widD at s
    obtain ⟨s1, s2⟩ := Bool.and_eq_true_iff.mp s
    cases h with
    | tup hs ha =>
    cases g with
    | tup gs ga =>
      simp only [PyData.depth]
      exact .inr (.inr (.inl ⟨_, _, _, _, rfl, rfl, hs, gs, by rw [dpAll_len ha]; exact of_decide_eq_true s1, tw_dpAll ds _ _ s2 ha ga⟩))
  | .dict _, _, _, _, h, _ => by cases h
theorem tw_dpAll {H : Hp} : ∀ (ds : List PyData) (xs ys : List V), widAll ds = true → DpAll K H xs ds → DpAll K H ys ds → Paired (Tw w K H (PyData.depthAll ds + 1)) xs ys
  | [], _, _, _, h, g => by cases h; cases g; exact .nil
  | d :: ds, _, _, s, h, g => by
    obtain ⟨s1, s2⟩ := widAll_cons s
    cases h with
    | cons h1 h2 =>
    cases g with
    | cons g1 g2 =>
      have a := tw_dp d _ _ s1 h1 g1
      have b := tw_dpAll ds _ _ s2 h2 g2
      simp only [PyData.depthAll]
      exact .cons (tw_mono (by omega) a) (paired_imp (fun _ _ => tw_mono (by omega)) b)
end

/-! ### rules -/
/-- of a kind, wherever all stays -/
structure TyS (K : PySem.W.Frag) (H : Hp) (v : V) (g : String) : Prop where
  same : ∀ {H'}, Same H H' → TyX K H' v (.type g)
theorem tyT {H : Hp} {a : Addr} {xs : List V} (h : SqT K H a xs) : TyS K H (.ref a) "tuple" := ⟨fun s => by
  rcases seqT_same s h with (hs | ⟨o, hs⟩) | ⟨o, its, n, lk, c, _⟩
  · exact .base (.tup hs)
  · exact .fTuple hs
  · exact .kTuple lk c⟩
theorem tyL {H : Hp} {a : Addr} {xs : List V} (h : SqL K H a xs) : TyS K H (.ref a) "list" := ⟨fun s => by
  rcases s.seq h with (hs | ⟨o, hs⟩) | ⟨o, its, n, lk, c, _⟩
  · exact .base (.lst hs)
  · exact .base (.frz hs)
  · exact .kList lk c⟩
theorem op_orR {X : Cx} {f : Value → Value → Sem Value} {r1 r2 : R2} (a : OpR X f r1) (b : OpR X f r2) : OpR X f (fun x y H Q => r1 x y H Q ∨ r2 x y H Q) := fun pins s σ H x y v u Q I rx ry h =>
  h.elim (a pins s σ H x y v u Q I rx ry) (b pins s σ H x y v u Q I rx ry)
theorem kit2 {g : String} {b1 b2 : Bool} (h1 : kitB g "tuple" = some b1) (h2 : kitB g "list" = some b2) : PySem.W.kitAny K (.type g) [.type "tuple", .type "list"] = some (b1 || b2) := by
  cases b1 with
  | true => exact kitAny_cons (kit_ty h1) (fun z => nomatch z) fun _ => rfl
  | false =>
    refine kitAny_cons (kit_ty h1) (fun _ => ?_) fun z => nomatch z
    cases b2 with
    | true => exact kitAny_cons (kit_ty h2) (fun z => nomatch z) fun _ => rfl
    | false => exact kitAny_cons (kit_ty h2) (fun _ => kitAny_nil) fun z => nomatch z
theorem all_tt (n : Nat) : (List.replicate n true).all id = true := by
  rw [List.all_eq_true]
  intro x h
  rw [List.eq_of_mem_replicate h]
  rfl
theorem same_at {H H' : Hp} {D : Addr} {o : HO} (s : Same H H') (n : H D = none) : Same H (upd H' D o) := fun c u e => by
  rw [upd_ne (ne_of_none e n)]
  exact s c u e
theorem kTs : PySem.W.kitAny K (.type "tuple") [.type "tuple", .type "list"] = some true := kit2 (g := "tuple") (b1 := true) (b2 := false) (by decide +kernel) (by decide +kernel)
theorem kLs : PySem.W.kitAny K (.type "list") [.type "tuple", .type "list"] = some true := kit2 (g := "list") (b1 := false) (b2 := true) (by decide +kernel) (by decide +kernel)
theorem kTT : PySem.W.kitOne K (.type "tuple") (.type "tuple") = some true := kit_ty (by decide +kernel)
theorem kTL : PySem.W.kitOne K (.type "tuple") (.type "list") = some false := kit_ty (by decide +kernel)
theorem kLT : PySem.W.kitOne K (.type "list") (.type "tuple") = some false := kit_ty (by decide +kernel)
theorem kLL : PySem.W.kitOne K (.type "list") (.type "list") = some true := kit_ty (by decide +kernel)
/-- the tuples that zip goes over, their items in new pairs -/
theorem walk_zipT {a b : Addr} {xs ys : List V} (hl : xs.length = ys.length) : Walk (RZ.ItzT K a b) xs.length (fun H => SqT K H a xs ∧ SqT K H b ys) (YPair (fun i => xs[i]?) (fun i => ys[i]?)) := by
  refine ⟨fun i H hi q => ?_, fun H q => ⟨xs, ys, q.1, q.2, .inl (Nat.le_refl _)⟩, fun i H v H' _ q y => ?_⟩
  · exact ⟨xs, ys, xs[i], ys[i]'(by omega), q.1, q.2, List.getElem?_eq_getElem hi, List.getElem?_eq_getElem (by omega)⟩
  · obtain ⟨T, x, z, e1, n, e2, f1, f2⟩ := y
    exact ⟨T, x, z, e1, n, e2, f1 xs q.1, f2 ys q.2⟩
abbrev s_law_same : Stmt := top 38
abbrev N_law_same : List Str := ["_law_told", "_law_due", "_law_one", "_law_other"]
abbrev P_law_same : List Str := ["_law_told", "_law_due"]
theorem sc_law_same : FnScope N_law_same P_law_same (defScope s_law_same) := ⟨rfl, rfl, rfl, by decide +kernel, rfl, by decide +kernel, by decide +kernel⟩
def spSame (w : World) (K : PySem.W.Frag) (n : Nat) : Sp := fun vs H Q _ => ∃ v u : V, vs = [v, u] ∧ Tw w K H n v u ∧ ∀ H', Same H H' → Q (.bl true) H'
section
variable {P : Program} {w : World} {mg : Str → Option Value} {base : Heap} {f : Addr} {fd : FuncData}
theorem ok_law_same {n : Nat} (T : Txt K mg) (zip : mg "zip" = none) (F : Fun K "_law_same" "_law_same" s_law_same f fd) (C_law_same : Cal P w K mg base "_law_same" (1 + n) P_law_same (spSame w K n)) :
    FnOk P w K mg base CX0 (1 + n + 1) f fd P_law_same (spSame w K (n + 1)) := by
  refine F.ok sc_law_same (fun vs H Q E h => ?_) (fun cdv A outer s H vs Q E hr h => ?_)
  · obtain ⟨v, u, rfl, _⟩ := h
    rfl
  obtain ⟨v, u, rfl, h, q⟩ := h
  have hu : A.units + 3 < cLine := by
    have := hr.un
    exact Nat.lt_of_le_of_lt (by show A.units + 3 ≤ A.units + 3 + 16 * (1 + n) + 200; omega) this
  refine ⟨_, (pss_cons (ps_if (pt_val (pe_callB Odd.call_isiTO rfl T.isinstance (by decide +kernel) (pa_cons (pv 1) (pa_cons (pe_tup (pa_cons (pe_bltn (v := .ty "tuple") rfl T.tuple (by decide +kernel) rfl) (pa_cons (pe_bltn (v := .ty "list") rfl T.list (by decide +kernel) rfl) pa_nil))) pa_nil))))
    (pss_cons (ps_if (PW.pt (pw_or (pt_cmpR op_ne (pe_callB Odd.call_isiO rfl T.isinstance (by decide +kernel) (pa_cons (pv 0) (pa_cons (pe_bltn (v := .ty "tuple") rfl T.tuple (by decide +kernel) rfl) pa_nil))) (pe_callB Odd.call_isiO rfl T.isinstance (by decide +kernel) (pa_cons (pv 1) (pa_cons (pe_bltn (v := .ty "tuple") rfl T.tuple (by decide +kernel) rfl) pa_nil))) (nomark _)) (pw_or1 (pt_cmpR op_ne (pe_callB Odd.call_isiO rfl T.isinstance (by decide +kernel) (pa_cons (pv 0) (pa_cons (pe_bltn (v := .ty "list") rfl T.list (by decide +kernel) rfl) pa_nil))) (pe_callB Odd.call_isiO rfl T.isinstance (by decide +kernel) (pa_cons (pv 1) (pa_cons (pe_bltn (v := .ty "list") rfl T.list (by decide +kernel) rfl) pa_nil))) (nomark _)))))
      (pss_one (ps_ret pe_bl))
      pss_nil)
    (pss_one (ps_ret (pe_and (pe_cmpR op_eq (pe_callB call_len rfl T.len (by decide +kernel) (pa_cons (pv 0) pa_nil)) (pe_callB call_len rfl T.len (by decide +kernel) (pa_cons (pv 1) pa_nil)) (nomark _)) (pe_one (pe_callB (cr_all rfl) rfl T.all (by decide +kernel) (pa_cons (pe_lc (own := [("_law_one", 2), ("_law_other", 3)]) (g := gTup K 2 (gCons (gName 2) (gCons (gName 3) gNil))) rfl sc_law_same.nd (RZ.pi_zipA rfl zip (pa_cons (pv 0) (pa_cons (pv 1) pa_nil))) (blkOk_by (own := [("_law_one", 2), ("_law_other", 3)]) (N := N_law_same) (sc := defScope s_law_same) (by decide +kernel)) (fun _ _ _ _ _ => (pg_tup rfl (pgs_cons (pg_name (i := 2) sc_law_same.nd rfl (Or.inl rfl)) (pgs_cons (pg_name (i := 3) sc_law_same.nd rfl (Or.inl rfl)) pgs_nil)))) (fun _ _ _ _ _ => pts_nil) (fun _ _ _ _ _ => (pe_callC C_law_same hr (pa_cons (pv 2) (pa_cons (pv 3) pa_nil))))) pa_nil)))))))
    pss_nil)
  (pss_one (ps_ret (pe_and (pe_cmpR op_eq (pe_callB Odd.call_isiO rfl T.isinstance (by decide +kernel) (pa_cons (pv 0) (pa_cons (pe_bltn (v := .ty "bool") rfl T.bool (by decide +kernel) rfl) pa_nil))) (pe_callB Odd.call_isiO rfl T.isinstance (by decide +kernel) (pa_cons (pv 1) (pa_cons (pe_bltn (v := .ty "bool") rfl T.bool (by decide +kernel) rfl) pa_nil))) (nomark _)) (pe_one (pe_cmpR (op_orR op_eq (Odd.op_self hr.units)) (pv 0) (pv 1) (nomark _))))))), ?_⟩
  have kinds : (∃ (g : String) (b : Bool), kitB g "tuple" = some false ∧ kitB g "list" = some false ∧ kitB g "bool" = some b ∧ (∀ H', Same H H' → Odd.TyO w K H' v (.type g)) ∧ (∀ H', Same H H' → Odd.TyO w K H' u (.type g)) ∧
      ((scal v u = true ∧ v = u) ∨ ∃ (a : Addr) (kvs : List (Odd.OK × V)), v = .ref a ∧ u = .ref a ∧ Odd.OR w H a kvs ∧ Odd.Tpl H kvs ∧ Odd.NdK kvs)) ∨
      (∃ (a b : Addr) (xs ys : List V), v = .ref a ∧ u = .ref b ∧ SqT K H a xs ∧ SqT K H b ys ∧ xs.length ≤ 1000 ∧ Paired (Tw w K H n) xs ys) ∨
      (∃ (a b : Addr) (xs ys : List V), v = .ref a ∧ u = .ref b ∧ SqL K H a xs ∧ SqL K H b ys ∧ xs.length ≤ 1000 ∧ Paired (Tw w K H n) xs ys) := by
    rcases h with ⟨rfl, fl⟩ | ⟨a, kvs, rfl, rfl, ha, h1, h2⟩ | h | h
    · refine .inl ?_
      cases v with
      | non => exact ⟨"NoneType", false, by decide +kernel, by decide +kernel, by decide +kernel, fun _ _ => .inl (.base .non), fun _ _ => .inl (.base .non), .inl ⟨rfl, rfl⟩⟩
      | bl b => exact ⟨"bool", true, by decide +kernel, by decide +kernel, by decide +kernel, fun _ _ => .inl (.base (.bl b)), fun _ _ => .inl (.base (.bl b)), .inl ⟨rfl, rfl⟩⟩
      | int b => exact ⟨"int", false, by decide +kernel, by decide +kernel, by decide +kernel, fun _ _ => .inl (.base (.int b)), fun _ _ => .inl (.base (.int b)), .inl ⟨rfl, rfl⟩⟩
      | str b => exact ⟨"str", false, by decide +kernel, by decide +kernel, by decide +kernel, fun _ _ => .inl (.base (.str b)), fun _ _ => .inl (.base (.str b)), .inl ⟨rfl, rfl⟩⟩
      | _ => cases fl
    · exact .inl ⟨"dict", false, by decide +kernel, by decide +kernel, by decide +kernel, fun _ s => .inr ⟨a, kvs, rfl, ha.same s, rfl⟩, fun _ s => .inr ⟨a, kvs, rfl, ha.same s, rfl⟩, .inr ⟨a, kvs, rfl, rfl, ha, h1, h2⟩⟩
    · exact .inr (.inl h)
    · exact .inr (.inr h)
  refine ⟨u, rfl, by show 2 ≤ sizeLine; decide, fun tp np => ?_⟩
  have s1 := same_new np (.tup [.ty "tuple", .ty "list"])
  rcases kinds with ⟨g, b, h1, h2, h3, tv, tu, he⟩ | ⟨a, b, xs, ys, rfl, rfl, sa, sb, hl, hp⟩ | ⟨a, b, xs, ys, rfl, rfl, sa, sb, hl, hp⟩
  · refine ⟨u, tp, [.ty "tuple", .ty "list"], .type g, [.type "tuple", .type "list"], false, rfl, upd_same, .cons (.ty _) (.cons (.ty _) .nil), tu _ s1, kit2 h1 h2, false, rfl, ?_⟩
    refine ⟨v, rfl, _, _, _, _, _, rfl, .ty "bool", tv _ s1, kit_ty h3, u, rfl, _, _, _, _, _, rfl, .ty "bool", tu _ s1, kit_ty h3, rfl, ?_⟩
    rw [decide_eq_true rfl]
    refine ⟨true, rfl, iteT ⟨v, rfl, u, rfl, ?_⟩⟩
    rcases he with ⟨sc, rfl⟩ | ⟨a, kvs, rfl, rfl, ha, nd, fl⟩
    · refine .inl ⟨sc, ?_⟩
      rw [decide_eq_true rfl]
      exact q _ s1
    · exact .inr ⟨a, kvs, rfl, rfl, ha.same s1, nd.same s1, fl, q _ s1⟩
  · have ta := tyT sa
    have tb := tyT sb
    refine ⟨_, tp, [.ty "tuple", .ty "list"], .type "tuple", [.type "tuple", .type "list"], true, rfl, upd_same, .cons (.ty _) (.cons (.ty _) .nil), (.inl (tb.same s1)), kTs, true, rfl, ?_⟩
    refine ⟨_, rfl, _, _, _, _, _, rfl, .ty "tuple", (.inl (ta.same s1)), kTT, _, rfl, _, _, _, _, _, rfl, .ty "tuple", (.inl (tb.same s1)), kTT, rfl, false, rfl, ?_⟩
    refine ⟨_, rfl, _, _, _, _, _, rfl, .ty "list", (.inl (ta.same s1)), kTL, _, rfl, _, _, _, _, _, rfl, .ty "list", (.inl (tb.same s1)), kTL, rfl, false, rfl, ?_⟩
    have ll := Paired.length hp
    refine ⟨_, rfl, _, _, rfl, .inr ⟨xs, seqT_same s1 sa, rfl⟩, _, rfl, _, _, rfl, .inr ⟨ys, seqT_same s1 sb, rfl⟩, rfl, ?_⟩
    rw [ll, decide_eq_true rfl]
    refine ⟨true, rfl, iteT ?_⟩
    refine ⟨_, rfl, _, rfl, a, b, xs, ys, rfl, .inr ⟨seqT_same s1 sa, seqT_same s1 sb, fun D nD => ?_⟩⟩
    have s2 := s1.trans (same_new nD (.lst []))
    have nH : H D = none := by
      cases e : H D with
      | none => rfl
      | some o => rw [s1 _ _ e] at nD; cases nD
    refine lc_it (walk_zipT ll) (fun i H' => Same H H' ∧ H' D = some (.lst ((List.replicate i true).map V.bl))) ⟨s2, upd_same⟩ (fun i H' _ p => ⟨seqT_same p.1 sa, seqT_same p.1 sb⟩) (fun i x H1 H2 hi p y => ?_) fun H' p => ?_
    · obtain ⟨t, y1, y2, rfl, nt, rfl, e1, e2⟩ := y
      have s3 := p.1.trans (same_new nt (.tup [y1, y2]))
      have td : t ≠ D := fun z => by
        rw [z, p.2] at nt
        cases nt
      refine ⟨t, [y1, y2], rfl, .inl (.inl upd_same), rfl, y1, [y2], rfl, y2, [], rfl, rfl, rfl, ?_⟩
      refine ⟨_, rfl, _, rfl, y1, y2, rfl, tw_same s3 (paired_at hp e1 e2), fun H4 s4 => ⟨_, s4 D _ (by rw [upd_ne (Ne.symm td)]; exact p.2), small1000 (by rw [List.length_map, List.length_replicate]; omega), same_at (s3.trans s4) nH, ?_⟩⟩
      rw [upd_same, List.replicate_succ', List.map_append]
      rfl
    · refine ⟨D, List.replicate xs.length true, rfl, SqL.of p.2, ?_⟩
      rw [all_tt]
      exact q H' p.1
  · have ta := tyL sa
    have tb := tyL sb
    refine ⟨_, tp, [.ty "tuple", .ty "list"], .type "list", [.type "tuple", .type "list"], true, rfl, upd_same, .cons (.ty _) (.cons (.ty _) .nil), (.inl (tb.same s1)), kLs, true, rfl, ?_⟩
    refine ⟨_, rfl, _, _, _, _, _, rfl, .ty "tuple", (.inl (ta.same s1)), kLT, _, rfl, _, _, _, _, _, rfl, .ty "tuple", (.inl (tb.same s1)), kLT, rfl, false, rfl, ?_⟩
    refine ⟨_, rfl, _, _, _, _, _, rfl, .ty "list", (.inl (ta.same s1)), kLL, _, rfl, _, _, _, _, _, rfl, .ty "list", (.inl (tb.same s1)), kLL, rfl, false, rfl, ?_⟩
    have ll := Paired.length hp
    refine ⟨_, rfl, _, _, rfl, .inl ⟨xs, s1.seq sa, rfl⟩, _, rfl, _, _, rfl, .inl ⟨ys, s1.seq sb, rfl⟩, rfl, ?_⟩
    rw [ll, decide_eq_true rfl]
    refine ⟨true, rfl, iteT ?_⟩
    refine ⟨_, rfl, _, rfl, a, b, xs, ys, rfl, .inl ⟨s1.seq sa, s1.seq sb, fun D nD => ?_⟩⟩
    have s2 := s1.trans (same_new nD (.lst []))
    have nH : H D = none := by
      cases e : H D with
      | none => rfl
      | some o => rw [s1 _ _ e] at nD; cases nD
    refine lc_it (walk_zip (by rw [← ll, Nat.min_self])) (fun i H' => Same H H' ∧ H' D = some (.lst ((List.replicate i true).map V.bl))) ⟨s2, upd_same⟩ (fun i H' _ p => ⟨p.1.seq sa, p.1.seq sb⟩) (fun i x H1 H2 hi p y => ?_) fun H' p => ?_
    · obtain ⟨t, y1, y2, rfl, nt, rfl, e1, e2⟩ := y
      have s3 := p.1.trans (same_new nt (.tup [y1, y2]))
      have td : t ≠ D := fun z => by
        rw [z, p.2] at nt
        cases nt
      refine ⟨t, [y1, y2], rfl, .inl (.inl upd_same), rfl, y1, [y2], rfl, y2, [], rfl, rfl, rfl, ?_⟩
      refine ⟨_, rfl, _, rfl, y1, y2, rfl, tw_same s3 (paired_at hp e1 e2), fun H4 s4 => ⟨_, s4 D _ (by rw [upd_ne (Ne.symm td)]; exact p.2), small1000 (by rw [List.length_map, List.length_replicate]; omega), same_at (s3.trans s4) nH, ?_⟩⟩
      rw [upd_same, List.replicate_succ', List.map_append]
      rfl
    · refine ⟨D, List.replicate xs.length true, rfl, SqL.of p.2, ?_⟩
      rw [all_tt]
      exact q H' p.1
end
end My

set_option Elab.async false
set_option linter.all false
set_option maxRecDepth 100000
namespace My
open PySem L2
/-! ### own errors with one field -/
def meth (i j : Nat) : Stmt := (C8.clsBody (top i)).getD j (.Pass ⟨0, 0, 0, 0⟩)
def spInit (K : PySem.W.Frag) (C : Addr) (fld : Str) : Sp := fun vs H Q _ => ∃ (a : Addr) (v : V), vs = [.ref a, v] ∧ H a = some (exo a C none) ∧ OexC K C ∧ PySem.W.findIn K (.ref C) fld = some none ∧
  ∀ dx, H dx = none → dx ≠ a → Q .non (upd (upd H dx (exd dx [(fld, v)])) a (exo a C (some dx)))
structure OneE (P : Program) (w : World) (K : PySem.W.Frag) (mg : Str → Option Value) (base : Heap) (x fld : Str) (C : Addr) where
  oex : OexC K C
  xf : XfC K C
  no : PySem.W.findIn K (.ref C) fld = some none
  g : mg x = some (.ref C)
  fI : Addr
  fd : FuncData
  iC : PySem.W.findIn K (.ref C) "__init__" = some (some (.ref fI))
  tI : PySem.W.typeIn K (.ref fI) = some (.type "function")
  b : Binds K fd ["self", fld] []
  F : FnOk P w K mg base CX0 1 fI fd ["self", fld] (spInit K C fld)
section
variable {P : Program} {w : World} {K : PySem.W.Frag} {mg : Str → Option Value} {base : Heap} {f : Addr} {fd : FuncData}
theorem sc_i2 : FnScope ["self", "value"] ["self", "value"] (defScope (meth 2 0)) := ⟨rfl, rfl, rfl, by decide +kernel, rfl, by decide +kernel, by decide +kernel⟩
theorem ok_i2 (C : Addr) (F : Fun K "__init__" "BadValue.__init__" (meth 2 0) f fd) : FnOk P w K mg base CX0 1 f fd ["self", "value"] (spInit K C "value") := by
  refine F.ok sc_i2 (fun vs H Q E h => ?_) (fun cdv A outer s H vs Q E hr h => ?_)
  · obtain ⟨a, v, rfl, _⟩ := h
    rfl
  obtain ⟨a, v, rfl, ea, T, no, q⟩ := h
  refine ⟨_, pss_one (ps_ost (pv 0) (pv 1)), ?_⟩
  exact ⟨v, rfl, _, rfl, a, C, rfl, T, no, .inl ⟨ea, fun dx n ne => q dx n ne⟩⟩
end
section
variable {X : Cx} {x fld : Str} {C : Addr}
theorem exo_exd_ne {e C' : Addr} {d : Option Addr} : True := trivial
/-- C(v): the error's dict d is new, all else is as it was -/
theorem mk_one {K : PySem.W.Frag} {H1 : Hp} {v : V} {Q : XK} (T : OexC K C) (no : PySem.W.findIn K (.ref C) fld = some none) (q : ∀ d, H1 d = none → Q (.ref C) (some d) (upd H1 d (.xd [(fld, v)]))) :
    [v].length ≤ 1000 ∧ ∀ a, H1 a = none → spInit K C fld (.ref a :: ([v] ++ [])) (upd H1 a (exo a C none))
      (fun r H2 => r = .non ∧ ∃ (d : Addr) (fs : List (Str × V)), H2 a = some (exo a C (some d)) ∧ H2 d = some (exd d fs) ∧ H1 d = none ∧ Q (.ref C) (some d) (upd (L2.del H2 a) d (.xd fs))) (fun _ _ _ => False) := by
  refine ⟨by show 1 ≤ 1000; decide, fun a na => ⟨a, v, rfl, upd_same, T, no, fun dx nx ne => ⟨rfl, dx, [(fld, v)], upd_same, by rw [upd_ne ne, upd_same], by rw [upd_ne ne] at nx; exact nx, ?_⟩⟩⟩
  have n1 : H1 dx = none := by
    rw [upd_ne ne] at nx
    exact nx
  have e : upd (L2.del (upd (upd (upd H1 a (exo a C none)) dx (exd dx [(fld, v)])) a (exo a C (some dx))) a) dx (.xd [(fld, v)]) = upd H1 dx (.xd [(fld, v)]) := by
    funext b
    by_cases h1 : b = dx
    · rw [h1, upd_same, upd_same]
    · rw [upd_ne h1, upd_ne h1]
      by_cases h2 : b = a
      · rw [h2, L2.del_same, na]
      · rw [L2.del_ne h2, upd_ne h2, upd_ne h1, upd_ne h2]
  rw [e]
  exact q dx n1
theorem pass00 {X : Cx} : Passes CX0 X (fun _ _ _ => False) := fun _ _ _ _ _ _ _ h => h.elim
/-- raise x(e) -/
theorem ps_raise1 {W : WX} {e : Expr} {te : TE} {p pos pos2 : Pos} {k : Nat} (O : OneE X.prog X.w X.K X.mg X.base x fld C) (hc : X.calm = true) (hr : Room (k + 2) X.A) (tk : Takes X W) (he : PE X e te) (hg : Gl X x := by rfl)
    (hdb : (x == ("__debug__" : Str)) = false := by decide) (h1 : starEach (e :: []) X.env = (false, eval e X.env) :: starEach [] X.env := by rfl) (h2 : (backTo pos (starEach [] X.env)).any (·.1) = false := by rfl) :
    PS X (.Raise (some (.Call (.Name x p) [e] [] pos)) none pos2) (fun _ σ H => tMkO C (spInit X.K C fld) [] (tCons te tNil) σ H fun cls d H' => W cls d σ H') :=
  ps_raise hc tk (pmk_oex O.oex O.iC O.tI O.F (hr.mono (by omega)) O.b .nil pass00 hg O.g (pa_cons he pa_nil h1) hdb h1 h2)
end

/-! ### what is raised, told -/
structure ErrT (K : PySem.W.Frag) (mg : Str → Option Value) where
  B : Addr
  N : Addr
  D : Addr
  M : Addr
  gB : mg "BadValue" = some (.ref B)
  gN : mg "NotAText" = some (.ref N)
  gD : mg "TooDeep" = some (.ref D)
  gM : mg "TooMany" = some (.ref M)
  xB : XfC K B
  xN : XfC K N
  xD : XfC K D
  xM : XfC K M
  nB : PySem.W.findIn K (.ref B) "value" = some none
  nN : PySem.W.findIn K (.ref N) "at" = some none
  nD : PySem.W.findIn K (.ref D) "most" = some none
  nM : PySem.W.findIn K (.ref M) "most" = some none
  BB : PySem.W.exmOne K (.ref B) (.ref B) = some true
  NB : PySem.W.exmOne K (.ref N) (.ref B) = some false
  NN : PySem.W.exmOne K (.ref N) (.ref N) = some true
  DB : PySem.W.exmOne K (.ref D) (.ref B) = some false
  DN : PySem.W.exmOne K (.ref D) (.ref N) = some false
  DD : PySem.W.exmOne K (.ref D) (.ref D) = some true
  MB : PySem.W.exmOne K (.ref M) (.ref B) = some false
  MN : PySem.W.exmOne K (.ref M) (.ref N) = some false
  MD : PySem.W.exmOne K (.ref M) (.ref D) = some false
  MM : PySem.W.exmOne K (.ref M) (.ref M) = some true
/-- of which class, in which field, told with which word -/
def ErrW {K : PySem.W.Frag} {mg : Str → Option Value} (T : ErrT K mg) (C : Addr) (fld word : Str) : Prop :=
  (C = T.B ∧ fld = "value" ∧ word = "value") ∨ (C = T.N ∧ fld = "at" ∧ word = "text") ∨ (C = T.D ∧ fld = "most" ∧ word = "deep") ∨ (C = T.M ∧ fld = "most" ∧ word = "many")
/-- as Does, whatever is wished beyond -/
def DoesM (P : Program) (w : World) (K : PySem.W.Frag) (mg : Str → Option Value) (base : Heap) (k : Nat) (v : V) (H : Hp) (Q : VK) (E : XK) : Prop :=
  ∃ (f : Addr) (fo : Obj) (tl : Hp → VK → XK → Prop), v = .ref f ∧ Clo.FnObj fo ∧ H f = some (Clo.Pin f fo) ∧ Clo.Act P w K mg base k f tl ∧
    ∀ (Q' : VK) (E' : XK), (∀ v H', Q v H' → Q' v H') → (∀ c d H', E c d H' → E' c d H') → tl H Q' E'
theorem DoesM.does {P : Program} {w : World} {K : PySem.W.Frag} {mg : Str → Option Value} {base : Heap} {j k : Nat} {v : V} {H : Hp} {Q Q' : VK} {E E' : XK} (d : DoesM P w K mg base j v H Q E) (le : j ≤ k) (h1 : ∀ v H', Q v H' → Q' v H') (h2 : ∀ c d H', E c d H' → E' c d H') :
    Clo.Does P w K mg base k v H Q' E' := by
  obtain ⟨f, fo, tl, e, n, p, a, t⟩ := d
  exact ⟨f, fo, tl, e, n, p, a.mono le, t Q' E' h1 h2⟩
def wishE {K : PySem.W.Frag} {mg : Str → Option Value} (T : ErrT K mg) (Q : VK) : XK := fun cls d H' => ∃ (C dd : Addr) (fld word : Str) (x : V), cls = .ref C ∧ d = some dd ∧ ErrW T C fld word ∧ H' dd = some (.xd [(fld, x)]) ∧ ∀ p, H' p = none → Q (.ref p) (upd H' p (.tup [.str word, x]))
theorem lookup1 (f : Str) (v : V) : List.lookup f [(f, v)] = some v := by simp [List.lookup]
def spFault (P : Program) (w : World) (K : PySem.W.Frag) (mg : Str → Option Value) (base : Heap) (T : ErrT K mg) (k : Nat) : Sp := fun vs H Q _ => ∃ v, vs = [v] ∧ DoesM P w K mg base k v H (fun _ H' => Q .non H') (wishE T Q)
abbrev s_law_fault : Stmt := top 39
abbrev N_law_fault : List Str := ["_law_deed", "_law_told", "e"]
abbrev P_law_fault : List Str := ["_law_deed"]
theorem sc_law_fault : FnScope N_law_fault P_law_fault (defScope s_law_fault) := ⟨rfl, rfl, rfl, by decide +kernel, rfl, by decide +kernel, by decide +kernel⟩
section
variable {P : Program} {w : World} {K : PySem.W.Frag} {mg : Str → Option Value} {base : Heap} {f : Addr} {fd : FuncData}
theorem ok_law_fault {k : Nat} (T : ErrT K mg) (F : Fun K "_law_fault" "_law_fault" s_law_fault f fd) : FnOk P w K mg base CX0 (k + 1) f fd P_law_fault (spFault P w K mg base T k) := by
  refine F.ok sc_law_fault (fun vs H Q E h => ?_) (fun cdv A outer s H vs Q E hr h => ?_)
  · obtain ⟨v, rfl, _⟩ := h
    rfl
  obtain ⟨v, rfl, h⟩ := h
  refine ⟨_, (pss_cons (ps_set (i := 1) sc_law_fault.nd rfl (Or.inl rfl) pe_non)
  (pss_cons (Clo.ps_try_nam (i := 2) (tb := fun W => tDrop (Clo.tAct P w K mg base 0 k (WE W))) rfl rfl sc_law_fault.nd rfl rfl takes0 (fun W pn xe tk _ => pss_one (ps_expr (Clo.pe_act3 (i := 0) (E := WE W) hr (fun σ => passAt tk σ) rfl (Or.inl rfl))))
    (.cons ⟨rfl, by decide, .inl T.gB⟩ (fun a oe cls d pn hz hf => pss_one (ps_set (i := 1) sc_law_fault.nd rfl (Or.inl rfl) (pe_tup (pa_cons pe_str (pa_cons (pe_xf T.xB T.nB hz hf (pv 2)) pa_nil)))))
    (.cons ⟨rfl, by decide, .inl T.gN⟩ (fun a oe cls d pn hz hf => pss_one (ps_set (i := 1) sc_law_fault.nd rfl (Or.inl rfl) (pe_tup (pa_cons pe_str (pa_cons (pe_xf T.xN T.nN hz hf (pv 2)) pa_nil)))))
    (.cons ⟨rfl, by decide, .inl T.gD⟩ (fun a oe cls d pn hz hf => pss_one (ps_set (i := 1) sc_law_fault.nd rfl (Or.inl rfl) (pe_tup (pa_cons pe_str (pa_cons (pe_xf T.xD T.nD hz hf (pv 2)) pa_nil)))))
    (.cons ⟨rfl, by decide, .inl T.gM⟩ (fun a oe cls d pn hz hf => pss_one (ps_set (i := 1) sc_law_fault.nd rfl (Or.inl rfl) (pe_tup (pa_cons pe_str (pa_cons (pe_xf T.xM T.nM hz hf (pv 2)) pa_nil)))))
    .nil)))))
  (pss_one (ps_ret (pv 1))))), ?_⟩
  refine ⟨v, rfl, h.does (Nat.le_refl k) (fun r H' q => ⟨_, rfl, q⟩) fun cls d H' ⟨C, dd, fld, word, x, e1, e2, ew, ed, q⟩ => ?_⟩
  subst e1
  subst e2
  have l2 : 2 ≤ sizeLine := by decide
  rcases ew with ⟨rfl, rfl, rfl⟩ | ⟨rfl, rfl, rfl⟩ | ⟨rfl, rfl, rfl⟩ | ⟨rfl, rfl, rfl⟩
  · exact ⟨true, T.BB, fun _ a ha => ⟨.ref a, rfl, rfl, rfl, dd, _, x, rfl, ed, lookup1 _ _, l2, fun p hp => ⟨_, rfl, q p hp⟩⟩, fun z => nomatch z⟩
  · exact ⟨false, T.NB, (fun z => nomatch z), fun _ => ⟨true, T.NN, fun _ a ha => ⟨.ref a, rfl, rfl, rfl, dd, _, x, rfl, ed, lookup1 _ _, l2, fun p hp => ⟨_, rfl, q p hp⟩⟩, fun z => nomatch z⟩⟩
  · exact ⟨false, T.DB, (fun z => nomatch z), fun _ => ⟨false, T.DN, (fun z => nomatch z), fun _ => ⟨true, T.DD, fun _ a ha => ⟨.ref a, rfl, rfl, rfl, dd, _, x, rfl, ed, lookup1 _ _, l2, fun p hp => ⟨_, rfl, q p hp⟩⟩, fun z => nomatch z⟩⟩⟩
  · exact ⟨false, T.MB, (fun z => nomatch z), fun _ => ⟨false, T.MN, (fun z => nomatch z), fun _ => ⟨false, T.MD, (fun z => nomatch z), fun _ => ⟨true, T.MM, fun _ a ha => ⟨.ref a, rfl, rfl, rfl, dd, _, x, rfl, ed, lookup1 _ _, l2, fun p hp => ⟨_, rfl, q p hp⟩⟩, fun z => nomatch z⟩⟩⟩⟩
end

theorem DoesM.imp {P : Program} {w : World} {K : PySem.W.Frag} {mg : Str → Option Value} {base : Heap} {k : Nat} {v : V} {H : Hp} {Q Q' : VK} {E E' : XK} (d : DoesM P w K mg base k v H Q E) (h1 : ∀ v H', Q v H' → Q' v H') (h2 : ∀ c d H', E c d H' → E' c d H') :
    DoesM P w K mg base k v H Q' E' := by
  obtain ⟨f, fo, tl, e, n, p, a, t⟩ := d
  exact ⟨f, fo, tl, e, n, p, a, fun Q2 E2 i1 i2 => t Q2 E2 (fun v H' q => i1 v H' (h1 v H' q)) fun c d H' q => i2 c d H' (h2 c d H' q)⟩
/-- raises just what is due -/
def dueE (w : World) {K : PySem.W.Frag} {mg : Str → Option Value} (T : ErrT K mg) (n : Nat) (u : V) (Q : VK) : XK := fun cls d H' => ∃ (C dd : Addr) (fld word : Str) (x : V), cls = .ref C ∧ d = some dd ∧ ErrW T C fld word ∧ H' dd = some (.xd [(fld, x)]) ∧
  ∀ p, H' p = none → Tw w K (upd H' p (.tup [.str word, x])) n (.ref p) u ∧ ∀ H2, Same (upd H' p (.tup [.str word, x])) H2 → Q (.bl true) H2
def spFaults (P : Program) (w : World) (K : PySem.W.Frag) (mg : Str → Option Value) (base : Heap) (T : ErrT K mg) (k n : Nat) : Sp := fun vs H Q _ => ∃ v u, vs = [v, u] ∧ DoesM P w K mg base k v H (fun _ _ => False) (dueE w T n u Q)
abbrev s_law_faults : Stmt := top 40
abbrev N_law_faults : List Str := ["_law_deed", "_law_due", "_law_told"]
abbrev P_law_faults : List Str := ["_law_deed", "_law_due"]
theorem sc_law_faults : FnScope N_law_faults P_law_faults (defScope s_law_faults) := ⟨rfl, rfl, rfl, by decide +kernel, rfl, by decide +kernel, by decide +kernel⟩
section
variable {P : Program} {w : World} {K : PySem.W.Frag} {mg : Str → Option Value} {base : Heap} {f : Addr} {fd : FuncData}
theorem ok_law_faults {k n : Nat} (T : ErrT K mg) (F : Fun K "_law_faults" "_law_faults" s_law_faults f fd) (C_law_fault : Cal P w K mg base "_law_fault" (k + 1) P_law_fault (spFault P w K mg base T k)) (C_law_same : Cal P w K mg base "_law_same" (1 + n) P_law_same (spSame w K n)) :
    FnOk P w K mg base CX0 (k + n + 2) f fd P_law_faults (spFaults P w K mg base T k n) := by
  refine F.ok sc_law_faults (fun vs H Q E h => ?_) (fun cdv A outer s H vs Q E hr h => ?_)
  · obtain ⟨v, u, rfl, _⟩ := h
    rfl
  obtain ⟨v, u, rfl, h⟩ := h
  refine ⟨_, (pss_cons (ps_set (i := 2) sc_law_faults.nd rfl (Or.inl rfl) (pe_callC C_law_fault hr (pa_cons (pv 0) pa_nil)))
  (pss_one (ps_ret (pe_and (pe_cmpR op_notN (pv 2) pe_non (nomark _)) (pe_one (pe_callC C_law_same hr (pa_cons (pv 2) (pa_cons (pv 1) pa_nil)))))))), ?_⟩
  refine ⟨_, rfl, v, rfl, h.imp (fun _ _ z => z.elim) fun cls d H' ⟨C, dd, fld, word, x, e1, e2, ew, ed, q⟩ => ⟨C, dd, fld, word, x, e1, e2, ew, ed, fun p hp => ?_⟩⟩
  obtain ⟨tw, q⟩ := q p hp
  exact ⟨_, rfl, rfl, true, rfl, _, rfl, _, rfl, _, _, rfl, tw, q⟩
end
end My

set_option Elab.async false
set_option linter.all false
set_option maxRecDepth 100000
namespace My
open PySem L2
abbrev Z (l : List Nat) : Str := ⟨l.toArray⟩
theorem Z_len (l : List Nat) : (Z l).length = l.length := by simp [Z, Str.length]
inductive Sg where
  | mul | bar | amp | plus
def Sg.word : Sg → Str | .mul => Str.ofString "both" | .bar => Str.ofString "between" | .amp => Str.ofString "offered" | .plus => Str.ofString "chosen"
def leafZ (co : Bool) : Str := if co then Str.ofString "counter" else Str.ofString "good"
inductive FT where
  | leaf (co : Bool) (n : List Nat)
  | node (s : Sg) (l r : FT)
def FT.dep : FT → Nat | .leaf _ _ => 0 | .node _ l r => 1 + max l.dep r.dep
def FT.lvs : FT → Nat | .leaf _ _ => 1 | .node _ l r => l.lvs + r.lvs
def FT.data : FT → PyData | .leaf co n => .tuple [.str (leafZ co), .str (Z n)] | .node s l r => .tuple [.str s.word, l.data, r.data]
def FT.Ok : FT → Prop | .leaf _ n => isName (Z n) = true | .node _ l r => l.Ok ∧ r.Ok
def Fm (K : PySem.W.Frag) (H : Hp) : FT → V → Prop
  | .leaf co n, v => ∃ a, v = .ref a ∧ SqT K H a [.str (leafZ co), .str (Z n)]
  | .node s l r, v => ∃ a x y, v = .ref a ∧ SqT K H a [.str s.word, x, y] ∧ Fm K H l x ∧ Fm K H r y
def Hard (o : HO) : Prop := (∃ xs, o = .tup xs) ∨ ∃ ob u, o = .frz ob u
def KT (H H' : Hp) : Prop := ∀ a o, Hard o → H a = some o → H' a = some o
theorem KT.refl (H : Hp) : KT H H := fun _ _ _ h => h
theorem KT.trans {H H1 H2 : Hp} (a : KT H H1) (b : KT H1 H2) : KT H H2 := fun c o n h => b c o n (a c o n h)
theorem Same.kt {H H' : Hp} (s : Same H H') : KT H H' := fun a o _ h => s a o h
theorem KT.seq {K : PySem.W.Frag} {H H' : Hp} {a : Addr} {xs : List V} (k : KT H H') (h : SqT K H a xs) : SqT K H' a xs := by
  rcases h with (h | ⟨u, h⟩) | h
  · exact .inl (.inl (k _ _ (.inl ⟨_, rfl⟩) h))
  · exact .inl (.inr ⟨u, k _ _ (.inr ⟨_, _, rfl⟩) h⟩)
  · exact .inr h
theorem KT.fm {K : PySem.W.Frag} {H H' : Hp} (k : KT H H') : ∀ (t : FT) {v : V}, Fm K H t v → Fm K H' t v
  | .leaf _ _, _, ⟨a, e, h⟩ => ⟨a, e, k.seq h⟩
  | .node _ l r, _, ⟨a, x, y, e, h, hl, hr⟩ => ⟨a, x, y, e, k.seq h, k.fm l hl, k.fm r hr⟩
theorem Keep.kt {p : Addr} {H H' : Hp} {C dx : Addr} {fs : List (Str × V)} (hp : H p = some (.ins C dx fs)) (k : Keep p H H') : KT H H' := fun a o n h => by
  refine k a o (fun e => ?_) h
  subst e
  rw [hp] at h
  cases h
  rcases n with ⟨_, e⟩ | ⟨_, _, e⟩ <;> cases e
theorem FT.of_fm {K : PySem.W.Frag} {H : Hp} : ∀ (t : FT) {v : V}, Fm K H t v → Dp K H v t.data
  | .leaf _ _, _, ⟨a, e, h⟩ => by subst e; exact .tup h (.cons (.str _) (.cons (.str _) .nil))
  | .node _ l r, _, ⟨a, x, y, e, h, hl, hr⟩ => by subst e; exact .tup h (.cons (.str _) (.cons (FT.of_fm l hl) (.cons (FT.of_fm r hr) .nil)))
theorem same_make {H : Hp} {x dx C : Addr} (nx : H x = none) (nd : H dx = none) (ne : dx ≠ x) : Same H (upd (upd H dx (.own x)) x (.ins C dx [])) := fun b o e => by
  rw [upd_ne (ne_of_none e nx), upd_ne (ne_of_none e nd)]
  exact e
theorem sg_of {w : Str} (h : w ∈ halfW) : ∃ s : Sg, w = s.word := by
  unfold halfW at h
  simp only [List.mem_cons, List.not_mem_nil, or_false] at h
  rcases h with rfl | rfl | rfl | rfl
  · exact ⟨.mul, rfl⟩
  · exact ⟨.bar, rfl⟩
  · exact ⟨.amp, rfl⟩
  · exact ⟨.plus, rfl⟩
theorem leaf_of {w : Str} (h : w ∈ leafW) : ∃ co, w = leafZ co := by
  unfold leafW at h
  simp only [List.mem_cons, List.not_mem_nil, or_false] at h
  rcases h with rfl | rfl
  · exact ⟨false, rfl⟩
  · exact ⟨true, rfl⟩
theorem ft_of : ∀ {k : Nat} {D : PyData}, isForm k D = true → ∃ t : FT, D = t.data ∧ t.Ok ∧ t.dep ≤ k := by
  intro k
  induction k with
  | zero =>
    intro D h
    rcases isForm_inv h with ⟨w, n, rfl, hw, hn⟩ | ⟨j, w, a, b, e, _⟩
    · obtain ⟨co, rfl⟩ := leaf_of hw
      exact ⟨.leaf co n.cps.toList, rfl, hn, Nat.le_refl _⟩
    · cases e
  | succ k ih =>
    intro D h
    rcases isForm_inv h with ⟨w, n, rfl, hw, hn⟩ | ⟨j, w, a, b, e, rfl, hw, ha, hb⟩
    · obtain ⟨co, rfl⟩ := leaf_of hw
      exact ⟨.leaf co n.cps.toList, rfl, hn, Nat.zero_le _⟩
    · cases e
      obtain ⟨s, rfl⟩ := sg_of hw
      obtain ⟨l, rfl, ol, dl⟩ := ih ha
      obtain ⟨r, rfl, or', dr⟩ := ih hb
      exact ⟨.node s l r, rfl, ⟨ol, or'⟩, by show 1 + max l.dep r.dep ≤ k + 1; omega⟩
theorem fm_of_dp {K : PySem.W.Frag} {H : Hp} : ∀ (t : FT) {v : V}, Dp K H v t.data → Fm K H t v
  | .leaf co n, v, h => by
    cases h with | tup hT hA => cases hA with | cons h1 hA => cases hA with | cons h2 hN =>
    cases hN
    cases h1
    cases h2
    exact ⟨_, rfl, hT⟩
  | .node s l r, v, h => by
    cases h with | tup hT hA => cases hA with | cons h1 hA => cases hA with | cons h2 hA => cases hA with | cons h3 hN =>
    cases hN
    cases h1
    exact ⟨_, _, _, rfl, hT, fm_of_dp l h2, fm_of_dp r h3⟩
theorem ft_isForm : ∀ (t : FT) {k : Nat}, t.Ok → t.dep ≤ k → isForm k t.data = true
  | .leaf co n, k, h, _ => by
    show isForm k (.tuple [.str (leafZ co), .str (Z n)]) = true
    rw [isForm_m2, Bool.and_eq_true]
    exact ⟨by cases co <;> decide +kernel, h⟩
  | .node s l r, k, h, hk => by
    have hk' : 1 + max l.dep r.dep ≤ k := hk
    obtain ⟨j, rfl⟩ : ∃ j, k = j + 1 := ⟨k - 1, by omega⟩
    show isForm (j + 1) (.tuple [.str s.word, l.data, r.data]) = true
    rw [isForm_m3, Bool.and_eq_true, Bool.and_eq_true]
    exact ⟨by cases s <;> decide +kernel, ft_isForm l h.1 (by omega), ft_isForm r h.2 (by omega)⟩
def lvsL (ts : List FT) : Nat := (ts.map FT.lvs).sum
theorem lvs_one : ∀ t : FT, (lvs t.data).length = t.lvs
  | .leaf co n => by
    show (lvs (.tuple [.str (leafZ co), .str (Z n)])).length = 1
    rw [lvs2]
    rfl
  | .node s l r => by
    show (lvs (.tuple [.str s.word, l.data, r.data])).length = l.lvs + r.lvs
    rw [lvs3, List.length_append, lvs_one l, lvs_one r]
theorem lvs_data : ∀ ts : List FT, ((ts.map FT.data).flatMap lvs).length = lvsL ts
  | [] => rfl
  | t :: ts => by
    have ih := lvs_data ts
    unfold lvsL at ih ⊢
    rw [List.map_cons, List.flatMap_cons, List.length_append, ih, lvs_one, List.map_cons, List.sum_cons]
theorem dp_of_fm {K : PySem.W.Frag} {H : Hp} {xs : List V} {ts : List FT} (h : Paired (fun v t => Fm K H t v) xs ts) : DpAll K H xs (ts.map FT.data) := by
  induction h with
  | nil => exact .nil
  | cons h _ ih => exact .cons (FT.of_fm _ h) ih
theorem tw_fm {w : World} {K : PySem.W.Frag} {H : Hp} : ∀ (t : FT) (n : Nat) {v u : V}, t.dep + 2 ≤ n → Fm K H t v → Fm K H t u → Tw w K H n v u := by
  intro t
  induction t with
  | leaf co m =>
    intro n v u h hv hu
    obtain ⟨a, ea, ha⟩ := hv
    obtain ⟨b, eb, hb⟩ := hu
    obtain ⟨k, rfl⟩ : ∃ k, n = k + 2 := ⟨n - 2, by omega⟩
    have w1 : ∀ z : Str, Tw w K H (k + 1) (.str z) (.str z) := fun z => .inl ⟨rfl, rfl⟩
    exact .inr (.inr (.inl ⟨a, b, _, _, ea, eb, ha, hb, le1k, .cons (w1 _) (.cons (w1 _) .nil)⟩))
  | node s l r ihl ihr =>
    intro n v u h hv hu
    obtain ⟨a, x, y, ea, ha, hx, hy⟩ := hv
    obtain ⟨b, x', y', eb, hb, hx', hy'⟩ := hu
    have hd : 1 + max l.dep r.dep + 2 ≤ n := h
    obtain ⟨k, rfl⟩ : ∃ k, n = k + 1 := ⟨n - 1, by omega⟩
    obtain ⟨k, rfl⟩ : ∃ j, k = j + 1 := ⟨k - 1, by omega⟩
    have w1 : ∀ z : Str, Tw w K H (k + 1) (.str z) (.str z) := fun z => .inl ⟨rfl, rfl⟩
    exact .inr (.inr (.inl ⟨a, b, _, _, ea, eb, ha, hb, le1k, .cons (w1 _) (.cons (ihl (k + 1) (by omega) hx hx') (.cons (ihr (k + 1) (by omega) hy hy') .nil))⟩))
theorem kt_pen {d L : Addr} {ns : List Int} {n : Nat} {H H' : Hp} (p : Pen K H d L ns n) (k : Keep d H H') : KT H H' := fun a o h e => by
  obtain ⟨kvs, hd⟩ := p.isDk
  refine k a o (fun z => ?_) e
  subst z
  rw [hd] at e
  have e := Option.some.inj e
  subst e
  rcases h with ⟨_, e⟩ | ⟨_, _, e⟩ <;> cases e
theorem paired_len {α β : Type} {r : α → β → Prop} {xs : List α} {ys : List β} (h : Paired r xs ys) : xs.length = ys.length := by
  induction h with
  | nil => rfl
  | cons _ _ ih => rw [List.length_cons, List.length_cons, ih]
theorem paired_take {α β : Type} {r : α → β → Prop} : ∀ {xs : List α} {ys : List β} {i : Nat} {x : α}, Paired r xs ys → xs[i]? = some x → ∃ y, ys[i]? = some y ∧ r x y
  | _, _, i, x, .nil, e => by simp at e
  | _, _, 0, x, .cons h _, e => by
    simp at e
    subst e
    exact ⟨_, rfl, h⟩
  | _, _, i + 1, x, .cons _ h, e => by
    obtain ⟨y, h1, h2⟩ := paired_take (i := i) h (by simpa using e)
    exact ⟨y, by simpa using h1, h2⟩
theorem paired_app {α β : Type} {r : α → β → Prop} : ∀ {xs : List α} {ys : List β} {xs' : List α} {ys' : List β}, Paired r xs ys → Paired r xs' ys' → Paired r (xs ++ xs') (ys ++ ys')
  | _, _, _, _, .nil, h => h
  | _, _, _, _, .cons a b, h => .cons a (paired_app b h)
end My

set_option Elab.async false
set_option linter.all false
set_option maxRecDepth 100000
namespace My
open PySem L2
abbrev sis_leaf : Stmt := top 16
abbrev Nis_leaf : List Str := ["form"]
theorem scis_leaf : FnScope Nis_leaf Nis_leaf (defScope sis_leaf) := ⟨rfl, rfl, rfl, by decide +kernel, rfl, by decide +kernel, by decide +kernel⟩
abbrev scheck_form : Stmt := top 23
theorem sccheck_form : FnScope Nis_leaf Nis_leaf (defScope scheck_form) := ⟨rfl, rfl, rfl, by decide +kernel, rfl, by decide +kernel, by decide +kernel⟩
structure CalX (P : Program) (w : World) (K : PySem.W.Frag) (mg : Str → Option Value) (base : Heap) (x : Str) (k : Nat) (ps : List Str) (sp : Sp) where
  f : Addr
  fd : FuncData
  ok : FnOk P w K mg base (L2.CX P w) k f fd ps sp
  m : mg x = some (.ref f)
  kp : PySem.W.keepIn K (.ref f) = true
  b : Binds K fd ps []
def FT.isLeaf : FT → Bool | .leaf _ _ => true | .node _ _ _ => false
def isDictV (H : Hp) (v : V) : Prop := ∃ (a : Addr) (kvs : List (Key × V)), v = .ref a ∧ H a = some (.dK kvs)
def badE (C : Addr) (fld : Str) (v : V) (H : Hp) (E : XK) : Prop := ∀ (d : Addr) (H' : Hp), Same H H' → H' d = none → E (.ref C) (some d) (upd H' d (.xd [(fld, v)]))
def spLeafT (K : PySem.W.Frag) : Sp := fun vs H Q _ => ∃ v t, vs = [v] ∧ Fm K H t v ∧ Q (.bl t.isLeaf) H
def spCheckForm (K : PySem.W.Frag) (CB : Addr) : Sp := fun vs H Q E => ∃ v, vs = [v] ∧ ((∃ D, Dp K H v D ∧ (∀ z, D = .str z → z.length ≤ 1000) ∧ shortD D = true ∧ D.depth ≤ 60 ∧ (isForm 12 D = true → ∀ H', Same H H' → Q .non H') ∧ (isForm 12 D = false → badE CB "value" v H E)) ∨ (isDictV H v ∧ badE CB "value" v H E))
section
variable {P : Program} {w : World} {K : PySem.W.Frag} {mg : Str → Option Value} {base : Heap} {f : Addr} {fd : FuncData}
theorem okis_leaf (T : Txt K mg) (F : Fun K "is_leaf" "is_leaf" sis_leaf f fd) : FnOk P w K mg base CX0 1 f fd Nis_leaf (spLeafT K) := by
  refine F.ok scis_leaf (fun vs H Q E h => ?_) (fun cdv A outer s H vs Q E hr h => ?_)
  · obtain ⟨v, t, rfl, _⟩ := h
    rfl
  obtain ⟨v, t, rfl, hf, q⟩ := h
  refine ⟨_, (pss_one (ps_ret (pe_cmpR op_eq (pe_callB call_len rfl T.len (by decide +kernel) (pa_cons (pv 0) pa_nil)) pe_int (nomark _)))), ?_⟩
  cases t with
  | leaf co n =>
    obtain ⟨a, rfl, hs⟩ := hf
    exact ⟨_, rfl, _, _, rfl, .inr ⟨_, hs, rfl⟩, rfl, q⟩
  | node s l r =>
    obtain ⟨a, x, y, rfl, hs, _⟩ := hf
    exact ⟨_, rfl, _, _, rfl, .inr ⟨_, hs, rfl⟩, rfl, q⟩
theorem okcheck_form {CB : Addr} (T : Txt K mg) (O : OneE P w K mg base "BadValue" "value" CB) (F : Fun K "check_form" "check_form" scheck_form f fd) (Cfits_form : Cal P w K mg base "fits_form" 15 Pfits_form (spForm K 13)) :
    FnOk P w K mg base (L2.CX P w) 16 f fd Nis_leaf (spCheckForm K CB) := by
  refine F.okX sccheck_form (fun vs H Q E h => ?_) (fun cdv A outer s H vs Q E hr h => ?_)
  · obtain ⟨v, rfl, _⟩ := h
    rfl
  obtain ⟨v, rfl, h⟩ := h
  refine ⟨_, (pss_one (ps_if (pt_not (pt_val (pe_callC Cfits_form hr (pa_cons (pv 0) (pa_cons (pe_globE T.DEEPEST) pa_nil)))))
    (pss_one (ps_raise1 (k := 0) O rfl (hr.mono (by decide)) (takes_of rfl rfl rfl rfl) (pv 0)))
    pss_nil)), ?_⟩
  refine ⟨_, rfl, v, 12, rfl, by decide, ?_⟩
  rcases h with ⟨D, hv, hz, hs, hd, q1, q2⟩ | ⟨hd, q⟩
  · refine .inl ⟨D, hv, hs, fun H1 s1 => ⟨isForm 12 D, rfl, ?_⟩⟩
    cases c : isForm 12 D with
    | true => exact q1 c H1 s1
    | false => exact ⟨_, rfl, mk_one O.oex O.no fun d nd => q2 c d H1 s1 nd⟩
  · exact .inr ⟨hd, fun H1 s1 => ⟨false, rfl, _, rfl, mk_one O.oex O.no fun d nd => q d H1 s1 nd⟩⟩
theorem badE.same {C : Addr} {fld : Str} {v : V} {H H1 : Hp} {E : XK} (b : badE C fld v H E) (s : Same H H1) : badE C fld v H1 E := fun d H' s' n => b d H' (s.trans s') n
end
end My

set_option Elab.async false
set_option linter.all false
set_option maxRecDepth 100000
set_option maxHeartbeats 4000000
/-! sets of texts that can be walked: made of a list of texts, sorted -/
namespace L2
open PySem PySem.Spec PyProof.Rows
def kS (e : Int × Value) : Str := match e.2 with | .str x _ => x | _ => Str.empty
def GS (w : World) (e : Int × Value) : Prop := ∃ x u, e.2 = Value.str x u ∧ e.1 = hashStr w x
/-- the set of texts at d: T its members, m their number -/
def SetS (w : World) (h : Heap) (d : Addr) (T : Str → Bool) (m : Nat) : Prop :=
  ∃ ob el ep tb, h.get? d = some ob ∧ ob.ExactSet ∧ ob.data = .set el ep tb ∧ (∀ e ∈ el.toList, GS w e) ∧ (el.toList.map kS).Nodup ∧ (∀ x, T x = true ↔ x ∈ el.toList.map kS) ∧
    el.size < scanBound ∧ tb.fits el.size = true ∧ el.size = m ∧ Ris tb.place.toList ∧ (w.params.followText "set-order" = true ∨ tb.led = true)
section
variable {P : Program} {w : World} {h h' : Heap} {d : Addr} {T : Str → Bool} {m : Nat}
theorem SetS.mv (R : SetS w h d T m) (k : ∀ o, h.get? d = some o → h'.get? d = some o) : SetS w h' d T m := by
  obtain ⟨ob, el, ep, tb, ho, r⟩ := R
  exact ⟨ob, el, ep, tb, k ob ho, r⟩
theorem SetS.cg {T' : Str → Bool} (R : SetS w h d T m) (e : ∀ x, T' x = T x) : SetS w h d T' m := by
  have q : T' = T := funext e
  rw [q]; exact R
theorem gs_elems {l : List (Int × Value)} (g : ∀ e ∈ l, GS w e) : ElemsOf (strKind P w) l := fun e he => by
  obtain ⟨x, u, h1, h2⟩ := g e he
  exact ⟨⟨x, by rw [h1]; exact strKind_is P w x u, h2⟩, by rw [h1] <;> rfl⟩
theorem gs_is {e : Int × Value} (g : GS w e) (x : Str) : (strKind P w).is x e.2 = true ↔ kS e = x := by
  obtain ⟨y, u, h1, _⟩ := g
  rw [h1, (strKind P w).is_eq_decide (strKind_is P w y u) x, decide_eq_true_eq]
  have e1 : kS e = y := by unfold kS; rw [h1]
  rw [e1]
  exact eq_comm
theorem gs_mem {l : List (Int × Value)} (g : ∀ e ∈ l, GS w e) (x : Str) : x ∈ l.map kS ↔ ∃ e ∈ l, (strKind P w).is x e.2 = true := by
  rw [List.mem_map]
  exact ⟨fun ⟨e, he, q⟩ => ⟨e, he, (gs_is (g e he) x).2 q⟩, fun ⟨e, he, q⟩ => ⟨e, he, (gs_is (g e he) x).1 q⟩⟩
end
section
variable {P : Program} {w : World} {A : Around} {E : Value → Shared → Prop} {s : Shared} {d : Addr} {T : Str → Bool} {m : Nat}
theorem sets_tail {g : Bool → Sem Unit} (hg : ∀ (b : Bool) (z : Shared) (Q' : Unit → Shared → Prop), Q' () z → wpAny (model P w) A (g b) Q' E z)
    {ob : Obj} {el : Array (Int × Value)} {ep : Nat} {tb : SetTable} (ho : s.heap.get? d = some ob) (hex : ob.ExactSet) (hd : ob.data = .set el ep tb)
    {el1 : Array (Int × Value)} {tb2 : SetTable} {T' : Str → Bool} (g1 : ∀ e ∈ el1.toList, GS w e) (nd1 : (el1.toList.map kS).Nodup) (m1 : ∀ x, T' x = true ↔ x ∈ el1.toList.map kS)
    (hb1 : el1.size < scanBound) (hf2 : tb2.fits el1.size = true) (hr : Ris tb2.place.toList) (hl : w.params.followText "set-order" = true ∨ tb2.led = true) {wd : Bool} {R : Option Bool → Shared → Prop}
    (hR : ∀ h', Heap.SameBut d s.heap h' → SetS w h' d T' el1.size → R (some true) { s with heap := h' }) :
    wpAny (model P w) A (do
        storeSet d el1 tb2
        if (!wd && tb2.tooFull) = true then do
            g (relayAll tb2 el1 (SetTable.grown el1.size)).2.2
            storeSet d (relayAll tb2 el1 (SetTable.grown el1.size)).1 (relayAll tb2 el1 (SetTable.grown el1.size)).2.1
            pure (some true)
          else pure (some true)) R E s := by
  have ho1 := store_at (es' := el1) (t' := tb2) ho hd
  have sb1 := Heap.SameBut.update s.heap d (Obj.putSet el1 tb2)
  refine wpAny_bind (wpAny_storeSet_of ho hd ?_ (fits_of_scanBound hb1)); split
  · have pm := relayAll_perm tb2 el1 (SetTable.grown el1.size); have hf3 := relayAll_fits tb2 el1 (SetTable.grown el1.size)
    have hr3 := relayAll_ris tb2 el1 (SetTable.grown el1.size); have hl3 := relayAll_led tb2 el1 (SetTable.grown el1.size)
    generalize relayAll tb2 el1 (SetTable.grown el1.size) = Y at pm hf3 hr3 hl3 ⊢
    obtain ⟨el2, tb3, gv⟩ := Y
    dsimp only at pm hf3 hr3 hl3 ⊢
    have hz : el2.size = el1.size := by rw [← Array.length_toList, pm.length_eq, Array.length_toList]
    have hb2 : el2.size < scanBound := by rw [hz]; exact hb1
    refine wpAny_bind (hg _ _ _ (wpAny_bind (wpAny_storeSet_of ho1 rfl ?_ (fits_of_scanBound hb2))))
    have ho2 := store_at (es' := el2) (t' := tb3) ho1 rfl
    refine wpAny_pure (hR _ (sb1.trans (Heap.SameBut.update _ d _)) ⟨_, el2, _, tb3, ho2, hex, rfl, fun e he => g1 e (pm.mem_iff.mp he), (pm.map kS).nodup_iff.mpr nd1, fun x => (m1 x).trans (pm.map kS).mem_iff.symm, hb2, hf3, hz, hr3, hl.imp id fun z => by rw [hl3]; exact z⟩)
  · exact wpAny_pure (hR _ sb1 ⟨_, el1, _, tb2, ho1, hex, rfl, g1, nd1, m1, hb1, hf2, rfl, hr, hl⟩)

theorem sets_add {x : Str} {u : Tok} {Q : Bool → Shared → Prop} (R : SetS w s.heap d T m) (room : m + 1 < scanBound)
    (hQ : ∀ h', Heap.SameBut d s.heap h' → SetS w h' d (fun y => T y || decide (y = x)) (if T x = true then m else m + 1) → Q (!T x) { s with heap := h' }) :
    wpAny (model P w) A (setAddHashed d (.str x u) ((strKind P w).hash x)) Q E s := by
  obtain ⟨ob, el, ep, tb, ho, hex, hd, g, nd, hm, hb, hf, hn, hr, hl⟩ := R
  have hkey : (strKind P w).is x (.str x u) = true := strKind_is P w x u
  have hsc : (Value.str x u).scannable = true := rfl
  have hel : ElemsOf (strKind P w) el.toList := gs_elems g
  unfold setAddHashed setAddHashedIn
  refine wpAny_holding (wpAny_bind (wpAny_setState_of ho hd hf ?_)); dsimp only
  rw [byScan_of hsc hb hel]; simp only [↓reduceIte]
  unfold setAddByScan
  refine wpAny_bind (wpAny_bind (wpAny_rule (wpAny_bind (wpAny_setScan_of hkey ho hd hf hel ?_))))
  cases hfi : List.findIdx? (fun e => (strKind P w).is x e.2) el.toList with
  | some j =>
    dsimp only
    obtain ⟨hj, pj, _⟩ := List.findIdx?_eq_some_iff_getElem.mp hfi
    have hTx : T x = true := (hm x).2 ((gs_mem (P := P) (w := w) g x).2 ⟨el.toList[j], List.getElem_mem hj, pj⟩)
    have q := hQ s.heap (Heap.SameBut.refl d s.heap) ⟨ob, el, ep, tb, ho, hex, hd, g, nd, fun y => by rw [Bool.or_eq_true, decide_eq_true_eq, ← hm y]; exact ⟨fun z => z.elim id (fun e => e ▸ hTx), .inl⟩, hb, hf, by rw [if_pos hTx]; exact hn, hr, hl⟩
    rw [hTx] at q
    exact wpAny_pure (wpAny_pure q)
  | none =>
    dsimp only
    have hnx : x ∉ el.toList.map kS := fun z => by
      obtain ⟨e, he, q⟩ := (gs_mem (P := P) (w := w) g x).1 z
      have c := List.findIdx?_eq_none_iff.mp hfi e he
      rw [q] at c; cases c
    have hTx : T x = false := by
      cases q : T x with
      | false => rfl
      | true => exact absurd ((hm x).1 q) hnx
    have hgw : ∀ (b : Bool) {z : Shared} {Q' : Unit → Shared → Prop}, Q' () z → wpAny (model P w) A (match b with | true => rule "set.scan.the-table-gave-way" | false => pure ()) Q' E z :=
      fun b z Q' q => by cases b <;> first | exact wpAny_pure q | exact wpAny_rule q
    have pm := layNew_perm tb el ((strKind P w).hash x) (.str x u); have hf1 := layNew_fits tb el ((strKind P w).hash x) (.str x u)
    have hr1 := layNew_ris tb el ((strKind P w).hash x) (.str x u) hr; have hl1 := layNew_led tb el ((strKind P w).hash x) (.str x u)
    generalize layNew tb el ((strKind P w).hash x) (.str x u) = Y at pm hf1 hr1 hl1 ⊢
    obtain ⟨el1, tb1, wd, gv⟩ := Y
    dsimp only at pm hf1 hr1 hl1 ⊢
    rw [Array.toList_push] at pm
    have pc : el1.toList.Perm (((strKind P w).hash x, Value.str x u) :: el.toList) := pm.trans (List.perm_append_singleton _ _)
    have pk : (el1.toList.map kS).Perm (x :: el.toList.map kS) := pc.map kS
    have g1 : ∀ e ∈ el1.toList, GS w e := fun e he => (List.mem_cons.mp (pc.mem_iff.mp he)).elim (fun z => by rw [z]; exact ⟨x, u, rfl, rfl⟩) (fun z => g e z)
    have nd1 : (el1.toList.map kS).Nodup := pk.nodup_iff.mpr (List.nodup_cons.mpr ⟨hnx, nd⟩)
    have m1 : ∀ y, (T y || decide (y = x)) = true ↔ y ∈ el1.toList.map kS := fun y => by rw [Bool.or_eq_true, decide_eq_true_eq, hm y, pk.mem_iff, List.mem_cons]; exact Or.comm
    have hz : el1.size = m + 1 := by rw [← Array.length_toList, pc.length_eq, List.length_cons, Array.length_toList, hn]
    have hb1 : el1.size < scanBound := by rw [hz]; exact room
    have hld : w.params.followText "set-order" = true ∨ tb1.led = true := hl.imp id fun z => by rw [hl1]; exact z
    have fin : ∀ h', Heap.SameBut d s.heap h' → SetS w h' d (fun y => T y || decide (y = x)) el1.size → Q true { s with heap := h' } := fun h' sb r => by
      have q := hQ h' sb
      rw [hTx] at q; rw [hz] at r
      exact q r
    refine wpAny_bind (hgw _ ?_); split
    · refine wpAny_bind ?_; rw [hashByValue_scannable 8 hsc]
      refine wpAny_pure (sets_tail ?_ ho hex hd g1 nd1 m1 hb1 ?_ ?_ ?_ ?_)
      · intro b z Q' q; cases b <;> first | exact wpAny_pure q | exact wpAny_rule q
      · first | (split <;> first | exact hf1 | exact SetTable.fits_plain_off hf1) | exact hf1
      · first | (split <;> exact hr1) | exact hr1
      · first | (split <;> exact hld) | exact hld
      · intro h' sb r; dsimp only; exact wpAny_pure (fin h' sb r)
    · refine wpAny_bind (wpAny_pure ?_); simp only [↓reduceIte]
      refine sets_tail ?_ ho hex hd g1 nd1 m1 hb1 hf1 hr1 hld fun h' sb r => ?_
      · intro b z Q' q; cases b <;> first | exact wpAny_pure q | exact wpAny_rule q
      · dsimp only; exact wpAny_pure (fin h' sb r)
end
end L2

set_option Elab.async false
set_option linter.all false
set_option maxRecDepth 100000
set_option maxHeartbeats 4000000
namespace L2
open PySem PySem.Spec PyProof.Rows
theorem sets_new {w : World} {h : Heap} {d : Addr} {zs : List Str} (ho : h.get? d = some { cls := .type "set", dict := none, data := .set #[] 0 (.fresh 0 0 (!w.params.followText "set-order")) }) : SetS w h d (fun x => decide (x ∈ zs.take 0)) 0 :=
  ⟨_, #[], 0, _, ho, ⟨rfl, rfl, rfl⟩, rfl, (fun e he => by simp at he), (by simp), (fun k => by simp), (by decide), (by rfl), rfl, List.Pairwise.nil, by show _ ∨ (!w.params.followText "set-order") = true; cases w.params.followText "set-order" <;> first | exact .inl rfl | exact .inr rfl⟩
section
variable {P : Program} {w : World} {A : Around} {E : Value → Shared → Prop} {s : Shared}
theorem sets_loop {J : Addr} {fp wr : List Addr} {G : Array GenState → Array GenState → Prop} {m : Nat} {Pv : Nat → Value → Prop} {St : Nat → Shared → Prop} {R : Result → Shared → Prop}
    (W : WalksS P w A.in1 J fp wr G m Pv St) (D : Addr) (hDf : D ∉ fp) (zs : List Str) (hm : m = zs.length) (hb : zs.length + 1 < scanBound) (hval : ∀ i v, Pv i v → ∃ x u, zs[i]? = some x ∧ v = .str x u) :
    ∀ (k i : Nat) (s : Shared), m - i = k → i ≤ m → St i s → (∃ c, c ≤ i ∧ SetS w s.heap D (fun x => decide (x ∈ zs.take i)) c) →
      (∀ s' c, Moved (D :: wr) G s s' → c ≤ m → SetS w s'.heap D (fun x => decide (x ∈ zs)) c → R (.ok (.ret .none)) s') →
      codeAny (model P w) A (.builtin "set.update.loop" ⟨[.ref D, .ref J], []⟩) R s := by
  have hDw : D ∉ wr := fun h => hDf (W.sub _ h)
  have hsub : ∀ b ∈ wr, b ∈ D :: wr := fun b hb => List.mem_cons_of_mem _ hb
  intro k
  induction k with
  | zero =>
    intro i s hk' hi hst ⟨c, hc, hS⟩ hR
    obtain rfl : i = m := by omega
    refine codeAny_builtin F.entry_set_update_loop ?_; rw [Around.under_plainId F.plain_set_update_loop _]
    show wpAny _ A.in1 (pyNext (.ref J) >>= _) _ _ s
    refine wpAny_bind (W.done s _ _ hst fun s' hmv => ?_)
    show wpAny _ A.in1 (ret Value.none) _ _ s'
    have e : zs.take i = zs := List.take_of_length_le (by omega)
    rw [e] at hS
    exact wpAny_pure (hR s' c (hmv.mono hsub) hc (hS.mv fun o e => hmv.heap D o hDw e))
  | succ k ih =>
    intro i s hk' hi hst ⟨c, hc, hS⟩ hR
    have hlt : i < m := by omega
    refine codeAny_builtin F.entry_set_update_loop ?_; rw [Around.under_plainId F.plain_set_update_loop _]
    show wpAny _ A.in1 (pyNext (.ref J) >>= _) _ _ s
    refine wpAny_bind (W.item i s _ _ hlt hst fun v s' hP hst' hmv => ?_)
    obtain ⟨x, u, hx, rfl⟩ := hval i v hP
    have hS' : SetS w s'.heap D (fun y => decide (y ∈ zs.take i)) c := hS.mv fun o e => hmv.heap D o hDw e
    show wpAny _ A.in1 (holding [Value.str x u] (setAdd D (.str x u)) >>= _) _ _ s'
    refine wpAny_bind (wpAny_holding ?_); unfold setAdd
    refine wpAny_holding (wpAny_bind ((strKind P w).pyHash (k := x) (strKind_is _ _ _ _) (sets_add (s := { s' with toks := s'.toks + 1 }) hS' (by omega) fun h' hsb hS2 => ?_)))
    have hS3 : SetS w h' D (fun y => decide (y ∈ zs.take (i + 1))) (if decide (x ∈ zs.take i) = true then c else c + 1) := hS2.cg fun y => by rw [List.take_add_one, hx]; simp [List.mem_append]
    have hc3 : (if decide (x ∈ zs.take i) = true then c else c + 1) ≤ i + 1 := by split <;> omega
    refine wpAny_pure ⟨plainId_quiet F.plain_set_update_loop _, ih (i + 1) _ (by omega) hlt (W.frame _ s' _ _ hst' (Nat.le_succ _) fun b hb o e => ?_) ⟨_, hc3, hS3⟩ fun s2 c2 hm2 hc2 hS4 => hR s2 c2 (Moved.trans W.gtrans ((hmv.mono hsub).then_heap (Nat.le_succ _) fun b o hb e => ?_) hm2) hc2 hS4⟩
    · rw [hsb.2 b (fun h : b = D => hDf (h ▸ hb))]; exact e
    · rw [hsb.2 b (fun h : b = D => hb (h ▸ List.mem_cons_self))]; exact e
/-- the object that set() begins with -/
def nSet (w : World) : Obj := { cls := .type "set", dict := none, data := .set #[] 0 (.fresh 0 0 (!w.params.followText "set-order")) }
set_option maxHeartbeats 3200000 in
theorem call_sets {l : Addr} {items : Array Value} (zs : List Str) {Q : Value → Shared → Prop} (hh : A.handled = none) (hl : s.heap.IsList l items) (hit : StrsAre items.toList zs) (hb : zs.length + 1 < scanBound)
    (h : ∀ (h' : Heap) (tk c : Nat), SetS w h' s.heap.objs.size (fun x => decide (x ∈ zs)) c → c ≤ zs.length → (∀ b o, s.heap.get? b = some o → h'.get? b = some o) → Q (.ref s.heap.objs.size) { s with heap := h', toks := tk }) :
    wpAny (model P w) A (call (.type "set") [.ref l]) Q E s := by
  have hz : items.size = zs.length := by rw [← Array.length_toList]; exact StrsAre.len_eq hit
  obtain ⟨c, tl, hmro⟩ := F.called_set.mro
  have hmade := F.called_set.made; have hsub := F.called_set.sub
  refine wpAny_call (codeAny_of_tree ?_); show wpAny _ _ (callAny (.type "set") _) _ _ _
  refine wpAny_pure ⟨Code.quiet_builtin _ (by decide +kernel), codeAny_builtin F.entry_type_call ?_⟩; rw [Around.under_plain (weight_type_call_type "set" [.ref l] []) rfl]
  have h1 := F.called_set.notType; have h2 := F.called_set.canCreate; have hct := F.typeCall_set_1 (.ref l)
  repeat (any_goals (first | assumption | wp_step))
  refine codeAny_mono (code_set_led1 (.ref l) (E := E) (Q₁ := fun b z => b = .ref s.heap.objs.size ∧ z = { s with heap := s.heap.push (nSet w) }) ⟨rfl, rfl⟩) fun r z hr => ?_
  cases r with
  | error e => exact hr
  | ok fl =>
    cases fl with
    | ret b =>
      obtain ⟨rfl, rfl⟩ := hr
      have hS : (s.heap.push (nSet w)).get? s.heap.objs.size = some (nSet w) := Heap.get?_push_size _ rfl
      have hT : Shared.TypeIs { s with heap := s.heap.push (nSet w) } (.ref s.heap.objs.size) "set" := ⟨_, hS, rfl⟩
      have hli := F.called_set.init.lookup; have hbi := F.called_set.init.bind (.ref s.heap.objs.size)
      repeat (any_goals (first | assumption | wp_step))
      refine codeAny_mono (codeAny_call_builtin (R := wants (fun r z2 => r = .none ∧ ∃ h' tk c, z2 = { s with heap := h', toks := tk } ∧ SetS w h' s.heap.objs.size (fun x => decide (x ∈ zs)) c ∧ c ≤ zs.length ∧ (∀ b o, s.heap.get? b = some o → h'.get? b = some o)) E) F.called_set.init.plain F.entry_set_init (check_set_init_1 hT ?_)) fun r2 z2 hr2 => ?_
      · obtain ⟨ol, hol, hcl, nl, hdl⟩ := hl
        obtain ⟨oc, od, oa, os⟩ := ol
        simp only at hcl hdl; subst hcl; subst hdl
        have hol' : (s.heap.push (nSet w)).get? l = some { cls := .type "list", dict := od, data := .seq items nl, slots := os } := Heap.get?_push_of_some _ hol
        have hsls := PySem.F.sub_list_set; have hslf := PySem.F.sub_list_frozenset
        have hne : (Value.type "list" == Value.type "dict") = false := by decide
        have hl1 : (s.heap.push (nSet w)).IsList l items := ⟨_, hol', rfl, nl, rfl⟩
        unfold Builtin.«set.__init__» noKeywords Builtin.Frozenset.updateFrom; generalize hPI : pyIter = PI
        wp_walk
        subst hPI
        refine wpAny_pyIter_list hl1 (wpAny_bind (wpAny_runValue ?_))
        have hlS : l < s.heap.objs.size := Heap.lt_size hol; have hh3 : A.in1.in1.in1.handled = none := by simp [hh]
        have hnI : l ≠ (s.heap.push (nSet w)).objs.size := by rw [Heap.size_push]; exact Nat.ne_of_lt (Nat.lt_succ_of_lt hlS)
        have hDf : s.heap.objs.size ∉ [(s.heap.push (nSet w)).objs.size, l] := by
          rw [Heap.size_push]; simp only [List.mem_cons, List.mem_singleton, List.not_mem_nil, or_false, not_or]; exact ⟨Nat.ne_of_lt (Nat.lt_succ_self _), Nat.ne_of_gt hlS⟩
        have hval : ∀ (i : Nat) (v : Value), items[i]? = some v → ∃ x u, zs[i]? = some x ∧ v = .str x u := fun i v hv => by
          have hi : i < zs.length := by rw [← hz]; exact (Array.getElem?_eq_some_iff.mp hv).1
          obtain ⟨u, e⟩ := SS.strs_at hit i v (by rw [Array.getElem?_toList]; exact hv)
          refine ⟨zs[i], u, List.getElem?_eq_getElem hi, ?_⟩
          rw [e, List.getD_eq_getElem?_getD, List.getElem?_eq_getElem hi] <;> rfl
        refine sets_loop ((Walks.list hh3 _ l hnI items).toS) s.heap.objs.size hDf zs hz hb hval (items.size - 0) 0 _ (by omega) (Nat.zero_le _) ⟨⟨_, Heap.get?_push_size _ rfl, rfl, rfl⟩, (hl1.push _)⟩ ?a0 ?a1
        case a0 => exact ⟨0, Nat.le_refl 0, sets_new (Heap.get?_push_of_some _ hS)⟩
        case a1 =>
          intro s' c' hm hc' hS'
          obtain ⟨h', g2, d', tk', os'⟩ := s'
          obtain rfl : g2 = s.gens := hm.gens
          obtain rfl : d' = s.drawn := hm.drawn
          obtain rfl : os' = s.os := hm.os
          show wpAny _ _ _ _ _ _
          refine wpAny_pure ?_; show wpAny _ _ (ret Value.none) _ _ _
          rw [hz] at hc'
          refine wpAny_pure ⟨rfl, h', tk', c', rfl, hS', hc', fun b o e => ?_⟩
          have hb0 : b < s.heap.objs.size := Heap.lt_size e
          have hb2 : b ≠ (s.heap.push (nSet w)).objs.size := by rw [Heap.size_push]; exact Nat.ne_of_lt (Nat.lt_succ_of_lt hb0)
          exact hm.heap b o (by simp only [List.mem_cons, List.mem_singleton, List.not_mem_nil, or_false, not_or]; exact ⟨Nat.ne_of_lt hb0, hb2⟩) (Heap.get?_push_of_some _ (Heap.get?_push_of_some _ e))
      · cases r2 with
        | error e => exact hr2
        | ok fl2 =>
          cases fl2 with
          | ret r =>
            obtain ⟨rfl, h', tk, c', rfl, hS', hc', hk'⟩ := hr2
            repeat (any_goals (first | assumption | wp_step))
            exact h _ _ _ hS' hc' hk'
          | _ => exact hr2.elim
    | _ => exact hr.elim
theorem strs_of : ∀ (l : List (Int × Value)), (∀ e ∈ l, GS w e) → StrsAre (l.map (·.2)) (l.map kS)
  | [], _ => .nil
  | e :: l, g => by
    obtain ⟨x, u, h1, _⟩ := g e List.mem_cons_self
    have t := strs_of l fun y hy => g y (List.mem_cons_of_mem _ hy)
    have k : kS e = x := by unfold kS; rw [h1]
    show StrsAre (e.2 :: _) (kS e :: _)
    rw [k, h1]
    exact .cons x u t
theorem strs_perm {us vs : List Value} {xs : List Str} (p : vs.Perm us) : StrsAre us xs → ∃ ys, StrsAre vs ys ∧ ys.Perm xs := by
  induction p generalizing xs with
  | nil => intro h; exact ⟨xs, h, List.Perm.refl _⟩
  | cons v _ ih =>
    intro h
    cases h with
    | cons x u t =>
      obtain ⟨ys, h1, h2⟩ := ih t
      exact ⟨x :: ys, .cons x u h1, h2.cons x⟩
  | swap a b l =>
    intro h
    cases h with
    | cons x u t =>
      cases t with
      | cons y z t => exact ⟨y :: x :: _, .cons y z (.cons x u t), List.Perm.swap _ _ _⟩
  | trans _ _ i1 i2 =>
    intro h
    obtain ⟨ys, h1, h2⟩ := i2 h
    obtain ⟨zs, h3, h4⟩ := i1 h1
    exact ⟨zs, h3, h4.trans h2⟩
theorem sorted_sets {d : Addr} {T : Str → Bool} {m : Nat} {Q : Value → Shared → Prop} (R : SetS w s.heap d T m) (hh : A.handled = none) (h64 : m < 64)
    (hQ : ∀ s' p (out : Array Value) (c : Nat) (ys : List Str), (∀ b o, s.heap.get? b = some o → s'.heap.get? b = some o) → s'.gens = s.gens → s'.os = s.os → s.heap.objs.size ≤ p →
      s'.heap.get? p = some (seqObj "list" out c) → StrsAre out.toList ys → sortedS ys = true → ys.Nodup → (∀ x, x ∈ ys ↔ T x = true) → ys.length = m → Q (.ref p) s') :
    wpAny (model P w) A (call (.builtin "sorted") [.ref d]) Q E s := by
  obtain ⟨ob, el, ep, tb, ho, hex, hd, g, nd, hm, hb, hf, hn, hr, hl⟩ := R
  refine Calls.call_function_entry kind_sorted plain_sorted entry_sorted (args_sorted1 _) ?_
  unfold Builtin.«sorted»
  refine wpAny_bind (m := checkCount "sorted" 1 1 _) (wpAny_pure (wpAny_bind (collect_set (A := A.in1) hh ⟨ob, ho, hex.1, hd⟩ hf hb hr hl fun s1 vs k1 hz g1 o1 pm => ?_)))
  have hvl : vs.length = m := by rw [pm.length_eq, List.length_map, Array.length_toList]; exact hn
  obtain ⟨xs, hI, hp⟩ := strs_perm pm (strs_of _ g)
  refine wpAny_bind (wpAny_newList ?_ (by rw [hvl, sizeLine_eq]; omega))
  have hoL : (s1.heap.push (seqObj "list" vs.toArray 0)).get? s1.heap.objs.size = some (seqObj "list" vs.toArray 0) := Heap.get?_push_size _ rfl
  refine wpAny_bind (wpAny_holding (wpAny_call_entry slot_list_sort ⟨_, hoL, rfl⟩ entry_list_sort (list_sort_treeK strKind_oneLt hoL hI.keysOf (fun v₁ v₂ rest e => keyKind_strs (by rw [← e]; exact hI)) (by rw [hvl]; exact h64) fun st' a1 a2 => ⟨_, rfl, ?_⟩) (args_list_sort _)))
  obtain ⟨ys, b1, b2, b3⟩ := sorted_out_str hI a1 a2
  obtain ⟨c, hc⟩ := sortedHeap_at (vs := vs) (out := (arrOf st').map (·.2)) hoL
  have pn : ys.Perm (el.toList.map kS) := b2.trans hp
  refine wpAny_pure ⟨_, rfl, hQ _ s1.heap.objs.size _ c ys (fun b u e => ?_) g1 o1 hz hc b1 b3 (pn.nodup_iff.mpr nd) (fun x => by rw [pn.mem_iff, ← hm x]) (by rw [pn.length_eq, List.length_map, Array.length_toList]; exact hn)⟩
  have q := k1 b u e
  have hlt := Heap.lt_size q
  show (sortedHeap (s1.heap.push (seqObj "list" vs.toArray 0)) s1.heap.objs.size vs _).get? b = some u
  rw [sortedHeap_old (Nat.ne_of_lt hlt) (by rw [size_push']; exact Nat.lt_succ_of_lt hlt)]
  exact Heap.get?_push_of_some _ q
end
/-! ### the rules -/
/-- the set of texts at d, as the heap tells it -/
def SetSO (w : World) (d : Addr) (T : Str → Bool) (m : Nat) : HO := .ext fun h => SetS w h d T m
section
variable {X : Cx}
theorem setSO_new {w : World} {P : Program} {H : Hp} {h : Heap} {d : Addr} {T : Str → Bool} {m : Nat} (R : SetS w h d T m) : ObjOk P w H h d (SetSO w d T m) := by
  have ⟨o, _, _, _, ho, _⟩ := R
  exact ⟨R, ⟨o, ho⟩, fun h1 h2 p k => SetS.mv p k⟩
theorem setSO_get {pins : List (Addr × Obj)} {σ : St} {H : Hp} {s : Shared} {d : Addr} {T : Str → Bool} {m : Nat} (I : Inv X pins σ H s) (hd : H d = some (SetSO X.w d T m)) : SetS X.w s.heap d T m := (I.hok d _ hd).1
/-- set(l), l a list of texts -/
def rSetStrs (K : PySem.W.Frag) (w : World) : List V → Hp → VK → Prop := fun xs H Q => ∃ (l : Addr) (zs : List Str), xs = [V.ref l] ∧ SqL K H l (zs.map V.str) ∧ zs.length + 1 < scanBound ∧
  ∀ (p : Addr) (c : Nat), c ≤ zs.length → H p = none → Q (.ref p) (upd H p (SetSO w p (fun x => decide (x ∈ zs)) c))
theorem cr_setStrs (hc : X.calm = true) : CallR X (.type "set") (rSetStrs X.K X.w) := by
  intro pins s σ H xs us Q I r h
  obtain ⟨l, zs, rfl, hs, hb, q⟩ := h
  obtain ⟨its, rv, hl, _⟩ := I.list hs
  rw [Vals.ref1 r]
  refine call_sets (w := X.w) zs (I.ok.hd hc) hl.isList (by simpa using strsAre_of rv) hb fun h' tk c hS hc' hk => ?_
  exact ⟨.ref s.heap.objs.size, upd H s.heap.objs.size (SetSO X.w s.heap.objs.size (fun x => decide (x ∈ zs)) c), I.laid (t' := tk) (fun b u e => hk b u e) (Nat.le_refl _) (setSO_new hS), rfl, q _ c hc' (I.hok.fresh (Nat.le_refl _))⟩
/-- sorted(d), d such a set -/
def rSortSS (w : World) : List V → Hp → VK → Prop := fun vs H Q => ∃ (d : Addr) (T : Str → Bool) (m : Nat), vs = [V.ref d] ∧ H d = some (SetSO w d T m) ∧ m < 64 ∧
  ∀ (ys : List Str) (p : Addr), sortedS ys = true → ys.Nodup → (∀ x, x ∈ ys ↔ T x = true) → H p = none → Q (.ref p) (upd H p (.lst (ys.map V.str)))
theorem cr_sortSS (hc : X.calm = true) : CallR X (.builtin "sorted") (rSortSS X.w) := by
  intro pins s σ H vs us Q I r h
  obtain ⟨d, T, m, rfl, hd, h64, q⟩ := h
  have R := setSO_get I hd
  rw [Vals.ref1 r]
  refine sorted_sets R (I.ok.hd hc) h64 fun s' p out c ys k g o hp hg hi h1 h2 h3 h4 => ?_
  have hn : H p = none := I.hok.fresh hp
  have hle : (ys.map V.str).length ≤ sizeLine := by
    rw [List.length_map, h4]
    exact Nat.le_trans (Nat.le_of_lt h64) (by decide)
  have J : Inv X pins σ (upd H p (.lst (ys.map V.str))) { s with heap := s'.heap, gens := s'.gens, drawn := s'.drawn, toks := s'.toks } :=
    I.call (ch := []) (Un.laid k hp hn) (I.hok.laid k hp ⟨hle, out.toList, c, vals_of_strs hi, hg⟩) (by rw [g]; exact I.bare) (fun _ z => nomatch z)
  have e : s' = { s with heap := s'.heap, gens := s'.gens, drawn := s'.drawn, toks := s'.toks } := by
    cases s'; cases s; cases o; rfl
  rw [e]
  exact ⟨.ref p, _, J, rfl, q ys p h1 h2 h3 hn⟩
end
end L2

set_option Elab.async false
set_option linter.all false
set_option maxRecDepth 100000
namespace L2
open PySem PySem.Spec PyProof.Rows
theorem nodup_le : ∀ {l N : List Str}, l.Nodup → (∀ x ∈ l, x ∈ N) → l.length ≤ N.length
  | [], N, _, _ => Nat.zero_le _
  | x :: l, N, h, hs => by
    have hx : x ∈ N := hs x (List.mem_cons_self ..)
    have h1 := List.nodup_cons.mp h
    have := nodup_le (l := l) (N := N.erase x) h1.2 (fun y hy => (List.mem_erase_of_ne (fun e => h1.1 (by rw [← e]; exact hy))).2 (hs y (List.mem_cons_of_mem _ hy)))
    rw [List.length_erase_of_mem hx] at this
    have hp := List.length_pos_of_mem hx
    rw [List.length_cons]
    omega
section
variable {X : Cx}
/-- sorted(d), d a set of texts that are among few -/
def rSortSN (w : World) : List V → Hp → VK → Prop := fun vs H Q => ∃ (d : Addr) (T : Str → Bool) (m : Nat) (N : List Str), vs = [V.ref d] ∧ H d = some (SetSO w d T m) ∧ (∀ x, T x = true → x ∈ N) ∧ N.length < 64 ∧
  ∀ (ys : List Str) (p : Addr), sortedS ys = true → ys.Nodup → (∀ x, x ∈ ys ↔ T x = true) → H p = none → Q (.ref p) (upd H p (.lst (ys.map V.str)))
theorem cr_sortSN (hc : X.calm = true) : CallR X (.builtin "sorted") (rSortSN X.w) := by
  intro pins s σ H vs us Q I r h
  obtain ⟨d, T, m, N, rfl, hd, hN, h64, q⟩ := h
  have R := setSO_get I hd
  refine cr_sortSS hc pins s σ H _ us Q I r ⟨d, T, m, rfl, hd, ?_, q⟩
  obtain ⟨ob, el, ep, tb, _, _, _, _, nd, hT, _, _, em, _⟩ := R
  have := nodup_le nd (fun x hx => hN x ((hT x).2 hx))
  rw [List.length_map, Array.length_toList] at this
  omega
end
end L2

set_option Elab.async false
set_option linter.all false
set_option maxRecDepth 100000
namespace My
open PySem L2
abbrev scounter_of : Stmt := top 17
abbrev Ncounter_of : List Str := ["form", "word"]
abbrev Pcounter_of : List Str := ["form"]
theorem sccounter_of : FnScope Ncounter_of Pcounter_of (defScope scounter_of) := ⟨rfl, rfl, rfl, by decide +kernel, rfl, by decide +kernel, by decide +kernel⟩
abbrev sdepth_of : Stmt := top 18
abbrev Ndepth_of : List Str := ["form"]
abbrev Pdepth_of : List Str := ["form"]
theorem scdepth_of : FnScope Ndepth_of Pdepth_of (defScope sdepth_of) := ⟨rfl, rfl, rfl, by decide +kernel, rfl, by decide +kernel, by decide +kernel⟩
abbrev sgoods_of : Stmt := top 19
abbrev Ngoods_of : List Str := ["form"]
abbrev Pgoods_of : List Str := ["form"]
theorem scgoods_of : FnScope Ngoods_of Pgoods_of (defScope sgoods_of) := ⟨rfl, rfl, rfl, by decide +kernel, rfl, by decide +kernel, by decide +kernel⟩
abbrev s_law_counter : Stmt := top 35
abbrev N_law_counter : List Str := ["_law_form", "_law_turned"]
abbrev P_law_counter : List Str := ["_law_form"]
theorem sc_law_counter : FnScope N_law_counter P_law_counter (defScope s_law_counter) := ⟨rfl, rfl, rfl, by decide +kernel, rfl, by decide +kernel, by decide +kernel⟩
/-! ### the counter of a form -/
def Sg.flip : Sg → Sg | .mul => .bar | .bar => .mul | .amp => .plus | .plus => .amp
def cnt : FT → FT
  | .leaf co n => .leaf (!co) n
  | .node s l r => .node s.flip (cnt l) (cnt r)
theorem cnt_dep : ∀ t : FT, (cnt t).dep = t.dep
  | .leaf _ _ => rfl
  | .node s l r => by
    show 1 + max (cnt l).dep (cnt r).dep = 1 + max l.dep r.dep
    rw [cnt_dep l, cnt_dep r]
theorem cnt_lvs : ∀ t : FT, (cnt t).lvs = t.lvs
  | .leaf _ _ => rfl
  | .node s l r => by
    show (cnt l).lvs + (cnt r).lvs = l.lvs + r.lvs
    rw [cnt_lvs l, cnt_lvs r]
theorem cnt_cnt : ∀ t : FT, cnt (cnt t) = t
  | .leaf co n => by show FT.leaf (!!co) n = _; rw [Bool.not_not]
  | .node s l r => by
    show FT.node s.flip.flip (cnt (cnt l)) (cnt (cnt r)) = _
    rw [cnt_cnt l, cnt_cnt r]
    cases s <;> rfl
theorem cnt_ok : ∀ t : FT, t.Ok → (cnt t).Ok
  | .leaf _ _, h => h
  | .node _ l r, h => ⟨cnt_ok l h.1, cnt_ok r h.2⟩
/-- the names of the leaves, from left to right -/
def nms : FT → List Str
  | .leaf _ n => [Z n]
  | .node _ l r => nms l ++ nms r
theorem nms_len : ∀ t : FT, (nms t).length = t.lvs
  | .leaf _ _ => rfl
  | .node _ l r => by
    show (nms l ++ nms r).length = l.lvs + r.lvs
    rw [List.length_append, nms_len l, nms_len r]
theorem nms_cnt : ∀ t : FT, nms (cnt t) = nms t
  | .leaf _ _ => rfl
  | .node _ l r => by
    show nms (cnt l) ++ nms (cnt r) = nms l ++ nms r
    rw [nms_cnt l, nms_cnt r]
def turnedR : List (Key × V) := [(.inr "both", .str "between"), (.inr "between", .str "both"), (.inr "offered", .str "chosen"), (.inr "chosen", .str "offered")]
theorem same_disp {H : Hp} {p : Addr} {o o' : HO} (n : H p = none) : Same H (upd (upd H p o) p o') := fun b u e => by
  rw [upd_ne (ne_of_none e n), upd_ne (ne_of_none e n)]
  exact e
structure TxtC (K : PySem.W.Frag) (mg : Str → Option Value) (w : World) where
  aCW : Addr
  COUNTER_WORDS : ∃ u, mg "COUNTER_WORDS" = some u ∧ RelV (.ref aCW) u
  kL : ∀ co : Bool, KDct K w aCW (leafZ co) (.str (leafZ !co))
  kN : ∀ s : Sg, KDct K w aCW s.word (.str s.flip.word)
def spCounterOf (K : PySem.W.Frag) (n : Nat) : Sp := fun vs H Q _ => ∃ v t, vs = [v] ∧ Fm K H t v ∧ t.dep < n ∧ ∀ H' u, Same H H' → Fm K H' (cnt t) u → Q u H'
def spDepthOf (K : PySem.W.Frag) (n : Nat) : Sp := fun vs H Q _ => ∃ v t, vs = [v] ∧ Fm K H t v ∧ t.dep < n ∧ Q (.int (t.dep : Nat)) H
def spGoodsOf (K : PySem.W.Frag) (n : Nat) : Sp := fun vs H Q _ => ∃ v t, vs = [v] ∧ Fm K H t v ∧ t.dep < n ∧ t.lvs ≤ 1000 ∧ ∀ H' p, Same H H' → H' p = some (.lst ((nms t).map V.str)) → Q (.ref p) H'
section
variable {P : Program} {w : World} {K : PySem.W.Frag} {mg : Str → Option Value} {base : Heap} {f : Addr} {fd : FuncData}
theorem okcounter_of {n : Nat} (Y : TxtC K mg w) (Cis_leaf : Cal P w K mg base "is_leaf" 1 Nis_leaf (spLeafT K)) (F : Fun K "counter_of" "counter_of" scounter_of f fd) (Ccounter_of : Cal P w K mg base "counter_of" (1 + n) Pcounter_of (spCounterOf K n)) : FnOk P w K mg base CX0 (1 + n + 1) f fd Pcounter_of (spCounterOf K (n + 1)) := by
  refine F.ok sccounter_of (fun vs H Q E h => ?_) (fun cdv A outer s H vs Q E hr h => ?_)
  · obtain ⟨v, t, rfl, _⟩ := h
    rfl
  obtain ⟨v, t, rfl, hf, hd, q⟩ := h
  refine ⟨_, (pss_cons (ps_set (i := 1) sccounter_of.nd rfl (Or.inl rfl) (pe_ix ix_kdict (pe_globE Y.COUNTER_WORDS) (pe_ix ix_tup (pv 0) pe_int (fun _ _ => rfl)) (fun _ _ => rfl)))
  (pss_cons (ps_if (pt_val (pe_callC Cis_leaf hr (pa_cons (pv 0) pa_nil)))
    (pss_one (ps_ret (pe_tupN (pa_cons (pv 1) (pa_cons (pe_ix ix_tup (pv 0) pe_int (fun _ _ => rfl)) pa_nil)))))
    pss_nil)
  (pss_one (ps_ret (pe_tupN (pa_cons (pv 1) (pa_cons (pe_callC Ccounter_of hr (pa_cons (pe_ix ix_tup (pv 0) pe_int (fun _ _ => rfl)) pa_nil)) (pa_cons (pe_callC Ccounter_of hr (pa_cons (pe_ix ix_tup (pv 0) pe_int (fun _ _ => rfl)) pa_nil)) pa_nil)))))))), ?_⟩
  cases t with
  | leaf co m =>
    obtain ⟨a, rfl, ha⟩ := hf
    refine ⟨_, rfl, a, _, 0, _, rfl, rfl, ha, rfl, Y.aCW, leafZ co, _, rfl, rfl, Y.kL co, ?_⟩
    refine ⟨_, rfl, .ref a, .leaf co m, rfl, ⟨a, rfl, ha⟩, true, rfl, iteT ?_⟩
    exact ⟨_, rfl, _, rfl, a, _, 1, _, rfl, rfl, ha, rfl, le1k, fun p H1 s1 e1 => q H1 _ s1 ⟨p, rfl, e1⟩⟩
  | node s l r =>
    obtain ⟨a, x, y, rfl, ha, hx, hy⟩ := hf
    have hd' : 1 + max l.dep r.dep < n + 1 := hd
    refine ⟨_, rfl, a, _, 0, _, rfl, rfl, ha, rfl, Y.aCW, s.word, _, rfl, rfl, Y.kN s, ?_⟩
    refine ⟨_, rfl, .ref a, .node s l r, rfl, ⟨a, x, y, rfl, ha, hx, hy⟩, false, rfl, iteF ?_⟩
    refine ⟨_, rfl, _, rfl, a, _, 1, _, rfl, rfl, ha, rfl, x, l, rfl, hx, by omega, fun H1 u1 s1 w1 => ?_⟩
    refine ⟨_, rfl, a, _, 2, _, rfl, rfl, (Same.kt s1).seq ha, rfl, y, r, rfl, (Same.kt s1).fm _ hy, by omega, fun H2 u2 s2 w2 => ?_⟩
    exact ⟨le1k, fun p H3 s3 e3 => q H3 _ ((s1.trans s2).trans s3) ⟨p, u1, u2, rfl, e3, (Same.kt (s2.trans s3)).fm _ w1, (Same.kt s3).fm _ w2⟩⟩
theorem okdepth_of {n : Nat} (T : Txt K mg) (Cis_leaf : Cal P w K mg base "is_leaf" 1 Nis_leaf (spLeafT K)) (F : Fun K "depth_of" "depth_of" sdepth_of f fd) (Cdepth_of : Cal P w K mg base "depth_of" (1 + n) Pdepth_of (spDepthOf K n)) : FnOk P w K mg base CX0 (1 + n + 1) f fd Pdepth_of (spDepthOf K (n + 1)) := by
  refine F.ok scdepth_of (fun vs H Q E h => ?_) (fun cdv A outer s H vs Q E hr h => ?_)
  · obtain ⟨v, t, rfl, _⟩ := h
    rfl
  obtain ⟨v, t, rfl, hf, hd, q⟩ := h
  refine ⟨_, (pss_cons (ps_if (pt_val (pe_callC Cis_leaf hr (pa_cons (pv 0) pa_nil)))
    (pss_one (ps_ret pe_int))
    pss_nil)
  (pss_one (ps_ret (pe_op op_add pe_int (pe_callB (call_max2 rfl) rfl T.max (by decide +kernel) (pa_cons (pe_callC Cdepth_of hr (pa_cons (pe_ix ix_tup (pv 0) pe_int (fun _ _ => rfl)) pa_nil)) (pa_cons (pe_callC Cdepth_of hr (pa_cons (pe_ix ix_tup (pv 0) pe_int (fun _ _ => rfl)) pa_nil)) pa_nil))))))), ?_⟩
  cases t with
  | leaf co m =>
    obtain ⟨a, rfl, ha⟩ := hf
    exact ⟨_, rfl, .ref a, .leaf co m, rfl, ⟨a, rfl, ha⟩, true, rfl, iteT q⟩
  | node s l r =>
    obtain ⟨a, x, y, rfl, ha, hx, hy⟩ := hf
    have hd' : 1 + max l.dep r.dep < n + 1 := hd
    refine ⟨_, rfl, .ref a, .node s l r, rfl, ⟨a, x, y, rfl, ha, hx, hy⟩, false, rfl, iteF ?_⟩
    refine ⟨_, rfl, a, _, 1, _, rfl, rfl, ha, rfl, x, l, rfl, hx, by omega, ?_⟩
    refine ⟨_, rfl, a, _, 2, _, rfl, rfl, ha, rfl, y, r, rfl, hy, by omega, ?_⟩
    refine ⟨_, _, rfl, _, _, rfl, rfl, ?_⟩
    have e : (1 : Int) + (if (r.dep : Int) > (l.dep : Int) then (r.dep : Int) else (l.dep : Int)) = (((FT.node s l r).dep : Nat) : Int) := by
      show _ = ((1 + max l.dep r.dep : Nat) : Int)
      split <;> omega
    show Q (.int (1 + (if (r.dep : Int) > (l.dep : Int) then (r.dep : Int) else (l.dep : Int)))) H
    rw [e]
    exact q
theorem okgoods_of {n : Nat} (Cis_leaf : Cal P w K mg base "is_leaf" 1 Nis_leaf (spLeafT K)) (F : Fun K "goods_of" "goods_of" sgoods_of f fd) (Cgoods_of : Cal P w K mg base "goods_of" (1 + n) Pgoods_of (spGoodsOf K n)) : FnOk P w K mg base CX0 (1 + n + 1) f fd Pgoods_of (spGoodsOf K (n + 1)) := by
  refine F.ok scgoods_of (fun vs H Q E h => ?_) (fun cdv A outer s H vs Q E hr h => ?_)
  · obtain ⟨v, t, rfl, _⟩ := h
    rfl
  obtain ⟨v, t, rfl, hf, hd, hl, q⟩ := h
  refine ⟨_, (pss_cons (ps_if (pt_val (pe_callC Cis_leaf hr (pa_cons (pv 0) pa_nil)))
    (pss_one (ps_ret (pe_lstN (pa_cons (pe_ix ix_tup (pv 0) pe_int (fun _ _ => rfl)) pa_nil))))
    pss_nil)
  (pss_one (ps_ret (pe_op op_catLN (pe_callC Cgoods_of hr (pa_cons (pe_ix ix_tup (pv 0) pe_int (fun _ _ => rfl)) pa_nil)) (pe_callC Cgoods_of hr (pa_cons (pe_ix ix_tup (pv 0) pe_int (fun _ _ => rfl)) pa_nil)))))), ?_⟩
  cases t with
  | leaf co m =>
    obtain ⟨a, rfl, ha⟩ := hf
    refine ⟨_, rfl, .ref a, .leaf co m, rfl, ⟨a, rfl, ha⟩, true, rfl, iteT ?_⟩
    exact ⟨_, rfl, a, _, 1, _, rfl, rfl, ha, rfl, le1k, fun p H1 s1 e1 => q H1 p s1 e1⟩
  | node s l r =>
    obtain ⟨a, x, y, rfl, ha, hx, hy⟩ := hf
    have hd' : 1 + max l.dep r.dep < n + 1 := hd
    have hl' : l.lvs + r.lvs ≤ 1000 := hl
    refine ⟨_, rfl, .ref a, .node s l r, rfl, ⟨a, x, y, rfl, ha, hx, hy⟩, false, rfl, iteF ?_⟩
    refine ⟨_, rfl, a, _, 1, _, rfl, rfl, ha, rfl, x, l, rfl, hx, by omega, by omega, fun H1 p1 s1 e1 => ?_⟩
    refine ⟨_, rfl, a, _, 2, _, rfl, rfl, (Same.kt s1).seq ha, rfl, y, r, rfl, (Same.kt s1).fm _ hy, by omega, by omega, fun H2 p2 s2 e2 => ?_⟩
    refine ⟨p1, p2, _, _, rfl, rfl, s2 _ _ e1, e2, ?_, fun p H3 s3 e3 => q H3 p ((s1.trans s2).trans s3) ?_⟩
    · rw [List.length_map, List.length_map, nms_len, nms_len]
      exact hl'
    · rw [e3]
      show some (HO.lst (_ ++ _)) = some (HO.lst ((nms l ++ nms r).map V.str))
      rw [List.map_append]
theorem ok_law_counter {n : Nat} (F : Fun K "_law_counter" "_law_counter" s_law_counter f fd) (C_law_counter : Cal P w K mg base "_law_counter" n P_law_counter (spCounterOf K n)) : FnOk P w K mg base CX0 (n + 1) f fd P_law_counter (spCounterOf K (n + 1)) := by
  refine F.ok sc_law_counter (fun vs H Q E h => ?_) (fun cdv A outer s H vs Q E hr h => ?_)
  · obtain ⟨v, t, rfl, _⟩ := h
    rfl
  obtain ⟨v, t, rfl, hf, hd, q⟩ := h
  refine ⟨_, (pss_cons (ps_if (pt_cmpR op_in_seq (pe_ix ix_tup (pv 0) pe_int (fun _ _ => rfl)) (pe_lstN (pa_cons pe_str (pa_cons pe_str pa_nil))) rfl)
    (pss_one (ps_ret (pe_tupN (pa_cons (pe_ifExp (pt_cmpR op_eq (pe_ix ix_tup (pv 0) pe_int (fun _ _ => rfl)) pe_str (nomark _)) pe_str pe_str) (pa_cons (pe_ix ix_tup (pv 0) pe_int (fun _ _ => rfl)) pa_nil)))))
    pss_nil)
  (pss_cons (ps_set (i := 1) sc_law_counter.nd rfl (Or.inl rfl) (pe_disp (pps_cons pe_str pe_str (pps_cons pe_str pe_str (pps_cons pe_str pe_str (pps_cons pe_str pe_str pps_nil)))) (by rfl) (by rfl) (fun z => by cases z) (by decide)))
  (pss_one (ps_ret (pe_tupN (pa_cons (pe_dget (hu_of hr) (pv 1) (pe_ix ix_tup (pv 0) pe_int (fun _ _ => rfl)) (fun _ _ => rfl)) (pa_cons (pe_callC C_law_counter hr (pa_cons (pe_ix ix_tup (pv 0) pe_int (fun _ _ => rfl)) pa_nil)) (pa_cons (pe_callC C_law_counter hr (pa_cons (pe_ix ix_tup (pv 0) pe_int (fun _ _ => rfl)) pa_nil)) pa_nil)))))))), ?_⟩
  cases t with
  | leaf co m =>
    obtain ⟨a, rfl, ha⟩ := hf
    refine ⟨_, rfl, a, _, 0, _, rfl, rfl, ha, rfl, le1k, fun p0 H0 s0 e0 => ⟨p0, _, rfl, .inl (SqL.of e0), rfl, rfl, _, rfl, ?_⟩⟩
    have ein : (if false = true then !inV (V.str (leafZ co)) [V.str "good", V.str "counter"] else inV (V.str (leafZ co)) [V.str "good", V.str "counter"]) = true := by cases co <;> decide +kernel
    refine ite2 (fun _ => ?_) (fun c => absurd ein c)
    have h0 := (Same.kt s0).seq ha
    refine ⟨_, rfl, a, _, 0, _, rfl, rfl, h0, rfl, rfl, _, rfl, ?_⟩
    cases co with
    | false =>
      refine ite2 (fun _ => ?_) (fun c => absurd (by decide +kernel) c)
      exact ⟨_, rfl, a, _, 1, _, rfl, rfl, h0, rfl, le1k, fun p H1 s1 e1 => q H1 _ (s0.trans s1) ⟨p, rfl, e1⟩⟩
    | true =>
      refine ite2 (fun c => absurd c (by decide +kernel)) (fun _ => ?_)
      exact ⟨_, rfl, a, _, 1, _, rfl, rfl, h0, rfl, le1k, fun p H1 s1 e1 => q H1 _ (s0.trans s1) ⟨p, rfl, e1⟩⟩
  | node s l r =>
    obtain ⟨a, x, y, rfl, ha, hx, hy⟩ := hf
    have hd' : 1 + max l.dep r.dep < n + 1 := hd
    refine ⟨_, rfl, a, _, 0, _, rfl, rfl, ha, rfl, le1k, fun p0 H0 s0 e0 => ⟨p0, _, rfl, .inl (SqL.of e0), rfl, rfl, _, rfl, ?_⟩⟩
    have ein : (if false = true then !inV (V.str s.word) [V.str "good", V.str "counter"] else inV (V.str s.word) [V.str "good", V.str "counter"]) = false := by cases s <;> decide +kernel
    refine ite2 (fun c => by rw [ein] at c; cases c) (fun _ => ?_)
    intro W nW
    refine ⟨upd_same, turnedR, rfl, by decide, ?_⟩
    have s1 : Same H0 (upd (upd H0 W (.dK [])) W (.dK (mergeK [] turnedR))) := same_disp nW
    have eW : upd (upd H0 W (.dK [])) W (.dK (mergeK [] turnedR)) W = some (.dK (mergeK [] turnedR)) := upd_same
    generalize upd (upd H0 W (.dK [])) W (.dK (mergeK [] turnedR)) = H1 at *
    have kt := Same.kt (s0.trans s1)
    have ha1 := kt.seq ha
    refine ⟨_, rfl, _, rfl, a, _, 0, _, rfl, rfl, ha1, rfl, W, .str s.flip.word, rfl, ?_, ?_⟩
    · have e : some (V.str s.flip.word) = valV (mergeK [] turnedR) (.inr s.word) := by cases s <;> rfl
      rw [e]
      exact DGet.k (k := Sum.inr s.word) eW
    refine ⟨_, rfl, a, _, 1, _, rfl, rfl, ha1, rfl, x, l, rfl, kt.fm _ hx, by omega, fun H2 u1 s2 w1 => ?_⟩
    refine ⟨_, rfl, a, _, 2, _, rfl, rfl, (Same.kt s2).seq ha1, rfl, y, r, rfl, (kt.trans (Same.kt s2)).fm _ hy, by omega, fun H3 u2 s3 w2 => ?_⟩
    exact ⟨le1k, fun p H4 s4 e4 => q H4 _ ((((s0.trans s1).trans s2).trans s3).trans s4) ⟨p, u1, u2, rfl, e4, (Same.kt (s3.trans s4)).fm _ w1, (Same.kt s4).fm _ w2⟩⟩
end
end My

set_option Elab.async false
set_option linter.all false
set_option maxRecDepth 100000
namespace My
open PySem L2
abbrev scounter : Stmt := top 26
abbrev Ncounter : List Str := ["form"]
abbrev Pcounter : List Str := ["form"]
theorem sccounter : FnScope Ncounter Pcounter (defScope scounter) := ⟨rfl, rfl, rfl, by decide +kernel, rfl, by decide +kernel, by decide +kernel⟩
abbrev sdepth : Stmt := top 27
abbrev Ndepth : List Str := ["form"]
abbrev Pdepth : List Str := ["form"]
theorem scdepth : FnScope Ndepth Pdepth (defScope sdepth) := ⟨rfl, rfl, rfl, by decide +kernel, rfl, by decide +kernel, by decide +kernel⟩
abbrev sgoods : Stmt := top 28
abbrev Ngoods : List Str := ["form"]
abbrev Pgoods : List Str := ["form"]
theorem scgoods : FnScope Ngoods Pgoods (defScope sgoods) := ⟨rfl, rfl, rfl, by decide +kernel, rfl, by decide +kernel, by decide +kernel⟩
abbrev s_law_leaves : Stmt := top 36
abbrev N_law_leaves : List Str := ["_law_form"]
abbrev P_law_leaves : List Str := ["_law_form"]
theorem sc_law_leaves : FnScope N_law_leaves P_law_leaves (defScope s_law_leaves) := ⟨rfl, rfl, rfl, by decide +kernel, rfl, by decide +kernel, by decide +kernel⟩
abbrev s_law_goods : Stmt := top 51
abbrev N_law_goods : List Str := ["_law_form", "_law_names_here", "_law_leaf"]
abbrev P_law_goods : List Str := ["_law_form"]
theorem sc_law_goods : FnScope N_law_goods P_law_goods (defScope s_law_goods) := ⟨rfl, rfl, rfl, by decide +kernel, rfl, by decide +kernel, by decide +kernel⟩
def leS (a b : Str) : Prop := a.cps.toList ≤ b.cps.toList
theorem leS_trans {a b c : Str} (h1 : leS a b) (h2 : leS b c) : leS a c := List.le_trans h1 h2
theorem leS_anti {a b : Str} (h1 : leS a b) (h2 : leS b a) : a = b := TL.ext_tl (List.le_antisymm h1 h2)
theorem rising_pw : ∀ (r : List Str) (p : Str), PyProof.Rows.risingS p r = true → (p :: r).Pairwise leS
  | [], p, _ => List.pairwise_singleton _ _
  | x :: r, p, h => by
    unfold PyProof.Rows.risingS at h
    obtain ⟨h1, h2⟩ := Bool.and_eq_true_iff.mp h
    have t := rising_pw r x h2
    have px : leS p x := by
      rw [PyProof.Rows.ltCps_eq] at h1
      have h3 : ¬ (x.cps.toList < p.cps.toList) := fun z => by rw [decide_eq_true z] at h1; cases h1
      exact List.not_lt.mp h3
    refine List.pairwise_cons.mpr ⟨fun y hy => ?_, t⟩
    rcases List.mem_cons.mp hy with e | e
    · rw [e]; exact px
    · exact leS_trans px ((List.pairwise_cons.mp t).1 y e)
theorem sorted_pw {ys : List Str} (h : PyProof.Rows.sortedS ys = true) : ys.Pairwise leS := by
  cases ys with
  | nil => exact List.Pairwise.nil
  | cons x r => exact rising_pw r x h
theorem sorted_eq {xs ys : List Str} (h1 : xs.Pairwise leS) (h2 : ys.Pairwise leS) (n1 : xs.Nodup) (n2 : ys.Nodup) (m : ∀ x, x ∈ xs ↔ x ∈ ys) : xs = ys :=
  List.Perm.eq_of_pairwise (le := leS) (fun _ _ _ _ => leS_anti) h1 h2 ((List.perm_ext_iff_of_nodup n1 n2).mpr m)

structure TxtG (mg : Str → Option Value) : Prop where
  set : mg "set" = none
  sorted : mg "sorted" = none
/-- what is no form -/
def BadF (K : PySem.W.Frag) (CB : Addr) (v : V) (H : Hp) (E : XK) : Prop := ∃ D, Dp K H v D ∧ (∀ z, D = .str z → z.length ≤ 1000) ∧ shortD D = true ∧ D.depth ≤ 60 ∧ isForm 12 D = false ∧ badE CB "value" v H E
def spCounter (K : PySem.W.Frag) (CB : Addr) : Sp := fun vs H Q E => ∃ v, vs = [v] ∧ ((∃ t, Fm K H t v ∧ t.Ok ∧ t.dep ≤ 12 ∧ ∀ H' u, Same H H' → Fm K H' (cnt t) u → Q u H') ∨ BadF K CB v H E)
def spDepthP (K : PySem.W.Frag) (CB : Addr) : Sp := fun vs H Q E => ∃ v, vs = [v] ∧ ((∃ t, Fm K H t v ∧ t.Ok ∧ t.dep ≤ 12 ∧ ∀ H', Same H H' → Q (.int (t.dep : Nat)) H') ∨ BadF K CB v H E)
/-- the names, each once, ascending -/
def NmsT (K : PySem.W.Frag) (H : Hp) (t : FT) (u : V) : Prop := ∃ p ys, u = .ref p ∧ SqT K H p (ys.map V.str) ∧ PyProof.Rows.sortedS ys = true ∧ ys.Nodup ∧ ys.length ≤ 1000 ∧ ∀ x, x ∈ ys ↔ x ∈ nms t
def Few (t : FT) : Prop := t.lvs ≤ 1000 ∧ ∃ N : List Str, N.length < 64 ∧ ∀ z ∈ nms t, z ∈ N
def spGoods (K : PySem.W.Frag) (CB : Addr) : Sp := fun vs H Q E => ∃ v, vs = [v] ∧ ((∃ t, Fm K H t v ∧ t.Ok ∧ t.dep ≤ 12 ∧ Few t ∧ ∀ H' u, Same H H' → NmsT K H' t u → Q u H') ∨ BadF K CB v H E)
def LfV (K : PySem.W.Frag) (H : Hp) (u : V) (z : Str) : Prop := ∃ a w, u = .ref a ∧ SqT K H a [w, .str z]
def spLLeaves (K : PySem.W.Frag) (n : Nat) : Sp := fun vs H Q _ => ∃ v t, vs = [v] ∧ Fm K H t v ∧ t.dep < n ∧ t.lvs ≤ 1000 ∧ ∀ H' p us, Same H H' → H' p = some (.lst us) → Paired (LfV K H') us (nms t) → Q (.ref p) H'
def spLGoods (K : PySem.W.Frag) : Sp := fun vs H Q _ => ∃ v t, vs = [v] ∧ Fm K H t v ∧ t.dep < 30 ∧ Few t ∧ ∀ H' u, Same H H' → NmsT K H' t u → Q u H'
theorem nms_eq {w : World} {K : PySem.W.Frag} {H : Hp} {t t' : FT} {u v : V} (e : nms t = nms t') (h : NmsT K H t u) (g : NmsT K H t' v) : Tw w K H 3 u v := by
  obtain ⟨p, ys, rfl, h1, h2, h3, h4, h5⟩ := h
  obtain ⟨r, zs, rfl, g1, g2, g3, g4, g5⟩ := g
  obtain rfl : ys = zs := sorted_eq (sorted_pw h2) (sorted_pw g2) h3 g3 (fun x => by rw [h5, g5, e])
  have tw : ∀ l : List Str, Paired (Tw w K H 2) (l.map V.str) (l.map V.str) := fun l => by
    induction l with
    | nil => exact .nil
    | cons a l ih => exact .cons (.inl ⟨rfl, rfl⟩) ih
  exact .inr (.inr (.inl ⟨p, r, _, _, rfl, rfl, h1, g1, by rw [List.length_map]; exact h4, tw ys⟩))
section
variable {P : Program} {w : World} {K : PySem.W.Frag} {mg : Str → Option Value} {base : Heap} {f : Addr} {fd : FuncData} {CB : Addr}
theorem okcounter (Cck : CalX P w K mg base "check_form" 16 Nis_leaf (spCheckForm K CB)) (Ccounter_of : Cal P w K mg base "counter_of" 14 Pcounter_of (spCounterOf K 13)) (F : Fun K "counter" "counter" scounter f fd) : FnOk P w K mg base (L2.CX P w) 18 f fd Pcounter (spCounter K CB) := by
  refine F.okX sccounter (fun vs H Q E h => ?_) (fun cdv A outer s H vs Q E hr h => ?_)
  · obtain ⟨v, rfl, _⟩ := h
    rfl
  obtain ⟨v, rfl, h⟩ := h
  refine ⟨_, (pss_cons (ps_expr (pe_callS Cck.ok (hr.mono (by decide)) rfl Cck.m Cck.kp Cck.b (fun σ => passAt (takes_of rfl rfl rfl rfl) σ) (pa_cons (pv 0) pa_nil)))
  (pss_one (ps_ret (pe_callC Ccounter_of hr (pa_cons (pv 0) pa_nil))))), ?_⟩
  rcases h with ⟨t, hf, ok, hd, q⟩ | ⟨D, hv, hz, hs, hd, hn, q⟩
  · refine ⟨_, rfl, _, rfl, .inl ⟨t.data, FT.of_fm t hf, (fun z e => by cases t <;> cases e), short_form (ft_isForm t ok hd), Nat.le_trans (depth_form (ft_isForm t ok hd)) (by decide), fun _ H1 s1 => ?_, fun z => (by rw [ft_isForm t ok hd] at z; cases z)⟩⟩
    exact ⟨_, rfl, v, t, rfl, (Same.kt s1).fm t hf, by omega, fun H2 u s2 w2 => q H2 u (s1.trans s2) w2⟩
  · exact ⟨_, rfl, _, rfl, .inl ⟨D, hv, hz, hs, hd, fun z => (by rw [hn] at z; cases z), fun _ => q⟩⟩
theorem okdepth (Cck : CalX P w K mg base "check_form" 16 Nis_leaf (spCheckForm K CB)) (Cdepth_of : Cal P w K mg base "depth_of" 14 Pdepth_of (spDepthOf K 13)) (F : Fun K "depth" "depth" sdepth f fd) : FnOk P w K mg base (L2.CX P w) 18 f fd Pdepth (spDepthP K CB) := by
  refine F.okX scdepth (fun vs H Q E h => ?_) (fun cdv A outer s H vs Q E hr h => ?_)
  · obtain ⟨v, rfl, _⟩ := h
    rfl
  obtain ⟨v, rfl, h⟩ := h
  refine ⟨_, (pss_cons (ps_expr (pe_callS Cck.ok (hr.mono (by decide)) rfl Cck.m Cck.kp Cck.b (fun σ => passAt (takes_of rfl rfl rfl rfl) σ) (pa_cons (pv 0) pa_nil)))
  (pss_one (ps_ret (pe_callC Cdepth_of hr (pa_cons (pv 0) pa_nil))))), ?_⟩
  rcases h with ⟨t, hf, ok, hd, q⟩ | ⟨D, hv, hz, hs, hd, hn, q⟩
  · refine ⟨_, rfl, _, rfl, .inl ⟨t.data, FT.of_fm t hf, (fun z e => by cases t <;> cases e), short_form (ft_isForm t ok hd), Nat.le_trans (depth_form (ft_isForm t ok hd)) (by decide), fun _ H1 s1 => ?_, fun z => (by rw [ft_isForm t ok hd] at z; cases z)⟩⟩
    exact ⟨_, rfl, v, t, rfl, (Same.kt s1).fm t hf, by omega, q H1 s1⟩
  · exact ⟨_, rfl, _, rfl, .inl ⟨D, hv, hz, hs, hd, fun z => (by rw [hn] at z; cases z), fun _ => q⟩⟩
theorem okgoods (T : Txt K mg) (G : TxtG mg) (Cck : CalX P w K mg base "check_form" 16 Nis_leaf (spCheckForm K CB)) (Cgoods_of : Cal P w K mg base "goods_of" 14 Pgoods_of (spGoodsOf K 13)) (F : Fun K "goods" "goods" sgoods f fd) : FnOk P w K mg base (L2.CX P w) 18 f fd Pgoods (spGoods K CB) := by
  refine F.okX scgoods (fun vs H Q E h => ?_) (fun cdv A outer s H vs Q E hr h => ?_)
  · obtain ⟨v, rfl, _⟩ := h
    rfl
  obtain ⟨v, rfl, h⟩ := h
  refine ⟨_, (pss_cons (ps_expr (pe_callS Cck.ok (hr.mono (by decide)) rfl Cck.m Cck.kp Cck.b (fun σ => passAt (takes_of rfl rfl rfl rfl) σ) (pa_cons (pv 0) pa_nil)))
  (pss_one (ps_ret (pe_callTy call_tuple_of rfl T.tuple (by decide +kernel) (pa_cons (pe_callB (cr_sortSN rfl) rfl G.sorted (by decide +kernel) (pa_cons (pe_callTy (cr_setStrs rfl) rfl G.set (by decide +kernel) (pa_cons (pe_callC Cgoods_of hr (pa_cons (pv 0) pa_nil)) pa_nil)) pa_nil)) pa_nil))))), ?_⟩
  rcases h with ⟨t, hf, ok, hd, ⟨hl, N, hN, hm⟩, q⟩ | ⟨D, hv, hz, hs, hd, hn, q⟩
  · refine ⟨_, rfl, _, rfl, .inl ⟨t.data, FT.of_fm t hf, (fun z e => by cases t <;> cases e), short_form (ft_isForm t ok hd), Nat.le_trans (depth_form (ft_isForm t ok hd)) (by decide), fun _ H1 s1 => ?_, fun z => (by rw [ft_isForm t ok hd] at z; cases z)⟩⟩
    refine ⟨_, rfl, v, t, rfl, (Same.kt s1).fm t hf, by omega, hl, fun H2 l s2 e2 => ?_⟩
    have hn := nms_len t
    refine ⟨l, nms t, rfl, SqL.of e2, by unfold scanBound; omega, fun p c hc np => ?_⟩
    refine ⟨p, _, c, N, rfl, upd_same, fun x hx => hm x (of_decide_eq_true hx), hN, fun ys p2 h1 h2 h3 np2 => ?_⟩
    have hy : ys.length ≤ N.length := nodup_le h2 fun x hx => hm x (of_decide_eq_true ((h3 x).1 hx))
    refine ⟨p2, _, rfl, .inl ⟨SqL.of upd_same, fun p3 np3 => ?_⟩⟩
    exact q _ (.ref p3) (((s1.trans s2).trans (same_new np _)).trans ((same_new np2 _).trans (same_new np3 _))) ⟨p3, ys, rfl, SqT.of upd_same, h1, h2, by omega, fun x => (h3 x).trans decide_eq_true_iff⟩
  · exact ⟨_, rfl, _, rfl, .inl ⟨D, hv, hz, hs, hd, fun z => (by rw [hn] at z; cases z), fun _ => q⟩⟩
theorem ok_law_leaves {n : Nat} (T : Txt K mg) (F : Fun K "_law_leaves" "_law_leaves" s_law_leaves f fd) (C_law_leaves : Cal P w K mg base "_law_leaves" n P_law_leaves (spLLeaves K n)) : FnOk P w K mg base CX0 (n + 1) f fd P_law_leaves (spLLeaves K (n + 1)) := by
  refine F.ok sc_law_leaves (fun vs H Q E h => ?_) (fun cdv A outer s H vs Q E hr h => ?_)
  · obtain ⟨v, t, rfl, _⟩ := h
    rfl
  obtain ⟨v, t, rfl, hf, hd, hl, q⟩ := h
  refine ⟨_, (pss_one (ps_ret (pe_ifExp (pt_cmpR op_eq (pe_callB call_len rfl T.len (by decide +kernel) (pa_cons (pv 0) pa_nil)) pe_int (nomark _)) (pe_lstN (pa_cons (pv 0) pa_nil)) (pe_op op_catLN (pe_callC C_law_leaves hr (pa_cons (pe_ix ix_tup (pv 0) pe_int (fun _ _ => rfl)) pa_nil)) (pe_callC C_law_leaves hr (pa_cons (pe_ix ix_tup (pv 0) pe_int (fun _ _ => rfl)) pa_nil)))))), ?_⟩
  cases t with
  | leaf co m =>
    obtain ⟨a, rfl, ha⟩ := hf
    refine ⟨_, rfl, _, _, rfl, .inr ⟨_, ha, rfl⟩, rfl, true, rfl, ?_⟩
    exact ⟨_, rfl, le1k, fun p H1 s1 e1 => q H1 p _ s1 e1 (.cons ⟨a, _, rfl, (Same.kt s1).seq ha⟩ .nil)⟩
  | node s l r =>
    obtain ⟨a, x, y, rfl, ha, hx, hy⟩ := hf
    have hd' : 1 + max l.dep r.dep < n + 1 := hd
    have hl' : l.lvs + r.lvs ≤ 1000 := hl
    refine ⟨_, rfl, _, _, rfl, .inr ⟨_, ha, rfl⟩, rfl, false, rfl, ?_⟩
    refine ⟨_, rfl, a, _, 1, _, rfl, rfl, ha, rfl, x, l, rfl, hx, by omega, by omega, fun H1 p1 us1 s1 e1 w1 => ?_⟩
    refine ⟨_, rfl, a, _, 2, _, rfl, rfl, (Same.kt s1).seq ha, rfl, y, r, rfl, (Same.kt s1).fm _ hy, by omega, by omega, fun H2 p2 us2 s2 e2 w2 => ?_⟩
    have l1 := paired_len w1
    have l2 := paired_len w2
    rw [nms_len] at l1 l2
    refine ⟨p1, p2, _, _, rfl, rfl, s2 _ _ e1, e2, by omega, fun p H3 s3 e3 => q H3 p _ ((s1.trans s2).trans s3) e3 ?_⟩
    have k : ∀ {G G' : Hp} {u : V} {z : Str}, Same G G' → LfV K G u z → LfV K G' u z := fun s ⟨b, c, e, h⟩ => ⟨b, c, e, (Same.kt s).seq h⟩
    exact paired_app (paired_imp (fun _ _ h => k (s2.trans s3) h) w1) (paired_imp (fun _ _ h => k s3 h) w2)
theorem ok_law_goods (T : Txt K mg) (G : TxtG mg) (F : Fun K "_law_goods" "_law_goods" s_law_goods f fd) (C_law_leaves : Cal P w K mg base "_law_leaves" 30 P_law_leaves (spLLeaves K 30)) : FnOk P w K mg base CX0 31 f fd P_law_goods (spLGoods K) := by
  refine F.ok sc_law_goods (fun vs H Q E h => ?_) (fun cdv A outer s H vs Q E hr h => ?_)
  · obtain ⟨v, t, rfl, _⟩ := h
    rfl
  obtain ⟨v, t, rfl, hf, hd, ⟨hl, N, hN, hm⟩, q⟩ := h
  refine ⟨_, (pss_cons (ps_setLc (i := 1) (own := [("_law_leaf", 2)]) (g := (gName 2)) (te := tOp (rIxT K) (tVar 2) (tC (.int 1))) rfl sc_law_goods.nd rfl rfl (sw_true rfl rfl rfl (by decide +kernel)) (pi_list (pe_callC C_law_leaves hr (pa_cons (pv 0) pa_nil))) (blkOk_by (own := [("_law_leaf", 2)]) (N := N_law_goods) (sc := defScope s_law_goods) (by decide +kernel)) (fun _ _ _ _ _ => (pg_name (i := 2) sc_law_goods.nd rfl (Or.inl rfl))) (fun _ _ _ _ _ => pts_nil) (fun _ _ _ _ _ => (pe_ix ix_tup (pv 2) pe_int (fun _ _ => rfl))))
  (pss_one (ps_ret (pe_callTy call_tuple_of rfl T.tuple (by decide +kernel) (pa_cons (pe_callB (cr_sortSN rfl) rfl G.sorted (by decide +kernel) (pa_cons (pe_callTy (cr_setStrs rfl) rfl G.set (by decide +kernel) (pa_cons (pv 1) pa_nil)) pa_nil)) pa_nil))))), ?_⟩
  refine ⟨_, rfl, v, t, rfl, hf, hd, hl, fun H1 l us s1 e1 w1 => ⟨l, rfl, ⟨_, SqL.of e1⟩, fun D nD => ?_⟩⟩
  have hn := nms_len t
  have lu := paired_len w1
  refine lc_it (walk_list (xs := us)) (fun i H' => Same H1 H' ∧ H' D = some (.lst (((nms t).take i).map V.str))) ⟨same_new nD _, upd_same⟩ (fun i H' _ p => SqL.of (p.1 _ _ e1)) (fun i y H3 H4 hi p yy => ?_) (fun H3 p => ?_)
  · obtain ⟨rfl, hy⟩ := yy
    obtain ⟨s3, eD⟩ := p
    obtain ⟨z, hz, a, w0, rfl, ha⟩ := paired_take w1 hy
    refine ⟨rfl, _, rfl, a, _, 1, _, rfl, rfl, (Same.kt s3).seq ha, rfl, _, eD, small1000 (by rw [List.length_map, List.length_take]; omega), same_at s3 nD, ?_⟩
    rw [upd_same, take_next hz, List.map_append]
    rfl
  obtain ⟨s3, eD⟩ := p
  rw [List.take_of_length_le (by omega)] at eD
  refine ⟨_, rfl, D, nms t, rfl, SqL.of eD, by unfold scanBound; omega, fun p c hc np => ?_⟩
  refine ⟨p, _, c, N, rfl, upd_same, fun x hx => hm x (of_decide_eq_true hx), hN, fun ys p2 h1 h2 h3 np2 => ?_⟩
  have hy : ys.length ≤ N.length := nodup_le h2 fun x hx => hm x (of_decide_eq_true ((h3 x).1 hx))
  refine ⟨p2, _, rfl, .inl ⟨SqL.of upd_same, fun p3 np3 => ?_⟩⟩
  exact q _ (.ref p3) (((s1.trans s3).trans (same_new np _)).trans ((same_new np2 _).trans (same_new np3 _))) ⟨p3, ys, rfl, SqT.of upd_same, h1, h2, by omega, fun x => (h3 x).trans decide_eq_true_iff⟩
end
end My

set_option Elab.async false
set_option linter.all false
set_option maxRecDepth 100000
namespace My
open PySem L2
abbrev sform_with : Stmt := top 20
abbrev Nform_with : List Str := ["form", "forms"]
abbrev Pform_with : List Str := ["form", "forms"]
theorem scform_with : FnScope Nform_with Pform_with (defScope sform_with) := ⟨rfl, rfl, rfl, by decide +kernel, rfl, by decide +kernel, by decide +kernel⟩
abbrev sdepth_with : Stmt := top 21
abbrev Ndepth_with : List Str := ["form", "depths"]
abbrev Pdepth_with : List Str := ["form", "depths"]
theorem scdepth_with : FnScope Ndepth_with Pdepth_with (defScope sdepth_with) := ⟨rfl, rfl, rfl, by decide +kernel, rfl, by decide +kernel, by decide +kernel⟩
abbrev s_law_put : Stmt := top 50
abbrev N_law_put : List Str := ["_law_form", "_law_forms"]
abbrev P_law_put : List Str := ["_law_form", "_law_forms"]
theorem sc_law_put : FnScope N_law_put P_law_put (defScope s_law_put) := ⟨rfl, rfl, rfl, by decide +kernel, rfl, by decide +kernel, by decide +kernel⟩
/-! ### forms by name -/
def fget : List (Str × FT) → Str → Option FT
  | [], _ => none
  | p :: r, z => if p.1 = z then some p.2 else fget r z
def FDv (K : PySem.W.Frag) (H : Hp) (kvs : List (Key × V)) (fd : List (Str × FT)) : Prop := Paired (fun (kv : Key × V) (p : Str × FT) => kv.1 = .inr p.1 ∧ Fm K H p.2 kv.2) kvs fd
def FD (K : PySem.W.Frag) (H : Hp) (a : Addr) (fd : List (Str × FT)) : Prop := ∃ kvs, Rd H a (.dK kvs) ∧ FDv K H kvs fd
theorem FDv.kt {K : PySem.W.Frag} {H H' : Hp} {kvs : List (Key × V)} {fd : List (Str × FT)} (k : KT H H') (h : FDv K H kvs fd) : FDv K H' kvs fd := paired_imp (fun _ _ z => ⟨z.1, k.fm _ z.2⟩) h
theorem Rd.same {H H' : Hp} {a : Addr} {u : HO} (s : Same H H') (h : Rd H a u) : Rd H' a u := h.elim (fun h => .inl (s _ _ h)) fun ⟨o, h⟩ => .inr ⟨o, s _ _ h⟩
theorem FD.same {K : PySem.W.Frag} {H H' : Hp} {a : Addr} {fd : List (Str × FT)} (s : Same H H') (h : FD K H a fd) : FD K H' a fd := by
  obtain ⟨kvs, h1, h2⟩ := h
  exact ⟨kvs, Rd.same s h1, h2.kt (Same.kt s)⟩
theorem FDv.get {K : PySem.W.Frag} {H : Hp} (z : Str) : ∀ {kvs : List (Key × V)} {fd : List (Str × FT)}, FDv K H kvs fd → (fget fd z = none → valV kvs (.inr z) = none) ∧ ∀ t, fget fd z = some t → ∃ v, valV kvs (.inr z) = some v ∧ Fm K H t v
  | _, _, .nil => ⟨fun _ => rfl, fun t h => by cases h⟩
  | _, _, .cons (a := kv) (b := p) h r => by
    obtain ⟨h1, h2⟩ := FDv.get z r
    by_cases e : p.1 = z
    · have e2 : kv.1 = (.inr z : Key) := by rw [h.1, e]
      refine ⟨fun n => ?_, fun t ht => ?_⟩
      · unfold fget at n
        rw [if_pos e] at n
        cases n
      · unfold fget at ht
        rw [if_pos e] at ht
        obtain rfl := Option.some.inj ht
        exact ⟨kv.2, valV_pos e2, h.2⟩
    · have e2 : ¬ kv.1 = (.inr z : Key) := by
        rw [h.1]
        exact fun q => e (Sum.inr.inj q)
      unfold fget
      rw [if_neg e, valV_neg e2]
      exact ⟨h1, h2⟩
theorem FD.dget {K : PySem.W.Frag} {H : Hp} {a : Addr} {fd : List (Str × FT)} (h : FD K H a fd) (z : Str) : ∃ o, DGet H a (.str z) o ∧ (fget fd z = none → o = none) ∧ ∀ t, fget fd z = some t → ∃ v, o = some v ∧ Fm K H t v := by
  obtain ⟨kvs, h1, h2⟩ := h
  obtain ⟨g1, g2⟩ := FDv.get z h2
  exact ⟨valV kvs (.inr z), .inl ⟨kvs, .inr z, h1, rfl, rfl⟩, g1, g2⟩
/-- forms put in for goods -/
def putT (fd : List (Str × FT)) : FT → FT
  | .leaf co n => match fget fd (Z n) with
    | none => .leaf co n
    | some t => if co = true then cnt t else t
  | .node s l r => .node s (putT fd l) (putT fd r)
def dget (fd : List (Str × FT)) (z : Str) : Nat := match fget fd z with
  | none => 0
  | some t => t.dep
def depW (fd : List (Str × FT)) : FT → Nat
  | .leaf _ n => dget fd (Z n)
  | .node _ l r => 1 + max (depW fd l) (depW fd r)
theorem depW_put (fd : List (Str × FT)) : ∀ t : FT, (putT fd t).dep = depW fd t
  | .leaf co n => by
    unfold putT depW dget
    cases fget fd (Z n) with
    | none => rfl
    | some t =>
      show (if co = true then cnt t else t).dep = t.dep
      split
      · exact cnt_dep t
      · rfl
  | .node s l r => by
    show 1 + max (putT fd l).dep (putT fd r).dep = 1 + max (depW fd l) (depW fd r)
    rw [depW_put fd l, depW_put fd r]
theorem fget_mem : ∀ {fd : List (Str × FT)} {z : Str} {t : FT}, fget fd z = some t → (z, t) ∈ fd
  | p :: r, z, t, h => by
    unfold fget at h
    by_cases e : p.1 = z
    · rw [if_pos e] at h
      obtain rfl := Option.some.inj h
      rw [← e]
      exact List.mem_cons_self
    · rw [if_neg e] at h
      exact List.mem_cons_of_mem _ (fget_mem h)
structure FDok (fd : List (Str × FT)) : Prop where
  len : fd.length ≤ 10
  nd : (fd.map (·.1)).Nodup
  ok : ∀ p ∈ fd, isName p.1 = true ∧ p.2.Ok ∧ p.2.dep ≤ 8
theorem depW_le {fd : List (Str × FT)} (h : FDok fd) : ∀ t : FT, depW fd t ≤ t.dep + 8
  | .leaf co n => by
    unfold depW dget
    cases e : fget fd (Z n) with
    | none => exact Nat.zero_le _
    | some t => exact Nat.le_trans (h.ok _ (fget_mem e)).2.2 (Nat.le_add_left _ _)
  | .node s l r => by
    have h1 := depW_le h l
    have h2 := depW_le h r
    show 1 + max (depW fd l) (depW fd r) ≤ 1 + max l.dep r.dep + 8
    omega
def spPut (K : PySem.W.Frag) (n : Nat) : Sp := fun vs H Q _ => ∃ v a t fd, vs = [v, .ref a] ∧ Fm K H t v ∧ t.dep < n ∧ FD K H a fd ∧ FDok fd ∧ ∀ H' u, Same H H' → Fm K H' (putT fd t) u → Q u H'
def spDepthW (K : PySem.W.Frag) (n : Nat) : Sp := fun vs H Q _ => ∃ v a t fd kvs, vs = [v, .ref a] ∧ Fm K H t v ∧ t.dep < n ∧ Rd H a (.dK kvs) ∧ (∀ z, valV kvs (.inr z) = (fget fd z).map fun t => V.int (t.dep : Nat)) ∧ Q (.int (depW fd t : Nat)) H
section
variable {P : Program} {w : World} {K : PySem.W.Frag} {mg : Str → Option Value} {base : Heap} {f : Addr} {fd : FuncData} {CB : Addr}
theorem okform_with {n : Nat} (Cis_leaf : Cal P w K mg base "is_leaf" 1 Nis_leaf (spLeafT K)) (Ccounter_of : Cal P w K mg base "counter_of" 14 Pcounter_of (spCounterOf K 13)) (F : Fun K "form_with" "form_with" sform_with f fd) (Cform_with : Cal P w K mg base "form_with" (14 + n) Pform_with (spPut K n)) : FnOk P w K mg base CX0 (14 + n + 1) f fd Pform_with (spPut K (n + 1)) := by
  refine F.ok scform_with (fun vs H Q E h => ?_) (fun cdv A outer s H vs Q E hr h => ?_)
  · obtain ⟨v, a, t, fd, rfl, _⟩ := h
    rfl
  obtain ⟨v, a, t, fd, rfl, hf, hd, hF, hok, q⟩ := h
  refine ⟨_, (pss_cons (ps_if (pt_not (pt_val (pe_callC Cis_leaf hr (pa_cons (pv 0) pa_nil))))
    (pss_one (ps_ret (pe_tupN (pa_cons (pe_ix ix_tup (pv 0) pe_int (fun _ _ => rfl)) (pa_cons (pe_callC Cform_with hr (pa_cons (pe_ix ix_tup (pv 0) pe_int (fun _ _ => rfl)) (pa_cons (pv 1) pa_nil))) (pa_cons (pe_callC Cform_with hr (pa_cons (pe_ix ix_tup (pv 0) pe_int (fun _ _ => rfl)) (pa_cons (pv 1) pa_nil))) pa_nil))))))
    pss_nil)
  (pss_cons (ps_if (pt_cmp (pc_dnotin (hu_of hr) (pe_ix ix_tup (pv 0) pe_int (fun _ _ => rfl)) (pv 1)))
    (pss_one (ps_ret (pv 0)))
    pss_nil)
  (pss_cons (ps_if (pt_cmpR op_eq (pe_ix ix_tup (pv 0) pe_int (fun _ _ => rfl)) pe_str (nomark _))
    (pss_one (ps_ret (pe_dget (hu_of hr) (pv 1) (pe_ix ix_tup (pv 0) pe_int (fun _ _ => rfl)) (fun _ _ => rfl))))
    pss_nil)
  (pss_one (ps_ret (pe_callC Ccounter_of hr (pa_cons (pe_dget (hu_of hr) (pv 1) (pe_ix ix_tup (pv 0) pe_int (fun _ _ => rfl)) (fun _ _ => rfl)) pa_nil))))))), ?_⟩
  cases t with
  | leaf co m =>
    obtain ⟨b, rfl, hb⟩ := hf
    refine ⟨_, rfl, .ref b, .leaf co m, rfl, ⟨b, rfl, hb⟩, true, rfl, iteF ?_⟩
    obtain ⟨o, hg, g1, g2⟩ := hF.dget (Z m)
    refine ⟨_, rfl, b, _, 1, _, rfl, rfl, hb, rfl, _, rfl, a, o, rfl, hg, _, rfl, ?_⟩
    unfold putT at q
    cases e : fget fd (Z m) with
    | none =>
      rw [e] at q
      rw [g1 e]
      exact iteT ⟨_, rfl, q H _ (Same.refl H) ⟨b, rfl, hb⟩⟩
    | some u =>
      rw [e] at q
      obtain ⟨y, rfl, hy⟩ := g2 u e
      refine iteF ⟨_, rfl, b, _, 0, _, rfl, rfl, hb, rfl, rfl, _, rfl, ?_⟩
      have hu := hok.ok _ (fget_mem e)
      cases co with
      | false =>
        refine ite2 (fun _ => ?_) (fun c => absurd (by decide +kernel) c)
        exact ⟨_, rfl, _, rfl, b, _, 1, _, rfl, rfl, hb, rfl, a, y, rfl, hg, q H _ (Same.refl H) hy⟩
      | true =>
        refine ite2 (fun c => absurd c (by decide +kernel)) (fun _ => ?_)
        exact ⟨_, rfl, _, rfl, b, _, 1, _, rfl, rfl, hb, rfl, a, y, rfl, hg, y, u, rfl, hy, by have h8 : u.dep ≤ 8 := hu.2.2; omega, q⟩
  | node s l r =>
    obtain ⟨b, x, y, rfl, hb, hx, hy⟩ := hf
    have hd' : 1 + max l.dep r.dep < n + 1 := hd
    refine ⟨_, rfl, .ref b, .node s l r, rfl, ⟨b, x, y, rfl, hb, hx, hy⟩, false, rfl, iteT ?_⟩
    refine ⟨_, rfl, b, _, 0, _, rfl, rfl, hb, rfl, _, rfl, b, _, 1, _, rfl, rfl, hb, rfl, _, rfl, x, a, l, fd, rfl, hx, by omega, hF, hok, fun H1 u1 s1 w1 => ?_⟩
    refine ⟨_, rfl, b, _, 2, _, rfl, rfl, (Same.kt s1).seq hb, rfl, _, rfl, y, a, r, fd, rfl, (Same.kt s1).fm _ hy, by omega, hF.same s1, hok, fun H2 u2 s2 w2 => ?_⟩
    exact ⟨le1k, fun p H3 s3 e3 => q H3 _ ((s1.trans s2).trans s3) ⟨p, u1, u2, rfl, e3, (Same.kt (s2.trans s3)).fm _ w1, (Same.kt s3).fm _ w2⟩⟩
theorem ok_law_put {n : Nat} (T : Txt K mg) (C_law_counter : Cal P w K mg base "_law_counter" 13 P_law_counter (spCounterOf K 13)) (F : Fun K "_law_put" "_law_put" s_law_put f fd) (C_law_put : Cal P w K mg base "_law_put" (14 + n) P_law_put (spPut K n)) : FnOk P w K mg base CX0 (14 + n + 1) f fd P_law_put (spPut K (n + 1)) := by
  refine F.ok sc_law_put (fun vs H Q E h => ?_) (fun cdv A outer s H vs Q E hr h => ?_)
  · obtain ⟨v, a, t, fd, rfl, _⟩ := h
    rfl
  obtain ⟨v, a, t, fd, rfl, hf, hd, hF, hok, q⟩ := h
  refine ⟨_, (pss_cons (ps_if (pt_cmpR op_eq (pe_callB call_len rfl T.len (by decide +kernel) (pa_cons (pv 0) pa_nil)) pe_int (nomark _))
    (pss_one (ps_ret (pe_tupN (pa_cons (pe_ix ix_tup (pv 0) pe_int (fun _ _ => rfl)) (pa_cons (pe_callC C_law_put hr (pa_cons (pe_ix ix_tup (pv 0) pe_int (fun _ _ => rfl)) (pa_cons (pv 1) pa_nil))) (pa_cons (pe_callC C_law_put hr (pa_cons (pe_ix ix_tup (pv 0) pe_int (fun _ _ => rfl)) (pa_cons (pv 1) pa_nil))) pa_nil))))))
    pss_nil)
  (pss_cons (ps_if (pt_cmp (pc_dnotin (hu_of hr) (pe_ix ix_tup (pv 0) pe_int (fun _ _ => rfl)) (pv 1)))
    (pss_one (ps_ret (pv 0)))
    pss_nil)
  (pss_one (ps_ret (pe_ifExp (pt_cmpR op_eq (pe_ix ix_tup (pv 0) pe_int (fun _ _ => rfl)) pe_str (nomark _)) (pe_dget (hu_of hr) (pv 1) (pe_ix ix_tup (pv 0) pe_int (fun _ _ => rfl)) (fun _ _ => rfl)) (pe_callC C_law_counter hr (pa_cons (pe_dget (hu_of hr) (pv 1) (pe_ix ix_tup (pv 0) pe_int (fun _ _ => rfl)) (fun _ _ => rfl)) pa_nil))))))), ?_⟩
  cases t with
  | leaf co m =>
    obtain ⟨b, rfl, hb⟩ := hf
    refine ⟨_, rfl, _, _, rfl, .inr ⟨_, hb, rfl⟩, rfl, _, rfl, iteF ?_⟩
    obtain ⟨o, hg, g1, g2⟩ := hF.dget (Z m)
    refine ⟨_, rfl, b, _, 1, _, rfl, rfl, hb, rfl, _, rfl, a, o, rfl, hg, _, rfl, ?_⟩
    unfold putT at q
    cases e : fget fd (Z m) with
    | none =>
      rw [e] at q
      rw [g1 e]
      exact iteT ⟨_, rfl, q H _ (Same.refl H) ⟨b, rfl, hb⟩⟩
    | some u =>
      rw [e] at q
      obtain ⟨y, rfl, hy⟩ := g2 u e
      refine iteF ⟨_, rfl, b, _, 0, _, rfl, rfl, hb, rfl, rfl, _, rfl, ?_⟩
      have hu := hok.ok _ (fget_mem e)
      cases co with
      | false =>
        refine ite2 (fun _ => ?_) (fun c => absurd (by decide +kernel) c)
        exact ⟨_, rfl, _, rfl, b, _, 1, _, rfl, rfl, hb, rfl, a, y, rfl, hg, q H _ (Same.refl H) hy⟩
      | true =>
        refine ite2 (fun c => absurd c (by decide +kernel)) (fun _ => ?_)
        exact ⟨_, rfl, _, rfl, b, _, 1, _, rfl, rfl, hb, rfl, a, y, rfl, hg, y, u, rfl, hy, by have h8 : u.dep ≤ 8 := hu.2.2; omega, q⟩
  | node s l r =>
    obtain ⟨b, x, y, rfl, hb, hx, hy⟩ := hf
    have hd' : 1 + max l.dep r.dep < n + 1 := hd
    refine ⟨_, rfl, _, _, rfl, .inr ⟨_, hb, rfl⟩, rfl, _, rfl, iteT ?_⟩
    refine ⟨_, rfl, b, _, 0, _, rfl, rfl, hb, rfl, _, rfl, b, _, 1, _, rfl, rfl, hb, rfl, _, rfl, x, a, l, fd, rfl, hx, by omega, hF, hok, fun H1 u1 s1 w1 => ?_⟩
    refine ⟨_, rfl, b, _, 2, _, rfl, rfl, (Same.kt s1).seq hb, rfl, _, rfl, y, a, r, fd, rfl, (Same.kt s1).fm _ hy, by omega, hF.same s1, hok, fun H2 u2 s2 w2 => ?_⟩
    exact ⟨le1k, fun p H3 s3 e3 => q H3 _ ((s1.trans s2).trans s3) ⟨p, u1, u2, rfl, e3, (Same.kt (s2.trans s3)).fm _ w1, (Same.kt s3).fm _ w2⟩⟩
theorem okdepth_with {n : Nat} (T : Txt K mg) (Cis_leaf : Cal P w K mg base "is_leaf" 1 Nis_leaf (spLeafT K)) (F : Fun K "depth_with" "depth_with" sdepth_with f fd) (Cdepth_with : Cal P w K mg base "depth_with" (1 + n) Pdepth_with (spDepthW K n)) : FnOk P w K mg base CX0 (1 + n + 1) f fd Pdepth_with (spDepthW K (n + 1)) := by
  refine F.ok scdepth_with (fun vs H Q E h => ?_) (fun cdv A outer s H vs Q E hr h => ?_)
  · obtain ⟨v, a, t, fd, kvs, rfl, _⟩ := h
    rfl
  obtain ⟨v, a, t, fd, kvs, rfl, hf, hd, hR, hv, q⟩ := h
  refine ⟨_, (pss_cons (ps_if (pt_val (pe_callC Cis_leaf hr (pa_cons (pv 0) pa_nil)))
    (pss_one (ps_ret (pe_dget2 (hu_of hr) (pv 1) (pe_ix ix_tup (pv 0) pe_int (fun _ _ => rfl)) pe_int ⟨rfl, rfl, rfl, rfl⟩)))
    pss_nil)
  (pss_one (ps_ret (pe_op op_add pe_int (pe_callB (call_max2 rfl) rfl T.max (by decide +kernel) (pa_cons (pe_callC Cdepth_with hr (pa_cons (pe_ix ix_tup (pv 0) pe_int (fun _ _ => rfl)) (pa_cons (pv 1) pa_nil))) (pa_cons (pe_callC Cdepth_with hr (pa_cons (pe_ix ix_tup (pv 0) pe_int (fun _ _ => rfl)) (pa_cons (pv 1) pa_nil))) pa_nil))))))), ?_⟩
  cases t with
  | leaf co m =>
    obtain ⟨b, rfl, hb⟩ := hf
    refine ⟨_, rfl, .ref b, .leaf co m, rfl, ⟨b, rfl, hb⟩, true, rfl, iteT ?_⟩
    refine ⟨_, rfl, a, rfl, .inl ⟨kvs, hR⟩, _, rfl, b, _, 1, _, rfl, rfl, hb, rfl, valV kvs (.inr (Z m)), .inl ⟨kvs, .inr (Z m), hR, rfl, rfl⟩, ?_⟩
    rw [hv]
    have q : Q (.int (dget fd (Z m) : Nat)) H := q
    unfold dget at q
    cases e : fget fd (Z m) with
    | none => rw [e] at q; exact q
    | some u => rw [e] at q; exact q
  | node s l r =>
    obtain ⟨b, x, y, rfl, hb, hx, hy⟩ := hf
    have hd' : 1 + max l.dep r.dep < n + 1 := hd
    refine ⟨_, rfl, .ref b, .node s l r, rfl, ⟨b, x, y, rfl, hb, hx, hy⟩, false, rfl, iteF ?_⟩
    refine ⟨_, rfl, b, _, 1, _, rfl, rfl, hb, rfl, _, rfl, x, a, l, fd, kvs, rfl, hx, by omega, hR, hv, ?_⟩
    refine ⟨_, rfl, b, _, 2, _, rfl, rfl, hb, rfl, _, rfl, y, a, r, fd, kvs, rfl, hy, by omega, hR, hv, ?_⟩
    refine ⟨_, _, rfl, _, _, rfl, rfl, ?_⟩
    have e : (1 : Int) + (if (depW fd r : Int) > (depW fd l : Int) then (depW fd r : Int) else (depW fd l : Int)) = ((depW fd (FT.node s l r) : Nat) : Int) := by
      show _ = ((1 + max (depW fd l) (depW fd r) : Nat) : Int)
      split <;> omega
    show Q (.int (1 + (if (depW fd r : Int) > (depW fd l : Int) then (depW fd r : Int) else (depW fd l : Int)))) H
    rw [e]
    exact q
end
end My

set_option Elab.async false
set_option linter.all false
set_option maxRecDepth 100000
namespace My
open PySem L2
abbrev s_law_shuffled : Stmt := top 34
abbrev N_law_shuffled : List Str := ["_law_pen", "_law_some", "_law_left", "_law_out", "_law_k"]
abbrev P_law_shuffled : List Str := ["_law_pen", "_law_some"]
theorem sc_law_shuffled : FnScope N_law_shuffled P_law_shuffled (defScope s_law_shuffled) := ⟨rfl, rfl, rfl, by decide +kernel, rfl, by decide +kernel, by decide +kernel⟩
abbrev s_law_dict : Stmt := top 53
abbrev N_law_dict : List Str := ["_law_pen", "_law_names_here", "_law_out", "_law_name_here"]
abbrev P_law_dict : List Str := ["_law_pen", "_law_names_here"]
theorem sc_law_dict : FnScope N_law_dict P_law_dict (defScope s_law_dict) := ⟨rfl, rfl, rfl, by decide +kernel, rfl, by decide +kernel, by decide +kernel⟩
abbrev s_law_known : Stmt := top 52
abbrev N_law_known : List Str := ["_law_form", "_law_due"]
abbrev P_law_known : List Str := ["_law_form"]
theorem sc_law_known : FnScope N_law_known P_law_known (defScope s_law_known) := ⟨rfl, rfl, rfl, by decide +kernel, rfl, by decide +kernel, by decide +kernel⟩
def spShuf (K : PySem.W.Frag) : Sp := fun vs H Q _ => ∃ (d L a : Addr) (ns : List Int) (n : Nat) (zs : List Str), vs = [.ref d, .ref a] ∧ Pen K H d L ns n ∧ n + zs.length < 2 ^ 40 ∧ SqL K H a (zs.map V.str) ∧ zs.length ≤ 100 ∧
  ∀ H' p (zs' : List Str), Keep d H H' → Pen K H' d L ns (n + zs.length) → H' p = some (.lst (zs'.map V.str)) → (∀ z ∈ zs', z ∈ zs) → zs'.length = zs.length → Q (.ref p) H'
theorem map_erase : ∀ (xs : List Str) (k : Nat), (xs.map V.str).eraseIdx k = (xs.eraseIdx k).map V.str
  | [], _ => rfl
  | _ :: _, 0 => rfl
  | x :: r, k + 1 => by
    show V.str x :: (r.map V.str).eraseIdx k = V.str x :: (r.eraseIdx k).map V.str
    rw [map_erase r k]
theorem mem_erase {z : Str} : ∀ {zs : List Str} {k : Nat}, z ∈ zs.eraseIdx k → z ∈ zs := fun h => List.mem_of_mem_eraseIdx h
section
variable {P : Program} {w : World} {K : PySem.W.Frag} {mg : Str → Option Value} {base : Heap} {f : Addr} {fd : FuncData} {CB : Addr}
theorem ok_law_shuffled (T : Txt K mg) (F : Fun K "_law_shuffled" "_law_shuffled" s_law_shuffled f fd) (C_law_draw : Cal P w K mg base "_law_draw" 1 P_law_draw (spDraw K)) : FnOk P w K mg base CX0 2 f fd P_law_shuffled (spShuf K) := by
  refine F.ok sc_law_shuffled (fun vs H Q E h => ?_) (fun cdv A outer s H vs Q E hr h => ?_)
  · obtain ⟨d, L, a, ns, n, zs, rfl, _⟩ := h
    rfl
  obtain ⟨d, L, a, ns, n, zs, rfl, hp, hn, ha, hz, q⟩ := h
  refine ⟨_, (pss_cons (ps_par (i := 2) (j := 3) (by rfl) sc_law_shuffled.nd rfl rfl (by decide) rfl rfl (pa_cons (pe_callTy call_list_of rfl T.list (by decide +kernel) (pa_cons (pv 1) pa_nil)) (pa_cons (pe_lst pa_nil) pa_nil)) (by rfl))
  (pss_cons (ps_for PassesOwn.never rfl (pi_range1 rfl T.range (pa_cons (pe_callB call_len rfl T.len (by decide +kernel) (pa_cons (pv 1) pa_nil)) pa_nil)) (pg_name (i := 4) sc_law_shuffled.nd rfl (Or.inl rfl))
    (pss_one (ps_expr (pe_bm PySem.F.plainAttrs_list PySem.F.slot_list_append PySem.F.type_list_append mt_append (pv 3) (pa_cons (pe_bm PySem.F.plainAttrs_list PySem.F.slot_list_pop PySem.F.type_list_pop mt_popAt (pv 2) (pa_cons (pe_callC C_law_draw hr (pa_cons (pv 0) (pa_cons (pe_callB call_len rfl T.len (by decide +kernel) (pa_cons (pv 2) pa_nil)) pa_nil))) pa_nil)) pa_nil)))))
  (pss_one (ps_ret (pv 3))))), ?_⟩
  refine ⟨_, rfl, a, _, rfl, .inl ha, fun l1 n1 => ⟨Nat.zero_le _, fun o1 n2 => ⟨_, _, rfl, ?_⟩⟩⟩
  have s1 := same_new n1 (.lst (zs.map V.str))
  have e1 : upd H l1 (.lst (zs.map V.str)) l1 = some (.lst (zs.map V.str)) := upd_same
  generalize upd H l1 (.lst (zs.map V.str)) = H1 at *
  have s2 := same_new n2 (.lst [])
  have e2 : upd H1 o1 (.lst []) o1 = some (.lst []) := upd_same
  have nlo : l1 ≠ o1 := fun z => by
    rw [← z, e1] at n2
    cases n2
  have nd1 : l1 ≠ d := fun z => by
    obtain ⟨kvs, h⟩ := hp.isDk
    rw [z, h] at n1
    cases n1
  have no : H o1 = none := s1.free n2
  have nd2 : o1 ≠ d := fun z => by
    obtain ⟨kvs, h⟩ := hp.isDk
    rw [z, h] at no
    cases no
  have p2 := hp.same (s1.trans s2)
  have s12 := s1.trans s2
  have el := s2 _ _ e1
  have ha2 := s12.seq ha
  generalize upd H1 o1 (.lst []) = H2 at *
  refine ⟨_, rfl, .ref a, (zs.map V.str).length, rfl, .inl ⟨_, ha2, rfl⟩, _, rfl, by omega, by rw [List.length_map]; omega, ?_⟩
  rw [List.length_map]
  refine for_range (lo := 0) (n := ((zs.length : Nat) : Int).toNat) (fun i σ H' => Keep d H H' ∧ Pen K H' d L ns (n + i) ∧ ∃ x left out, σ = [some (.ref d), some (.ref a), some (.ref l1), some (.ref o1), x] ∧ H' l1 = some (.lst ((left : List Str).map V.str)) ∧ H' o1 = some (.lst ((out : List Str).map V.str)) ∧ left.length + i = zs.length ∧ out.length = i ∧ (∀ z ∈ left, z ∈ zs) ∧ ∀ z ∈ out, z ∈ zs) ⟨Same.toKeep s12, p2, none, zs, [], rfl, el, e2, rfl, rfl, fun _ h => h, fun _ h => by cases h⟩
    (fun i σ H3 hi ⟨k3, p3, x, left, out, eσ, eL, eO, hl, ho, mL, mO⟩ => ?_) (fun σ H3 ⟨k3, p3, x, left, out, eσ, eL, eO, hl, ho, mL, mO⟩ => ?_)
  · subst eσ
    have hll : 0 < left.length := by omega
    refine ⟨_, rfl, .inl ⟨rfl, _, SqL.of eO⟩, _, rfl, .inl ⟨rfl, _, SqL.of eL⟩, _, rfl, _, rfl, .ref l1, (left.map V.str).length, rfl, .inl ⟨_, SqL.of eL, rfl⟩, ?_⟩
    refine ⟨d, L, ns, n + i, _, rfl, p3, by omega, by rw [List.length_map]; omega, by rw [List.length_map]; omega, fun r H4 r0 r1 k4 p4 => ?_⟩
    rw [List.length_map] at r1
    have hk : r.toNat < left.length := by omega
    have eL4 := k4 l1 _ nd1 eL
    have eO4 := k4 o1 _ nd2 eO
    refine ⟨l1, _, r, r.toNat, .str left[r.toNat], rfl, rfl, eL4, by omega, by omega, PySem.seqIndex_of r0 (by rw [List.length_map]; omega), by rw [List.getElem?_map, List.getElem?_eq_getElem hk]; rfl, ?_⟩
    refine ⟨o1, _, _, rfl, rfl, by rw [upd_ne nlo.symm]; exact eO4, small1000 (by rw [List.length_map]; omega), ?_⟩
    have k5 : Keep d H (upd H4 l1 (.lst ((left.map V.str).eraseIdx r.toNat))) := keep_fresh (k3.trans k4) n1
    have p5 := p4.fresh (o := .lst ((left.map V.str).eraseIdx r.toNat)) (k3.trans k4) hp.cells hp.isDk n1
    refine ⟨keep_fresh k5 no, (p5.fresh k5 hp.cells hp.isDk no).mono (by omega), _, left.eraseIdx r.toNat, out ++ [left[r.toNat]], rfl, ?_, ?_, ?_, ?_, fun z h => mL z (mem_erase h), fun z h => ?_⟩
    · rw [upd_ne nlo, upd_same, map_erase]
    · rw [upd_same, List.map_append]
      rfl
    · rw [List.length_eraseIdx_of_lt hk]
      omega
    · rw [List.length_append, ho]
      rfl
    · rcases List.mem_append.mp h with h | h
      · exact mO z h
      · rw [List.mem_singleton.mp h]
        exact mL _ (List.getElem_mem hk)
  · subst eσ
    exact ⟨_, rfl, q H3 o1 out k3 (p3.mono (by omega)) eO mO (by omega)⟩

end
/-! ### a form put under a name -/
def fput (fd : List (Str × FT)) (z : Str) (t : FT) : List (Str × FT) := if (fd.any fun p => decide (p.1 = z)) = true then fd.map (fun p => if p.1 = z then (p.1, t) else p) else fd ++ [(z, t)]
theorem paired_app2 {α β : Type} {r : α → β → Prop} : ∀ {xs : List α} {ys : List β} {xs' : List α} {ys' : List β}, Paired r xs ys → Paired r xs' ys' → Paired r (xs ++ xs') (ys ++ ys')
  | _, _, _, _, .nil, h => h
  | _, _, _, _, .cons h r, g => .cons h (paired_app2 r g)
theorem key_iff {k : Key} {p z : Str} (h : k = .inr p) : (k = (.inr z : Key)) ↔ p = z := by
  rw [h]
  exact ⟨fun q => Sum.inr.inj q, fun q => by rw [q]⟩
theorem FDv.any {K : PySem.W.Frag} {H : Hp} {z : Str} : ∀ {kvs : List (Key × V)} {fd : List (Str × FT)}, FDv K H kvs fd → (kvs.any fun kv => decide (kv.1 = (.inr z : Key))) = (fd.any fun p => decide (p.1 = z))
  | _, _, .nil => rfl
  | _, _, .cons (a := kv) (b := p) h r => by
    show (decide (kv.1 = (.inr z : Key)) || _) = (decide (p.1 = z) || _)
    rw [decide_eq_decide.mpr (key_iff h.1)]
    exact congrArg _ (FDv.any r)
theorem FDv.mapP {K : PySem.W.Frag} {H : Hp} {z : Str} {t : FT} {v : V} (ht : Fm K H t v) : ∀ {kvs : List (Key × V)} {fd : List (Str × FT)}, FDv K H kvs fd → FDv K H (kvs.map fun kv => if kv.1 = (.inr z : Key) then (kv.1, v) else kv) (fd.map fun p => if p.1 = z then (p.1, t) else p)
  | _, _, .nil => .nil
  | _, _, .cons (a := kv) (b := p) h r => by
    refine .cons ?_ (FDv.mapP ht r)
    dsimp only
    by_cases e : p.1 = z
    · rw [if_pos e, if_pos ((key_iff h.1).mpr e)]
      exact ⟨h.1, ht⟩
    · rw [if_neg e, if_neg (fun q => e ((key_iff h.1).mp q))]
      exact h
theorem FDv.put {K : PySem.W.Frag} {H : Hp} {kvs : List (Key × V)} {fd : List (Str × FT)} {z : Str} {t : FT} {v : V} (h : FDv K H kvs fd) (ht : Fm K H t v) : FDv K H (putK kvs (.inr z) v) (fput fd z t) := by
  unfold putK fput
  rw [FDv.any h]
  split
  · exact FDv.mapP ht h
  · exact paired_app2 h (.cons ⟨rfl, ht⟩ .nil)
theorem fput_mem {fd : List (Str × FT)} {z : Str} {t : FT} {p : Str × FT} (h : p ∈ fput fd z t) : p ∈ fd ∨ p = (z, t) := by
  unfold fput at h
  split at h
  · obtain ⟨q, hq, e⟩ := List.mem_map.mp h
    by_cases c : q.1 = z
    · rw [if_pos c] at e
      exact .inr (by rw [← e, c])
    · rw [if_neg c] at e
      exact .inl (e ▸ hq)
  · rcases List.mem_append.mp h with h | h
    · exact .inl h
    · exact .inr (List.mem_singleton.mp h)
theorem fput_len (fd : List (Str × FT)) (z : Str) (t : FT) : (fput fd z t).length ≤ fd.length + 1 := by
  unfold fput
  split
  · rw [List.length_map]
    omega
  · rw [List.length_append]
    exact Nat.le_refl _
theorem fput_nd {fd : List (Str × FT)} {z : Str} {t : FT} (h : (fd.map (·.1)).Nodup) : ((fput fd z t).map (·.1)).Nodup := by
  unfold fput
  split
  · rw [List.map_map]
    have e : ((·.1) ∘ fun p : Str × FT => if p.1 = z then (p.1, t) else p) = (·.1) := funext fun p => by
      show (if p.1 = z then (p.1, t) else p).1 = p.1
      split <;> rfl
    rw [e]
    exact h
  · rename_i c
    rw [List.map_append, List.nodup_append]
    refine ⟨h, List.pairwise_singleton _ _, fun a ha b hb e => c ?_⟩
    have hb : b = z := List.mem_singleton.mp hb
    obtain ⟨p, hp, ep⟩ := List.mem_map.mp ha
    exact List.any_eq_true.mpr ⟨p, hp, decide_eq_true (by show p.1 = z; rw [ep, e, hb])⟩
theorem nms_in {zs : List Str} : ∀ t : FT, NmIn zs t.data → ∀ z ∈ nms t, z ∈ zs
  | .leaf co m, h, z, hz => by
    obtain ⟨w, y, e, hy⟩ := h (.tuple [.str (leafZ co), .str (Z m)]) (by
      show _ ∈ lvs (.tuple [.str (leafZ co), .str (Z m)])
      rw [lvs2]
      exact List.mem_singleton.mpr rfl)
    have hz : z = Z m := List.mem_singleton.mp hz
    injection e with e
    injection e with e1 e
    injection e with e2 e
    injection e2 with e2
    rw [hz, e2]
    exact hy
  | .node s l r, h, z, hz => by
    have h : NmIn zs (.tuple [.str s.word, l.data, r.data]) := h
    unfold NmIn at h
    rw [lvs3] at h
    rcases List.mem_append.mp hz with hz | hz
    · exact nms_in l (fun L m => h L (List.mem_append.mpr (.inl m))) z hz
    · exact nms_in r (fun L m => h L (List.mem_append.mpr (.inr m))) z hz
section
variable {P : Program} {w : World} {K : PySem.W.Frag} {mg : Str → Option Value} {base : Heap} {f : Addr} {fd : FuncData} {CB : Addr}
/-- a dict from names to forms, and what is behind it -/
def spDict (K : PySem.W.Frag) : Sp := fun vs H Q _ => ∃ (d L a : Addr) (ns : List Int) (n : Nat) (zs : List Str), vs = [.ref d, .ref a] ∧ Pen K H d L ns n ∧ n < 2 ^ 37 ∧ H a = some (.lst (zs.map V.str)) ∧ zs ≠ [] ∧ zs.length ≤ 4 ∧ (∀ z ∈ zs, isName z = true) ∧
  ∀ H' p kvs (fd : List (Str × FT)), Keep d H H' → Pen K H' d L ns (n + 1000) → H' p = some (.dK kvs) → FDv K H' kvs fd → FDok fd → (∀ p ∈ fd, p.2.lvs ≤ 5 ∧ ∀ z ∈ nms p.2, z ∈ zs) → fd.length ≤ 6 → p ≠ d → Q (.ref p) H'
theorem ok_law_dict (T : Txt K mg) (F : Fun K "_law_dict" "_law_dict" s_law_dict f fd) (C_law_draw : Cal P w K mg base "_law_draw" 1 P_law_draw (spDraw K)) (C_law_pick : Cal P w K mg base "_law_pick" 2 ["_law_pen", "_law_some"] (spPick K)) (C_law_names : Cal P w K mg base "_law_names" 4 P_law_names (spNames K)) (C_law_shuffled : Cal P w K mg base "_law_shuffled" 2 P_law_shuffled (spShuf K)) (C_law_shape : Cal P w K mg base "_law_shape" 15 P_law_shape (spShape K 13)) : FnOk P w K mg base CX0 16 f fd P_law_dict (spDict K) := by
  refine F.ok sc_law_dict (fun vs H Q E h => ?_) (fun cdv A outer s H vs Q E hr h => ?_)
  · obtain ⟨d, L, a, ns, n, zs, rfl, _⟩ := h
    rfl
  obtain ⟨d, L, a, ns, n, zs, rfl, hp, hn, ha, hne, hz, hnm, q⟩ := h
  refine ⟨_, (pss_cons (ps_set (i := 2) sc_law_dict.nd rfl (Or.inl rfl) pe_dnewK)
  (pss_cons (ps_for PassesOwn.never rfl (pi_list (pe_callC C_law_shuffled hr (pa_cons (pv 0) (pa_cons (pe_op op_catLN (pv 1) (pe_callC C_law_names hr (pa_cons (pv 0) (pa_cons pe_int pa_nil)))) pa_nil)))) (pg_name (i := 3) sc_law_dict.nd rfl (Or.inl rfl))
    (pss_one (ps_if (pt_cmpR op_gt (pe_callC C_law_draw hr (pa_cons (pv 0) (pa_cons pe_int pa_nil))) pe_int (nomark _))
      (pss_one (ps_dput (hu_of hr) (pv 2) (pv 3) (pe_callC C_law_shape hr (pa_cons (pv 0) (pa_cons (pv 1) (pa_cons (pe_op op_add pe_int (pe_callC C_law_draw hr (pa_cons (pv 0) (pa_cons pe_int pa_nil)))) (pa_cons (pe_callC C_law_pick hr (pa_cons (pv 0) (pa_cons (pe_lstN (pa_cons pe_int (pa_cons pe_int (pa_cons pe_int pa_nil)))) pa_nil))) pa_nil))))) rfl))
      pss_nil)))
  (pss_one (ps_ret (pv 2))))), ?_⟩
  intro D0 nD0
  have s0 := same_new nD0 (.dK [])
  have e0 : upd H D0 (.dK []) D0 = some (.dK []) := upd_same
  have nd0 : D0 ≠ d := fun z => by
    obtain ⟨kvs, h⟩ := hp.isDk
    rw [z, h] at nD0
    cases nD0
  have p0 := hp.same s0
  generalize upd H D0 (.dK []) = H0 at *
  refine ⟨_, rfl, _, rfl, _, rfl, d, L, ns, n, 2, rfl, p0, by omega, by decide, by decide, fun b zb H1 hzb nzb lzb eb k1 p1 => ?_⟩
  have nad : a ≠ d := fun z => by
    obtain ⟨kvs, h⟩ := hp.isDk
    rw [z, h] at ha
    cases ha
  have ka1 := (Same.toKeep s0).trans k1
  refine ⟨a, b, _, _, rfl, rfl, ka1 a _ nad ha, eb, by rw [List.length_map, List.length_map]; omega, fun c H2 s2 e2 => ?_⟩
  have e2 : H2 c = some (.lst ((zs ++ zb).map V.str)) := by
    rw [List.map_append]
    exact e2
  refine ⟨d, L, c, ns, n + 1 + 13 * 2, zs ++ zb, rfl, p1.same s2, by rw [List.length_append]; omega, SqL.of e2, by rw [List.length_append]; omega, fun H3 r zr k3 p3 er mr lr => ?_⟩
  rw [List.length_append] at lr p3
  have k03 : Keep d H H3 := (ka1.trans (Same.toKeep s2)).trans k3
  have eD3 : H3 D0 = some (.dK []) := k3 _ _ nd0 (s2 _ _ (k1 _ _ nd0 e0))
  have nrD : r ≠ D0 := fun z => by
    rw [z, eD3] at er
    cases er
  have nrd : r ≠ d := fun z => by
    obtain ⟨kvs, h⟩ := p3.isDk
    rw [z, h] at er
    cases er
  have nmz : ∀ z ∈ zr, isName z = true := fun z h => by
    rcases List.mem_append.mp (mr z h) with h | h
    · exact hnm z h
    · exact hzb z h
  refine ⟨r, rfl, ⟨_, SqL.of er⟩, ?_⟩
  refine for_it (walk_list (xs := zr.map V.str)) (fun i σ H' => Keep d H H' ∧ Pen K H' d L ns (n + 40 + 30 * i) ∧ H' r = some (.lst (zr.map V.str)) ∧ ∃ x kvs fd, σ = [some (.ref d), some (.ref a), some (.ref D0), x] ∧ H' D0 = some (.dK kvs) ∧ FDv K H' kvs fd ∧ fd.length ≤ i ∧ (fd.map (·.1)).Nodup ∧ ∀ p ∈ fd, (isName p.1 = true ∧ p.2.Ok ∧ p.2.dep ≤ 8) ∧ p.2.lvs ≤ 5 ∧ ∀ z ∈ nms p.2, z ∈ zs)
    ⟨k03, p3.mono (by omega), er, none, [], [], rfl, eD3, .nil, Nat.le_refl _, List.nodup_nil, fun p h => by cases h⟩ (fun i σ H' _ p => SqL.of p.2.2.1) (fun i y σ H4 H5 hi ⟨k4, p4, er4, x, kvs, fd, eσ, eD, hv, hl, hd, hm⟩ yy => ?_) (fun σ H4 ⟨k4, p4, er4, x, kvs, fd, eσ, eD, hv, hl, hd, hm⟩ => ?_)
  · obtain ⟨rfl, hy⟩ := yy
    subst eσ
    rw [List.length_map] at hi
    rw [List.getElem?_map, List.getElem?_eq_getElem hi] at hy
    obtain rfl := Option.some.inj hy
    have hyn := nmz _ (List.getElem_mem hi)
    refine ⟨_, rfl, d, L, ns, _, 4, rfl, p4, by omega, by decide, by decide, fun g H6 g0 g1 k6 p6 => ?_⟩
    refine ⟨g, 0, rfl, rfl, _, rfl, ?_⟩
    have k46 := k4.trans k6
    have er6 := k6 _ _ nrd er4
    have eD6 := k6 _ _ nd0 eD
    have hv6 := hv.kt (kt_pen p4 k6)
    refine ite2 (fun _ => ?_) (fun _ => ⟨k46, p6.mono (by omega), er6, _, kvs, fd, rfl, eD6, hv6, by omega, hd, hm⟩)
    refine ⟨_, rfl, _, rfl, _, rfl, d, L, ns, _, 5, rfl, p6, by omega, by decide, by decide, fun m H7 m0 m1 k7 p7 => ⟨1, m, rfl, rfl, ?_⟩⟩
    refine ⟨_, rfl, le1k, fun l H8 s8 e8 => ⟨d, L, ns, _, .ref l, rfl, p7.same s8, by omega, .inl ⟨l, _, rfl, SqL.of e8, by simp, le1k, fun x H9 hx k9 p9 => ?_⟩⟩⟩
    have k69 : Keep d H6 H9 := (k7.trans (Same.toKeep s8)).trans k9
    have hx : ∃ t : Nat, x = .int (t : Nat) ∧ 3 ≤ t ∧ t ≤ 8 := by
      simp only [List.mem_cons, List.not_mem_nil, or_false] at hx
      rcases hx with rfl | rfl | rfl
      · exact ⟨3, rfl, by decide, by decide⟩
      · exact ⟨4, rfl, by decide, by decide⟩
      · exact ⟨8, rfl, by decide, by decide⟩
    obtain ⟨t, rfl, t3, t8⟩ := hx
    obtain ⟨m', em⟩ : ∃ m' : Nat, (1 : Int) + m = (m' : Nat) := ⟨(1 + m).toNat, by omega⟩
    have p2 : (2 : Nat) ^ 3 ≤ 2 ^ t := Nat.pow_le_pow_right (by decide) t3
    have p2 : 8 ≤ 2 ^ t := p2
    refine ⟨d, L, ns, _, a, zs, m', t, by dsimp only; rw [em]; rfl, by omega, p9, by omega, SqL.of ((k46.trans k69) a _ nad ha), hne, by omega, hnm, by omega, by omega, by omega, by omega, fun v D H10 hD hF hL hI k10 p10 => ?_⟩
    have kk := k69.trans k10
    obtain ⟨T', rfl, oT, dT⟩ := ft_of hF
    have eD10 := kk _ _ nd0 eD6
    refine ⟨_, rfl, _, rfl, D0, _, rfl, DPut.k (k := .inr zr[i]) eD10 (Nat.lt_of_le_of_lt (Nat.le_of_eq (paired_len hv6)) (by show fd.length < sizeLine; have := small1000 (n := fd.length) (by omega); omega)), ?_⟩
    refine ⟨keep_fresh (k46.trans kk) nD0, (p10.fresh (k46.trans kk) hp.cells hp.isDk nD0).mono (by omega), by rw [upd_ne nrD]; exact kk _ _ nrd er6, _, _, fput fd zr[i] T', rfl, upd_same, ?_, Nat.le_trans (fput_len _ _ _) (by omega), fput_nd hd, fun p hp => ?_⟩
    · have kD : KT H10 (upd H10 D0 (.dK (putK kvs (.inr zr[i]) v))) := fun b o h e => by
        rw [upd_ne (fun z => by
          subst z
          rw [eD10] at e
          obtain rfl := Option.some.inj e
          rcases h with ⟨_, e⟩ | ⟨_, _, e⟩ <;> cases e)]
        exact e
      exact ((hv6.kt (kt_pen p6 kk)).put (fm_of_dp T' hD)).kt kD
    · rcases fput_mem hp with h | rfl
      · exact hm p h
      · exact ⟨⟨hyn, oT, by show T'.dep ≤ 8; omega⟩, by show T'.lvs ≤ 5; rw [← lvs_one, hL]; omega, nms_in T' hI⟩
  · subst eσ
    rw [List.length_map] at hl p4
    exact ⟨_, rfl, q H4 D0 kvs fd k4 (p4.mono (by omega)) eD hv ⟨by omega, hd, fun p h => (hm p h).1⟩ (fun p h => (hm p h).2) (by omega) nd0⟩
end
end My

set_option Elab.async false
set_option linter.all false
set_option maxRecDepth 100000
namespace My
open PySem L2
namespace Told
variable {X : Cx} {k j : Nat} {ps : List Str} {sp : Sp} {x : Str} {p pos : Pos} {e : Expr} {es : List Expr} {t : TA}
/-- a call of a def that may raise, where it does not -/
theorem pe_callV (C : CalX X.prog X.w X.K X.mg X.base x k ps sp) (hr : Room j X.A) (ha : PA X (e :: es) t) (hk : k ≤ j := by omega) (hg : Gl X x := by rfl) (hdb : (x == ("__debug__" : Str)) = false := by decide)
    (he : starEach (e :: es) X.env = (false, eval e X.env) :: starEach es X.env := by rfl) (hpl : (backTo pos (starEach es X.env)).any (·.1) = false := by rfl) :
    PE X (.Call (.Name x p) (e :: es) [] pos) (tCall sp [] E0 t) := pe_call C.ok (hr.mono hk) hg C.m C.kp C.b .nil passL ha hdb he hpl
end Told
/-- forms of the law: few names, at most 12 deep -/
structure Fit (t : FT) : Prop where
  ok : t.Ok
  dep : t.dep ≤ 12
  few : Few t
theorem Fit.cnt {t : FT} (h : Fit t) : Fit (cnt t) := ⟨cnt_ok t h.ok, by rw [cnt_dep]; exact h.dep, by
  obtain ⟨h1, N, h2, h3⟩ := h.few
  refine ⟨by rw [cnt_lvs]; exact h1, N, h2, ?_⟩
  rw [nms_cnt]
  exact h3⟩
theorem dep_isForm : ∀ (t : FT) {k : Nat}, isForm k t.data = true → t.dep ≤ k
  | .leaf co n, k, _ => Nat.zero_le _
  | .node s l r, 0, h => by
    have h : isForm 0 (.tuple [.str s.word, l.data, r.data]) = true := h
    rw [isForm_tup3_0] at h
    cases h
  | .node s l r, k + 1, h => by
    have h : isForm (k + 1) (.tuple [.str s.word, l.data, r.data]) = true := h
    rw [isForm_m3, Bool.and_eq_true, Bool.and_eq_true] at h
    have h1 := dep_isForm l h.2.1
    have h2 := dep_isForm r h.2.2
    show 1 + max l.dep r.dep ≤ k + 1
    omega
theorem deep_dep {t : FT} {j : Nat} (h : t.Ok) (d : Deep j t.data) : j = t.dep := by
  have h1 := dep_isForm t d.1
  have h2 : ¬ t.dep < j := fun c => by
    have := d.2 _ c
    rw [ft_isForm t h (Nat.le_refl _)] at this
    cases this
  omega
theorem NmsT.same {K : PySem.W.Frag} {H H' : Hp} {t : FT} {u : V} (s : Same H H') (h : NmsT K H t u) : NmsT K H' t u := by
  obtain ⟨p, ys, e, h1, h2⟩ := h
  exact ⟨p, ys, e, seqT_same s h1, h2⟩
def spKnown (K : PySem.W.Frag) : Sp := fun vs H Q _ => ∃ v t, vs = [v] ∧ Fm K H t v ∧ Fit t ∧ ∀ H', Same H H' → Q (.bl true) H'
section
variable {P : Program} {w : World} {K : PySem.W.Frag} {mg : Str → Option Value} {base : Heap} {f : Addr} {fd : FuncData} {CB : Addr}
theorem ok_law_known (C_law_counter : Cal P w K mg base "_law_counter" 13 P_law_counter (spCounterOf K 13)) (C_law_same : Cal P w K mg base "_law_same" 29 P_law_same (spSame w K 28)) (C_law_depth : Cal P w K mg base "_law_depth" 13 ["_law_form"] (spDepth K 13)) (C_law_goods : Cal P w K mg base "_law_goods" 31 P_law_goods (spLGoods K))
    (Ccounter : CalX P w K mg base "counter" 18 Pcounter (spCounter K CB)) (Cdepth : CalX P w K mg base "depth" 18 Pdepth (spDepthP K CB)) (Cgoods : CalX P w K mg base "goods" 18 Pgoods (spGoods K CB))
    (F : Fun K "_law_known" "_law_known" s_law_known f fd) : FnOk P w K mg base CX0 32 f fd P_law_known (spKnown K) := by
  refine F.ok sc_law_known (fun vs H Q E h => ?_) (fun cdv A outer s H vs Q E hr h => ?_)
  · obtain ⟨v, t, rfl, _⟩ := h
    rfl
  obtain ⟨v, t, rfl, hf, ht, q⟩ := h
  refine ⟨_, (pss_cons (ps_set (i := 1) sc_law_known.nd rfl (Or.inl rfl) (pe_callC C_law_counter hr (pa_cons (pv 0) pa_nil)))
  (pss_cons (ps_if (PW.pt (pw_or (pt_not (pt_val (pe_callC C_law_same hr (pa_cons (Told.pe_callV Ccounter hr (pa_cons (pv 0) pa_nil)) (pa_cons (pv 1) pa_nil))))) (pw_or1 (pt_not (pt_val (pe_callC C_law_same hr (pa_cons (Told.pe_callV Ccounter hr (pa_cons (pv 1) pa_nil)) (pa_cons (pv 0) pa_nil))))))))
    (pss_one (ps_ret pe_bl))
    pss_nil)
  (pss_cons (ps_if (PW.pt (pw_or (pt_not (pt_val (pe_callC C_law_same hr (pa_cons (Told.pe_callV Cdepth hr (pa_cons (pv 0) pa_nil)) (pa_cons (pe_callC C_law_depth hr (pa_cons (pv 0) pa_nil)) pa_nil))))) (pw_or1 (pt_not (pt_val (pe_callC C_law_same hr (pa_cons (Told.pe_callV Cdepth hr (pa_cons (pv 1) pa_nil)) (pa_cons (pe_callC C_law_depth hr (pa_cons (pv 0) pa_nil)) pa_nil))))))))
    (pss_one (ps_ret pe_bl))
    pss_nil)
  (pss_one (ps_ret (pe_and (pe_callC C_law_same hr (pa_cons (Told.pe_callV Cgoods hr (pa_cons (pv 0) pa_nil)) (pa_cons (pe_callC C_law_goods hr (pa_cons (pv 0) pa_nil)) pa_nil))) (pe_one (pe_callC C_law_same hr (pa_cons (Told.pe_callV Cgoods hr (pa_cons (pv 1) pa_nil)) (pa_cons (pe_callC C_law_goods hr (pa_cons (pv 0) pa_nil)) pa_nil)))))))))), ?_⟩
  refine ⟨_, rfl, v, t, rfl, hf, by have := ht.dep; omega, fun H1 u s1 hu => ?_⟩
  have hc := ht.cnt
  have two : cnt (cnt t) = t := cnt_cnt t
  have hd := ht.dep
  have hcd := hc.dep
  have fu : ∀ H', Same H1 H' → Fm K H' (cnt t) u := fun H' s' => (Same.kt s').fm _ hu
  have fv : ∀ H', Same H1 H' → Fm K H' t v := fun H' s' => (Same.kt (s1.trans s')).fm _ hf
  have r0 := Same.refl H1
  refine ⟨_, rfl, v, rfl, .inl ⟨t, fv H1 r0, ht.ok, hd, fun H2 u2 s2 h2 => ⟨_, rfl, _, _, rfl, tw_fm (cnt t) 28 (by omega) h2 (fu H2 s2), fun H3 s3 => ⟨true, rfl, ?_⟩⟩⟩⟩
  have t3 := s2.trans s3
  refine ⟨_, rfl, u, rfl, .inl ⟨cnt t, fu H3 t3, hc.ok, hcd, fun H4 u4 s4 h4 => ⟨_, rfl, _, _, rfl, tw_fm t 28 (by omega) (by rw [two] at h4; exact h4) (fv H4 (t3.trans s4)), fun H5 s5 => ⟨true, rfl, iteF ?_⟩⟩⟩⟩
  have t5 := (t3.trans s4).trans s5
  refine ⟨_, rfl, v, rfl, .inl ⟨t, fv H5 t5, ht.ok, hd, fun H6 s6 => ?_⟩⟩
  have t6 := t5.trans s6
  refine ⟨_, rfl, v, t.data, 12, rfl, by decide, FT.of_fm t (fv H6 t6), ft_isForm t ht.ok hd, fun j H7 _ dj s7 => ?_⟩
  obtain rfl := deep_dep ht.ok dj
  have t7 := t6.trans s7
  have w1 : ∀ H', Tw w K H' 28 (.int (t.dep : Nat)) (.int (t.dep : Nat)) := fun H' => .inl ⟨rfl, rfl⟩
  refine ⟨_, _, rfl, w1 H7, fun H8 s8 => ⟨true, rfl, ?_⟩⟩
  have t8 := t7.trans s8
  refine ⟨_, rfl, u, rfl, .inl ⟨cnt t, fu H8 t8, hc.ok, hcd, fun H9 s9 => ?_⟩⟩
  have t9 := t8.trans s9
  refine ⟨_, rfl, v, t.data, 12, rfl, by decide, FT.of_fm t (fv H9 t9), ft_isForm t ht.ok hd, fun j Ha _ dj sa => ?_⟩
  obtain rfl := deep_dep ht.ok dj
  have ta := t9.trans sa
  rw [cnt_dep]
  refine ⟨_, _, rfl, w1 Ha, fun Hb sb => ⟨true, rfl, iteF ?_⟩⟩
  have tb := ta.trans sb
  refine ⟨_, rfl, v, rfl, .inl ⟨t, fv Hb tb, ht.ok, hd, ht.few, fun Hc g1 sc hg1 => ?_⟩⟩
  have tc := tb.trans sc
  refine ⟨_, rfl, v, t, rfl, fv Hc tc, by omega, ht.few, fun Hd g2 sd hg2 => ?_⟩
  have td := tc.trans sd
  refine ⟨_, _, rfl, tw_mono (by omega) (nms_eq rfl (hg1.same sd) hg2), fun He se => ⟨true, rfl, iteT ?_⟩⟩
  have te := td.trans se
  refine ⟨_, rfl, u, rfl, .inl ⟨cnt t, fu He te, hc.ok, hcd, hc.few, fun Hf g3 sf hg3 => ?_⟩⟩
  have tf := te.trans sf
  refine ⟨_, rfl, v, t, rfl, fv Hf tf, by omega, ht.few, fun Hg g4 sg hg4 => ?_⟩
  have tg := tf.trans sg
  exact ⟨_, _, rfl, tw_mono (by omega) (nms_eq (nms_cnt t) (hg3.same sg) hg4), fun Hh sh => q Hh (s1.trans (tg.trans sh))⟩
end
end My

set_option Elab.async false
set_option linter.all false
set_option maxRecDepth 100000
namespace My
open PySem L2
abbrev s_law_no_form : Stmt := top 49
abbrev N_law_no_form : List Str := ["_law_pen", "_law_form", "_law_odd"]
abbrev P_law_no_form : List Str := ["_law_pen", "_law_form"]
theorem sc_law_no_form : FnScope N_law_no_form P_law_no_form (defScope s_law_no_form) := ⟨rfl, rfl, rfl, by decide +kernel, rfl, by decide +kernel, by decide +kernel⟩
def spNoForm (K : PySem.W.Frag) : Sp := fun vs H Q _ => ∃ (d L : Addr) (ns : List Int) (n : Nat) (v : V) (D : PyData), vs = [.ref d, v] ∧ Pen K H d L ns n ∧ n < 2 ^ 37 + 100 ∧ Dp K H v D ∧ isForm 12 D = true ∧
  ∀ v' D' H', Dp K H' v' D' → shortD D' = true → widD D' = true → D'.depth ≤ 20 → isForm 12 D' = false → Keep d H H' → Pen K H' d L ns (n + 40) → Q v' H'
theorem deep_not {D : PyData} (h : Deep 13 D) : isForm 12 D = false := h.2 12 (by decide)
section
variable {P : Program} {w : World} {K : PySem.W.Frag} {mg : Str → Option Value} {base : Heap} {f : Addr} {fd : FuncData}
theorem ok_law_no_form (T : Txt K mg) (F : Fun K "_law_no_form" "_law_no_form" s_law_no_form f fd) (C_law_pick : Cal P w K mg base "_law_pick" 2 P_law_pick (spPick K)) (C_law_bent : Cal P w K mg base "_law_bent" 16 P_law_bent (spBent K 13)) (C_law_is_form : Cal P w K mg base "_law_is_form" 15 P_law_is_form (spFormL K 13))
    (C_law_deeper : Cal P w K mg base "_law_deeper" 14 P_law_deeper (spDeeper K)) : FnOk P w K mg base CX0 17 f fd P_law_no_form (spNoForm K) := by
  refine F.ok sc_law_no_form (fun vs H Q E h => ?_) (fun cdv A outer s H vs Q E hr h => ?_)
  · obtain ⟨d, L, ns, n, v, D, rfl, _⟩ := h
    rfl
  obtain ⟨d, L, ns, n, v, D, rfl, hp, hn, hv, hD, q⟩ := h
  refine ⟨_, (pss_cons (ps_set (i := 2) sc_law_no_form.nd rfl (Or.inl rfl) (pe_callC C_law_bent hr (pa_cons (pv 0) (pa_cons (pv 1) pa_nil))))
  (pss_cons (ps_if (pt_val (pe_callC C_law_is_form hr (pa_cons (pv 2) (pa_cons pe_int pa_nil))))
    (pss_one (ps_set (i := 2) sc_law_no_form.nd rfl (Or.inl rfl) (pe_callC C_law_pick hr (pa_cons (pv 0) (pa_cons (pe_lstN (pa_cons pe_non (pa_cons (pe_callTy call_listN rfl T.list (by decide +kernel) (pa_cons (pv 1) pa_nil)) (pa_cons (pe_tupN (pa_cons pe_str (pa_cons pe_str pa_nil))) (pa_cons (pe_callC C_law_deeper hr (pa_cons (pv 1) (pa_cons pe_int pa_nil))) pa_nil))))) pa_nil)))))
    pss_nil)
  (pss_one (ps_ret (pv 2))))), ?_⟩
  refine ⟨_, rfl, _, rfl, d, L, ns, n, v, D, 12, rfl, by omega, by omega, hp, by omega, hv, hD, fun v1 D1 H1 h1 s1 w1 dp1 k1 p1 => ?_⟩
  refine ⟨_, rfl, v1, 12, D1, rfl, by omega, h1, s1, by omega, fun H2 s2 => ⟨_, rfl, ?_⟩⟩
  have hd1 := p1.isDk
  have k2 := k1.trans (Same.toKeep s2)
  cases c : isForm 12 D1 with
  | false => exact ⟨_, rfl, q v1 D1 H2 (dp_same s2 _ _ h1) s1 w1 (by omega) c k2 ((p1.same s2).mono (by omega))⟩
  | true =>
    obtain ⟨a, xs, ds, rfl, hT, hA, rfl⟩ : ∃ a xs ds, v = .ref a ∧ SqT K H a xs ∧ DpAll K H xs ds ∧ D = .tuple ds := by
      rcases isForm_inv hD with ⟨y, m, rfl, hy, hm⟩ | ⟨j, y, b, e, _, rfl, hy, hc, hd⟩
      · cases hv with | tup g1 g2 => exact ⟨_, _, _, rfl, g1, g2, rfl⟩
      · cases hv with | tup g1 g2 => exact ⟨_, _, _, rfl, g1, g2, rfl⟩
    have kd := hp.isDk
    refine ⟨_, rfl, _, rfl, a, xs, rfl, .inr (seqT_keep kd k2 hT), fun l1 H3 s3 e3 => ?_⟩
    refine ⟨le1k, fun t1 H4 s4 e4 => ?_⟩
    have s24 := Same.trans s3 s4
    have k4 := k2.trans (Same.toKeep s24)
    refine ⟨_, rfl, .ref a, .tuple ds, 13, rfl, by decide, by decide, dp_keep kd k4 _ _ (.tup hT hA), hD, fun v5 D5 H5 h5 d5 _ _ s5 => ⟨le1k, fun l6 H6 s6 e6 => ?_⟩⟩
    have s26 := Same.trans s24 (Same.trans s5 s6)
    have p6 := p1.same (Same.trans s2 s26)
    refine ⟨d, L, ns, _, .ref l6, rfl, p6, by omega, .inl ⟨l6, _, rfl, SqL.of e6, by simp, le1k, fun x H7 hx k7 p7 => ⟨_, rfl, ?_⟩⟩⟩
    have kd6 := p6.isDk
    have k07 := (k2.trans (Same.toKeep s26)).trans k7
    have dsl : ds.length ≤ 3 := by
      rcases isForm_inv hD with ⟨y, m, e, _⟩ | ⟨j, y, b, e, _, e2, _⟩
      · cases e
        show 2 ≤ 3
        decide
      · cases e2
        show 3 ≤ 3
        decide
    simp only [List.mem_cons, List.not_mem_nil, or_false] at hx
    rcases hx with rfl | rfl | rfl | rfl
    · exact q .non .none H7 .non rfl rfl (by simp [PyData.depth]) rfl k07 (p7.mono (by omega))
    · refine q (.ref l1) (.list ds) H7 (.lst (seqL_keep kd6 k7 ((Same.trans s4 (Same.trans s5 s6)).seq (SqL.of e3))) (dpAll_keep kd k07 _ _ hA)) (show shortD (.tuple ds) = true from short_form hD) (show widD (.tuple ds) = true from wid_form hD) ?_ (isForm_not_tup 12 _ rfl) k07 (p7.mono (by omega))
      have := depth_form hD
      simp only [PyData.depth] at this ⊢
      omega
    · exact q (.ref t1) (.tuple [.str "good", .str "A"]) H7 (.tup (seqT_keep kd6 k7 (seqT_same (Same.trans s5 s6) e4)) (.cons (.str _) (.cons (.str _) .nil))) (by decide +kernel) rfl (by simp [PyData.depth, PyData.depthAll]) (by decide +kernel) k07 (p7.mono (by omega))
    · rcases d5 with d5 | ⟨z, _⟩
      · have dd := depth_form d5.1
        exact q x D5 H7 (dp_keep kd6 k7 _ _ (dp_same s6 _ _ h5)) (short_form d5.1) (wid_form d5.1) (by omega) (deep_not d5) k07 (p7.mono (by omega))
      · exact absurd z (by decide)
end
end My

set_option Elab.async false
set_option linter.all false
set_option maxRecDepth 100000
namespace My
open PySem L2
/-- a def of the text whose code object is known -/
structure FunC (K : PySem.W.Frag) (x qual : Str) (st : Stmt) (f : Addr) (fd : FuncData) (cdv : Value) : Prop where
  ex : ∃ (oc : Value) (od : Option Addr) (kV doc pm : Value) (an : Option Addr) (ct : Value) (osl : Array (Option Value)),
    fd = PySem.W.fnOf x qual (defArgs st) (defBody st) (defScope st) .none kV doc pm an cdv ct ∧ K.lookup f = some ⟨oc, od, .func fd, osl⟩ ∧ PySem.W.codeIn K cdv qual = true
theorem FunC.ok {P : Program} {w : World} {K : PySem.W.Frag} {mg : Str → Option Value} {base : Heap} {x qual : Str} {st : Stmt} {f : Addr} {fd : FuncData} {cdv : Value} {N ps : List Str} {k : Nat} {sp : Sp} (F : FunC K x qual st f fd cdv) (S : FnScope N ps (defScope st))
    (len : ∀ vs H Q E, sp vs H Q E → vs.length = ps.length)
    (hbody : ∀ (A : Around) (outer : List Env) (s : Shared) (H : Hp) (vs : List V) (Q : VK) (E : XK), Room k (A.deeper (PyProof.Rows.envOfC qual (defScope st) s.heap.objs.size f cdv)) → sp vs H Q E →
      ∃ t, PSs (cxOf CX0 P w K mg base N qual (defScope st) f cdv A outer s H E).nox (defBody st) t ∧ t { nx := fun _ H' => Q .non H', rt := Q } (L2.start N vs) H) : FnOk P w K mg base CX0 (k + 1) f fd ps sp := by
  obtain ⟨oc, od, kV, doc, pm, an, ct, osl, rfl, lk, hcd⟩ := F.ex
  refine fn_of lk hcd S len fun A outer s H vs Q E hr hsp => ?_
  obtain ⟨t, h, q⟩ := hbody A outer s H vs Q E hr hsp
  exact ⟨t, h.nox, q⟩
theorem cells_mono {env : Env} {N : List Str} {σ τ : L2.St} {C : Addr → Option Obj} (h : ∀ (i : Nat) (x : Str) (v : V), N[i]? = some x → σ[i]? = some (some v) → (env.kindOf x = some .cell ∨ env.kindOf x = some .free) → τ[i]? = some (some v)) (K : Clo.CellsAt env N τ C) : Clo.CellsAt env N σ C :=
  ⟨K.all, fun i x v c hn hs hk e => K.val i x v c hn (h i x v hn hs hk) hk e⟩
theorem minus_plus {C : Addr → Option Obj} {H : Hp} (h : ∀ c o, C c = some o → H c = none) : Clo.minus C (Clo.plus C H) = H := by
  funext b
  cases e : C b with
  | none => rw [Clo.minus_out e, Clo.plus_out e]
  | some o => rw [Clo.minus_in e, h b o e]
section
variable {K : PySem.W.Frag}
theorem seqT_x {H H' : Hp} (k : LamX.ExtN H H') {a : Addr} {xs : List V} (h : SqT K H a xs) : SqT K H' a xs := by
  rcases h with (h | ⟨o, h⟩) | h
  · exact .inl (.inl (k _ _ h fun _ z => nomatch z))
  · exact .inl (.inr ⟨o, k _ _ h fun _ z => nomatch z⟩)
  · exact .inr h
theorem seqL_x {H H' : Hp} (k : LamX.ExtN H H') {a : Addr} {xs : List V} (h : SqL K H a xs) : SqL K H' a xs := by
  rcases h with (h | ⟨o, h⟩) | h
  · exact .inl (.inl (k _ _ h fun _ z => nomatch z))
  · exact .inl (.inr ⟨o, k _ _ h fun _ z => nomatch z⟩)
  · exact .inr h
mutual
theorem dp_x {H H' : Hp} (k : LamX.ExtN H H') : ∀ (D : PyData) (v : V), Dp K H v D → Dp K H' v D
  | .none, _, h => by cases h; exact .non
  | .bool b, _, h => by cases h; exact .bl b
  | .int i, _, h => by cases h; exact .int i
  | .str x, _, h => by cases h; exact .str x
  | .list ds, _, h => by cases h with | lst hs ha => exact .lst (seqL_x k hs) (dpAll_x k ds _ ha)
  | .tuple ds, _, h => by cases h with | tup hs ha => exact .tup (seqT_x k hs) (dpAll_x k ds _ ha)
  | .dict _, _, h => by cases h
theorem dpAll_x {H H' : Hp} (k : LamX.ExtN H H') : ∀ (Ds : List PyData) (vs : List V), DpAll K H vs Ds → DpAll K H' vs Ds
  | [], _, h => by cases h; exact .nil
  | D :: Ds, _, h => by cases h with | cons h1 h2 => exact .cons (dp_x k D _ h1) (dpAll_x k Ds _ h2)
end
end
theorem tabs_keep {d : Addr} {H H' : Hp} {Tb : List (Addr × Str)} (hd : IsDk H d) (k : Keep d H H') (t : LamX.Tabs Tb H) : LamX.Tabs Tb H' := fun p hp => by
  obtain ⟨kvs, hd⟩ := hd
  obtain ⟨ps, h1, h2, h3⟩ := t p hp
  refine ⟨ps, k _ _ (fun z => by rw [z, hd] at h1; cases h1) h1, h2, fun pos cv hc => ?_⟩
  obtain ⟨c, e, hc2⟩ := h3 pos cv hc
  exact ⟨c, e, k _ _ (fun z => by
    rw [z, hd] at hc2
    have z' := Option.some.inj hc2
    unfold LamX.CodeO at z'
    cases z') hc2⟩
theorem kt_x {H H' : Hp} (k : LamX.ExtN H H') : KT H H' := fun a o n h => by
  rcases n with ⟨_, rfl⟩ | ⟨_, _, rfl⟩
  · exact k _ _ h fun _ z => nomatch z
  · exact k _ _ h fun _ z => nomatch z
end My

set_option Elab.async false
set_option linter.all false
set_option maxRecDepth 100000
namespace Dct
open PySem L2
section
variable {J : It} {n : Nat} {G : Hp → Prop} {Y : Nat → Hp → V → Hp → Prop}
theorem dc_it (w : Walk J n G Y) {g : TG} {tt : TT} {tk tv : TE} {vs : List Nat} {σ : St} {H1 : Hp} {D : Addr} {Qd : Hp → Prop} (Pv : Nat → Hp → Prop) (h0 : Pv 0 (upd H1 D (.dK []))) (hG : ∀ i H, i ≤ n → Pv i H → G H)
    (hs : ∀ i x H H', i < n → Pv i H → Y i H x H' → g x (wipe σ vs) H' fun σ2 H2 => wipe σ2 vs = wipe σ vs ∧ tt σ2 H2 fun b H3 =>
      if b = true then tk σ2 H3 fun y H4 => tv σ2 H4 fun z H5 => ∃ kvs k, y = kV k ∧ H5 D = some (.dK kvs) ∧ kvs.length < sizeLine ∧ Pv (i + 1) (upd H5 D (.dK (putK kvs k z))) else Pv (i + 1) H3) (hd : ∀ H, Pv n H → Qd H) :
    ∃ W : Nat → Nat → Hp → Prop, (∃ m, W 0 m (upd H1 D (.dK []))) ∧ ∀ i m H, W i m H →
      (J.stop i H ∧ Qd H) ∨ (J.go i H ∧ ∃ Nx : Hp → Prop, (∀ H', Nx H' → ∃ m', m' < m ∧ W (i + 1) m' H') ∧ ∀ x H', J.yld i H x H' → g x (wipe σ vs) H' fun σ2 H2 => wipe σ2 vs = wipe σ vs ∧ tt σ2 H2 fun b H3 =>
        if b = true then tk σ2 H3 fun y H4 => tv σ2 H4 fun z H5 => ∃ kvs k, y = kV k ∧ H5 D = some (.dK kvs) ∧ kvs.length < sizeLine ∧ Nx (upd H5 D (.dK (putK kvs k z))) else Nx H3) := by
  refine ⟨fun i m H => m = n - i ∧ i ≤ n ∧ Pv i H, ⟨n, by simp, Nat.zero_le _, h0⟩, ?_⟩
  rintro i m H ⟨rfl, hi, p⟩
  have q := hG i H hi p
  by_cases hlt : i < n
  · refine .inr ⟨w.goes i H hlt q, Pv (i + 1), fun H' p' => ⟨n - (i + 1), by omega, rfl, hlt, p'⟩, fun x H' y => hs i x H H' hlt p (w.yields i H x H' hlt q y)⟩
  · have e : i = n := by omega
    subst e
    exact .inl ⟨w.stops H q, hd H p⟩
end
section
variable {X : Cx}
theorem swD_true {kx vx : Expr} {gs : List Comprehension} {scope : Scope} {pos py : Pos} {y : Str} {l : Nat} {env : Env} (hk : env.scope.kind = .function) (hy : env.scope.names.lookup y = some .local) (hl : (py.line == pos.line) = true)
    (ha : (scope.names.any fun (n, k) => n == y && (k == .local || k == .cell)) = false) : swapsWith (.DictComp kx vx gs scope pos) (some (.Name y py)) l env = pure true := by
  have ky : env.kindOf y = some .local := hy
  have hb : env.blockKind = .function := by unfold Env.blockKind; rw [hk]; rfl
  unfold swapsWith
  simp only [hb, ky, ha, Expr.pos, hl]
  rfl
theorem ps_setDc {i : Nat} {y : Str} {py : Pos} {kx vx tg iter : Expr} {ifs : List Expr} {scope : Scope} {own : List (Str × Nat)} {pos spos : Pos} {wi : TI} {g : TG} {tt : TT} {tk tv : TE} (hc : X.calm = true) (hN : X.N.Nodup) (hy : X.N[i]? = some y) (hyl : X.env.scope.names.lookup y = some .local)
    (hsw : swapsWith (.DictComp kx vx [⟨tg, iter, ifs, 0⟩] scope pos) (some (.Name y py)) spos.line X.env = pure true) (hi : PI X tg iter wi) (ok : BlkOk X.N X.env.scope scope own)
    (hg : ∀ (s : Shared) (H : Hp) (C : Addr) (cl : List (Str × Addr)) (fp : List Addr), PG (X.blk s H scope (compEnvC scope cl C X.env) fp) tg g) (ht : ∀ (s : Shared) (H : Hp) (C : Addr) (cl : List (Str × Addr)) (fp : List Addr), PTs (X.blk s H scope (compEnvC scope cl C X.env) fp) ifs tt)
    (hk : ∀ (s : Shared) (H : Hp) (C : Addr) (cl : List (Str × Addr)) (fp : List Addr), PE (X.blk s H scope (compEnvC scope cl C X.env) fp) kx tk)
    (he : ∀ (s : Shared) (H : Hp) (C : Addr) (cl : List (Str × Addr)) (fp : List Addr), PE (X.blk s H scope (compEnvC scope cl C X.env) fp) vx tv) (hs : ∀ x, foldedSetIterable iter X.env x = pure x := by intro _; rfl) :
    PS X (.Assign [.Name y py] (.DictComp kx vx [⟨tg, iter, ifs, 0⟩] scope pos) spos) (tAsg (tDc wi g tt tk tv (own.map (·.2))) (gName i)) := by
  refine ⟨fun pins s σ H D I h => ?_⟩
  rw [exec_Assign_Name_used _ _ _ _ hsw]
  refine wpAny_bind (wpAny_standAt (wpAny_bind ?_))
  show wpAny _ X.A (do let _ ← comprehension (.DictComp kx vx [⟨tg, iter, ifs, 0⟩] scope pos) scope X.env (firstIterPos [⟨tg, iter, ifs, 0⟩] pos) newDict false (eval iter X.env) (some (assign (.Name y py) X.env))) _ _ s
  have h : tDc wi g tt tk tv (own.map (·.2)) σ H (fun x H1 => gName i x σ H1 D.nx) := h
  refine wpAny_bind (thn (dc_core (Qf := fun _ s' => SP X pins D .next s') hc hN I hi ok hg ht hk he hs h fun L C s' m H' I' q hn f => ?_) fun _ s' hq => wpAny_pure (wpAny_pure hq))
  show wpAny _ _ (assign (.Name y py) X.env (.ref L)) _ _ _
  refine wpAny_assign_Name (store_ok2 (v := V.ref L) I' hN hy (.inl hyl) rfl (fun s2 I2 ⟨a, sb, ha⟩ => ?_) (.inr hyl))
  obtain ⟨f0, f1, f2, f3, f4, f5⟩ := f
  have haC : C ≠ a := by
    rcases ha with z | z
    · rw [z]; exact f1
    · exact fun e => f4 y a z e.symm
  refine ⟨m, hn.sameBut sb haC, fun h3 sb3 => ?_⟩
  exact ⟨_, H', I2.turned (t' := s2.toks) (fun b o hb e => (sb3.2 b hb).trans e) f0 f1 f3 f4 f5, q⟩
end
end Dct

set_option Elab.async false
set_option linter.all false
set_option maxRecDepth 100000
namespace SrtO
open PySem PyProof.Rows Srt
section
variable {prog : Program} {w : World} {A : Around} {E : Value → Shared → Prop} {s : Shared}
def sv : Value → PySem.Str
  | .str x _ => x
  | _ => ⟨#[]⟩
def ltSv (v u : Value) : Bool := decide ((sv v).cps.toList < (sv u).cps.toList)
theorem swo_str : Swo ltSv := by
  refine ⟨fun x y h => ?_, fun x y z h1 h2 => ?_⟩
  · exact decide_eq_false (List.lt_asymm (of_decide_eq_true h))
  · exact decide_eq_false (List.not_lt.mpr (List.le_trans (List.not_lt.mp (of_decide_eq_false h1)) (List.not_lt.mp (of_decide_eq_false h2))))
theorem strs_mem : ∀ {vs : List Value} {ns : List PySem.Str}, StrsAre vs ns → ∀ v ∈ vs, ∃ i t, v = Value.str i t
  | _, _, .nil, v, h => absurd h (by simp)
  | _, _, .cons n t r, v, h => by
    rcases List.mem_cons.mp h with e | h
    · exact ⟨n, t, e⟩
    · exact strs_mem r v h
theorem strs_sv : ∀ {vs : List Value}, (∀ v ∈ vs, ∃ i t, v = Value.str i t) → StrsAre vs (vs.map sv)
  | [], _ => .nil
  | v :: vs, h => by
    obtain ⟨i, t, e⟩ := h v List.mem_cons_self
    subst e
    exact .cons i t (strs_sv fun u hu => h u (List.mem_cons_of_mem _ hu))
theorem sv_strs : ∀ {vs : List Value} {ns : List PySem.Str}, StrsAre vs ns → vs.map sv = ns
  | _, _, .nil => rfl
  | _, _, .cons n t r => congrArg (n :: ·) (sv_strs r)
theorem str_cmp {vs : List Value} {ns : List PySem.Str} (hI : StrsAre vs ns) : Cmp prog w A s oneType' (fun p => p.1 ∈ vs) (lt2 ltSv) := by
  intro p q hm hm'
  obtain ⟨a, t, e⟩ := strs_mem hI _ hm
  obtain ⟨b, u, e'⟩ := strs_mem hI _ hm'
  show wpAny (model prog w) A (keyLt' oneType' p.1 q.1) (fun r s' => s' = s ∧ r = ltSv p.1 q.1) (fun _ _ => False) s
  rw [e, e', keyLt'_oneType]
  exact oneLt_str ⟨rfl, rfl⟩
theorem strs_sortable {a : Addr} {vs : List Value} {ns : List PySem.Str} (hI : StrsAre vs ns) (h2 : 2 ≤ vs.length) : SortableO prog w A s a vs ltSv := by
  intro h' _
  refine ⟨oneType', fun Q E hq => ?_, str_cmp hI⟩
  match vs, hI, h2 with
  | v1 :: v2 :: rest, hI, _ =>
    rw [keyKind_strs hI]
    exact wpAny_pure hq
  | [], _, h => exact absurd h (by decide)
  | [v], _, h => exact absurd h (by simp)
end
end SrtO
namespace L2
open PySem PySem.Spec PyProof.Rows
section
variable {X : Cx}
/-- sorted(d, reverse=True): the dict's texts in some order -/
def rSortDR : List V → List V → Hp → VK → Prop := fun xs zs H Q => ∃ (a : Addr) (kvs : List (Key × V)) (ks : List PySem.Str), xs = [.ref a] ∧ zs = [.bl true] ∧ Rd H a (.dK kvs) ∧ kvs.map (·.1) = ks.map Sum.inr ∧ ks.length < 64 ∧
    ∀ (ys : List PySem.Str) (p : Addr), ys.Perm ks → H p = none → Q (.ref p) (upd H p (.lst (ys.map V.str)))
theorem call_sortedDR (hcalm : X.calm = true) : CallRK X (.builtin "sorted") [Str.ofString "reverse"] rSortDR := by
  intro pins s σ H xs zs us ws Q I r rz q
  obtain ⟨a, kvs, ks, rfl, rfl, hd, hks, h64, q⟩ := q
  obtain ⟨u, rfl, rx⟩ := vals1 r
  cases rx
  obtain ⟨w1, rfl, e1⟩ := vals1 rz
  obtain rfl : w1 = Value.bool true := e1
  obtain ⟨z, lo, vs, rel, dd⟩ := dk_rd I.hok hd
  obtain ⟨ep, hat⟩ := dd.dictAt
  have hkeys : vs.map (·.1) = ks.map Sum.inr := rel.keys.symm.trans hks
  have hl : vs.length = ks.length := by
    have e := congrArg List.length hkeys
    rw [List.length_map, List.length_map] at e
    exact e
  have h16 : vs.length ≤ sizeLine := by rw [hl, sizeLine_eq]; omega
  show wpAny _ _ (call (.builtin "sorted") [.ref a] [(Str.ofString "reverse", .bool true)]) _ _ _
  refine call_function_entry_kw kind_sorted plain_sorted entry_sorted (PyProof.Rows.args_sorted_rev _ _) ?_
  unfold Builtin.«sorted»
  refine wpAny_bind (m := checkCount "sorted" 1 1 _) (wpAny_pure ?_)
  refine wpAny_bind (PySem.W.kdu_collect (A := X.A.in1) (PySem.W.kdl_dict (knd := mixKind X.prog X.w) (kvs := vs) (ep := ep) lo) (I.ok.hd hcalm) hat h16 fun h' tk acc hk hacc => ?_)
  have hal : acc.toList.length = ks.length := by rw [Array.length_toList, hacc.1, hl]
  have hS : StrsAre acc.toList ks := strs_at hal fun j v e => by
    obtain ⟨k, x, e1, e2⟩ := hacc.2 j v (by rw [← Array.getElem?_toList]; exact e)
    have e3 : (vs.map (·.1))[j]? = some k := by rw [List.getElem?_map, e1]; all_goals rfl
    rw [hkeys, List.getElem?_map] at e3
    cases e4 : ks[j]? with
    | none => rw [e4] at e3; cases e3
    | some y =>
      rw [e4] at e3
      have e5 : Sum.inr y = k := Option.some.inj e3
      subst e5
      obtain ⟨t, ev⟩ := Value.isStrOf_shape (x := y) (v := v) e2
      exact ⟨y, t, rfl, ev⟩
  have I1 : Inv X pins σ H { s with heap := h', toks := tk } := I.kept hk
  refine wpAny_bind (wpAny_newList ?_ (by rw [hal, sizeLine_eq]; omega))
  have hoL : (h'.push (seqObj "list" acc.toList.toArray 0)).get? h'.objs.size = some (seqObj "list" acc.toList.toArray 0) := Heap.get?_push_size _ rfl
  show wpAny _ _ _ _ _ { s with heap := h'.push (seqObj "list" acc.toList.toArray 0), toks := tk }
  refine wpAny_bind (wpAny_holding (wpAny_call_entry_kw PyProof.Rows.slot_list_sort ⟨_, hoL, rfl⟩ PyProof.Rows.entry_list_sort ?_ (PyProof.Rows.args_list_sort_rev _ _)))
  refine SrtR.list_sort_ordR (s := { s with heap := h'.push (seqObj "list" acc.toList.toArray 0), toks := tk }) SrtO.swo_str hoL (by rw [hal, sizeLine_eq]; omega) (fun h2 => SrtO.strs_sortable hS h2) fun out hs hb => ⟨_, rfl, ?_⟩
  have hb : SrtO.Stb SrtO.ltSv out acc.toList.reverse := hb
  have hm : ∀ v ∈ out.reverse, ∃ i t, v = Value.str i t := fun v hv => SrtO.strs_mem hS v (List.mem_reverse.mp (hb.perm.mem_iff.mp (List.mem_reverse.mp hv)))
  have g1 := SrtO.strs_sv hm
  have g2 : (out.reverse.map SrtO.sv).Perm ks := by
    have p := (((List.reverse_perm out).trans hb.perm).trans (List.reverse_perm _)).map SrtO.sv
    rw [SrtO.sv_strs hS] at p
    exact p
  have eO : (if true = true then out.toArray.reverse else out.toArray) = out.reverse.toArray := by
    rw [if_pos rfl, List.reverse_toArray]
  rw [eO]
  obtain ⟨e', he'⟩ := PyProof.Rows.sortedHeap_at (vs := acc.toList) (out := out.reverse.toArray) hoL
  have hlen : ((out.reverse.map SrtO.sv).map V.str).length ≤ sizeLine := by
    rw [List.length_map, g2.length_eq]
    exact Nat.le_trans (Nat.le_of_lt h64) (by decide)
  refine wpAny_pure ⟨_, rfl, .ref h'.objs.size, upd H h'.objs.size (.lst ((out.reverse.map SrtO.sv).map V.str)), I1.laid (t' := tk) (fun b u e => ?_) (Nat.le_refl _)
    (show ObjOk X.prog X.w _ _ _ (.lst ((out.reverse.map SrtO.sv).map V.str)) from ⟨hlen, out.reverse, e', vals_of_strs g1, he'⟩), rfl, q _ _ g2 (I1.hok.fresh (Nat.le_refl _))⟩
  have hb : b < h'.objs.size := Heap.lt_size e
  rw [PyProof.Rows.sortedHeap_old (Nat.ne_of_lt hb) (by rw [size_push']; exact Nat.lt_succ_of_lt hb)]
  exact Heap.get?_push_of_some _ e
end
end L2

set_option Elab.async false
set_option linter.all false
set_option maxRecDepth 100000
namespace My
open PySem L2
abbrev scheck_forms : Stmt := top 24
abbrev Ncheck_forms : List Str := ["forms", "name"]
abbrev Pcheck_forms : List Str := ["forms"]
theorem sccheck_forms : FnScope Ncheck_forms Pcheck_forms (defScope scheck_forms) := ⟨rfl, rfl, rfl, by decide +kernel, rfl, by decide +kernel, by decide +kernel⟩
mutual
theorem dp_mono {K : PySem.W.Frag} {H H' : Hp} (kT : ∀ a xs, SqT K H a xs → SqT K H' a xs) (kL : ∀ a xs, SqL K H a xs → SqL K H' a xs) : ∀ (D : PyData) (v : V), Dp K H v D → Dp K H' v D
  | .none, _, h => by cases h; exact .non
  | .bool b, _, h => by cases h; exact .bl b
  | .int i, _, h => by cases h; exact .int i
  | .str x, _, h => by cases h; exact .str x
  | .list ds, _, h => by cases h with | lst hs ha => exact .lst (kL _ _ hs) (dpAll_mono kT kL ds _ ha)
  | .tuple ds, _, h => by cases h with | tup hs ha => exact .tup (kT _ _ hs) (dpAll_mono kT kL ds _ ha)
  | .dict _, _, h => by cases h
theorem dpAll_mono {K : PySem.W.Frag} {H H' : Hp} (kT : ∀ a xs, SqT K H a xs → SqT K H' a xs) (kL : ∀ a xs, SqL K H a xs → SqL K H' a xs) : ∀ (Ds : List PyData) (vs : List V), DpAll K H vs Ds → DpAll K H' vs Ds
  | [], _, h => by cases h; exact .nil
  | D :: Ds, _, h => by cases h with | cons h1 h2 => exact .cons (dp_mono kT kL D _ h1) (dpAll_mono kT kL Ds _ h2)
end
/-- no list, no tuple, not locked -/
def Dct (u : HO) : Prop := (∃ kvs, u = .dK kvs) ∨ ∃ φ, u = .ext φ
theorem Dct.mut {u : HO} (d : Dct u) : Mut (some u) := by
  rcases d with ⟨_, rfl⟩ | ⟨_, rfl⟩ <;> exact True.intro
section
variable {K : PySem.W.Frag} {H : Hp} {a : Addr} {u : HO} {o : Obj}
theorem lock_seqT (ea : H a = some u) (d : Dct u) {b : Addr} {xs : List V} (h : SqT K H b xs) : SqT K (upd H a (.frz o u)) b xs := by
  have ne : b = a → ∀ w, H b = some w → w = u := fun e w h => by rw [e, ea] at h; exact (Option.some.inj h).symm
  rcases h with (h | ⟨q, h⟩) | h
  · refine .inl (.inl ?_)
    rw [upd_ne fun e => ?_]
    · exact h
    · have := ne e _ h
      subst this
      rcases d with ⟨_, e⟩ | ⟨_, e⟩ <;> cases e
  · refine .inl (.inr ⟨q, ?_⟩)
    rw [upd_ne fun e => ?_]
    · exact h
    · have := ne e _ h
      subst this
      rcases d with ⟨_, e⟩ | ⟨_, e⟩ <;> cases e
  · exact .inr h
theorem lock_seqL (ea : H a = some u) (d : Dct u) {b : Addr} {xs : List V} (h : SqL K H b xs) : SqL K (upd H a (.frz o u)) b xs := by
  have ne : b = a → ∀ w, H b = some w → w = u := fun e w h => by rw [e, ea] at h; exact (Option.some.inj h).symm
  rcases h with (h | ⟨q, h⟩) | h
  · refine .inl (.inl ?_)
    rw [upd_ne fun e => ?_]
    · exact h
    · have := ne e _ h
      subst this
      rcases d with ⟨_, e⟩ | ⟨_, e⟩ <;> cases e
  · refine .inl (.inr ⟨q, ?_⟩)
    rw [upd_ne fun e => ?_]
    · exact h
    · have := ne e _ h
      subst this
      rcases d with ⟨_, e⟩ | ⟨_, e⟩ <;> cases e
  · exact .inr h
theorem lock_dp (ea : H a = some u) (d : Dct u) {D : PyData} {v : V} (h : Dp K H v D) : Dp K (upd H a (.frz o u)) v D := dp_mono (fun _ _ => lock_seqT ea d) (fun _ _ => lock_seqL ea d) D v h
theorem lock_kt (ea : H a = some u) (d : Dct u) : KT H (upd H a (.frz o u)) := fun b w n h => by
  rw [upd_ne fun e => ?_]
  · exact h
  · rw [e, ea] at h
    obtain rfl := Option.some.inj h
    rcases d with ⟨_, e⟩ | ⟨_, e⟩ <;> rcases n with ⟨_, z⟩ | ⟨_, _, z⟩ <;> rw [e] at z <;> cases z
theorem lock_tpl (ea : H a = some u) (d : Dct u) {kvs : List (Odd.OK × V)} (h : Odd.Tpl H kvs) : Odd.Tpl (upd H a (.frz o u)) kvs := fun b z v m => by
  rw [upd_ne fun e => ?_]
  · exact h b z v m
  · have q := h b z v m
    rw [e, ea] at q
    obtain rfl := Option.some.inj q
    rcases d with ⟨_, e⟩ | ⟨_, e⟩ <;> cases e
theorem lock_frz {w : World} (ea : H a = some u) (d : Dct u) {kvs : List (Odd.OK × V)} (h : Odd.OR w H a kvs) : Odd.FrzR w (upd H a (.frz o u)) a o kvs := by
  rcases h with ⟨zs, e, h | ⟨q, h⟩⟩ | h | ⟨q, h⟩
  · rw [ea] at h
    obtain rfl := Option.some.inj h
    exact .inl ⟨zs, e, upd_same⟩
  · rw [ea] at h
    obtain rfl := Option.some.inj h
    rcases d with ⟨_, e⟩ | ⟨_, e⟩ <;> cases e
  · rw [ea] at h
    obtain rfl := Option.some.inj h
    exact .inr upd_same
  · rw [ea] at h
    obtain rfl := Option.some.inj h
    rcases d with ⟨_, e⟩ | ⟨_, e⟩ <;> cases e
theorem unlock_same {H' : Hp} (ea : H a = some u) (s : Same (upd H a (.frz o u)) H') : Same H (upd H' a u) := fun b w h => by
  by_cases e : b = a
  · rw [e, upd_same, ← ea, ← e]
    exact h
  · rw [upd_ne e]
    refine s b w ?_
    rw [upd_ne e]
    exact h
end
/-- a name and its form; what is neither -/
def GoodE (K : PySem.W.Frag) (H : Hp) (p : Odd.OK × V) : Prop := ∃ z t, p.1 = .txt z ∧ isName z = true ∧ Fm K H t p.2 ∧ t.Ok ∧ t.dep ≤ 12
def BadE (K : PySem.W.Frag) (H : Hp) (p : Odd.OK × V) : Prop := (∃ D, Dp K H p.1.v D ∧ isNameD D = false ∧ ∀ z, D = .str z → z.length ≤ 1000) ∨ ∃ z D, p.1 = .txt z ∧ isName z = true ∧ Dp K H p.2 D ∧ shortD D = true ∧ isForm 12 D = false
structure DictF (w : World) (H : Hp) (a : Addr) (kvs : List (Odd.OK × V)) (u : HO) : Prop where
  or : Odd.OR w H a kvs
  is : H a = some u
  dc : Dct u
  tp : Odd.Tpl H kvs
  nd : Odd.NdK kvs
def spCheckForms (w : World) (K : PySem.W.Frag) (CB : Addr) : Sp := fun vs H Q E => ∃ v, vs = [v] ∧
  ((∃ a kvs u, v = .ref a ∧ DictF w H a kvs u ∧ (((∀ p ∈ kvs, GoodE K H p) ∧ ∀ H', Same H H' → Q .non H') ∨
    ∃ (j : Nat) (p : Odd.OK × V), kvs[j]? = some p ∧ (∀ (i : Nat) (p' : Odd.OK × V), i < j → kvs[i]? = some p' → GoodE K H p') ∧ BadE K H p ∧ ∀ od, badE CB "value" v (upd H a (.frz od u)) E)) ∨
  ∃ g, TyX K H v (.type g) ∧ kitB g "dict" = some false ∧ badE CB "value" v H E)
theorem walk_okeys {w : World} {d : Addr} {o : Obj} {kvs : List (Odd.OK × V)} : Walk (Odd.Ito w d o kvs) kvs.length (fun H => Odd.FrzR w H d o kvs) (fun i H x H' => H' = H ∧ ∃ k v, kvs[i]? = some (k, v) ∧ x = k.v) :=
  ⟨fun i _ hi q => ⟨q, hi⟩, fun _ q => ⟨q, Nat.le_refl _⟩, fun _ _ _ _ _ q y => y⟩
section
variable {P : Program} {w : World} {K : PySem.W.Frag} {mg : Str → Option Value} {base : Heap} {f : Addr} {fd : FuncData} {CB : Addr}
theorem okcheck_forms (T : Txt K mg) (dict : mg "dict" = none) (O : OneE P w K mg base "BadValue" "value" CB) (F : Fun K "check_forms" "check_forms" scheck_forms f fd) (Cfits_name : Cal P w K mg base "fits_name" 2 ["value"] (spName K)) (Cfits_form : Cal P w K mg base "fits_form" 15 Pfits_form (spForm K 13)) :
    FnOk P w K mg base (L2.CX P w) 16 f fd Pcheck_forms (spCheckForms w K CB) := by
  refine F.okX sccheck_forms (fun vs H Q E h => ?_) (fun cdv A outer s H vs Q E hr h => ?_)
  · obtain ⟨v, rfl, _⟩ := h
    rfl
  obtain ⟨v, rfl, h⟩ := h
  refine ⟨_, (pss_cons (ps_if (pt_not (pt_val (pe_callB Odd.call_isiO rfl T.isinstance (by decide +kernel) (pa_cons (pv 0) (pa_cons (pe_bltn (v := .ty "dict") rfl dict (by decide +kernel) rfl) pa_nil)))))
    (pss_one (ps_raise1 (k := 0) O rfl (hr.mono (by decide)) (takes_of rfl rfl rfl rfl) (pv 0)))
    pss_nil)
  (pss_one (ps_lock (ps_for (passes_of rfl) rfl (Odd.pi_okeys (pv 0)) (pg_name (i := 1) sccheck_forms.nd rfl (Or.inl rfl))
    (pss_one (ps_if (PW.pt (pw_or (pt_not (pt_val (pe_callC Cfits_name hr (pa_cons (pv 1) pa_nil)))) (pw_or1 (pt_not (pt_val (pe_callC Cfits_form hr (pa_cons (Odd.pe_oget hr.units (pv 0) (pv 1) (fun _ _ => rfl)) (pa_cons (pe_globE T.DEEPEST) pa_nil))))))))
      (pss_one (ps_raise1 (k := 0) O rfl (hr.mono (by decide)) (takes_of rfl rfl rfl rfl) (pv 0)))
      pss_nil)))))), ?_⟩
  rcases h with ⟨a, kvs, u, rfl, hD, h⟩ | ⟨g, ty, hg, q⟩
  · refine ⟨_, rfl, .ref a, .ty "dict", .type "dict", .type "dict", true, rfl, .ty "dict", .inr ⟨a, kvs, rfl, hD.or, rfl⟩, kit_ty (by decide +kernel), true, rfl, ?_⟩
    refine ⟨a, u, hD.is, hD.dc.mut, fun od => ?_⟩
    refine ⟨_, rfl, a, od, kvs, rfl, lock_frz hD.is hD.dc hD.or, ?_⟩
    have h2 : ∃ m : Nat, (∀ (i : Nat) (p' : Odd.OK × V), i < m → kvs[i]? = some p' → GoodE K H p') ∧ ((m = kvs.length ∧ ∀ H', Same H H' → Q .non H') ∨ ∃ p, kvs[m]? = some p ∧ BadE K H p ∧ ∀ od, badE CB "value" (.ref a) (upd H a (.frz od u)) E) := by
      rcases h with ⟨h1, h2⟩ | ⟨j, p, h1, h2, h3⟩
      · exact ⟨kvs.length, fun i p' _ e => h1 p' (List.mem_of_getElem? e), .inl ⟨rfl, h2⟩⟩
      · exact ⟨j, h2, .inr ⟨p, h1, h3⟩⟩
    obtain ⟨m, hg, hm⟩ := h2
    have kt0 := lock_kt (o := od) hD.is hD.dc
    have fz0 := lock_frz (o := od) hD.is hD.dc hD.or
    have tp0 := lock_tpl (o := od) hD.is hD.dc hD.tp
    have dp0 : ∀ D v, Dp K H v D → Dp K (upd H a (.frz od u)) v D := fun D v => lock_dp hD.is hD.dc
    have eA : upd H a (.frz od u) a = some (.frz od u) := upd_same
    have un : ∀ H', Same (upd H a (.frz od u)) H' → Same H (upd H' a u) := fun H' => unlock_same hD.is
    have hm : (m = kvs.length ∧ ∀ H', Same H H' → Q .non H') ∨ ∃ p, kvs[m]? = some p ∧ BadE K H p ∧ badE CB "value" (.ref a) (upd H a (.frz od u)) E := hm.imp id fun ⟨p, h1, h2, h3⟩ => ⟨p, h1, h2, h3 od⟩
    generalize upd H a (.frz od u) = H0 at *
    refine for_it walk_okeys (fun i σ H' => Same H0 H' ∧ i ≤ m ∧ ∃ x, σ = [some (.ref a), x]) ⟨Same.refl _, Nat.zero_le _, none, rfl⟩ (fun i σ H' _ p => ?_) (fun i y σ H2 H3 hi ⟨s2, him, x, eσ⟩ ⟨eH, k, v, hkv, ey⟩ => ?_) (fun σ H2 ⟨s2, him, x, eσ⟩ => ?_)
    · rcases fz0 with ⟨zs, e, h⟩ | h
      · exact .inl ⟨zs, e, p.1 _ _ h⟩
      · exact .inr (p.1 _ _ h)
    · subst eH
      subst ey
      subst eσ
      have fz2 : Odd.OR w H3 a kvs := fz0.or.same s2
      have tp2 : Odd.Tpl H3 kvs := tp0.same s2
      rcases Nat.lt_or_ge i m with c | c
      · obtain ⟨z, t, rfl, hz, hf, ok, dp⟩ := hg i _ c hkv
        refine ⟨_, rfl, .str z, rfl, .inl ⟨.str z, .str z, fun z' e => ?_, fun H4 s4 => ⟨isName z, rfl, ?_⟩⟩⟩
        · injection e with e
          rw [← e]
          have := (name_len hz).2
          omega
        rw [hz]
        refine ⟨_, rfl, _, rfl, a, kvs, .txt z, i, v, rfl, rfl, fz2.same s4, tp2.same s4, hD.nd, hkv, v, 12, rfl, by decide, .inl ⟨t.data, FT.of_fm t ((Same.kt (s2.trans s4)).fm _ (kt0.fm _ hf)), short_form (ft_isForm t ok dp), fun H5 s5 => ⟨isForm 12 t.data, rfl, ?_⟩⟩⟩
        rw [ft_isForm t ok dp]
        exact ⟨(s2.trans s4).trans s5, by omega, _, rfl⟩
      · obtain rfl : i = m := by omega
        rcases hm with ⟨e, _⟩ | ⟨p, hp, hb, q⟩
        · omega
        rw [hkv] at hp
        obtain rfl := Option.some.inj hp
        have raise : ∀ H', Same H0 H' → badE CB "value" (.ref a) H' E := fun H' s' => q.same s'
        rcases hb with ⟨D, hd, hn, hl⟩ | ⟨z, D, rfl, hz, hd, sh, hn⟩
        · refine ⟨_, rfl, k.v, rfl, .inl ⟨D, dp_same s2 _ _ (dp0 _ _ hd), hl, fun H4 s4 => ⟨isNameD D, rfl, ?_⟩⟩⟩
          rw [hn]
          exact ⟨_, rfl, mk_one O.oex O.no fun d nd => raise H4 (s2.trans s4) d H4 (Same.refl _) nd⟩
        · refine ⟨_, rfl, .str z, rfl, .inl ⟨.str z, .str z, fun z' e => ?_, fun H4 s4 => ⟨isName z, rfl, ?_⟩⟩⟩
          · injection e with e
            rw [← e]
            have := (name_len hz).2
            omega
          rw [hz]
          refine ⟨_, rfl, _, rfl, a, kvs, .txt z, i, v, rfl, rfl, fz2.same s4, tp2.same s4, hD.nd, hkv, v, 12, rfl, by decide, .inl ⟨D, dp_same (s2.trans s4) _ _ (dp0 _ _ hd), sh, fun H5 s5 => ⟨isForm 12 D, rfl, ?_⟩⟩⟩
          rw [hn]
          exact ⟨_, rfl, mk_one O.oex O.no fun d nd => raise H5 ((s2.trans s4).trans s5) d H5 (Same.refl _) nd⟩
    · subst eσ
      refine ⟨s2 _ _ eA, ?_⟩
      rcases hm with ⟨_, q⟩ | ⟨p, hp, _⟩
      · exact q _ (un _ s2)
      · rw [List.getElem?_eq_none (by omega)] at hp
        cases hp
  · exact ⟨_, rfl, v, .ty "dict", .type g, .type "dict", false, rfl, .ty "dict", .inl ty, kit_ty hg, false, rfl, _, rfl, mk_one O.oex O.no fun d nd => q d H (Same.refl _) nd⟩
end
end My

set_option Elab.async false
set_option linter.all false
set_option maxRecDepth 100000
namespace My
open PySem L2
abbrev swith_forms : Stmt := top 29
abbrev Nwith_forms : List Str := ["form", "forms", "depths", "name"]
abbrev Pwith_forms : List Str := ["form", "forms"]
theorem scwith_forms : FnScope Nwith_forms Pwith_forms (defScope swith_forms) := ⟨rfl, rfl, rfl, by decide +kernel, rfl, by decide +kernel, by decide +kernel⟩
/-- the pairs of a dict of forms -/
theorem zs_of {K : PySem.W.Frag} {H : Hp} : ∀ {kvs : List (Key × V)} {fd : List (Str × FT)}, FDv K H kvs fd → ∃ zs : List (Str × V), kvs = zs.map Odd.kk ∧ zs.map (·.1) = fd.map (·.1) ∧ Paired (fun (z : Str × V) (p : Str × FT) => z.1 = p.1 ∧ Fm K H p.2 z.2) zs fd
  | _, _, .nil => ⟨[], rfl, rfl, .nil⟩
  | _, _, .cons (a := kv) (b := p) h r => by
    obtain ⟨zs, h1, h2, h3⟩ := zs_of r
    refine ⟨(p.1, kv.2) :: zs, ?_, ?_, .cons ⟨rfl, h.2⟩ h3⟩
    · rw [List.map_cons, h1]
      show kv :: _ = (Sum.inr p.1, kv.2) :: _
      rw [← h.1]
    · rw [List.map_cons, List.map_cons, h2]
theorem ndK_of : ∀ {zs : List (Str × V)}, (zs.map (·.1)).Nodup → Odd.NdK (zs.map Odd.tk)
  | [], _ => List.nodup_nil
  | z :: zs, h => by
    rw [List.map_cons, List.nodup_cons] at h
    unfold Odd.NdK
    rw [List.map_cons, List.map_cons, List.nodup_cons]
    refine ⟨fun m => h.1 ?_, ndK_of h.2⟩
    rw [List.map_map] at m
    obtain ⟨p, hp, e⟩ := List.mem_map.mp m
    have e : NestedKey.text p.1 = NestedKey.text z.1 := e
    injection e with e
    exact List.mem_map.mpr ⟨p, hp, e⟩
theorem tpl_of {H : Hp} (zs : List (Str × V)) : Odd.Tpl H (zs.map Odd.tk) := fun b z v m => by
  obtain ⟨p, _, e⟩ := List.mem_map.mp m
  have e : ((Odd.OK.txt p.1, p.2) : Odd.OK × V) = (.tpl b z, v) := e
  injection e with e _
  cases e
theorem dictF_of {w : World} {H : Hp} {a : Addr} {zs : List (Str × V)} {fd : List (Str × FT)} (h : H a = some (.dK (zs.map Odd.kk))) (e : zs.map (·.1) = fd.map (·.1)) (ok : FDok fd) : DictF w H a (zs.map Odd.tk) (.dK (zs.map Odd.kk)) :=
  ⟨.inl ⟨zs, rfl, .inl h⟩, h, .inl ⟨_, rfl⟩, tpl_of zs, ndK_of (by rw [e]; exact ok.nd)⟩
theorem paired_memL {α β : Type} {r : α → β → Prop} : ∀ {xs : List α} {ys : List β}, Paired r xs ys → ∀ x ∈ xs, ∃ y ∈ ys, r x y
  | _, _, .nil, x, h => by cases h
  | _, _, .cons h t, x, m => by
    rcases List.mem_cons.mp m with rfl | m
    · exact ⟨_, List.mem_cons_self, h⟩
    · obtain ⟨y, hy, r⟩ := paired_memL t x m
      exact ⟨y, List.mem_cons_of_mem _ hy, r⟩
theorem good_of {K : PySem.W.Frag} {H : Hp} {zs : List (Str × V)} {fd : List (Str × FT)} (h : Paired (fun (z : Str × V) (p : Str × FT) => z.1 = p.1 ∧ Fm K H p.2 z.2) zs fd) (ok : FDok fd) : ∀ p ∈ zs.map Odd.tk, GoodE K H p := fun p hp => by
  obtain ⟨z, hz, rfl⟩ := List.mem_map.mp hp
  obtain ⟨q, hq, e, hf⟩ := paired_memL h z hz
  obtain ⟨h1, h2, h3⟩ := ok.ok q hq
  exact ⟨z.1, q.2, rfl, by rw [e]; exact h1, hf, h2, by omega⟩
theorem fdv_of {K : PySem.W.Frag} {H : Hp} : ∀ {zs : List (Str × V)} {fd : List (Str × FT)}, Paired (fun (z : Str × V) (p : Str × FT) => z.1 = p.1 ∧ Fm K H p.2 z.2) zs fd → FDv K H (zs.map Odd.kk) fd
  | _, _, .nil => .nil
  | _, _, .cons (a := z) (b := p) h r => .cons ⟨by show (Sum.inr z.1 : Key) = .inr p.1; rw [h.1], h.2⟩ (fdv_of r)
theorem fget_none : ∀ {fd : List (Str × FT)} {z : Str}, z ∉ fd.map (·.1) → fget fd z = none
  | [], _, _ => rfl
  | p :: r, z, h => by
    rw [List.map_cons, List.mem_cons, not_or] at h
    unfold fget
    rw [if_neg (fun e => h.1 e.symm)]
    exact fget_none h.2
theorem fget_snoc : ∀ (l : List (Str × FT)) (p : Str × FT) (z : Str), p.1 ∉ l.map (·.1) → fget (l ++ [p]) z = if z = p.1 then some p.2 else fget l z
  | [], p, z, _ => by
    show (if p.1 = z then some p.2 else none) = _
    by_cases e : p.1 = z
    · rw [if_pos e, if_pos e.symm]
    · rw [if_neg e, if_neg (fun h => e h.symm)]
      rfl
  | q :: l, p, z, h => by
    rw [List.map_cons, List.mem_cons, not_or] at h
    have ih := fget_snoc l p z h.2
    show (if q.1 = z then some q.2 else fget (l ++ [p]) z) = _
    by_cases e : q.1 = z
    · rw [if_pos e, if_neg (fun c => h.1 (by rw [← c, e]))]
      unfold fget
      rw [if_pos e]
    · rw [if_neg e, ih]
      by_cases c : z = p.1
      · rw [if_pos c, if_pos c]
      · rw [if_neg c, if_neg c]
        show _ = (if q.1 = z then some q.2 else fget l z)
        rw [if_neg e]
/-- forms that are no dict from names to forms -/
def BadFs (w : World) (K : PySem.W.Frag) (CB : Addr) (v : V) (H : Hp) (E : XK) : Prop :=
  (∃ a kvs u, v = .ref a ∧ DictF w H a kvs u ∧ ∃ (j : Nat) (p : Odd.OK × V), kvs[j]? = some p ∧ (∀ (i : Nat) (p' : Odd.OK × V), i < j → kvs[i]? = some p' → GoodE K H p') ∧ BadE K H p ∧ ∀ od, badE CB "value" v (upd H a (.frz od u)) E) ∨
  ∃ g, (∀ H', Same H H' → TyX K H' v (.type g)) ∧ kitB g "dict" = some false ∧ badE CB "value" v H E
theorem DictF.same {w : World} {H H' : Hp} {a : Addr} {kvs : List (Odd.OK × V)} {u : HO} (s : Same H H') (h : DictF w H a kvs u) : DictF w H' a kvs u := ⟨h.or.same s, s _ _ h.is, h.dc, h.tp.same s, h.nd⟩
theorem GoodE.same {K : PySem.W.Frag} {H H' : Hp} {p : Odd.OK × V} (s : Same H H') (h : GoodE K H p) : GoodE K H' p := by
  obtain ⟨z, t, e, h1, h2, h3⟩ := h
  exact ⟨z, t, e, h1, (Same.kt s).fm _ h2, h3⟩
theorem BadE.same {K : PySem.W.Frag} {H H' : Hp} {p : Odd.OK × V} (s : Same H H') (h : BadE K H p) : BadE K H' p := by
  rcases h with ⟨D, h1, h2⟩ | ⟨z, D, h1, h2, h3, h4⟩
  · exact .inl ⟨D, dp_same s _ _ h1, h2⟩
  · exact .inr ⟨z, D, h1, h2, dp_same s _ _ h3, h4⟩
theorem same_lock {H H' : Hp} {a : Addr} {o : HO} (s : Same H H') : Same (upd H a o) (upd H' a o) := fun b u h => by
  by_cases e : b = a
  · rw [e, upd_same] at h ⊢
    exact h
  · rw [upd_ne e] at h ⊢
    exact s _ _ h
theorem badE.imp {C : Addr} {fld : Str} {v : V} {H : Hp} {E E' : XK} (b : badE C fld v H E) (im : ∀ c d H2, E c d H2 → E' c d H2) : badE C fld v H E' := fun d H' s n => im _ _ _ (b d H' s n)
theorem BadFs.check {w : World} {K : PySem.W.Frag} {CB : Addr} {v : V} {H H' : Hp} {E E' : XK} {Q : VK} (s : Same H H') (h : BadFs w K CB v H E) (im : ∀ c d H2, E c d H2 → E' c d H2) : spCheckForms w K CB [v] H' Q E' := by
  rcases h with ⟨a, kvs, u, e, h1, j, p, h2, h3, h4, h5⟩ | ⟨g, h1, h2, h3⟩
  · exact ⟨v, rfl, .inl ⟨a, kvs, u, e, h1.same s, .inr ⟨j, p, h2, fun i p' c e => (h3 i p' c e).same s, h4.same s, fun od => ((h5 od).same (same_lock s)).imp im⟩⟩⟩
  · exact ⟨v, rfl, .inr ⟨g, h1 _ s, h2, (h3.same s).imp im⟩⟩
def spWithForms (w : World) (K : PySem.W.Frag) (CB CD : Addr) : Sp := fun vs H Q E => ∃ v f, vs = [v, f] ∧ (BadF K CB v H E ∨ ∃ t, Fm K H t v ∧ t.Ok ∧ t.dep ≤ 12 ∧ (BadFs w K CB f H E ∨
  ∃ a zs fd, f = .ref a ∧ H a = some (.dK (zs.map Odd.kk)) ∧ zs.map (·.1) = fd.map (·.1) ∧ Paired (fun (z : Str × V) (p : Str × FT) => z.1 = p.1 ∧ Fm K H p.2 z.2) zs fd ∧ FDok fd ∧
    (depW fd t ≤ 12 → ∀ H' u, Same H H' → Fm K H' (putT fd t) u → Q u H') ∧ (12 < depW fd t → badE CD "most" (.int 12) H E)))
section
variable {P : Program} {w : World} {K : PySem.W.Frag} {mg : Str → Option Value} {base : Heap} {f : Addr} {fd : FuncData} {CB CD : Addr}
set_option maxHeartbeats 1000000 in
theorem okwith_forms (T : Txt K mg) (O : OneE P w K mg base "TooDeep" "most" CD) (F : Fun K "with_forms" "with_forms" swith_forms f fd) (Ccheck_form : CalX P w K mg base "check_form" 16 Nis_leaf (spCheckForm K CB)) (Ccheck_forms : CalX P w K mg base "check_forms" 16 Pcheck_forms (spCheckForms w K CB)) (Cdepth_of : Cal P w K mg base "depth_of" 14 Pdepth_of (spDepthOf K 13))
    (Cdepth_with : Cal P w K mg base "depth_with" 14 Pdepth_with (spDepthW K 13)) (Cform_with : Cal P w K mg base "form_with" 27 Pform_with (spPut K 13)) : FnOk P w K mg base (L2.CX P w) 28 f fd Pwith_forms (spWithForms w K CB CD) := by
  refine F.okX scwith_forms (fun vs H Q E h => ?_) (fun cdv A outer s H vs Q E hr h => ?_)
  · obtain ⟨v, f, rfl, _⟩ := h
    rfl
  obtain ⟨v, f, rfl, h⟩ := h
  refine ⟨_, (pss_cons (ps_expr (pe_callS Ccheck_form.ok (hr.mono (by decide)) rfl Ccheck_form.m Ccheck_form.kp Ccheck_form.b (fun σ => passAt (takes_of rfl rfl rfl rfl) σ) (pa_cons (pv 0) pa_nil)))
  (pss_cons (ps_expr (pe_callS Ccheck_forms.ok (hr.mono (by decide)) rfl Ccheck_forms.m Ccheck_forms.kp Ccheck_forms.b (fun σ => passAt (takes_of rfl rfl rfl rfl) σ) (pa_cons (pv 1) pa_nil)))
  (pss_cons (ps_lock (Dct.ps_setDc (i := 2) (own := [("name", 3)]) (g := (gName 3)) (tk := tVar 3) (tv := tCall (spDepthOf K 13) [] E0 (tCons (Odd.tOGet w (tVar 1) (tVar 3)) tNil)) rfl scwith_forms.nd rfl rfl (Dct.swD_true rfl rfl rfl (by decide +kernel)) (Odd.pi_okeys (pv 1)) (blkOk_by (own := [("name", 3)]) (N := Nwith_forms) (sc := defScope swith_forms) (by decide +kernel)) (fun _ _ _ _ _ => (pg_name (i := 3) scwith_forms.nd rfl (Or.inl rfl))) (fun _ _ _ _ _ => pts_nil) (fun _ _ _ _ _ => (pv 3)) (fun _ _ _ _ _ => (pe_callC Cdepth_of hr (pa_cons (Odd.pe_oget hr.units (pv 1) (pv 3) (fun _ _ => rfl)) pa_nil)))))
  (pss_cons (ps_if (pt_cmpR op_gt (pe_callC Cdepth_with hr (pa_cons (pv 0) (pa_cons (pv 2) pa_nil))) (pe_globE T.DEEPEST) (nomark _))
    (pss_one (ps_raise1 (k := 0) O rfl (hr.mono (by decide)) (takes_of rfl rfl rfl rfl) (pe_globE T.DEEPEST)))
    pss_nil)
  (pss_one (ps_ret (pe_callC Cform_with hr (pa_cons (pv 0) (pa_cons (pv 1) pa_nil))))))))), ?_⟩
  rcases h with ⟨D, hv, hz, hs, hd, hn, q⟩ | ⟨t, hf, ok, hd, h⟩
  · exact ⟨_, rfl, _, rfl, .inl ⟨D, hv, hz, hs, hd, fun z => (by rw [hn] at z; cases z), fun _ => q⟩⟩
  refine ⟨_, rfl, _, rfl, .inl ⟨t.data, FT.of_fm t hf, (fun z e => by cases t <;> cases e), short_form (ft_isForm t ok hd), Nat.le_trans (depth_form (ft_isForm t ok hd)) (by decide), fun _ H1 s1 => ?_, fun z => (by rw [ft_isForm t ok hd] at z; cases z)⟩⟩
  rcases h with bfs | ⟨a, zs, fd, rfl, ea, en, hp, fok, q1, q2⟩
  · rcases bfs with ⟨a, kvs, u, rfl, h1, j, p, h2, h3, h4, h5⟩ | ⟨g, h1, h2, h3⟩
    · exact ⟨_, rfl, _, rfl, .inl ⟨a, kvs, u, rfl, h1.same s1, .inr ⟨j, p, h2, fun i p' c e => (h3 i p' c e).same s1, h4.same s1, fun od => ((h5 od).same (same_lock s1))⟩⟩⟩
    · exact ⟨_, rfl, _, rfl, .inr ⟨g, h1 _ s1, h2, h3.same s1⟩⟩
  have dF := dictF_of (w := w) ea en fok
  refine ⟨_, rfl, _, rfl, .inl ⟨a, _, _, rfl, dF.same s1, .inl ⟨fun p m => (good_of hp fok p m).same s1, fun H2 s2 => ?_⟩⟩⟩
  have s02 := s1.trans s2
  have dF2 := dF.same s02
  refine ⟨a, _, dF2.is, dF2.dc.mut, fun od => ?_⟩
  have fz := lock_frz (o := od) dF2.is dF2.dc dF2.or
  have kt := lock_kt (o := od) dF2.is dF2.dc
  have un : ∀ H', Same (upd H2 a (.frz od (.dK (zs.map Odd.kk)))) H' → Same H2 (upd H' a (.dK (zs.map Odd.kk))) := fun H' => unlock_same dF2.is
  have ef : upd H2 a (.frz od (.dK (zs.map Odd.kk))) a = some (.frz od (.dK (zs.map Odd.kk))) := upd_same
  generalize upd H2 a (.frz od (.dK (zs.map Odd.kk))) = H3 at *
  refine ⟨_, rfl, a, od, _, rfl, fz, fun D nD => ?_⟩
  have lz := Paired.length hp
  have ndf := fok.nd
  refine Dct.dc_it walk_okeys (fun i H' => Same H3 H' ∧ ∃ kvs, H' D = some (.dK kvs) ∧ kvs.length ≤ i ∧ ∀ z, valV kvs (.inr z) = (fget (fd.take i) z).map fun t => V.int (t.dep : Nat)) ⟨same_new nD _, [], upd_same, Nat.le_refl _, fun z => rfl⟩ (fun i H' _ p => ?_) (fun i y H4 H5 hi ⟨s4, kvs, e4, hl, hv⟩ ⟨eH, k, v', hkv, ey⟩ => ?_) (fun H4 ⟨s4, kvs, e4, hl, hv⟩ => ?_)
  · rcases fz with ⟨zs, e, h⟩ | h
    · exact .inl ⟨zs, e, p.1 _ _ h⟩
    · exact .inr (p.1 _ _ h)
  · subst eH
    subst ey
    rw [List.length_map, lz] at hi
    have hfd : fd[i]? = some fd[i] := List.getElem?_eq_getElem hi
    rw [List.getElem?_map] at hkv
    obtain ⟨z, hz, e⟩ := Option.map_eq_some_iff.mp hkv
    have e : (Odd.OK.txt z.1, z.2) = (k, v') := e
    injection e with e1 e2
    subst e1
    subst e2
    have hzf := paired_at hp hz hfd
    have hok := fok.ok _ (List.getElem_mem hi)
    have fl := fok.len
    refine ⟨rfl, _, rfl, _, rfl, _, rfl, a, _, .txt z.1, i, z.2, rfl, rfl, fz.or.same s4, tpl_of zs, dF.nd, (by rw [List.getElem?_map, hz]; rfl), z.2, fd[i].2, rfl, (Same.kt s4).fm _ (kt.fm _ ((Same.kt s02).fm _ hzf.2)), by omega, kvs, .inr z.1, rfl, e4, Nat.lt_of_le_of_lt hl (small1000 (by omega)), same_at s4 nD, _, upd_same, ?_, fun x => ?_⟩
    · have := length_putK kvs (.inr z.1) (V.int (fd[i].2.dep : Nat))
      omega
    · rw [valV_put, hv x, take_next hfd, hzf.1]
      have nm : fd[i].1 ∉ (fd.take i).map (·.1) := fun m => by
        have nd : ((fd.take i ++ fd.drop i).map (·.1)).Nodup := by rw [List.take_append_drop]; exact fok.nd
        rw [List.map_append, List.nodup_append] at nd
        refine nd.2.2 _ m _ (List.mem_map.mpr ⟨fd[i], ?_, rfl⟩) rfl
        rw [List.drop_eq_getElem_cons hi]
        exact List.mem_cons_self
      rw [fget_snoc _ _ _ nm]
      by_cases c : x = fd[i].1
      · rw [if_pos c, if_pos (by rw [c])]
        rfl
      · rw [if_neg c, if_neg (fun h => c (Sum.inr.inj h))]
  · rw [List.length_map, lz] at hl hv
    rw [List.take_of_length_le (Nat.le_refl _)] at hv
    refine ⟨s4 _ _ ef, ?_⟩
    have s24 := un H4 s4
    have nDa : D ≠ a := fun e => by
      rw [e, ef] at nD
      cases nD
    have e5 : upd H4 a (.dK (zs.map Odd.kk)) D = some (.dK kvs) := by rw [upd_ne nDa]; exact e4
    generalize upd H4 a (.dK (zs.map Odd.kk)) = H5 at *
    have s05 := s02.trans s24
    refine ⟨_, rfl, _, rfl, v, D, t, fd, kvs, rfl, (Same.kt s05).fm _ hf, by omega, .inl e5, hv, (depW fd t : Nat), 12, rfl, rfl, _, rfl, ?_⟩
    refine ite2 (fun c => ?_) (fun c => ?_)
    · have c : 12 < depW fd t := by have := of_decide_eq_true c; omega
      exact mk_one O.oex O.no fun d nd => q2 c d H5 s05 nd
    · have c : depW fd t ≤ 12 := by
        have c : ¬ (12 : Int) < (depW fd t : Nat) := fun h => c (decide_eq_true h)
        omega
      refine ⟨_, rfl, _, rfl, v, a, t, fd, rfl, (Same.kt s05).fm _ hf, by omega, ⟨_, .inl (s05 _ _ ea), (fdv_of hp).kt (Same.kt s05)⟩, fok, fun H6 u s6 hu => q1 c H6 u (s05.trans s6) hu⟩
end
end My

set_option Elab.async false
set_option linter.all false
set_option maxRecDepth 100000
namespace My
open PySem L2
abbrev s_law_put_in : Stmt := top 54
abbrev N_law_put_in : List Str := ["_law_form", "_law_forms", "_law_name_here", "_law_due", "_law_kept", "_law_turned", "_law_some"]
abbrev P_law_put_in : List Str := ["_law_form", "_law_forms"]
theorem sc_law_put_in : FnScope N_law_put_in P_law_put_in (defScope s_law_put_in) := ⟨rfl, rfl, rfl, by decide +kernel, rfl, by decide +kernel, by decide +kernel⟩
abbrev lamPi : Str := "_law_put_in.<locals>.<lambda>"
/-! ### the same forms by name, in another order -/
theorem fget_in : ∀ {fd : List (Str × FT)} {z : Str} {t : FT}, (fd.map (·.1)).Nodup → (z, t) ∈ fd → fget fd z = some t
  | p :: r, z, t, nd, h => by
    rw [List.map_cons, List.nodup_cons] at nd
    unfold fget
    rcases List.mem_cons.mp h with e | h
    · rw [← e, if_pos rfl]
    · rw [if_neg fun e => nd.1 (by rw [e]; exact List.mem_map.mpr ⟨_, h, rfl⟩)]
      exact fget_in nd.2 h
theorem fget_same {fd fd2 : List (Str × FT)} (n1 : (fd.map (·.1)).Nodup) (n2 : (fd2.map (·.1)).Nodup) (h1 : ∀ p ∈ fd2, p ∈ fd) (h2 : ∀ z ∈ fd.map (·.1), z ∈ fd2.map (·.1)) (z : Str) : fget fd2 z = fget fd z := by
  by_cases c : z ∈ fd2.map (·.1)
  · obtain ⟨p, hp, e⟩ := List.mem_map.mp c
    have hp' : (z, p.2) ∈ fd2 := by rw [← e]; exact hp
    rw [fget_in n2 hp', fget_in n1 (h1 _ hp')]
  · rw [fget_none c, fget_none fun h => c (h2 z h)]
theorem putT_same {fd fd2 : List (Str × FT)} (h : ∀ z, fget fd2 z = fget fd z) : ∀ t : FT, putT fd2 t = putT fd t
  | .leaf co n => by unfold putT; rw [h]
  | .node s l r => by
    show FT.node s (putT fd2 l) (putT fd2 r) = FT.node s (putT fd l) (putT fd r)
    rw [putT_same h l, putT_same h r]
theorem depW_same {fd fd2 : List (Str × FT)} (h : ∀ z, fget fd2 z = fget fd z) (t : FT) : depW fd2 t = depW fd t := by rw [← depW_put, ← depW_put, putT_same h]
/-! ### the pairs as data -/
def prD (p : Str × FT) : PyData := .tuple [.str p.1, p.2.data]
def keptD (fd : List (Str × FT)) : PyData := .list (fd.map prD)
def PrV (K : PySem.W.Frag) (H : Hp) (u : V) (p : Str × FT) : Prop := ∃ b x, u = .ref b ∧ SqT K H b [.str p.1, x] ∧ Fm K H p.2 x
theorem PrV.kt {K : PySem.W.Frag} {H H' : Hp} {u : V} {p : Str × FT} (k : KT H H') (h : PrV K H u p) : PrV K H' u p := by
  obtain ⟨b, x, e, h1, h2⟩ := h
  exact ⟨b, x, e, k.seq h1, k.fm _ h2⟩
theorem PrV.dp {K : PySem.W.Frag} {H : Hp} {u : V} {p : Str × FT} (h : PrV K H u p) : Dp K H u (prD p) := by
  obtain ⟨b, x, rfl, h1, h2⟩ := h
  exact .tup h1 (.cons (.str _) (.cons (FT.of_fm _ h2) .nil))
theorem kt_lst {H : Hp} {D : Addr} {us us' : List V} (e : H D = some (.lst us)) : KT H (upd H D (.lst us')) := fun b o n h => by
  rw [upd_ne fun c => ?_]
  · exact h
  · rw [c, e] at h
    obtain rfl := Option.some.inj h
    rcases n with ⟨_, z⟩ | ⟨_, _, z⟩ <;> cases z
theorem kt_dk {H : Hp} {D : Addr} {kvs kvs' : List (Key × V)} (e : H D = some (.dK kvs)) : KT H (upd H D (.dK kvs')) := fun b o n h => by
  rw [upd_ne fun c => ?_]
  · exact h
  · rw [c, e] at h
    obtain rfl := Option.some.inj h
    rcases n with ⟨_, z⟩ | ⟨_, _, z⟩ <;> cases z
theorem fm_mono {K : PySem.W.Frag} {H H' : Hp} (k : ∀ a xs, SqT K H a xs → SqT K H' a xs) : ∀ (t : FT) {v : V}, Fm K H t v → Fm K H' t v
  | .leaf _ _, _, ⟨a, e, h⟩ => ⟨a, e, k _ _ h⟩
  | .node _ l r, _, ⟨a, x, y, e, h, hl, hr⟩ => ⟨a, x, y, e, k _ _ h, fm_mono k l hl, fm_mono k r hr⟩
theorem PrV.mono {K : PySem.W.Frag} {H H' : Hp} {u : V} {p : Str × FT} (k : ∀ a xs, SqT K H a xs → SqT K H' a xs) (h : PrV K H u p) : PrV K H' u p := by
  obtain ⟨b, x, e, h1, h2⟩ := h
  exact ⟨b, x, e, k _ _ h1, fm_mono k _ h2⟩
theorem unlock_seqT {K : PySem.W.Frag} {H : Hp} {a : Addr} {od : Obj} {kvs : List (Key × V)} {u : HO} (e : H a = some (.frz od (.dK kvs))) (b : Addr) (xs : List V) (h : SqT K H b xs) : SqT K (upd H a u) b xs := by
  rcases h with (h | ⟨o, h⟩) | h
  · refine .inl (.inl ?_)
    rw [upd_ne fun c => by rw [c, e] at h; cases h]
    exact h
  · refine .inl (.inr ⟨o, ?_⟩)
    rw [upd_ne fun c => by rw [c, e] at h; cases h]
    exact h
  · exact .inr h
theorem dpAll_of {K : PySem.W.Frag} {H : Hp} : ∀ {us : List V} {fd : List (Str × FT)}, Paired (PrV K H) us fd → DpAll K H us (fd.map prD)
  | _, _, .nil => .nil
  | _, _, .cons h r => .cons h.dp (dpAll_of r)
theorem short_kept : ∀ {fd : List (Str × FT)}, (∀ p ∈ fd, isName p.1 = true ∧ p.2.Ok ∧ p.2.dep ≤ 8) → shortAll (fd.map prD) = true ∧ PyData.depthAll (fd.map prD) ≤ 20
  | [], _ => ⟨rfl, by simp [PyData.depthAll]⟩
  | p :: fd, h => by
    obtain ⟨h1, h2⟩ := short_kept fun q hq => h q (List.mem_cons_of_mem _ hq)
    obtain ⟨n, o, d⟩ := h p List.mem_cons_self
    have f := ft_isForm p.2 o d
    have s1 : shortD (prD p) = true := by
      show shortAll [.str p.1, p.2.data] = true
      unfold shortAll
      rw [Bool.and_eq_true]
      refine ⟨okStr_of_name n, ?_⟩
      unfold shortAll
      rw [Bool.and_eq_true]
      exact ⟨short_form f, rfl⟩
    have s2 : (prD p).depth ≤ 20 := by
      have := depth_form f
      simp only [prD, PyData.depth, PyData.depthAll]
      omega
    refine ⟨?_, ?_⟩
    · rw [List.map_cons]
      unfold shortAll
      rw [s1, h1]
      rfl
    · rw [List.map_cons]
      simp only [PyData.depthAll]
      omega
theorem shaped_kept {fd : List (Str × FT)} (ok : FDok fd) : SeqAt.shaped (keptD fd) = true := by
  obtain ⟨h1, h2⟩ := short_kept ok.ok
  refine shaped_of (show shortAll (fd.map prD) = true from h1) ?_
  simp only [keptD, PyData.depth]
  omega
theorem fput_names {fd : List (Str × FT)} {y : Str} {t : FT} : y ∈ (fput fd y t).map (·.1) ∧ ∀ z ∈ fd.map (·.1), z ∈ (fput fd y t).map (·.1) := by
  unfold fput
  split
  · rename_i c
    have e : (fd.map fun p => if p.1 = y then (p.1, t) else p).map (·.1) = fd.map (·.1) := by
      rw [List.map_map]
      refine List.map_congr_left fun p _ => ?_
      show (if p.1 = y then (p.1, t) else p).1 = p.1
      split <;> rfl
    rw [e]
    refine ⟨?_, fun z h => h⟩
    obtain ⟨p, hp, hc⟩ := List.any_eq_true.mp c
    exact List.mem_map.mpr ⟨p, hp, of_decide_eq_true hc⟩
  · rw [List.map_append]
    exact ⟨List.mem_append.mpr (.inr (List.mem_singleton.mpr rfl)), fun z h => List.mem_append.mpr (.inl h)⟩
theorem putT_ok {fd : List (Str × FT)} (h : FDok fd) : ∀ t : FT, t.Ok → (putT fd t).Ok
  | .leaf co n, o => by
    unfold putT
    cases e : fget fd (Z n) with
    | none => exact o
    | some t =>
      have ho := (h.ok _ (fget_mem e)).2.1
      show (if co = true then cnt t else t).Ok
      split
      · exact cnt_ok t ho
      · exact ho
  | .node s l r, o => ⟨putT_ok h l o.1, putT_ok h r o.2⟩
/-- a dict with these forms -/
structure FDz (K : PySem.W.Frag) (H : Hp) (b : Addr) (zs : List (Str × V)) (fd : List (Str × FT)) : Prop where
  is : H b = some (.dK (zs.map Odd.kk))
  nm : zs.map (·.1) = fd.map (·.1)
  pr : Paired (fun (z : Str × V) (p : Str × FT) => z.1 = p.1 ∧ Fm K H p.2 z.2) zs fd
  ok : FDok fd
theorem FDz.x {K : PySem.W.Frag} {H H' : Hp} {b : Addr} {zs : List (Str × V)} {fd : List (Str × FT)} (k : LamX.ExtN H H') (h : FDz K H b zs fd) : FDz K H' b zs fd :=
  ⟨k _ _ h.is (fun _ z => nomatch z), h.nm, paired_imp (fun _ _ r => ⟨r.1, (kt_x k).fm _ r.2⟩) h.pr, h.ok⟩
def spPutIn (K : PySem.W.Frag) (Tb : List (Addr × Str)) : Sp := fun vs H Q _ => ∃ v a t zs fd, vs = [v, .ref a] ∧ Fm K H t v ∧ t.Ok ∧ t.dep ≤ 12 ∧ H a = some (.dK (zs.map Odd.kk)) ∧ zs.map (·.1) = fd.map (·.1) ∧ Paired (fun (z : Str × V) (p : Str × FT) => z.1 = p.1 ∧ Fm K H p.2 z.2) zs fd ∧ FDok fd ∧ LamX.Tabs Tb H ∧
  ∀ H', LamX.ExtN H H' → LamX.Tabs Tb H' → Q (.bl true) H'
section
variable {P : Program} {w : World} {K : PySem.W.Frag} {mg : Str → Option Value} {base : Heap} {f : Addr} {fd : FuncData}
set_option maxHeartbeats 2000000 in
theorem ok_law_put_in {c Pt : Addr} {Tb : List (Addr × Str)} {E3 : ErrT K mg} (T : Txt K mg) (G : TxtG mg) (TB : LamX.TabB base mg c Pt) (hin : (Pt, lamPi) ∈ Tb) (hone : ∀ p ∈ Tb, p.1 = Pt → p.2 = lamPi) (F : FunC K "_law_put_in" "_law_put_in" s_law_put_in f fd (.ref c))
    (C_law_put : Cal P w K mg base "_law_put" 27 P_law_put (spPut K 13)) (C_law_depth : Cal P w K mg base "_law_depth" 22 ["_law_form"] (spDepth K 22)) (C_law_faults : Cal P w K mg base "_law_faults" 60 P_law_faults (spFaults P w K mg base E3 30 28)) (C_law_same : Cal P w K mg base "_law_same" 29 P_law_same (spSame w K 28))
    (Cwith_forms : CalX P w K mg base "with_forms" 28 Pwith_forms (spWithForms w K E3.B E3.D)) :
    FnOk P w K mg base CX0 70 f fd P_law_put_in (spPutIn K Tb) := by
  refine F.ok sc_law_put_in (fun vs H Q E h => ?_) (fun A outer s H vs Q E hr h => ?_)
  · obtain ⟨v, a, t, zs, fd, rfl, _⟩ := h
    rfl
  obtain ⟨v, a, t, zs, fd, rfl, hf, ok, hd, ea, en, hp, fok, tabs, q⟩ := h
  refine ⟨_, (pss_cons (ps_par (i := 3) (j := 4) (by rfl) sc_law_put_in.nd rfl rfl (by decide) rfl rfl (pa_cons (pe_callC C_law_put hr (pa_cons (pv 0) (pa_cons (pv 1) pa_nil))) (pa_cons (pe_lock (pe_lc (own := [("_law_name_here", 2)]) (g := (gName 2)) (te := nTup K (tCons (tVar 2) (tCons (Odd.tOGet w (tVar 1) (tVar 2)) tNil))) rfl sc_law_put_in.nd (Odd.pi_okeys (pv 1)) (blkOk_by (own := [("_law_name_here", 2)]) (N := N_law_put_in) (sc := defScope s_law_put_in) (by decide +kernel)) (fun _ _ _ _ _ => (pg_name (i := 2) sc_law_put_in.nd rfl (Or.inl rfl))) (fun _ _ _ _ _ => pts_nil) (fun _ _ _ _ _ => (pe_tupN (pa_cons (pv 2) (pa_cons (Odd.pe_oget hr.units (pv 1) (pv 2) (fun _ _ => rfl)) pa_nil)))))) pa_nil)) (by rfl))
  (pss_cons (ps_set (i := 5) sc_law_put_in.nd rfl (Or.inl rfl) pe_dnewK)
  (pss_cons (ps_for PassesOwn.never rfl (pi_list (pe_callBK (call_sortedDR rfl) rfl G.sorted (by decide +kernel) (pa_cons (pv 1) pa_nil) (pk_cons pe_bl pk_nil))) (pg_name (i := 2) sc_law_put_in.nd rfl (Or.inl rfl))
    (pss_one (ps_dput (hu_of hr) (pv 5) (pv 2) (pe_dget (hu_of hr) (pv 1) (pv 2) (fun _ _ => rfl)) rfl)))
  (pss_cons (ps_for PassesOwn.never rfl (pi_list (pe_lstN (pa_cons (pv 1) (pa_cons (pv 5) pa_nil)))) (pg_name (i := 6) sc_law_put_in.nd rfl (Or.inr rfl))
    (pss_one (ps_if (pt_cmpR op_gt (pe_callC C_law_depth hr (pa_cons (pv 3) pa_nil)) pe_int (nomark _))
      (pss_one (ps_if (pt_not (pt_val (Clo.pe_callT C_law_faults.ok (hr.mono (by decide)) rfl C_law_faults.m C_law_faults.kp C_law_faults.b (fun _ => rfl) (pa_cons
        (Clo.pe_lam (k := 29) (t := fun E => tCallS (spWithForms w K E3.B E3.D) (WE fun cls d _ H => E cls d H) (tCons (tVar 0) (tCons (tVar 6) tNil))) TB rfl hin hone (show LamX.LamS (defScope s_law_put_in) _ from LamX.lamS_by (by decide +kernel)) rfl (fun _ _ _ _ _ => rfl)
          (fun A outer s H E f c' hr' => pe_callS Cwith_forms.ok (hr'.mono (by decide)) rfl Cwith_forms.m Cwith_forms.kp Cwith_forms.b (fun σ => passAt (takes_of rfl rfl rfl rfl) σ) (pa_cons (pv 0) (pa_cons (pv 6) pa_nil))))
        (pa_cons (pe_tup (pa_cons pe_str (pa_cons pe_int pa_nil))) pa_nil)))))
        (pss_one (ps_ret pe_bl))
        pss_nil))
      (pss_one (ps_if (pt_not (pt_val (pe_callC C_law_same hr (pa_cons (Told.pe_callV Cwith_forms hr (pa_cons (pv 0) (pa_cons (pv 6) pa_nil))) (pa_cons (pv 3) pa_nil)))))
        (pss_one (ps_ret pe_bl))
        pss_nil)))))
  (pss_one (ps_ret (pe_cmpR (op_eqD hr.units) (pe_lock (pe_lc (own := [("_law_name_here", 2)]) (g := (gName 2)) (te := nTup K (tCons (tVar 2) (tCons (Odd.tOGet w (tVar 1) (tVar 2)) tNil))) rfl sc_law_put_in.nd (Odd.pi_okeys (pv 1)) (blkOk_by (own := [("_law_name_here", 2)]) (N := N_law_put_in) (sc := defScope s_law_put_in) (by decide +kernel)) (fun _ _ _ _ _ => (pg_name (i := 2) sc_law_put_in.nd rfl (Or.inl rfl))) (fun _ _ _ _ _ => pts_nil) (fun _ _ _ _ _ => (pe_tupN (pa_cons (pv 2) (pa_cons (Odd.pe_oget hr.units (pv 1) (pv 2) (fun _ _ => rfl)) pa_nil)))))) (pv 4) (nomark _)))))))), ?_⟩
  have dF := dictF_of (w := w) ea en fok
  have lz := Paired.length hp
  have fl := fok.len
  have h12 : isForm 12 t.data = true := ft_isForm t ok hd
  refine ⟨_, rfl, _, rfl, v, a, t, fd, rfl, hf, by omega, ⟨_, .inl ea, fdv_of hp⟩, fok, fun H1 u1 s1 hu1 => ?_⟩
  have dF1 := dF.same s1
  refine ⟨a, _, dF1.is, dF1.dc.mut, fun od => ?_⟩
  have fz := lock_frz (o := od) dF1.is dF1.dc dF1.or
  have kt := lock_kt (o := od) dF1.is dF1.dc
  have un : ∀ H', Same (upd H1 a (.frz od (.dK (zs.map Odd.kk)))) H' → Same H1 (upd H' a (.dK (zs.map Odd.kk))) := fun H' => unlock_same dF1.is
  have ef : upd H1 a (.frz od (.dK (zs.map Odd.kk))) a = some (.frz od (.dK (zs.map Odd.kk))) := upd_same
  generalize upd H1 a (.frz od (.dK (zs.map Odd.kk))) = G1 at *
  refine ⟨_, rfl, a, od, _, rfl, fz, fun D nD => ?_⟩
  refine lc_it walk_okeys (fun i H' => Same G1 H' ∧ ∃ us, H' D = some (.lst us) ∧ us.length = i ∧ Paired (PrV K H') us (fd.take i)) ⟨same_new nD _, [], upd_same, rfl, .nil⟩ (fun i H' _ p => ?_) (fun i y H4 H5 hi ⟨s4, us, e4, hl, hv⟩ ⟨eH, k, v', hkv, ey⟩ => ?_) (fun H4 ⟨s4, us, e4, hl, hv⟩ => ?_)
  · rcases fz with ⟨zs, e, h⟩ | h
    · exact .inl ⟨zs, e, p.1 _ _ h⟩
    · exact .inr (p.1 _ _ h)
  · subst eH
    subst ey
    rw [List.length_map, lz] at hi
    have hfd : fd[i]? = some fd[i] := List.getElem?_eq_getElem hi
    rw [List.getElem?_map] at hkv
    obtain ⟨z, hz, e⟩ := Option.map_eq_some_iff.mp hkv
    have e : (Odd.OK.txt z.1, z.2) = (k, v') := e
    injection e with e1 e2
    subst e1
    subst e2
    have hzf := paired_at hp hz hfd
    refine ⟨rfl, _, rfl, _, rfl, _, rfl, a, _, .txt z.1, i, z.2, rfl, rfl, fz.or.same s4, tpl_of zs, dF.nd, (by rw [List.getElem?_map, hz]; rfl), le1k, fun p H6 s6 hT => ⟨us, s6 _ _ e4, Nat.lt_of_le_of_lt (Nat.le_of_eq hl) (small1000 (by omega)), same_at (s4.trans s6) nD, _, upd_same, by rw [List.length_append, hl]; rfl, ?_⟩⟩
    rw [take_next hfd]
    have k6 : KT H5 (upd H6 D (.lst (us ++ [.ref p]))) := (Same.kt s6).trans (kt_lst (s6 _ _ e4))
    exact paired_app2 (paired_imp (fun _ _ h => h.kt k6) hv) (.cons ⟨p, z.2, rfl, by rw [← hzf.1]; exact (kt_lst (s6 _ _ e4)).seq hT, k6.fm _ ((Same.kt s4).fm _ (kt.fm _ ((Same.kt s1).fm _ hzf.2)))⟩ .nil)
  · rw [List.length_map, lz, List.take_of_length_le (Nat.le_refl _)] at hv
    rw [List.length_map, lz] at hl
    refine ⟨s4 _ _ ef, _, _, rfl, ?_⟩
    have s14 := un H4 s4
    have nDa : D ≠ a := fun e => by
      rw [e, ef] at nD
      cases nD
    have eD : upd H4 a (.dK (zs.map Odd.kk)) D = some (.lst us) := by rw [upd_ne nDa]; exact e4
    have ea4 : upd H4 a (.dK (zs.map Odd.kk)) a = some (.dK (zs.map Odd.kk)) := upd_same
    have hv : Paired (PrV K (upd H4 a (.dK (zs.map Odd.kk)))) us fd := paired_imp (fun u p h => h.mono (unlock_seqT (s4 _ _ ef))) hv
    generalize upd H4 a (.dK (zs.map Odd.kk)) = H5 at *
    intro D2 nD2
    have s5 := same_new nD2 (.dK [])
    have e5 : upd H5 D2 (.dK []) D2 = some (.dK []) := upd_same
    generalize upd H5 D2 (.dK []) = H6 at *
    have nD2D : D2 ≠ D := fun e => by
      rw [e, eD] at nD2
      cases nD2
    have nD2a : D2 ≠ a := fun e => by
      rw [e, ea4] at nD2
      cases nD2
    have S06 : Same H H6 := (s1.trans s14).trans s5
    refine ⟨_, rfl, a, zs.map Odd.kk, fd.map (·.1), rfl, rfl, .inl (s5 _ _ ea4), ?_, by rw [List.length_map]; omega, fun ys p pm np => ?_⟩
    · rw [← en, List.map_map, List.map_map]
      rfl
    have s7 := same_new np (.lst (ys.map V.str))
    have e7 : upd H6 p (.lst (ys.map V.str)) p = some (.lst (ys.map V.str)) := upd_same
    have ndy : ys.Nodup := pm.nodup_iff.mpr fok.nd
    have lny : ys.length = fd.length := by rw [pm.length_eq, List.length_map]
    have npD2 : p ≠ D2 := fun e => by
      rw [e, e5] at np
      cases np
    have npa : p ≠ a := fun e => by
      rw [e, s5 _ _ ea4] at np
      cases np
    generalize upd H6 p (.lst (ys.map V.str)) = H7 at *
    refine ⟨p, rfl, ⟨_, SqL.of e7⟩, ?_⟩
    refine for_it (walk_list (xs := ys.map V.str)) (fun i σ H' => Same H5 H' ∧ H' p = some (.lst (ys.map V.str)) ∧ (∃ x, σ = [some v, some (.ref a), x, some u1, some (.ref D), some (.ref D2), none]) ∧ ∃ kvs fd2, H' D2 = some (.dK kvs) ∧ FDv K H' kvs fd2 ∧ fd2.length ≤ i ∧ (fd2.map (·.1)).Nodup ∧ (∀ q ∈ fd2, q ∈ fd) ∧ ∀ z ∈ ys.take i, z ∈ fd2.map (·.1))
      ⟨s5.trans s7, e7, ⟨none, rfl⟩, [], [], s7 _ _ e5, .nil, Nat.le_refl _, List.nodup_nil, (fun _ h => by cases h), (fun _ h => by cases h)⟩ (fun i σ H' _ pv => SqL.of pv.2.1) (fun i y σ H8 H9 hi ⟨s8, e8, ⟨x, eσ⟩, kvs, fd2, eD2, hv2, hl2, nd2, m1, m2⟩ yy => ?_) (fun σ H8 ⟨s8, e8, ⟨x, eσ⟩, kvs, fd2, eD2, hv2, hl2, nd2, m1, m2⟩ => ?_)
    · obtain ⟨rfl, hy⟩ := yy
      subst eσ
      rw [List.length_map] at hi
      rw [List.getElem?_map, List.getElem?_eq_getElem hi] at hy
      obtain rfl := Option.some.inj hy
      have hmem : ys[i] ∈ fd.map (·.1) := pm.mem_iff.mp (List.getElem_mem hi)
      obtain ⟨q, hq, eq⟩ := List.mem_map.mp hmem
      have hg : fget fd ys[i] = some q.2 := fget_in fok.nd (by rw [← eq]; exact hq)
      obtain ⟨o, dg, _, g2⟩ := FD.dget (K := K) (H := H9) (a := a) ⟨_, .inl (s8 _ _ ea4), (fdv_of hp).kt (Same.kt ((s1.trans s14).trans s8))⟩ ys[i]
      obtain ⟨w1, rfl, hw1⟩ := g2 _ hg
      refine ⟨_, rfl, _, rfl, a, w1, rfl, dg, _, rfl, _, rfl, D2, _, rfl, DPut.k (k := .inr ys[i]) eD2 (Nat.lt_of_le_of_lt (Nat.le_of_eq (paired_len hv2)) (Nat.lt_of_le_of_lt hl2 (small1000 (by omega)))), ?_⟩
      refine ⟨same_at s8 nD2, by rw [upd_ne npD2]; exact e8, ⟨_, rfl⟩, _, fput fd2 ys[i] q.2, upd_same, (hv2.put hw1).kt (kt_dk eD2), Nat.le_trans (fput_len _ _ _) (by omega), fput_nd nd2, fun p hp => ?_, fun z hz => ?_⟩
      · rcases fput_mem hp with h | rfl
        · exact m1 p h
        · rw [← eq]
          exact hq
      · rw [take_next (List.getElem?_eq_getElem hi)] at hz
        rcases List.mem_append.mp hz with hz | hz
        · exact fput_names.2 z (m2 z hz)
        · rw [List.mem_singleton.mp hz]
          exact fput_names.1
    · subst eσ
      rw [List.length_map] at m2 hl2
      rw [List.take_of_length_le (Nat.le_refl _)] at m2
      have gs := fget_same fok.nd nd2 m1 fun z hz => m2 z (pm.mem_iff.mpr hz)
      obtain ⟨zs2, rfl, en2, hp2⟩ := zs_of hv2
      have S58 : Same H H8 := (s1.trans s14).trans s8
      have tb8 := tabs.ext S58
      refine ⟨_, rfl, _, rfl, le1k, fun l H9 s9 e9 => ⟨l, rfl, ⟨_, SqL.of e9⟩, ?_⟩⟩
      have S09 := S58.trans s9
      have tb9 := tb8.ext s9
      have Z1 : FDz K H9 a zs fd := ⟨S09 _ _ ea, en, paired_imp (fun _ _ r => ⟨r.1, (Same.kt S09).fm _ r.2⟩) hp, fok⟩
      have Z2 : FDz K H9 D2 zs2 fd2 := ⟨s9 _ _ eD2, en2, paired_imp (fun _ _ r => ⟨r.1, (Same.kt s9).fm _ r.2⟩) hp2, ⟨by omega, nd2, fun p m => fok.ok p (m1 p m)⟩⟩
      have all : ∀ y ∈ [V.ref a, .ref D2], ∃ b zs' fd', y = .ref b ∧ FDz K H9 b zs' fd' ∧ putT fd' t = putT fd t ∧ depW fd' t = depW fd t := by
        intro y hy
        simp only [List.mem_cons, List.not_mem_nil, or_false] at hy
        rcases hy with rfl | rfl
        · exact ⟨a, zs, fd, rfl, Z1, rfl, rfl⟩
        · exact ⟨D2, zs2, fd2, rfl, Z2, putT_same gs t, depW_same gs t⟩
      have hf9 := (Same.kt S09).fm _ hf
      have hu9 := (Same.kt ((s14.trans s8).trans s9)).fm _ hu1
      have eD9 := s9 _ _ (s8 _ _ eD)
      have hv9 : Paired (PrV K H9) us fd := paired_imp (fun _ _ h => h.kt (Same.kt (s8.trans s9))) hv
      have okP := putT_ok fok t ok
      have dpP : (putT fd t).dep = depW fd t := depW_put fd t
      have leP : depW fd t ≤ 20 := Nat.le_trans (depW_le fok t) (by omega)
      refine for_it (walk_list (xs := [V.ref a, .ref D2])) (fun i σ H' => (∃ x, σ = [some v, some (.ref a), x.1, some u1, some (.ref D), some (.ref D2), x.2]) ∧ LamX.ExtN H9 H' ∧ LamX.Tabs Tb H') ⟨⟨(x, none), rfl⟩, LamX.ExtN.refl _, tb9⟩
        (fun i σ H' _ pv => SqL.of (pv.2.1 _ _ e9 (fun _ z => nomatch z))) (fun i y σ HX H10 hi pv yy => ?_) (fun σ H10 pv => ?_)
      · obtain ⟨rfl, hx5⟩ := yy
        obtain ⟨⟨o3, rfl⟩, kx, tb5⟩ := pv
        obtain ⟨b, zs', fd', rfl, Zb, eP, eW⟩ := all y (List.mem_of_getElem? hx5)
        have Zb := Zb.x kx
        have hf10 := (kt_x kx).fm _ hf9
        have hu10 := (kt_x kx).fm _ hu9
        refine ⟨_, rfl, u1, (putT fd t).data, 20, rfl, by decide, FT.of_fm _ hu10, ft_isForm _ okP (by omega), fun j H11 _ dj s11 => ?_⟩
        obtain rfl := deep_dep okP dj
        rw [dpP]
        refine ⟨(depW fd t : Nat), 12, rfl, rfl, _, rfl, ?_⟩
        have Zc := Zb.x (LamX.ExtN.of s11)
        have hf11 := (Same.kt s11).fm _ hf10
        have hu11 := (Same.kt s11).fm _ hu10
        have tb11 := tb5.ext s11
        have k11 := kx.trans (LamX.ExtN.of s11)
        refine ite2 (fun c => ?_) (fun c => ?_)
        · have c : 12 < depW fd t := by have := of_decide_eq_true c; omega
          refine ⟨tb11, fun f1 fo1 c1 H12 x12 t12 n12 p12 q12 o12 a12 => ⟨by show 2 ≤ sizeLine; decide, fun tp ntp => ?_⟩⟩
          intro C KC hC
          have out_ : ∀ {b : Addr} {o : HO}, upd H12 tp (.tup [.str "deep", .int 12]) b = some o → C b = none := fun {b o} e => Clo.out_of e hC
          have s12 : Same H12 (upd H12 tp (.tup [.str "deep", .int 12])) := same_new ntp _
          have tp12 : upd H12 tp (.tup [.str "deep", .int 12]) tp = some (.tup [.str "deep", .int 12]) := upd_same
          generalize upd H12 tp (.tup [.str "deep", .int 12]) = G0 at *
          refine ⟨.ref f1, .ref tp, rfl, f1, fo1, _, rfl, o12, by rw [Clo.plus_out (out_ (s12 _ _ p12))]; exact s12 _ _ p12, Clo.Act.mono (a12 C KC) (by decide), fun Q' E' i1 i2 => ⟨by rw [Clo.plus_out (out_ (s12 _ _ p12))]; exact s12 _ _ p12, by rw [Clo.plus_out (out_ (s12 _ _ q12))]; exact s12 _ _ q12, fun c o e => Clo.plus_in e, ?_⟩⟩
          rw [minus_plus hC]
          have kG := x12.trans (LamX.ExtN.of s12)
          have ZG := Zc.x kG
          have fin : badE E3.D "most" (.int 12) G0 (fun cls d H' => (∀ c o, C c = some o → H' c = none) → E' cls d (Clo.plus C H')) := fun d' H14 s14 nd' non => by
            refine i2 _ _ _ ⟨E3.D, d', "most", "deep", .int 12, rfl, rfl, .inr (.inr (.inl ⟨rfl, rfl, rfl⟩)), ?_, fun pp npp => ?_⟩
            · rw [Clo.plus_out (Clo.out_of upd_same non)]
              exact upd_same
            · have sG : Same G0 (Clo.plus C (upd H14 d' (.xd [("most", .int 12)]))) := fun b o e => by
                have e1 := s14 _ _ e
                rw [Clo.plus_out (out_ e), upd_ne (ne_of_none e1 nd')]
                exact e1
              have s2 : Same G0 (upd (Clo.plus C (upd H14 d' (.xd [("most", .int 12)]))) pp (.tup [.str "deep", .int 12])) := Same.trans sG (same_new npp _)
              refine ⟨.inr (.inr (.inl ⟨pp, tp, [.str "deep", .int 12], [.str "deep", .int 12], rfl, rfl, SqT.of upd_same, SqT.of (s2 _ _ tp12), le1k, .cons (.inl ⟨rfl, rfl⟩) (.cons (.inl ⟨rfl, rfl⟩) .nil)⟩)), fun H15 s15 => ⟨fun c o e => ?_, ?_⟩⟩
              · refine s15 _ _ ?_
                have e1 : Clo.plus C (upd H14 d' (.xd [("most", .int 12)])) c = some (Clo.Pin c o) := Clo.plus_in e
                rw [upd_ne (ne_of_none e1 npp)]
                exact e1
              · refine ⟨true, rfl, ?_⟩
                have sM : Same H12 (Clo.minus C H15) := fun b o e => by
                  have e1 := s12 _ _ e
                  rw [Clo.minus_out (out_ e1)]
                  exact s15 _ _ (s2 _ _ e1)
                exact iteF ⟨⟨(o3.1, some (.ref b)), rfl⟩, (k11.trans x12).trans (LamX.ExtN.of sM), t12.ext sM⟩
          exact ⟨_, rfl, _, rfl, v, .ref b, rfl, .inr ⟨t, (kt_x kG).fm _ hf11, ok, hd, .inr ⟨b, zs', fd', rfl, ZG.is, ZG.nm, ZG.pr, ZG.ok, fun c' => by omega, fun _ => fin⟩⟩⟩
        · have c : depW fd t ≤ 12 := by
            have c : ¬ (12 : Int) < (depW fd t : Nat) := fun h => c (decide_eq_true h)
            omega
          refine ⟨_, rfl, _, rfl, v, .ref b, rfl, .inr ⟨t, hf11, ok, hd, .inr ⟨b, zs', fd', rfl, Zc.is, Zc.nm, Zc.pr, Zc.ok, fun _ H12 u2 s12 hu2 => ?_, fun c' => by omega⟩⟩⟩
          rw [eP] at hu2
          refine ⟨_, rfl, _, _, rfl, tw_fm (putT fd t) 28 (by omega) hu2 ((Same.kt s12).fm _ hu11), fun H13 s13 => ⟨true, rfl, iteF ?_⟩⟩
          exact ⟨⟨(o3.1, some (.ref b)), rfl⟩, k11.trans (LamX.ExtN.of (s12.trans s13)), tb11.ext (s12.trans s13)⟩
      · obtain ⟨⟨o3, rfl⟩, kx, tb5⟩ := pv
        have Z3 := Z1.x kx
        have dF3 := dictF_of (w := w) Z3.is Z3.nm Z3.ok
        have eD3 := kx _ _ eD9 fun _ z => nomatch z
        have hv3 : Paired (PrV K H10) us fd := paired_imp (fun _ _ h => h.kt (kt_x kx)) hv9
        have k3 : LamX.ExtN H H10 := (LamX.ExtN.of S09).trans kx
        have hf3 := (kt_x kx).fm _ hf9
        refine ⟨a, _, dF3.is, dF3.dc.mut, fun od => ?_⟩
        have fz := lock_frz (o := od) dF3.is dF3.dc dF3.or
        have kt := lock_kt (o := od) dF3.is dF3.dc
        have un : ∀ H', Same (upd H10 a (.frz od (.dK (zs.map Odd.kk)))) H' → Same H10 (upd H' a (.dK (zs.map Odd.kk))) := fun H' => unlock_same dF3.is
        have ef : upd H10 a (.frz od (.dK (zs.map Odd.kk))) a = some (.frz od (.dK (zs.map Odd.kk))) := upd_same
        have hp3 := Z3.pr
        generalize upd H10 a (.frz od (.dK (zs.map Odd.kk))) = G1 at *
        refine ⟨_, rfl, a, od, _, rfl, fz, fun D3 nD3 => ?_⟩
        refine lc_it walk_okeys (fun i H' => Same G1 H' ∧ ∃ us, H' D3 = some (.lst us) ∧ us.length = i ∧ Paired (PrV K H') us (fd.take i)) ⟨same_new nD3 _, [], upd_same, rfl, .nil⟩ (fun i H' _ p => ?_) (fun i y H4 H5 hi ⟨s4, us, e4, hl, hv⟩ ⟨eH, k, v', hkv, ey⟩ => ?_) (fun H4 ⟨s4, us2, e4, hl, hv⟩ => ?_)
        · rcases fz with ⟨zs, e, h⟩ | h
          · exact .inl ⟨zs, e, p.1 _ _ h⟩
          · exact .inr (p.1 _ _ h)
        · subst eH
          subst ey
          rw [List.length_map, lz] at hi
          have hfd : fd[i]? = some fd[i] := List.getElem?_eq_getElem hi
          rw [List.getElem?_map] at hkv
          obtain ⟨z, hz, e⟩ := Option.map_eq_some_iff.mp hkv
          have e : (Odd.OK.txt z.1, z.2) = (k, v') := e
          injection e with e1 e2
          subst e1
          subst e2
          have hzf := paired_at hp3 hz hfd
          refine ⟨rfl, _, rfl, _, rfl, _, rfl, a, _, .txt z.1, i, z.2, rfl, rfl, fz.or.same s4, tpl_of zs, dF.nd, (by rw [List.getElem?_map, hz]; rfl), le1k, fun p H6 s6 hT => ⟨us, s6 _ _ e4, Nat.lt_of_le_of_lt (Nat.le_of_eq hl) (small1000 (by omega)), same_at (s4.trans s6) nD3, _, upd_same, by rw [List.length_append, hl]; rfl, ?_⟩⟩
          rw [take_next hfd]
          have k6 : KT H5 (upd H6 D3 (.lst (us ++ [.ref p]))) := (Same.kt s6).trans (kt_lst (s6 _ _ e4))
          exact paired_app2 (paired_imp (fun _ _ h => h.kt k6) hv) (.cons ⟨p, z.2, rfl, by rw [← hzf.1]; exact (kt_lst (s6 _ _ e4)).seq hT, k6.fm _ ((Same.kt s4).fm _ (kt.fm _ hzf.2))⟩ .nil)
        · rw [List.length_map, lz, List.take_of_length_le (Nat.le_refl _)] at hv
          refine ⟨s4 _ _ ef, ?_⟩
          have sE := un H4 s4
          have nDa : D3 ≠ a := fun e => by
            rw [e, ef] at nD3
            cases nD3
          have hv : Paired (PrV K (upd H4 a (.dK (zs.map Odd.kk)))) us2 fd := paired_imp (fun u p h => h.mono (unlock_seqT (s4 _ _ ef))) hv
          have eE : upd H4 a (.dK (zs.map Odd.kk)) D3 = some (.lst us2) := by rw [upd_ne nDa]; exact e4
          refine ⟨_, rfl, keptD fd, keptD fd, .lst (SqL.of eE) (dpAll_of hv), .lst (SqL.of (sE _ _ eD3)) (dpAll_of (paired_imp (fun _ _ h => h.kt (Same.kt sE)) hv3)), shaped_kept fok, shaped_kept fok, ?_⟩
          rw [SeqAt.eqv_refl _ (SeqAt.canLay_of_shaped (shaped_kept fok))]
          exact q _ (k3.trans (LamX.ExtN.of sE)) (tb5.ext sE)
end
end My

set_option Elab.async false
set_option linter.all false
set_option maxRecDepth 100000
namespace My
open PySem L2
abbrev s_law_no_dict : Stmt := top 55
abbrev N_law_no_dict : List Str := ["_law_pen", "_law_forms", "_law_name_here", "_law_way", "_law_out"]
abbrev P_law_no_dict : List Str := ["_law_pen", "_law_forms"]
theorem sc_law_no_dict : FnScope N_law_no_dict P_law_no_dict (defScope s_law_no_dict) := ⟨rfl, rfl, rfl, by decide +kernel, rfl, by decide +kernel, by decide +kernel⟩
/-! ### a pair put among pairs -/
theorem putK_kk (zs : List (Str × V)) (z : Str) (v : V) : (putK zs z v).map Odd.kk = putK (zs.map Odd.kk) (.inr z) v := by
  have ha : (zs.map Odd.kk).any (fun kv => decide (kv.1 = (.inr z : Key))) = zs.any (fun kv => decide (kv.1 = z)) := by
    rw [List.any_map]
    refine congrArg (List.any zs) (funext fun p => ?_)
    show decide ((Sum.inr p.1 : Key) = .inr z) = decide (p.1 = z)
    exact decide_eq_decide.mpr ⟨fun h => Sum.inr.inj h, fun h => by rw [h]⟩
  unfold putK
  rw [ha]
  split
  · rw [List.map_map, List.map_map]
    refine List.map_congr_left fun p _ => ?_
    show Odd.kk (if p.1 = z then (p.1, v) else p) = if (Sum.inr p.1 : Key) = .inr z then (Sum.inr p.1, v) else Odd.kk p
    by_cases c : p.1 = z
    · rw [if_pos c, if_pos (by rw [c])]
      rfl
    · rw [if_neg c, if_neg fun h => c (Sum.inr.inj h)]
  · rw [List.map_append]
    rfl
theorem putK_names {zs : List (Str × V)} {z : Str} {v : V} (h : (zs.map (·.1)).Nodup) : ((putK zs z v).map (·.1)).Nodup := by
  unfold putK
  split
  · rw [List.map_map]
    have e : ((·.1) ∘ fun p : Str × V => if p.1 = z then (p.1, v) else p) = (·.1) := funext fun p => by
      show (if p.1 = z then (p.1, v) else p).1 = p.1
      split <;> rfl
    rw [e]
    exact h
  · rename_i c
    rw [List.map_append, List.nodup_append]
    refine ⟨h, List.pairwise_singleton _ _, fun a ha b hb e => c ?_⟩
    have hb : b = z := List.mem_singleton.mp hb
    obtain ⟨p, hp, ep⟩ := List.mem_map.mp ha
    exact List.any_eq_true.mpr ⟨p, hp, decide_eq_true (by show p.1 = z; rw [ep, e, hb])⟩
theorem putK_cons_ne {p : Str × V} {zs : List (Str × V)} {z : Str} {v : V} (c : ¬ p.1 = z) : putK (p :: zs) z v = p :: putK zs z v := by
  unfold putK
  rw [List.any_cons, decide_eq_false c, Bool.false_or]
  split
  · rw [List.map_cons, if_neg c]
  · rfl
theorem put_at (z : Str) (v : V) : ∀ zs : List (Str × V), ∃ j : Nat, (putK zs z v)[j]? = some (z, v) ∧ ∀ (i : Nat) (q : Str × V), i < j → (putK zs z v)[i]? = some q → q ∈ zs
  | [] => ⟨0, rfl, fun i q h => absurd h (Nat.not_lt_zero _)⟩
  | p :: zs => by
    by_cases c : p.1 = z
    · refine ⟨0, ?_, fun i q h => absurd h (Nat.not_lt_zero _)⟩
      unfold putK
      rw [List.any_cons, decide_eq_true c, Bool.true_or, if_pos rfl, List.map_cons, if_pos c, c]
      rfl
    · obtain ⟨j, h1, h2⟩ := put_at z v zs
      rw [putK_cons_ne c]
      refine ⟨j + 1, h1, fun i q hi h => ?_⟩
      cases i with
      | zero =>
        obtain rfl := Option.some.inj h
        exact List.mem_cons_self
      | succ i => exact List.mem_cons_of_mem _ (h2 i q (by omega) h)
theorem widAll_strs : ∀ zs : List Str, widAll (zs.map PyData.str) = true
  | [] => rfl
  | z :: zs => by
    rw [List.map_cons]
    unfold widAll
    rw [widAll_strs zs]
    rfl
theorem depthAll_strs : ∀ zs : List Str, PyData.depthAll (zs.map PyData.str) = 0
  | [] => by simp [PyData.depthAll]
  | z :: zs => by
    rw [List.map_cons]
    simp only [PyData.depthAll, PyData.depth, depthAll_strs zs]
    rfl
theorem name_til (z : Str) : isName (z ++ Str.ofString "~") = false := by
  cases h : isName (z ++ Str.ofString "~") with
  | false => rfl
  | true =>
    unfold isName at h
    have h2 := (Bool.and_eq_true_iff.mp (Bool.and_eq_true_iff.mp h).2).2
    rw [List.all_eq_true] at h2
    have m : 126 ∈ (z ++ Str.ofString "~").cps.toList := by
      show 126 ∈ (z.cps ++ (Str.ofString "~").cps).toList
      rw [Array.toList_append]
      exact List.mem_append.mpr (.inr (by decide +kernel))
    have := h2 126 m
    exact absurd this (by decide +kernel)
theorem none_keep {d O : Addr} {H H' : Hp} (k : Keep d H H') (hd : IsDk H' d) (n : H' O = none) : H O = none := by
  cases e : H O with
  | none => rfl
  | some o =>
    by_cases c : O = d
    · obtain ⟨kvs, h⟩ := hd
      rw [← c, n] at h
      cases h
    · rw [k O o c e] at n
      cases n
/-- no dict from names to forms: a dict, or something else -/
def NoDict (w : World) (K : PySem.W.Frag) (H : Hp) (v : V) : Prop :=
  (∃ b kvs u, v = .ref b ∧ DictF w H b kvs u ∧ ∃ (j : Nat) (p : Odd.OK × V), kvs[j]? = some p ∧ (∀ (i : Nat) (p' : Odd.OK × V), i < j → kvs[i]? = some p' → GoodE K H p') ∧ BadE K H p) ∨
  ∃ D, Dp K H v D ∧ widD D = true ∧ D.depth ≤ 20
def spNoDict (w : World) (K : PySem.W.Frag) : Sp := fun vs H Q _ => ∃ (d L a : Addr) (ns : List Int) (n : Nat) (zs : List (Str × V)) (fd : List (Str × FT)), vs = [.ref d, .ref a] ∧ Pen K H d L ns n ∧ n < 2 ^ 37 ∧ FDz K H a zs fd ∧ a ≠ d ∧
  ∀ v' H', NoDict w K H' v' → Keep d H H' → Q v' H'
section
variable {P : Program} {w : World} {K : PySem.W.Frag} {mg : Str → Option Value} {base : Heap} {f : Addr} {fd : FuncData}
set_option maxHeartbeats 2000000 in
theorem ok_law_no_dict (T : Txt K mg) (G : TxtG mg) (dict : mg "dict" = none) (F : Fun K "_law_no_dict" "_law_no_dict" s_law_no_dict f fd) (C_law_draw : Cal P w K mg base "_law_draw" 1 P_law_draw (spDraw K)) (C_law_pick : Cal P w K mg base "_law_pick" 2 ["_law_pen", "_law_some"] (spPick K)) (C_law_no_form : Cal P w K mg base "_law_no_form" 17 P_law_no_form (spNoForm K)) :
    FnOk P w K mg base CX0 18 f fd P_law_no_dict (spNoDict w K) := by
  refine F.ok sc_law_no_dict (fun vs H Q E h => ?_) (fun cdv A outer s H vs Q E hr h => ?_)
  · obtain ⟨d, L, a, ns, n, zs, fd, rfl, _⟩ := h
    rfl
  obtain ⟨d, L, a, ns, n, zs, fd, rfl, hp, hn, hz, nad, q⟩ := h
  refine ⟨_, (pss_cons (ps_par (i := 2) (j := 3) (by rfl) sc_law_no_dict.nd rfl rfl (by decide) rfl rfl (pa_cons (pe_callC C_law_pick hr (pa_cons (pv 0) (pa_cons (pe_op op_catLN (pe_callB (call_sortedD rfl) rfl G.sorted (by decide +kernel) (pa_cons (pv 1) pa_nil)) (pe_lstN (pa_cons pe_str pa_nil))) pa_nil))) (pa_cons (pe_callC C_law_draw hr (pa_cons (pv 0) (pa_cons pe_int pa_nil))) pa_nil)) (by rfl))
  (pss_cons (ps_set (i := 4) sc_law_no_dict.nd rfl (Or.inl rfl) (pe_callTy call_dictD rfl dict (by decide +kernel) (pa_cons (pv 1) pa_nil)))
  (pss_cons (ps_if (pt_cmpR op_lt (pv 3) pe_int (nomark _))
    (pss_one (ps_dput (hu_of hr) (pv 4) (pv 2) (pe_callC C_law_no_form hr (pa_cons (pv 0) (pa_cons (pe_dget2 (hu_of hr) (pv 1) (pv 2) (pe_tupN (pa_cons pe_str (pa_cons pe_str pa_nil))) ⟨rfl, rfl, rfl, rfl⟩) pa_nil))) rfl))
    (pss_one (ps_if (pt_cmpR op_eq (pv 3) pe_int (nomark _))
      (pss_one (Odd.ps_oput hr.units (pv 4) (pe_callC C_law_pick hr (pa_cons (pv 0) (pa_cons (pe_lstN (pa_cons pe_str (pa_cons pe_str (pa_cons pe_str (pa_cons (pe_op op_add_str (pv 2) pe_str) (pa_cons (pe_tup (pa_cons (pv 2) pa_nil)) (pa_cons pe_non (pa_cons pe_str pa_nil)))))))) pa_nil))) (pe_tupN (pa_cons pe_str (pa_cons pe_str pa_nil))) rfl))
      (pss_one (ps_set (i := 4) sc_law_no_dict.nd rfl (Or.inl rfl) (pe_ix ix_list (pe_lstN (pa_cons pe_non (pa_cons (pe_callTy (call_listD rfl) rfl T.list (by decide +kernel) (pa_cons (pv 1) pa_nil)) (pa_cons (pv 2) (pa_cons (pe_tupN pa_nil) (pa_cons pe_int pa_nil)))))) (pe_callC C_law_draw hr (pa_cons (pv 0) (pa_cons pe_int pa_nil))) (fun _ _ => rfl)))))))
  (pss_one (ps_ret (pv 4)))))), ?_⟩
  have fl := hz.ok.len
  have lz := Paired.length hz.pr
  have nm : ∀ z ∈ fd.map (·.1), isName z = true := fun z h => by
    obtain ⟨p, hp, rfl⟩ := List.mem_map.mp h
    exact (hz.ok.ok p hp).1
  have nzz : (zs.map (·.1)).Nodup := by rw [hz.nm]; exact hz.ok.nd
  have hkey : (zs.map Odd.kk).map (·.1) = (fd.map (·.1)).map Sum.inr := by
    rw [← hz.nm, List.map_map, List.map_map]
    rfl
  refine ⟨_, rfl, _, rfl, a, zs.map Odd.kk, fd.map (·.1), rfl, .inl hz.is, hkey, by rw [List.length_map]; omega, fun ys p pm srt np => ?_⟩
  have s1 := same_new np (.lst (ys.map V.str))
  have e1 : upd H p (.lst (ys.map V.str)) p = some (.lst (ys.map V.str)) := upd_same
  generalize upd H p (.lst (ys.map V.str)) = H1 at *
  have lny : ys.length = fd.length := by rw [pm.length_eq, List.length_map]
  refine ⟨le1k, fun l H2 s2 e2 => ⟨p, l, _, _, rfl, rfl, s2 _ _ e1, e2, by rw [List.length_map]; show ys.length + 1 ≤ 1000; omega, fun r H3 s3 e3 => ?_⟩⟩
  have S3 := (s1.trans s2).trans s3
  refine ⟨d, L, ns, n, .ref r, rfl, hp.same S3, by omega, .inl ⟨r, _, rfl, SqL.of e3, by simp, by rw [List.length_append, List.length_map]; show ys.length + 1 ≤ 1000; omega, fun x H4 hx k4 p4 => ?_⟩⟩
  have hx : ∃ z, x = .str z ∧ isName z = true := by
    rcases List.mem_append.mp hx with h | h
    · obtain ⟨z, hz', rfl⟩ := List.mem_map.mp h
      exact ⟨z, rfl, nm z (pm.mem_iff.mp hz')⟩
    · rw [List.mem_singleton.mp h]
      exact ⟨_, rfl, by decide +kernel⟩
  obtain ⟨z, rfl, hzn⟩ := hx
  refine ⟨_, rfl, d, L, ns, _, 5, rfl, p4, by omega, by decide, by decide, fun g H5 g0 g1 k5 p5 => ⟨_, _, rfl, ?_⟩⟩
  have k05 : Keep d H H5 := ((Same.toKeep S3).trans k4).trans k5
  have ea5 := k05 a _ nad hz.is
  refine ⟨_, rfl, a, _, rfl, .inl ea5, fun O nO => ?_⟩
  have s6 := same_new nO (.dK (zs.map Odd.kk))
  have eO : upd H5 O (.dK (zs.map Odd.kk)) O = some (.dK (zs.map Odd.kk)) := upd_same
  have nO0 := none_keep k05 p5.isDk nO
  have nOd : O ≠ d := fun e => by
    obtain ⟨kvs, h⟩ := p5.isDk
    rw [← e, nO] at h
    cases h
  have p6 := p5.same s6
  generalize upd H5 O (.dK (zs.map Odd.kk)) = H6 at *
  have k06 := k05.trans (Same.toKeep s6)
  have ea6 := s6 _ _ ea5
  have kt6 := kt_pen hp k06
  refine ⟨_, rfl, g, 2, rfl, rfl, _, rfl, ?_⟩
  refine ite2 (fun _ => ?_) (fun _ => ⟨_, rfl, rfl, _, rfl, ite2 (fun _ => ?_) (fun _ => ?_)⟩)
  · -- a form spoilt
    refine ⟨_, rfl, _, rfl, a, rfl, .inl ⟨_, .inl ea6⟩, _, rfl, le1k, fun tp H7 s7 hT => ?_⟩
    have k07 := k06.trans (Same.toKeep s7)
    have kt7 := kt6.trans (Same.kt s7)
    obtain ⟨o, dg, g1', g2⟩ := FD.dget (K := K) (H := H7) (a := a) ⟨_, .inl (s7 _ _ ea6), (fdv_of hz.pr).kt kt7⟩ z
    have hD : ∃ D, Dp K H7 (o.getD (.ref tp)) D ∧ isForm 12 D = true := by
      cases e : fget fd z with
      | none =>
        rw [g1' e]
        exact ⟨.tuple [.str (Str.ofString "good"), .str (Str.ofString "b")], .tup hT (.cons (.str _) (.cons (.str _) .nil)), by decide +kernel⟩
      | some t =>
        obtain ⟨w1, rfl, hw⟩ := g2 t e
        have := hz.ok.ok _ (fget_mem e)
        exact ⟨t.data, FT.of_fm t hw, ft_isForm t this.2.1 (Nat.le_trans this.2.2 (by decide))⟩
    obtain ⟨D, hD1, hD2⟩ := hD
    refine ⟨o, dg, d, L, ns, _, _, D, rfl, p6.same s7, by omega, hD1, hD2, fun v' D' H8 h1 h2 h3 h4 h5 k8 p8 => ?_⟩
    have eO8 := k8 _ _ nOd (s7 _ _ eO)
    refine ⟨_, rfl, _, rfl, O, _, rfl, DPut.k (k := .inr z) eO8 (by rw [List.length_map, lz]; exact Nat.lt_of_le_of_lt fl (small1000 (by decide))), _, rfl, ?_⟩
    have k08 := k07.trans k8
    rw [← putK_kk]
    obtain ⟨j, j1, j2⟩ := put_at z v' zs
    have kd := kt_dk (kvs' := (putK zs z v').map Odd.kk) eO8
    have kt8 := (kt_pen hp k08).trans kd
    refine q _ _ (.inl ⟨O, (putK zs z v').map Odd.tk, .dK ((putK zs z v').map Odd.kk), rfl, ⟨.inl ⟨_, rfl, .inl upd_same⟩, upd_same, .inl ⟨_, rfl⟩, tpl_of _, ndK_of (putK_names nzz)⟩, j, (.txt z, v'), by rw [List.getElem?_map, j1]; rfl, fun i p' c e => ?_, .inr ⟨z, D', rfl, hzn, ?_, h2, h5⟩⟩) (keep_fresh k08 nO0)
    · rw [List.getElem?_map] at e
      obtain ⟨p0, hp0, rfl⟩ := Option.map_eq_some_iff.mp e
      obtain ⟨y, hy, r1, r2⟩ := paired_memL hz.pr p0 (j2 i p0 c hp0)
      obtain ⟨a1, a2, a3⟩ := hz.ok.ok y hy
      exact ⟨p0.1, y.2, rfl, by rw [r1]; exact a1, kt8.fm _ r2, a2, by omega⟩
    · exact dp_keep ⟨_, eO8⟩ (keep_put _) _ _ h1
  · -- a key that is no name
    refine ⟨le1k, fun tp H7 s7 hT => ⟨_, rfl, _, rfl, _, rfl, z, Str.ofString "~", rfl, rfl, ?_, _, rfl, (by show 1 ≤ sizeLine; decide), fun b nb => ⟨le1k, fun l2 H9 s9 e9 => ?_⟩⟩⟩
    · have := (name_len hzn).2
      exact Nat.le_trans (Nat.add_le_add this (show (Str.ofString "~").length ≤ 1 by decide +kernel)) (Nat.le_of_lt (small1000 (by decide)))
    have s8 := same_new nb (.tup [.str z])
    have eb : upd H7 b (.tup [.str z]) b = some (.tup [.str z]) := upd_same
    generalize upd H7 b (.tup [.str z]) = H8 at *
    have S69 := (s7.trans s8).trans s9
    refine ⟨d, L, ns, _, .ref l2, rfl, p6.same S69, by omega, .inl ⟨l2, _, rfl, SqL.of e9, by simp, le1k, fun x Ha hx ka pa => ?_⟩⟩
    have kO := (k06.trans (Same.toKeep S69)).trans ka
    have nbd : b ≠ d := fun e => by
      obtain ⟨kvs, h⟩ := (p6.same (s7.trans s8)).isDk
      rw [← e, eb] at h
      cases h
    have eba := ka _ _ nbd (s9 _ _ eb)
    have eOa := ka _ _ nOd (S69 _ _ eO)
    have hTa : SqT K Ha tp [.str (Str.ofString "good"), .str (Str.ofString "a")] := seqT_keep (p6.same S69).isDk ka (seqT_same (s8.trans s9) hT)
    have outN : ∀ y : Str, isName y = false → NestedKey.text y ∉ (zs.map Odd.tk).map fun q => q.1.nk := fun y hy m => by
      rw [List.map_map] at m
      obtain ⟨p0, hp0, e⟩ := List.mem_map.mp m
      have e : NestedKey.text p0.1 = NestedKey.text y := e
      injection e with e
      have := nm p0.1 (by rw [← hz.nm]; exact List.mem_map.mpr ⟨p0, hp0, rfl⟩)
      rw [e, hy] at this
      cases this
    have key : ∃ k : Odd.OK, x = k.v ∧ (∀ b' z', k = .tpl b' z' → Ha b' = some (.tup [.str z'])) ∧ (k.nk ∉ (zs.map Odd.tk).map fun q => q.1.nk) ∧ ∃ D, Dp K Ha k.v D ∧ isNameD D = false ∧ ∀ y, D = .str y → y.length ≤ 1000 := by
      have txt : ∀ y : Str, isName y = false → y.length ≤ 1000 → ∃ k : Odd.OK, V.str y = k.v ∧ (∀ b' z', k = .tpl b' z' → Ha b' = some (.tup [.str z'])) ∧ (k.nk ∉ (zs.map Odd.tk).map fun q => q.1.nk) ∧ ∃ D, Dp K Ha k.v D ∧ isNameD D = false ∧ ∀ y, D = .str y → y.length ≤ 1000 := fun y hy hl =>
        ⟨.txt y, rfl, (fun _ _ h => by cases h), outN y hy, .str y, .str y, hy, fun y' e => by injection e with e; rw [← e]; exact hl⟩
      simp only [List.mem_cons, List.not_mem_nil, or_false] at hx
      rcases hx with rfl | rfl | rfl | rfl | rfl | rfl | rfl
      · exact txt _ (by decide +kernel) (by decide +kernel)
      · exact txt _ (by decide +kernel) (by decide +kernel)
      · exact txt _ (by decide +kernel) (by decide +kernel)
      · refine txt _ (name_til z) ?_
        have := (name_len hzn).2
        have e : (z ++ Str.ofString "~").length = z.length + (Str.ofString "~").length := Array.size_append
        rw [e]
        have : (Str.ofString "~").length = 1 := by decide +kernel
        omega
      · refine ⟨.tpl b z, rfl, (fun b' z' h => by injection h with h1 h2; rw [← h1, ← h2]; exact eba), fun m => ?_, .tuple [.str z], .tup (SqT.of eba) (.cons (.str _) .nil), rfl, fun _ h => by cases h⟩
        rw [List.map_map] at m
        obtain ⟨p0, hp0, e⟩ := List.mem_map.mp m
        have e : NestedKey.text p0.1 = NestedKey.tup [.text z] := e
        cases e
      · refine ⟨.non, rfl, (fun _ _ h => by cases h), fun m => ?_, .none, .non, rfl, fun _ h => by cases h⟩
        rw [List.map_map] at m
        obtain ⟨p0, hp0, e⟩ := List.mem_map.mp m
        have e : NestedKey.text p0.1 = NestedKey.none := e
        cases e
      · exact txt _ (by decide +kernel) (by decide +kernel)
    obtain ⟨k, rfl, kt, kn, D, hD1, hD2, hD3⟩ := key
    have ndz := ndK_of nzz
    refine ⟨O, zs.map Odd.tk, k, rfl, rfl, .inl ⟨zs, rfl, .inl eOa⟩, by rw [eOa]; exact True.intro, tpl_of zs, kt, ndz, by rw [List.length_map, lz]; exact Nat.lt_of_le_of_lt fl (small1000 (by decide)), kn, _, rfl, ?_⟩
    have kta := kt_pen hp kO
    have kd : KT Ha (upd Ha O (Odd.OD w O (zs.map Odd.tk ++ [(k, .ref tp)]))) := fun c o n h => by
      rw [upd_ne fun e => ?_]
      · exact h
      · rw [e, eOa] at h
        obtain rfl := Option.some.inj h
        rcases n with ⟨_, e⟩ | ⟨_, _, e⟩ <;> cases e
    have lzs : (zs.map Odd.tk).length = zs.length := List.length_map ..
    refine q _ _ (.inl ⟨O, zs.map Odd.tk ++ [(k, .ref tp)], _, rfl, ⟨.inr (.inl upd_same), upd_same, .inr ⟨_, rfl⟩, fun b' z' v' m => ?_, ?_⟩, zs.length, (k, .ref tp), by rw [List.getElem?_append_right (by omega), lzs, Nat.sub_self]; rfl, fun i p' c e => ?_, .inl ⟨D, dp_keep ⟨_, eOa⟩ (keep_put _) _ _ hD1, hD2, hD3⟩⟩) (keep_fresh kO nO0)
    · rcases List.mem_append.mp m with m | m
      · exact tpl_of zs b' z' v' m
      · have e := List.mem_singleton.mp m
        injection e with e _
        have := kt b' z' e.symm
        rw [upd_ne fun c => by rw [c, eOa] at this; cases this]
        exact this
    · show ((zs.map Odd.tk ++ [(k, V.ref tp)]).map fun q => q.1.nk).Nodup
      rw [List.map_append, List.nodup_append]
      refine ⟨ndz, List.pairwise_singleton _ _, fun c hc e he h => kn ?_⟩
      rw [← (List.mem_singleton.mp he : e = k.nk), ← h]
      exact hc
    · rw [List.getElem?_append_left (by omega), List.getElem?_map] at e
      obtain ⟨p0, hp0, rfl⟩ := Option.map_eq_some_iff.mp e
      obtain ⟨y, hy, r1, r2⟩ := paired_memL hz.pr p0 (List.mem_of_getElem? hp0)
      obtain ⟨a1, a2, a3⟩ := hz.ok.ok y hy
      exact ⟨p0.1, y.2, rfl, by rw [r1]; exact a1, kd.fm _ (kta.fm _ r2), a2, by omega⟩
  · -- no dict
    refine ⟨_, rfl, a, _, rfl, .inl ea6, fun l1 nl1 => ?_⟩
    have s7 := same_new nl1 (.lst ((zs.map Odd.kk).map fun kv => kV kv.1))
    have e7 : upd H6 l1 (.lst ((zs.map Odd.kk).map fun kv => kV kv.1)) l1 = some (.lst ((zs.map Odd.kk).map fun kv => kV kv.1)) := upd_same
    generalize upd H6 l1 (.lst ((zs.map Odd.kk).map fun kv => kV kv.1)) = H7 at *
    refine ⟨_, rfl, le1k, fun t0 H8 s8 hT0 => ⟨le1k, fun l2 H9 s9 e9 => ⟨_, rfl, d, L, ns, _, 5, rfl, p6.same ((s7.trans s8).trans s9), by omega, by decide, by decide, fun g' Ha g0' g1' ka pa => ?_⟩⟩⟩
    have S69 := (s7.trans s8).trans s9
    have hd9 := (p6.same S69).isDk
    have hL := seqL_keep (K := K) hd9 ka (SqL.of e9)
    have kO := (k06.trans (Same.toKeep S69)).trans ka
    have hg : g' = 0 ∨ g' = 1 ∨ g' = 2 ∨ g' = 3 ∨ g' = 4 := by omega
    have eS : (zs.map Odd.kk).map (fun kv => kV kv.1) = (zs.map (·.1)).map V.str := by
      rw [List.map_map, List.map_map]
      rfl
    rcases hg with rfl | rfl | rfl | rfl | rfl
    · exact ⟨l2, _, 0, .non, rfl, rfl, hL, rfl, _, rfl, q _ _ (.inr ⟨.none, .non, rfl, by simp [PyData.depth]⟩) kO⟩
    · refine ⟨l2, _, 1, .ref l1, rfl, rfl, hL, rfl, _, rfl, q _ _ (.inr ⟨.list ((zs.map (·.1)).map PyData.str), .lst (seqL_keep hd9 ka (SqL.of ((s8.trans s9) _ _ e7))) ?_, ?_, ?_⟩) kO⟩
      · rw [eS]
        exact dpAll_strs _
      · unfold widD
        rw [widAll_strs, List.length_map, List.length_map, lz, decide_eq_true (by omega)]
        rfl
      · simp only [PyData.depth, depthAll_strs]
        omega
    · exact ⟨l2, _, 2, .str z, rfl, rfl, hL, rfl, _, rfl, q _ _ (.inr ⟨.str z, .str z, rfl, by simp [PyData.depth]⟩) kO⟩
    · exact ⟨l2, _, 3, .ref t0, rfl, rfl, hL, rfl, _, rfl, q _ _ (.inr ⟨.tuple [], .tup (seqT_keep hd9 ka (seqT_same s9 hT0)) .nil, rfl, by simp [PyData.depth, PyData.depthAll]⟩) kO⟩
    · exact ⟨l2, _, 4, .int 7, rfl, rfl, hL, rfl, _, rfl, q _ _ (.inr ⟨.int 7, .int 7, rfl, by simp [PyData.depth]⟩) kO⟩
end
end My

set_option Elab.async false
set_option linter.all false
set_option maxRecDepth 100000
namespace My
open PySem L2
abbrev s_law_refuses : Stmt := top 56
abbrev N_law_refuses : List Str := ["_law_pen", "_law_form", "_law_forms", "_law_deed", "_law_none", "_law_odd"]
abbrev P_law_refuses : List Str := ["_law_pen", "_law_form", "_law_forms"]
theorem sc_law_refuses : FnScope N_law_refuses P_law_refuses (defScope s_law_refuses) := ⟨rfl, rfl, rfl, by decide +kernel, rfl, by decide +kernel, by decide +kernel⟩
abbrev lamQr : Str := "_law_refuses.<locals>.<lambda>"
/-! ### where all but tables stays -/
theorem OR.x {w : World} {H H' : Hp} {a : Addr} {kvs : List (Odd.OK × V)} (k : LamX.ExtN H H') (h : Odd.OR w H a kvs) : Odd.OR w H' a kvs := by
  rcases h with ⟨zs, e, h | ⟨o, h⟩⟩ | h | ⟨o, h⟩
  · exact .inl ⟨zs, e, .inl (k _ _ h fun _ z => nomatch z)⟩
  · exact .inl ⟨zs, e, .inr ⟨o, k _ _ h fun _ z => nomatch z⟩⟩
  · exact .inr (.inl (k _ _ h fun _ z => by unfold Odd.OD at z; cases z))
  · exact .inr (.inr ⟨o, k _ _ h fun _ z => nomatch z⟩)
theorem Tpl.x {H H' : Hp} {kvs : List (Odd.OK × V)} (k : LamX.ExtN H H') (h : Odd.Tpl H kvs) : Odd.Tpl H' kvs := fun b z v m => k _ _ (h b z v m) fun _ z => nomatch z
theorem Dct.tbl {u : HO} (d : Dct u) : ∀ ps, u ≠ .tbl ps := fun ps e => by
  subst e
  rcases d with ⟨_, e⟩ | ⟨_, e⟩ <;> cases e
theorem DictF.x {w : World} {H H' : Hp} {a : Addr} {kvs : List (Odd.OK × V)} {u : HO} (k : LamX.ExtN H H') (h : DictF w H a kvs u) : DictF w H' a kvs u := ⟨OR.x k h.or, k _ _ h.is h.dc.tbl, h.dc, Tpl.x k h.tp, h.nd⟩
theorem NoDict.x {w : World} {K : PySem.W.Frag} {H H' : Hp} {v : V} (k : LamX.ExtN H H') (h : NoDict w K H v) : NoDict w K H' v := by
  rcases h with ⟨b, kvs, u, e, h1, j, p, h2, h3, h4⟩ | ⟨D, h1, h2⟩
  · refine .inl ⟨b, kvs, u, e, h1.x k, j, p, h2, fun i p' c e => ?_, ?_⟩
    · obtain ⟨z, t, e1, g1, g2, g3⟩ := h3 i p' c e
      exact ⟨z, t, e1, g1, (kt_x k).fm _ g2, g3⟩
    · rcases h4 with ⟨D, g1, g2⟩ | ⟨z, D, g1, g2, g3, g4⟩
      · exact .inl ⟨D, dp_x k _ _ g1, g2⟩
      · exact .inr ⟨z, D, g1, g2, dp_x k _ _ g3, g4⟩
  · exact .inr ⟨D, dp_x k _ _ h1, h2⟩
/-- no dict: of what type -/
theorem ty_of {K : PySem.W.Frag} {H : Hp} {v : V} {D : PyData} (h : Dp K H v D) : ∃ g, (∀ H', Same H H' → TyX K H' v (.type g)) ∧ kitB g "dict" = some false := by
  cases h with
  | non => exact ⟨"NoneType", fun _ _ => .base .non, by decide +kernel⟩
  | bl b => exact ⟨"bool", fun _ _ => .base (.bl b), by decide +kernel⟩
  | int i => exact ⟨"int", fun _ _ => .base (.int i), by decide +kernel⟩
  | str z => exact ⟨"str", fun _ _ => .base (.str z), by decide +kernel⟩
  | lst hs ha => exact ⟨"list", fun _ s => (tyL hs).same s, by decide +kernel⟩
  | tup hs ha => exact ⟨"tuple", fun _ s => (tyT hs).same s, by decide +kernel⟩
/-- a call, ready, that refuses odd -/
def Rdy (X : Cx) (CB : Addr) (q : Str) (odd : V) (σ : L2.St) (H : Hp) (v : V) : Prop := ∃ (f c' : Addr) (fo : Obj) (t : XK → TE), v = .ref f ∧ Clo.FnObj fo ∧ H f = some (Clo.Pin f fo) ∧ H c' = some (LamX.CodeO c' q) ∧
  (∀ C, Clo.CellsAt X.env X.N σ C → Clo.Act X.prog X.w X.K X.mg X.base 30 f (Clo.tlX f c' fo q C σ t)) ∧ ∀ G E Q, BadF X.K CB odd G E → t E σ G Q
theorem Rdy.x {X : Cx} {CB : Addr} {q : Str} {odd : V} {σ : L2.St} {H H' : Hp} {v : V} (k : LamX.ExtN H H') (h : Rdy X CB q odd σ H v) : Rdy X CB q odd σ H' v := by
  obtain ⟨f, c', fo, t, e, n, h1, h2, a⟩ := h
  exact ⟨f, c', fo, t, e, n, k _ _ h1 (fun _ => Clo.pin_tbl), k _ _ h2 (fun _ => LamX.codeO_ne _), a⟩
def spRefuses (K : PySem.W.Frag) (Tb : List (Addr × Str)) : Sp := fun vs H Q _ => ∃ (d L a : Addr) (ns : List Int) (n : Nat) (v : V) (t : FT) (zs : List (Str × V)) (fd : List (Str × FT)), vs = [.ref d, v, .ref a] ∧ Pen K H d L ns n ∧ n < 2 ^ 36 ∧ Fm K H t v ∧ t.Ok ∧ t.dep ≤ 12 ∧ FDz K H a zs fd ∧ a ≠ d ∧ LamX.Tabs Tb H ∧ ∀ H', Q (.bl true) H'
section
variable {P : Program} {w : World} {K : PySem.W.Frag} {mg : Str → Option Value} {base : Heap} {f : Addr} {fd : FuncData}
set_option maxHeartbeats 2000000 in
theorem ok_law_refuses {c Pt : Addr} {Tb : List (Addr × Str)} {T : ErrT K mg} (TB : LamX.TabB base mg c Pt) (hin : (Pt, lamQr) ∈ Tb) (hone : ∀ p ∈ Tb, p.1 = Pt → p.2 = lamQr) (F : FunC K "_law_refuses" "_law_refuses" s_law_refuses f fd (.ref c))
    (C_law_no_form : Cal P w K mg base "_law_no_form" 17 P_law_no_form (spNoForm K)) (C_law_no_dict : Cal P w K mg base "_law_no_dict" 18 P_law_no_dict (spNoDict w K)) (C_law_faults : Cal P w K mg base "_law_faults" 60 P_law_faults (spFaults P w K mg base T 30 28))
    (Ccounter : CalX P w K mg base "counter" 18 Pcounter (spCounter K T.B)) (Cdepth : CalX P w K mg base "depth" 18 Pdepth (spDepthP K T.B)) (Cgoods : CalX P w K mg base "goods" 18 Pgoods (spGoods K T.B)) (Cwith_forms : CalX P w K mg base "with_forms" 28 Pwith_forms (spWithForms w K T.B T.D)) :
    FnOk P w K mg base CX0 70 f fd P_law_refuses (spRefuses K Tb) := by
  refine F.ok sc_law_refuses (fun vs H Q E h => ?_) (fun A outer s H vs Q E hr h => ?_)
  · obtain ⟨d, L, a, ns, n, v, t, zs, fd, rfl, _⟩ := h
    rfl
  obtain ⟨d, L, a, ns, n, v, t, zs, fd, rfl, hp, hn, hf, ok, hd, hz, nad, tabs, q⟩ := h
  refine ⟨_, (pss_cons (ps_asg (pe_tupN (pa_cons (pe_callC C_law_no_form hr (pa_cons (pv 0) (pa_cons (pv 1) pa_nil))) (pa_cons (pe_callC C_law_no_dict hr (pa_cons (pv 0) (pa_cons (pv 2) pa_nil))) pa_nil))) (pg_tup rfl (pgs_cons (pg_name (i := 5) sc_law_refuses.nd rfl (Or.inr rfl)) (pgs_cons (pg_name (i := 4) sc_law_refuses.nd rfl (Or.inr rfl)) pgs_nil))))
  (pss_cons (ps_for PassesOwn.never rfl (pi_list (pe_lst
      (pa_cons (Clo.pe_lam (k := 29) (t := fun E => tCallS (spCounter K T.B) (WE fun cls d _ H => E cls d H) (tCons (tVar 5) tNil)) TB rfl hin hone (show LamX.LamS (defScope s_law_refuses) _ from LamX.lamS_by (by decide +kernel)) rfl (fun _ _ _ _ _ => rfl) (fun A outer s H E f c' hr' => pe_callS Ccounter.ok (hr'.mono (by decide)) rfl Ccounter.m Ccounter.kp Ccounter.b (fun σ => passAt (takes_of rfl rfl rfl rfl) σ) (pa_cons (pv 5) pa_nil)))
      (pa_cons (Clo.pe_lam (k := 29) (t := fun E => tCallS (spDepthP K T.B) (WE fun cls d _ H => E cls d H) (tCons (tVar 5) tNil)) TB rfl hin hone (show LamX.LamS (defScope s_law_refuses) _ from LamX.lamS_by (by decide +kernel)) rfl (fun _ _ _ _ _ => rfl) (fun A outer s H E f c' hr' => pe_callS Cdepth.ok (hr'.mono (by decide)) rfl Cdepth.m Cdepth.kp Cdepth.b (fun σ => passAt (takes_of rfl rfl rfl rfl) σ) (pa_cons (pv 5) pa_nil)))
      (pa_cons (Clo.pe_lam (k := 29) (t := fun E => tCallS (spGoods K T.B) (WE fun cls d _ H => E cls d H) (tCons (tVar 5) tNil)) TB rfl hin hone (show LamX.LamS (defScope s_law_refuses) _ from LamX.lamS_by (by decide +kernel)) rfl (fun _ _ _ _ _ => rfl) (fun A outer s H E f c' hr' => pe_callS Cgoods.ok (hr'.mono (by decide)) rfl Cgoods.m Cgoods.kp Cgoods.b (fun σ => passAt (takes_of rfl rfl rfl rfl) σ) (pa_cons (pv 5) pa_nil)))
      (pa_cons (Clo.pe_lam (k := 29) (t := fun E => tCallS (spWithForms w K T.B T.D) (WE fun cls d _ H => E cls d H) (tCons (tVar 5) (tCons (tVar 4) tNil))) TB rfl hin hone (show LamX.LamS (defScope s_law_refuses) _ from LamX.lamS_by (by decide +kernel)) rfl (fun _ _ _ _ _ => rfl) (fun A outer s H E f c' hr' => pe_callS Cwith_forms.ok (hr'.mono (by decide)) rfl Cwith_forms.m Cwith_forms.kp Cwith_forms.b (fun σ => passAt (takes_of rfl rfl rfl rfl) σ) (pa_cons (pv 5) (pa_cons (pv 4) pa_nil))))
      (pa_cons (Clo.pe_lam (k := 29) (t := fun E => tCallS (spWithForms w K T.B T.D) (WE fun cls d _ H => E cls d H) (tCons (tVar 5) (tCons (tVar 2) tNil))) TB rfl hin hone (show LamX.LamS (defScope s_law_refuses) _ from LamX.lamS_by (by decide +kernel)) rfl (fun _ _ _ _ _ => rfl) (fun A outer s H E f c' hr' => pe_callS Cwith_forms.ok (hr'.mono (by decide)) rfl Cwith_forms.m Cwith_forms.kp Cwith_forms.b (fun σ => passAt (takes_of rfl rfl rfl rfl) σ) (pa_cons (pv 5) (pa_cons (pv 2) pa_nil))))
      pa_nil))))))) (pg_name (i := 3) sc_law_refuses.nd rfl (Or.inl rfl))
    (pss_one (ps_if (pt_not (pt_val (Clo.pe_callT C_law_faults.ok (hr.mono (by decide)) rfl C_law_faults.m C_law_faults.kp C_law_faults.b (fun _ => rfl) (pa_cons (pv 3) (pa_cons (pe_tup (pa_cons pe_str (pa_cons (pv 5) pa_nil))) pa_nil)))))
      (pss_one (ps_ret pe_bl))
      pss_nil)))
  (pss_one (ps_ret (Clo.pe_callT C_law_faults.ok (hr.mono (by decide)) rfl C_law_faults.m C_law_faults.kp C_law_faults.b (fun _ => rfl) (pa_cons
        (Clo.pe_lam (k := 29) (t := fun E => tCallS (spWithForms w K T.B T.D) (WE fun cls d _ H => E cls d H) (tCons (tVar 1) (tCons (tVar 4) tNil))) TB rfl hin hone (show LamX.LamS (defScope s_law_refuses) _ from LamX.lamS_by (by decide +kernel)) rfl (fun _ _ _ _ _ => rfl) (fun A outer s H E f c' hr' => pe_callS Cwith_forms.ok (hr'.mono (by decide)) rfl Cwith_forms.m Cwith_forms.kp Cwith_forms.b (fun σ => passAt (takes_of rfl rfl rfl rfl) σ) (pa_cons (pv 1) (pa_cons (pv 4) pa_nil))))
        (pa_cons (pe_tup (pa_cons pe_str (pa_cons (pv 4) pa_nil))) pa_nil))))))), ?_⟩
  have h12 : isForm 12 t.data = true := ft_isForm t ok hd
  refine ⟨_, rfl, _, rfl, d, L, ns, n, v, t.data, rfl, hp, by omega, FT.of_fm t hf, h12, fun odd D H1 hD sD wD dD nD k1 p1 => ?_⟩
  have kt1 := kt_pen hp k1
  have hz1 : FDz K H1 a zs fd := ⟨k1 a _ nad hz.is, hz.nm, paired_imp (fun _ _ r => ⟨r.1, kt1.fm _ r.2⟩) hz.pr, hz.ok⟩
  have tb1 := tabs_keep hp.isDk k1 tabs
  refine ⟨_, rfl, _, rfl, d, L, a, ns, _, zs, fd, rfl, p1, by omega, hz1, nad, fun nod H2 hN k2 => ?_⟩
  have tb2 := tabs_keep p1.isDk k2 tb1
  have hD2 := dp_keep p1.isDk k2 _ _ hD
  have hf2 := (kt_pen p1 k2).fm _ (kt1.fm _ hf)
  refine ⟨le1k, fun tp0 H3 s3 hT0 => ⟨tp0, _, rfl, hT0, rfl, odd, _, rfl, nod, _, rfl, rfl, ?_⟩⟩
  have tb3 := tb2.ext s3
  have hD3 := dp_same s3 _ _ hD2
  have hf3 := (Same.kt s3).fm _ hf2
  have hN3 := hN.x (LamX.ExtN.of s3)
  refine ⟨tb3, fun f1 fo1 c1 H4 x4 t4 n4 p4 q4 o4 a4 => ⟨t4, fun f2 fo2 c2 H5 x5 t5 n5 p5 q5 o5 a5 => ⟨t5, fun f3 fo3 c3 H6 x6 t6 n6 p6 q6 o6 a6 => ⟨t6, fun f4 fo4 c4 H7 x7 t7 n7 p7 q7 o7 a7 => ⟨t7, fun f5 fo5 c5 H8 x8 t8 n8 p8 q8 o8 a8 => ?_⟩⟩⟩⟩⟩
  refine ⟨by show 5 ≤ sizeLine; decide, fun p np => ?_⟩
  have s9 : Same H8 (upd H8 p (.lst [.ref f1, .ref f2, .ref f3, .ref f4, .ref f5])) := same_new np _
  have x9 := LamX.ExtN.of s9
  have e9 : upd H8 p (.lst [.ref f1, .ref f2, .ref f3, .ref f4, .ref f5]) p = some (.lst [.ref f1, .ref f2, .ref f3, .ref f4, .ref f5]) := upd_same
  have t9 := t8.ext s9
  generalize upd H8 p (.lst [.ref f1, .ref f2, .ref f3, .ref f4, .ref f5]) = H9 at *
  have x39 := x4.trans (x5.trans (x6.trans (x7.trans (x8.trans x9))))
  have hD9 := dp_x x39 _ _ hD3
  have hf9 := (kt_x x39).fm _ hf3
  have hN9 := hN3.x x39
  obtain ⟨σ0, eσ⟩ : ∃ σ0 : L2.St, σ0 = ((L2.start N_law_refuses [.ref d, v, .ref a]).set 5 (some odd)).set 4 (some nod) := ⟨_, rfl⟩
  obtain ⟨X, eX⟩ : ∃ X : Cx, X = (cxOf CX0 P w K mg base N_law_refuses "_law_refuses" (defScope s_law_refuses) f (.ref c) A outer s H E).nox := ⟨_, rfl⟩
  have rdy : ∀ x ∈ [V.ref f1, .ref f2, .ref f3, .ref f4, .ref f5], Rdy X T.B lamQr odd σ0 H9 x := by
    rw [eX, eσ]
    intro x hx
    simp only [List.mem_cons, List.not_mem_nil, or_false] at hx
    rcases hx with rfl | rfl | rfl | rfl | rfl
    · exact Rdy.x (x5.trans (x6.trans (x7.trans (x8.trans x9)))) ⟨f1, c1, fo1, _, rfl, o4, p4, q4, a4, fun G E Q b => ⟨odd, rfl, odd, rfl, .inr b⟩⟩
    · exact Rdy.x (x6.trans (x7.trans (x8.trans x9))) ⟨f2, c2, fo2, _, rfl, o5, p5, q5, a5, fun G E Q b => ⟨odd, rfl, odd, rfl, .inr b⟩⟩
    · exact Rdy.x (x7.trans (x8.trans x9)) ⟨f3, c3, fo3, _, rfl, o6, p6, q6, a6, fun G E Q b => ⟨odd, rfl, odd, rfl, .inr b⟩⟩
    · exact Rdy.x (x8.trans x9) ⟨f4, c4, fo4, _, rfl, o7, p7, q7, a7, fun G E Q b => ⟨odd, rfl, nod, rfl, odd, nod, rfl, .inl b⟩⟩
    · exact Rdy.x x9 ⟨f5, c5, fo5, _, rfl, o8, p8, q8, a8, fun G E Q b => ⟨odd, rfl, .ref a, rfl, odd, .ref a, rfl, .inl b⟩⟩
  refine ⟨p, rfl, ⟨_, SqL.of e9⟩, ?_⟩
  refine for_it walk_list (fun i σ H' => LamX.ExtN H9 H' ∧ LamX.Tabs Tb H' ∧ ∃ x, σ = [some (.ref d), some v, some (.ref a), x, some nod, some odd]) ⟨LamX.ExtN.refl _, t9, none, rfl⟩ (fun i σ H' _ pv => SqL.of (pv.1 _ _ e9 fun _ z => nomatch z)) (fun i x σ HX H10 hi pv y => ?_) (fun σ H10 pv => ?_)
  · obtain ⟨rfl, hx⟩ := y
    obtain ⟨xa, ta, o3, rfl⟩ := pv
    refine ⟨x, rfl, odd, rfl, by show 2 ≤ sizeLine; decide, fun tp ntp => ?_⟩
    intro C KC hC
    obtain ⟨fx, cx, fox, tt, ex, nx, px, qx, act, good⟩ := (rdy x (List.mem_of_getElem? hx)).x xa
    subst eX
    have KC0 : Clo.CellsAt (PyProof.Rows.envOfC "_law_refuses" (defScope s_law_refuses) s.heap.objs.size f (.ref c)) N_law_refuses σ0 C := by
      refine cells_mono (fun i y v' hn hs hk => ?_) KC
      rw [eσ] at hs
      match i, hn with
      | 0, hn => exact hs
      | 1, hn => exact hs
      | 2, hn => exact hs
      | 3, hn => cases hs
      | 4, hn => exact hs
      | 5, hn => exact hs
      | k + 6, hn => exact absurd hn (by simp)
    have out_ : ∀ {b : Addr} {o : HO}, upd H10 tp (.tup [.str "value", odd]) b = some o → C b = none := fun {b o} e => Clo.out_of e hC
    have sa : Same H10 (upd H10 tp (.tup [.str "value", odd])) := same_new ntp _
    have tpa : upd H10 tp (.tup [.str "value", odd]) tp = some (.tup [.str "value", odd]) := upd_same
    generalize upd H10 tp (.tup [.str "value", odd]) = G0 at *
    refine ⟨x, .ref tp, rfl, fx, fox, _, ex, nx, by rw [Clo.plus_out (out_ (sa _ _ px))]; exact sa _ _ px, Clo.Act.mono (act C KC0) (by decide), fun Q' E' i1 i2 => ⟨by rw [Clo.plus_out (out_ (sa _ _ px))]; exact sa _ _ px, by rw [Clo.plus_out (out_ (sa _ _ qx))]; exact sa _ _ qx, fun c o e => Clo.plus_in e, ?_⟩⟩
    rw [minus_plus hC]
    have hDG : Dp K G0 odd D := dp_x (xa.trans (LamX.ExtN.of sa)) _ _ hD9
    have fin : badE T.B "value" odd G0 (fun cls d H' => (∀ c o, C c = some o → H' c = none) → E' cls d (Clo.plus C H')) := fun d' Hb sb nd' non => by
      refine i2 _ _ _ ⟨T.B, d', "value", "value", odd, rfl, rfl, .inl ⟨rfl, rfl, rfl⟩, ?_, fun pp npp => ?_⟩
      · rw [Clo.plus_out (Clo.out_of upd_same non)]
        exact upd_same
      · have sG : Same G0 (Clo.plus C (upd Hb d' (.xd [("value", odd)]))) := fun b o e => by
          have e1 := sb _ _ e
          rw [Clo.plus_out (out_ e), upd_ne (ne_of_none e1 nd')]
          exact e1
        have s2 : Same G0 (upd (Clo.plus C (upd Hb d' (.xd [("value", odd)]))) pp (.tup [.str "value", odd])) := Same.trans sG (same_new npp _)
        have hD' := dp_same s2 _ _ hDG
        refine ⟨.inr (.inr (.inl ⟨pp, tp, [.str "value", odd], [.str "value", odd], rfl, rfl, SqT.of upd_same, SqT.of (s2 _ _ tpa), le1k, .cons (.inl ⟨rfl, rfl⟩) (.cons (tw_mono (show D.depth + 1 ≤ 27 by omega) (tw_dp D odd odd wD hD' hD')) .nil)⟩)), fun Hc sc => ⟨fun c o e => ?_, ?_⟩⟩
        · refine sc _ _ ?_
          have e1 : Clo.plus C (upd Hb d' (.xd [("value", odd)])) c = some (Clo.Pin c o) := Clo.plus_in e
          rw [upd_ne (ne_of_none e1 npp)]
          exact e1
        · refine ⟨true, rfl, ?_⟩
          have sM : Same H10 (Clo.minus C Hc) := fun b o e => by
            have e1 := sa _ _ e
            rw [Clo.minus_out (out_ e1)]
            exact sc _ _ (s2 _ _ e1)
          exact iteF ⟨xa.trans (LamX.ExtN.of sM), ta.ext sM, _, rfl⟩
    exact good _ _ _ ⟨D, hDG, short_str sD, sD, by omega, nD, fin⟩
  · obtain ⟨xa, ta, o3, rfl⟩ := pv
    have hfa := (kt_x xa).fm _ hf9
    have hNa := hN9.x xa
    refine ⟨ta, fun f6 fo6 c6 H11 xb tb nb pb qb ob ab => ⟨_, rfl, by show 2 ≤ sizeLine; decide, fun tp ntp => ?_⟩⟩
    intro C KC hC
    have out_ : ∀ {b : Addr} {o : HO}, upd H11 tp (.tup [.str "value", nod]) b = some o → C b = none := fun {b o} e => Clo.out_of e hC
    have sa : Same H11 (upd H11 tp (.tup [.str "value", nod])) := same_new ntp _
    have tpa : upd H11 tp (.tup [.str "value", nod]) tp = some (.tup [.str "value", nod]) := upd_same
    generalize upd H11 tp (.tup [.str "value", nod]) = G0 at *
    refine ⟨.ref f6, .ref tp, rfl, f6, fo6, _, rfl, ob, by rw [Clo.plus_out (out_ (sa _ _ pb))]; exact sa _ _ pb, Clo.Act.mono (ab C KC) (by decide), fun Q' E' i1 i2 => ⟨by rw [Clo.plus_out (out_ (sa _ _ pb))]; exact sa _ _ pb, by rw [Clo.plus_out (out_ (sa _ _ qb))]; exact sa _ _ qb, fun c o e => Clo.plus_in e, ?_⟩⟩
    rw [minus_plus hC]
    have xG := xb.trans (LamX.ExtN.of sa)
    have hfG := (kt_x xG).fm _ hfa
    have hNG := hNa.x xG
    have fin : ∀ GF : Hp, (∀ b o, GF b = some o → C b = none) → GF tp = some (.tup [.str "value", nod]) → (∀ H', Same GF H' → Tw w K H' 27 nod nod) → badE T.B "value" nod GF (fun cls d H' => (∀ c o, C c = some o → H' c = none) → E' cls d (Clo.plus C H')) := fun GF outF tpF twF d' Hb sb nd' non => by
      refine i2 _ _ _ ⟨T.B, d', "value", "value", nod, rfl, rfl, .inl ⟨rfl, rfl, rfl⟩, ?_, fun pp npp => ?_⟩
      · rw [Clo.plus_out (Clo.out_of upd_same non)]
        exact upd_same
      · have sG : Same GF (Clo.plus C (upd Hb d' (.xd [("value", nod)]))) := fun b o e => by
          have e1 := sb _ _ e
          rw [Clo.plus_out (outF _ _ e), upd_ne (ne_of_none e1 nd')]
          exact e1
        have s2 : Same GF (upd (Clo.plus C (upd Hb d' (.xd [("value", nod)]))) pp (.tup [.str "value", nod])) := Same.trans sG (same_new npp _)
        refine ⟨.inr (.inr (.inl ⟨pp, tp, [.str "value", nod], [.str "value", nod], rfl, rfl, SqT.of upd_same, SqT.of (s2 _ _ tpF), le1k, .cons (.inl ⟨rfl, rfl⟩) (.cons (twF _ s2) .nil)⟩)), fun Hc sc => ⟨fun c o e => ?_, q _⟩⟩
        refine sc _ _ ?_
        have e1 : Clo.plus C (upd Hb d' (.xd [("value", nod)])) c = some (Clo.Pin c o) := Clo.plus_in e
        rw [upd_ne (ne_of_none e1 npp)]
        exact e1
    refine ⟨_, rfl, _, rfl, v, nod, rfl, .inr ⟨t, hfG, ok, hd, .inl ?_⟩⟩
    rcases hNG with ⟨b, kvs, u, rfl, h1, j, pq, h2, h3, h4⟩ | ⟨D', g1, g2, g3⟩
    · refine .inl ⟨b, kvs, u, rfl, h1, j, pq, h2, h3, h4, fun od => fin _ (fun b' o e => ?_) ?_ fun H' s' => ?_⟩
      · by_cases c : b' = b
        · rw [c]
          exact out_ h1.is
        · rw [upd_ne c] at e
          exact out_ e
      · rw [upd_ne fun c => ?_]
        · exact tpa
        · have := h1.is
          rw [← c, tpa] at this
          obtain rfl := Option.some.inj this
          rcases h1.dc with ⟨_, e⟩ | ⟨_, e⟩ <;> cases e
      · exact .inr (.inl ⟨b, kvs, rfl, rfl, (lock_frz h1.is h1.dc h1.or).or.same s', (lock_tpl h1.is h1.dc h1.tp).same s', h1.nd⟩)
    · obtain ⟨g, ty, hg⟩ := ty_of g1
      exact .inr ⟨g, ty, hg, fin _ (fun _ _ e => out_ e) tpa fun H' s' => tw_mono (show D'.depth + 1 ≤ 27 by omega) (tw_dp D' nod nod g2 (dp_same s' _ _ g1) (dp_same s' _ _ g1))⟩
end
end My

set_option Elab.async false
set_option linter.all false
set_option maxRecDepth 100000
namespace My
open PySem L2
abbrev slaw : Stmt := top 57
abbrev Nlaw : List Str := ["_law_script", "_law_pen", "_law_names_here", "_law_form", "_law_forms"]
abbrev Plaw : List Str := ["_law_script"]
theorem sclaw : FnScope Nlaw Plaw (defScope slaw) := ⟨rfl, rfl, rfl, by decide +kernel, rfl, by decide +kernel, by decide +kernel⟩
theorem nms_lv : ∀ (t : FT) (z : Str), z ∈ nms t → ∃ w, PyData.tuple [.str w, .str z] ∈ lvs t.data
  | .leaf co m, z, h => by
    have hz : z = Z m := List.mem_singleton.mp h
    refine ⟨leafZ co, ?_⟩
    show _ ∈ lvs (.tuple [.str (leafZ co), .str (Z m)])
    rw [lvs2, hz]
    exact List.mem_singleton.mpr rfl
  | .node s l r, z, h => by
    show ∃ w, _ ∈ lvs (.tuple [.str s.word, l.data, r.data])
    rw [lvs3]
    rcases List.mem_append.mp h with h | h
    · obtain ⟨w, hw⟩ := nms_lv l z h
      exact ⟨w, List.mem_append.mpr (.inl hw)⟩
    · obtain ⟨w, hw⟩ := nms_lv r z h
      exact ⟨w, List.mem_append.mpr (.inr hw)⟩
theorem lv_nms : ∀ (t : FT) (w z : Str), PyData.tuple [.str w, .str z] ∈ lvs t.data → z ∈ nms t
  | .leaf co m, w, z, h => by
    have h : PyData.tuple [.str w, .str z] ∈ lvs (.tuple [.str (leafZ co), .str (Z m)]) := h
    rw [lvs2] at h
    have e := List.mem_singleton.mp h
    injection e with e
    injection e with _ e
    injection e with e _
    injection e with e
    exact List.mem_singleton.mpr e
  | .node s l r, w, z, h => by
    have h : PyData.tuple [.str w, .str z] ∈ lvs (.tuple [.str s.word, l.data, r.data]) := h
    rw [lvs3] at h
    rcases List.mem_append.mp h with h | h
    · exact List.mem_append.mpr (.inl (lv_nms l w z h))
    · exact List.mem_append.mpr (.inr (lv_nms r w z h))
/-- a form of the law over these names -/
def Fit1 (K : PySem.W.Frag) (zs : List Str) (H : Hp) (v : V) : Prop := ∃ t, Fm K H t v ∧ t.Ok ∧ t.dep ≤ 12 ∧ t.lvs ≤ 200 ∧ ∀ z ∈ nms t, z ∈ zs
theorem Fit1.of {K : PySem.W.Frag} {H : Hp} {v : V} {D : PyData} {k : Nat} {zs : List Str} (h : Dp K H v D) (hf : isForm k D = true) (hk : k ≤ 12) (hl : (lvs D).length ≤ 200) (hn : NmIn zs D) : Fit1 K zs H v := by
  obtain ⟨t, rfl, ok, hd⟩ := ft_of hf
  exact ⟨t, fm_of_dp t h, ok, by omega, by rw [← lvs_one]; exact hl, nms_in t hn⟩
theorem Fit1.kt {K : PySem.W.Frag} {H H' : Hp} {v : V} {zs : List Str} (g : Fit1 K zs H v) (k : KT H H') : Fit1 K zs H' v := by
  obtain ⟨t, h, r⟩ := g
  exact ⟨t, k.fm t h, r⟩
theorem Pen.x {K : PySem.W.Frag} {H H' : Hp} {d L : Addr} {ns : List Int} {n : Nat} (k : LamX.ExtN H H') (p : Pen K H d L ns n) : Pen K H' d L ns n := by
  obtain ⟨b, l, h, h0⟩ := p.ex
  exact ⟨⟨b, l, k _ _ h (fun _ z => nomatch z), h0⟩, seqL_x k p.cells, p.few⟩
def spLaw (K : PySem.W.Frag) (Tb : List (Addr × Str)) : Sp := fun vs H Q _ => ∃ (a : Addr) (ns : List Int), vs = [.ref a] ∧ SqL K H a (ns.map V.int) ∧ ns.length ≤ 63 ∧ LamX.Tabs Tb H ∧ ∀ H', Q (.bl true) H'
section
variable {P : Program} {w : World} {K : PySem.W.Frag} {mg : Str → Option Value} {base : Heap} {f : Addr} {fd : FuncData}
set_option maxHeartbeats 2000000 in
theorem ok_law {Tb : List (Addr × Str)} (T : Txt K mg) (F : Fun K "law" "law" slaw f fd) (C_law_begin : Cal P w K mg base "_law_begin" 1 ["_law_script"] (spBegin K)) (C_law_draw : Cal P w K mg base "_law_draw" 1 ["_law_pen", "_law_span"] (spDraw K)) (C_law_pick : Cal P w K mg base "_law_pick" 2 ["_law_pen", "_law_some"] (spPick K))
    (C_law_names : Cal P w K mg base "_law_names" 4 P_law_names (spNames K)) (C_law_shape : Cal P w K mg base "_law_shape" 15 P_law_shape (spShape K 13)) (C_law_deeper : Cal P w K mg base "_law_deeper" 14 P_law_deeper (spDeeper K)) (C_law_dict : Cal P w K mg base "_law_dict" 16 P_law_dict (spDict K))
    (C_law_known : Cal P w K mg base "_law_known" 32 P_law_known (spKnown K)) (C_law_put_in : Cal P w K mg base "_law_put_in" 70 P_law_put_in (spPutIn K Tb)) (C_law_refuses : Cal P w K mg base "_law_refuses" 70 P_law_refuses (spRefuses K Tb)) :
    FnOk P w K mg base CX0 71 f fd Plaw (spLaw K Tb) := by
  refine F.ok sclaw (fun vs H Q E h => ?_) (fun cdv A outer s H vs Q E hr h => ?_)
  · obtain ⟨a, ns, rfl, _⟩ := h
    rfl
  obtain ⟨a, ns, rfl, hS, h63, tabs, q⟩ := h
  refine ⟨_, (pss_cons (ps_set (i := 1) sclaw.nd rfl (Or.inl rfl) (pe_callC C_law_begin hr (pa_cons (pv 0) pa_nil)))
  (pss_cons (ps_set (i := 2) sclaw.nd rfl (Or.inl rfl) (pe_callC C_law_names hr (pa_cons (pv 1) (pa_cons pe_int pa_nil))))
  (pss_cons (ps_set (i := 3) sclaw.nd rfl (Or.inl rfl) (pe_callC C_law_shape hr (pa_cons (pv 1) (pa_cons (pv 2) (pa_cons (pe_op op_add pe_int (pe_callC C_law_draw hr (pa_cons (pv 1) (pa_cons pe_int pa_nil)))) (pa_cons (pe_callC C_law_pick hr (pa_cons (pv 1) (pa_cons (pe_lstN (pa_cons pe_int (pa_cons pe_int (pa_cons pe_int pa_nil)))) pa_nil))) pa_nil))))))
  (pss_cons (ps_if (pt_cmpR op_eq (pe_callC C_law_draw hr (pa_cons (pv 1) (pa_cons pe_int pa_nil))) pe_int (nomark _))
    (pss_one (ps_set (i := 3) sclaw.nd rfl (Or.inl rfl) (pe_callC C_law_shape hr (pa_cons (pv 1) (pa_cons (pv 2) (pa_cons (pe_op op_add pe_int (pe_callC C_law_draw hr (pa_cons (pv 1) (pa_cons pe_int pa_nil)))) (pa_cons (pe_callC C_law_pick hr (pa_cons (pv 1) (pa_cons (pe_lstN (pa_cons pe_int (pa_cons pe_int pa_nil))) pa_nil))) pa_nil)))))))
    pss_nil)
  (pss_cons (ps_set (i := 4) sclaw.nd rfl (Or.inl rfl) (pe_callC C_law_dict hr (pa_cons (pv 1) (pa_cons (pv 2) pa_nil))))
  (pss_cons (ps_if (PW.pt (pw_or (pt_not (pt_val (pe_callC C_law_known hr (pa_cons (pv 3) pa_nil)))) (pw_or (pt_not (pt_val (pe_callC C_law_put_in hr (pa_cons (pv 3) (pa_cons (pv 4) pa_nil))))) (pw_or1 (pt_not (pt_val (pe_callC C_law_put_in hr (pa_cons (pv 3) (pa_cons pe_dnewK pa_nil)))))))))
    (pss_one (ps_ret pe_bl))
    pss_nil)
  (pss_one (ps_ret (pe_and (pe_callC C_law_known hr (pa_cons (pe_callC C_law_deeper hr (pa_cons (pv 3) (pa_cons pe_int pa_nil))) pa_nil)) (pe_one (pe_callC C_law_refuses hr (pa_cons (pv 1) (pa_cons (pv 3) (pa_cons (pv 4) pa_nil)))))))))))))), ?_⟩
  refine ⟨_, rfl, a, ns, rfl, hS, h63, fun d L H1 S1 p1 => ?_⟩
  have tb1 := tabs.ext S1
  refine ⟨_, rfl, d, L, ns, 0, 4, rfl, p1, by decide, by decide, by decide, fun na zs H2 hz hne hzl ena k2 p2 => ?_⟩
  have i1 : ∀ k : Nat, (1 : Int) + (k : Int) = ((1 + k : Nat) : Int) := fun k => by omega
  have i41 : ∀ k : Nat, (41 : Int) + (k : Int) = ((41 + k : Nat) : Int) := fun k => by omega
  have nad : na ≠ d := fun e => by
    obtain ⟨kvs, h⟩ := p2.isDk
    rw [e, h] at ena
    cases ena
  refine ⟨_, rfl, _, rfl, _, rfl, d, L, ns, _, 24, rfl, p2, by omega, by decide, by decide, fun r H3 r0 r1 k3 p3 => ⟨_, _, rfl, rfl, ?_⟩⟩
  obtain ⟨k, rfl⟩ : ∃ k : Nat, r = k := ⟨r.toNat, by omega⟩
  refine ⟨_, rfl, le1k, fun p0 H3b s3b e3b => ?_⟩
  refine ⟨d, L, ns, _, _, rfl, p3.same s3b, by omega, .inl ⟨p0, _, rfl, SqL.of e3b, by simp, le1k, fun x H4 hx k4 p4 => ?_⟩⟩
  obtain ⟨tl, rfl, t6, t12⟩ : ∃ t : Nat, x = .int t ∧ 5 ≤ t ∧ t ≤ 12 := by
    simp only [List.mem_cons, List.not_mem_nil, or_false] at hx
    rcases hx with rfl | rfl | rfl
    · exact ⟨5, rfl, by decide, by decide⟩
    · exact ⟨8, rfl, by decide, by decide⟩
    · exact ⟨12, rfl, by decide, by decide⟩
  have pow6 : 2 ^ 5 ≤ 2 ^ tl := Nat.pow_le_pow_right (show 0 < 2 by decide) t6
  have k24 : Keep d H2 H4 := (k3.trans (Same.toKeep s3b)).trans k4
  have en4 := k24 _ _ nad ena
  refine ⟨d, L, ns, _, na, zs, 1 + k, tl, congrArg (fun i => [V.ref d, V.ref na, V.int i, V.int (tl : Int)]) (i1 k), by omega, p4, by omega, SqL.of en4, hne, by omega, hz, by omega, by omega, by omega, by omega, fun v1 D1 H5 hd1 hf1 hl1 hn1 k5 p5 => ?_⟩
  have g5 : Fit1 K zs H5 v1 := .of hd1 hf1 t12 (by omega) hn1
  have en5 := k5 _ _ nad en4
  have k15 : Keep d H1 H5 := (k2.trans k24).trans k5
  refine ⟨_, rfl, d, L, ns, _, 3, rfl, p5, by omega, by decide, by decide, fun r6 H6 r60 r61 k6 p6 => ⟨rfl, _, rfl, ?_⟩⟩
  have g6 := g5.kt (kt_pen p5 k6)
  have en6 := k6 _ _ nad en5
  have k16 := k15.trans k6
  have tb6 := tabs_keep p1.isDk k16 tb1
  refine ite2 (fun _ => ?a) (fun _ => ?b)
  case' a =>
    refine ⟨_, rfl, _, rfl, _, rfl, d, L, ns, _, 160, rfl, p6, by omega, by decide, by decide, fun r H7 r0 r1 k7 p7 => ⟨_, _, rfl, rfl, ?_⟩⟩
    obtain ⟨kk, rfl⟩ : ∃ k : Nat, r = k := ⟨r.toNat, by omega⟩
    refine ⟨_, rfl, le1k, fun p0 H7b s7b e7b => ?_⟩
    refine ⟨d, L, ns, _, _, rfl, p7.same s7b, by omega, .inl ⟨p0, _, rfl, SqL.of e7b, by simp, le1k, fun x H8 hx k8 p8 => ?_⟩⟩
    obtain ⟨tk, rfl, tk6, tk12⟩ : ∃ t : Nat, x = .int t ∧ 8 ≤ t ∧ t ≤ 12 := by
      simp only [List.mem_cons, List.not_mem_nil, or_false] at hx
      rcases hx with rfl | rfl
      · exact ⟨8, rfl, by decide, by decide⟩
      · exact ⟨12, rfl, by decide, by decide⟩
    have pow7 : 2 ^ 8 ≤ 2 ^ tk := Nat.pow_le_pow_right (show 0 < 2 by decide) tk6
    have k68 : Keep d H6 H8 := (k7.trans (Same.toKeep s7b)).trans k8
    have en8 := k68 _ _ nad en6
    refine ⟨d, L, ns, _, na, zs, 41 + kk, tk, congrArg (fun i => [V.ref d, V.ref na, V.int i, V.int (tk : Int)]) (i41 kk), by omega, p8, by omega, SqL.of en8, hne, by omega, hz, by omega, by omega, by omega, by omega, fun v1 D9 H9 hd9 hf9 hl9 hn9 k9 p9 => ?_⟩
    have k69 := k68.trans k9
    have tb6 := tabs_keep p6.isDk k69 tb6
    have en6 := k9 _ _ nad en8
    have g6 : Fit1 K zs H9 v1 := .of hd9 hf9 tk12 (by omega) hn9
    have p6 : Pen K H9 d L ns 3000 := p9.mono (by omega)
    clear k9 p9 k68 k69 en8 p8 k8 hf9 hd9 hl9 hn9
    generalize H9 = H6' at *
  case' b =>
    have p6 : Pen K H6 d L ns 3000 := p6.mono (by omega)
    generalize H6 = H6' at *
  all_goals
    refine ⟨_, rfl, _, rfl, d, L, na, ns, 3000, zs, rfl, p6, by decide, en6, hne, hzl, hz, fun H8 pd kvs fd k8 p8 epd hv8 fok hfd hl6 npd => ?_⟩
    obtain ⟨zs2, rfl, en2, hp2⟩ := zs_of hv8
    have g8 := g6.kt (kt_pen p6 k8)
    have tb8 := tabs_keep p6.isDk k8 tb6
    obtain ⟨t, hf8, ok, hd, hlv, hnm⟩ := g8
    have fit : Fit t := ⟨ok, hd, by omega, zs, by omega, hnm⟩
    have Z8 : FDz K H8 pd zs2 fd := ⟨epd, en2, hp2, fok⟩
    refine ⟨_, rfl, _, t, rfl, hf8, fit, fun H9 s9 => ⟨true, rfl, ?_⟩⟩
    have Z9 := Z8.x (LamX.ExtN.of s9)
    have tb9 := tb8.ext s9
    have hf9 := (Same.kt s9).fm _ hf8
    refine ⟨_, rfl, _, rfl, _, pd, t, zs2, fd, rfl, hf9, ok, hd, Z9.is, Z9.nm, Z9.pr, Z9.ok, tb9, fun H10 x10 tb10 => ⟨true, rfl, ?_⟩⟩
    have hf10 := (kt_x x10).fm _ hf9
    refine ⟨_, rfl, fun pe npe => ?_⟩
    have s11 := same_new npe (.dK [])
    have e11 : upd H10 pe (.dK []) pe = some (.dK []) := upd_same
    have tb11 := tb10.ext s11
    generalize upd H10 pe (.dK []) = H11 at *
    have hf11 := (Same.kt s11).fm _ hf10
    refine ⟨_, pe, t, [], [], rfl, hf11, ok, hd, e11, rfl, .nil, ⟨Nat.zero_le _, List.nodup_nil, fun _ h => by cases h⟩, tb11, fun H12 x12 tb12 => ⟨true, rfl, iteF ?_⟩⟩
    have x912 := (x10.trans (LamX.ExtN.of s11)).trans x12
    have x812 := (LamX.ExtN.of s9).trans x912
    have hf12 := (kt_x x812).fm _ hf8
    refine ⟨_, rfl, _, t.data, 12, rfl, by decide, by decide, FT.of_fm t hf12, ft_isForm t ok hd, fun v5 D5 H13 h5 d5 l5 sb5 s13 => ?_⟩
    have f5 : isForm 12 D5 = true := by
      rcases d5 with d5 | ⟨_, d5⟩
      · exact d5.1
      · exact d5
    obtain ⟨t5, rfl, ok5, hd5⟩ := ft_of f5
    rw [lvs_one, lvs_one] at l5
    have fit5 : Fit t5 := ⟨ok5, hd5, by omega, Str.ofString "a" :: Str.ofString "b" :: zs, by simp only [List.length_cons]; omega, fun z hz => by
      obtain ⟨w, hw⟩ := nms_lv t5 z hz
      rcases sb5 _ hw with h | h | h
      · exact List.mem_cons_of_mem _ (List.mem_cons_of_mem _ (hnm z (lv_nms t w z h)))
      · injection h with h
        injection h with _ h
        injection h with h _
        injection h with h
        rw [h]
        exact List.mem_cons_self
      · injection h with h
        injection h with _ h
        injection h with h _
        injection h with h
        rw [h]
        exact List.mem_cons_of_mem _ List.mem_cons_self⟩
    refine ⟨v5, t5, rfl, fm_of_dp t5 h5, fit5, fun H14 s14 => ⟨true, rfl, iteT ?_⟩⟩
    have s1214 := s13.trans s14
    have x814 := x812.trans (LamX.ExtN.of s1214)
    exact ⟨_, rfl, _, rfl, _, rfl, d, L, pd, ns, _, _, t, zs2, fd, rfl, Pen.x x814 p8, by omega, (kt_x x814).fm _ hf8, ok, hd, Z8.x x814, npd, tb12.ext s1214, q⟩
end
end My

set_option Elab.async false
set_option linter.all false
set_option maxRecDepth 100000
namespace My
open PySem L2
section
variable {P : Program} {w : World} {K : PySem.W.Frag} {mg : Str → Option Value} {base : Heap} {f : Addr} {fd : FuncData}
theorem vac {C : CXT} {k : Nat} {ps : List Str} {sp : Sp} (no : ∀ vs H Q E, ¬ sp vs H Q E) : FnOk P w K mg base C k f fd ps sp :=
  ⟨fun vs H Q E h => absurd h (no vs H Q E), fun A outer s H args us vs Q E _ _ _ _ h => absurd h (no vs H Q E)⟩
theorem all_fits_form (T : Txt K mg) (F : Fun K "fits_form" "fits_form" sfits_form f fd) (b : Binds K fd Pfits_form []) (m : mg "fits_form" = some (.ref f)) (C : Cal P w K mg base "fits_name" 2 ["value"] (spName K)) : ∀ n : Nat, FnOk P w K mg base CX0 (2 + n) f fd Pfits_form (spForm K n)
  | 0 => vac fun vs H Q E ⟨_, k, _, h, _⟩ => Nat.not_lt_zero k h
  | n + 1 => ok_fits_form T F C ⟨f, fd, all_fits_form T F b m C n, m, F.kp, b⟩
theorem all_law_same (T : Txt K mg) (zip : mg "zip" = none) (F : Fun K "_law_same" "_law_same" s_law_same f fd) (b : Binds K fd P_law_same []) (m : mg "_law_same" = some (.ref f)) : ∀ n : Nat, FnOk P w K mg base CX0 (1 + n) f fd P_law_same (spSame w K n)
  | 0 => vac fun vs H Q E ⟨_, _, _, h, _⟩ => h
  | n + 1 => ok_law_same T zip F ⟨f, fd, all_law_same T zip F b m n, m, F.kp, b⟩
theorem all_law_is_form (T : Txt K mg) (F : Fun K "_law_is_form" "_law_is_form" s_law_is_form f fd) (b : Binds K fd P_law_is_form []) (m : mg "_law_is_form" = some (.ref f)) (C : Cal P w K mg base "_law_is_name" 2 ["_law_value"] (spName K)) : ∀ n : Nat, FnOk P w K mg base CX0 (2 + n) f fd P_law_is_form (spFormL K n)
  | 0 => vac fun vs H Q E ⟨_, k, _, _, h, _⟩ => Nat.not_lt_zero k h
  | n + 1 => ok_law_is_form T F C ⟨f, fd, all_law_is_form T F b m C n, m, F.kp, b⟩
theorem all_law_depth (T : Txt K mg) (F : Fun K "_law_depth" "_law_depth" s_law_depth f fd) (b : Binds K fd P_law_depth []) (m : mg "_law_depth" = some (.ref f)) : ∀ n : Nat, FnOk P w K mg base CX0 n f fd P_law_depth (spDepth K n)
  | 0 => vac fun vs H Q E ⟨_, _, k, _, h, _⟩ => Nat.not_lt_zero k h
  | n + 1 => ok_law_depth T F ⟨f, fd, all_law_depth T F b m n, m, F.kp, b⟩
theorem all_law_shape (T : Txt K mg) (F : Fun K "_law_shape" "_law_shape" s_law_shape f fd) (b : Binds K fd P_law_shape []) (m : mg "_law_shape" = some (.ref f)) (C1 : Cal P w K mg base "_law_draw" 1 P_law_draw (spDraw K)) (C2 : Cal P w K mg base "_law_pick" 2 P_law_pick (spPick K)) : ∀ n : Nat, FnOk P w K mg base CX0 (2 + n) f fd P_law_shape (spShape K n)
  | 0 => vac fun vs H Q E ⟨_, _, _, _, _, _, _, t, _, h, _⟩ => Nat.not_lt_zero t h
  | n + 1 => ok_law_shape T F C1 C2 ⟨f, fd, all_law_shape T F b m C1 C2 n, m, F.kp, b⟩
theorem all_law_bent (T : Txt K mg) (F : Fun K "_law_bent" "_law_bent" s_law_bent f fd) (b : Binds K fd P_law_bent []) (m : mg "_law_bent" = some (.ref f)) (C1 : Cal P w K mg base "_law_draw" 1 P_law_draw (spDraw K)) (C2 : Cal P w K mg base "_law_pick" 2 P_law_pick (spPick K)) (C3 : Cal P w K mg base "_law_bent_name" 3 P_law_bent_name (spBentName K)) : ∀ n : Nat, FnOk P w K mg base CX0 (3 + n) f fd P_law_bent (spBent K n)
  | 0 => vac fun vs H Q E ⟨_, _, _, _, _, _, k, _, h, _⟩ => Nat.not_lt_zero k h
  | n + 1 => ok_law_bent T F C1 C2 C3 ⟨f, fd, all_law_bent T F b m C1 C2 C3 n, m, F.kp, b⟩
theorem all_counter_of (Y : TxtC K mg w) (F : Fun K "counter_of" "counter_of" scounter_of f fd) (b : Binds K fd Pcounter_of []) (m : mg "counter_of" = some (.ref f)) (C : Cal P w K mg base "is_leaf" 1 Nis_leaf (spLeafT K)) : ∀ n : Nat, FnOk P w K mg base CX0 (1 + n) f fd Pcounter_of (spCounterOf K n)
  | 0 => vac fun vs H Q E ⟨_, _, _, _, h, _⟩ => Nat.not_lt_zero _ h
  | n + 1 => okcounter_of Y C F ⟨f, fd, all_counter_of Y F b m C n, m, F.kp, b⟩
theorem all_depth_of (T : Txt K mg) (F : Fun K "depth_of" "depth_of" sdepth_of f fd) (b : Binds K fd Pdepth_of []) (m : mg "depth_of" = some (.ref f)) (C : Cal P w K mg base "is_leaf" 1 Nis_leaf (spLeafT K)) : ∀ n : Nat, FnOk P w K mg base CX0 (1 + n) f fd Pdepth_of (spDepthOf K n)
  | 0 => vac fun vs H Q E ⟨_, _, _, _, h, _⟩ => Nat.not_lt_zero _ h
  | n + 1 => okdepth_of T C F ⟨f, fd, all_depth_of T F b m C n, m, F.kp, b⟩
theorem all_goods_of (F : Fun K "goods_of" "goods_of" sgoods_of f fd) (b : Binds K fd Pgoods_of []) (m : mg "goods_of" = some (.ref f)) (C : Cal P w K mg base "is_leaf" 1 Nis_leaf (spLeafT K)) : ∀ n : Nat, FnOk P w K mg base CX0 (1 + n) f fd Pgoods_of (spGoodsOf K n)
  | 0 => vac fun vs H Q E ⟨_, _, _, _, h, _⟩ => Nat.not_lt_zero _ h
  | n + 1 => okgoods_of C F ⟨f, fd, all_goods_of F b m C n, m, F.kp, b⟩
theorem all_form_with (F : Fun K "form_with" "form_with" sform_with f fd) (b : Binds K fd Pform_with []) (m : mg "form_with" = some (.ref f)) (C : Cal P w K mg base "is_leaf" 1 Nis_leaf (spLeafT K)) (C2 : Cal P w K mg base "counter_of" 14 Pcounter_of (spCounterOf K 13)) : ∀ n : Nat, FnOk P w K mg base CX0 (14 + n) f fd Pform_with (spPut K n)
  | 0 => vac fun vs H Q E ⟨_, _, _, _, _, _, h, _⟩ => Nat.not_lt_zero _ h
  | n + 1 => okform_with C C2 F ⟨f, fd, all_form_with F b m C C2 n, m, F.kp, b⟩
theorem all_depth_with (T : Txt K mg) (F : Fun K "depth_with" "depth_with" sdepth_with f fd) (b : Binds K fd Pdepth_with []) (m : mg "depth_with" = some (.ref f)) (C : Cal P w K mg base "is_leaf" 1 Nis_leaf (spLeafT K)) : ∀ n : Nat, FnOk P w K mg base CX0 (1 + n) f fd Pdepth_with (spDepthW K n)
  | 0 => vac fun vs H Q E ⟨_, _, _, _, _, _, _, h, _⟩ => Nat.not_lt_zero _ h
  | n + 1 => okdepth_with T C F ⟨f, fd, all_depth_with T F b m C n, m, F.kp, b⟩
theorem all_law_counter (F : Fun K "_law_counter" "_law_counter" s_law_counter f fd) (b : Binds K fd P_law_counter []) (m : mg "_law_counter" = some (.ref f)) : ∀ n : Nat, FnOk P w K mg base CX0 n f fd P_law_counter (spCounterOf K n)
  | 0 => vac fun vs H Q E ⟨_, _, _, _, h, _⟩ => Nat.not_lt_zero _ h
  | n + 1 => ok_law_counter F ⟨f, fd, all_law_counter F b m n, m, F.kp, b⟩
theorem all_law_leaves (T : Txt K mg) (F : Fun K "_law_leaves" "_law_leaves" s_law_leaves f fd) (b : Binds K fd P_law_leaves []) (m : mg "_law_leaves" = some (.ref f)) : ∀ n : Nat, FnOk P w K mg base CX0 n f fd P_law_leaves (spLLeaves K n)
  | 0 => vac fun vs H Q E ⟨_, _, _, _, h, _⟩ => Nat.not_lt_zero _ h
  | n + 1 => ok_law_leaves T F ⟨f, fd, all_law_leaves T F b m n, m, F.kp, b⟩
theorem all_law_put (T : Txt K mg) (F : Fun K "_law_put" "_law_put" s_law_put f fd) (b : Binds K fd P_law_put []) (m : mg "_law_put" = some (.ref f)) (C : Cal P w K mg base "_law_counter" 13 P_law_counter (spCounterOf K 13)) : ∀ n : Nat, FnOk P w K mg base CX0 (14 + n) f fd P_law_put (spPut K n)
  | 0 => vac fun vs H Q E ⟨_, _, _, _, _, _, h, _⟩ => Nat.not_lt_zero _ h
  | n + 1 => ok_law_put T C F ⟨f, fd, all_law_put T F b m C n, m, F.kp, b⟩
theorem sc_i3 : FnScope ["self", "most"] ["self", "most"] (defScope (meth 3 0)) := ⟨rfl, rfl, rfl, by decide +kernel, rfl, by decide +kernel, by decide +kernel⟩
theorem ok_i3 (C : Addr) (F : Fun K "__init__" "TooDeep.__init__" (meth 3 0) f fd) : FnOk P w K mg base CX0 1 f fd ["self", "most"] (spInit K C "most") := by
  refine F.ok sc_i3 (fun vs H Q E h => ?_) (fun cdv A outer s H vs Q E hr h => ?_)
  · obtain ⟨a, v, rfl, _⟩ := h
    rfl
  obtain ⟨a, v, rfl, ea, T, no, q⟩ := h
  refine ⟨_, pss_one (ps_ost (pv 0) (pv 1)), ?_⟩
  exact ⟨v, rfl, _, rfl, a, C, rfl, T, no, .inl ⟨ea, fun dx n ne => q dx n ne⟩⟩
abbrev Pis_leaf : List Str := Nis_leaf
abbrev Pcheck_form : List Str := Nis_leaf
end
/-- whether an error of the class at A is what «except B» names -/
theorem exm_two {K : PySem.W.Frag} {A B : Addr} {b : Bool} (h1 : PySem.W.subIn K (.ref B) (.type "BaseException") = some true) (h2 : PySem.W.isClsIn K B = true) (h3 : PySem.W.typeIn K (.ref B) = some (.type "type")) (h4 : PySem.W.subIn K (.ref A) (.ref B) = some b) : PySem.W.exmOne K (.ref A) (.ref B) = some b := by
  have e1 : (PySem.W.subIn K (.ref B) (.type "BaseException") == some true) = true := by rw [h1] <;> rfl
  have e2 : ((PySem.W.clsIn K B).isSome && PySem.W.typeIn K (.ref B) == some (.type "type")) = true := by
    have h2' : (PySem.W.clsIn K B).isSome = true := h2
    rw [h2', h3] <;> rfl
  show (if (PySem.W.subIn K (.ref B) (.type "BaseException") == some true) = true then (if ((PySem.W.clsIn K B).isSome && PySem.W.typeIn K (.ref B) == some (.type "type")) = true then PySem.W.subIn K (.ref A) (.ref B) else none) else none) = some b
  rw [if_pos e1, if_pos e2]
  exact h4
set_option maxHeartbeats 0 in
theorem all_mk {l : PySem.W.OpenLaw} {w : World} {K : PySem.W.Frag} {h : Heap} {mg : Str → Option Value} {fa f1 f2 f3 f4 f5 f6 f7 f8 f9 f10 f11 f12 f13 f14 f15 f16 f17 f18 f19 f20 f21 f22 f23 f24 f25 f26 f27 f28 f29 f30 f31 f32 f33 f34 f35 f36 f37 f38 f39 f40 f41 f42 f43 aL aH aC EB EN ED EM cc1 cc2 Pt1 Pt2 : Addr} (X : K.In h) (G : h.Ns mainGlobals mg) (hfa : mg "law" = some (.ref fa))
    {od1 an1 od2 an2 od3 an3 od4 an4 od5 an5 od6 an6 od7 an7 od8 an8 od9 an9 od10 an10 od11 an11 od12 an12 od13 an13 od14 an14 od15 an15 od16 an16 od17 an17 od18 an18 od19 an19 od20 an20 od21 an21 od22 an22 od23 an23 od24 an24 od25 an25 od26 an26 od27 an27 od28 an28 od29 an29 od30 an30 od31 an31 od32 an32 od33 an33 od34 an34 od35 an35 od36 an36 od37 an37 od38 an38 od39 an39 od40 an40 od41 an41 od42 an42 od43 an43 odL odH : Option Addr} {sl1 sl2 sl3 sl4 sl5 sl6 sl7 sl8 sl9 sl10 sl11 sl12 sl13 sl14 sl15 sl16 sl17 sl18 sl19 sl20 sl21 sl22 sl23 sl24 sl25 sl26 sl27 sl28 sl29 sl30 sl31 sl32 sl33 sl34 sl35 sl36 sl37 sl38 sl39 sl40 sl41 sl42 sl43 slL slH : Array (Option Value)} {oc1 kV1 dc1 pm1 cd1 ct1 oc2 kV2 dc2 pm2 cd2 ct2 oc3 kV3 dc3 pm3 cd3 ct3 oc4 kV4 dc4 pm4 cd4 ct4 oc5 kV5 dc5 pm5 cd5 ct5 oc6 kV6 dc6 pm6 cd6 ct6 oc7 kV7 dc7 pm7 cd7 ct7 oc8 kV8 dc8 pm8 cd8 ct8 oc9 kV9 dc9 pm9 cd9 ct9 oc10 kV10 dc10 pm10 cd10 ct10 oc11 kV11 dc11 pm11 cd11 ct11 oc12 kV12 dc12 pm12 cd12 ct12 oc13 kV13 dc13 pm13 cd13 ct13 oc14 kV14 dc14 pm14 cd14 ct14 oc15 kV15 dc15 pm15 cd15 ct15 oc16 kV16 dc16 pm16 cd16 ct16 oc17 kV17 dc17 pm17 cd17 ct17 oc18 kV18 dc18 pm18 cd18 ct18 oc19 kV19 dc19 pm19 cd19 ct19 oc20 kV20 dc20 pm20 cd20 ct20 oc21 kV21 dc21 pm21 cd21 ct21 oc22 kV22 dc22 pm22 cd22 ct22 oc23 kV23 dc23 pm23 cd23 ct23 oc24 kV24 dc24 pm24 cd24 ct24 oc25 kV25 dc25 pm25 cd25 ct25 oc26 kV26 dc26 pm26 cd26 ct26 oc27 kV27 dc27 pm27 cd27 ct27 oc28 kV28 dc28 pm28 cd28 ct28 oc29 kV29 dc29 pm29 cd29 ct29 oc30 kV30 dc30 pm30 cd30 ct30 oc31 kV31 dc31 pm31 cd31 ct31 oc32 kV32 dc32 pm32 cd32 ct32 oc33 kV33 dc33 pm33 cd33 ct33 oc34 kV34 dc34 pm34 cd34 ct34 oc35 kV35 dc35 pm35 cd35 ct35 oc36 kV36 dc36 pm36 cd36 ct36 oc37 kV37 dc37 pm37 cd37 ct37 oc38 kV38 dc38 pm38 ct38 oc39 kV39 dc39 pm39 cd39 ct39 oc40 kV40 dc40 pm40 ct40 oc41 kV41 dc41 pm41 cd41 ct41 oc42 kV42 dc42 pm42 cd42 ct42 oc43 kV43 dc43 pm43 cd43 ct43 : Value} {tl td tn tp u1 u2 u3 u4 u5 u6 v1 v2 v3 v4 v5 v6 : Tok} {nL nH nC : Nat} {esC : Array DictEntry}
    {nmB qB : Str} {NB : Addr} {bsB bmB : List Value} {snB : List Str} {subB : List Value} {abB : Bool} {colB : Option Bool} {ddB : Option Addr} {mz0B mz1B mz2B mz3B mz5B : Option Value}
    {nmD qD : Str} {ND : Addr} {bsD bmD : List Value} {snD : List Str} {subD : List Value} {abD : Bool} {colD : Option Bool} {ddD : Option Addr} {mz0D mz1D mz2D mz3D mz5D : Option Value}
    (tP1 : h.get? Pt1 = some { cls := .none, data := .fields #[] })
    (tP2 : h.get? Pt2 = some { cls := .none, data := .fields #[] })
    (tD : Pt1 ≠ Pt2)
    (a1 : PySem.W.nsIn K mainGlobals "fits_name" = some (some (.ref f1)))
    (l1 : K.lookup f1 = some ⟨oc1, od1, .func (PySem.W.fnOf "fits_name" "fits_name" (defArgs sfits_name) (defBody sfits_name) (defScope sfits_name) .none kV1 dc1 pm1 an1 cd1 ct1), sl1⟩)
    (c1 : PySem.W.codeIn K cd1 "fits_name" = true)
    (k1 : PySem.W.keepIn K (.ref f1) = true)
    (a2 : PySem.W.nsIn K mainGlobals "fits_form" = some (some (.ref f2)))
    (l2 : K.lookup f2 = some ⟨oc2, od2, .func (PySem.W.fnOf "fits_form" "fits_form" (defArgs sfits_form) (defBody sfits_form) (defScope sfits_form) .none kV2 dc2 pm2 an2 cd2 ct2), sl2⟩)
    (c2 : PySem.W.codeIn K cd2 "fits_form" = true)
    (k2 : PySem.W.keepIn K (.ref f2) = true)
    (a3 : PySem.W.nsIn K mainGlobals "is_leaf" = some (some (.ref f3)))
    (l3 : K.lookup f3 = some ⟨oc3, od3, .func (PySem.W.fnOf "is_leaf" "is_leaf" (defArgs sis_leaf) (defBody sis_leaf) (defScope sis_leaf) .none kV3 dc3 pm3 an3 cd3 ct3), sl3⟩)
    (c3 : PySem.W.codeIn K cd3 "is_leaf" = true)
    (k3 : PySem.W.keepIn K (.ref f3) = true)
    (a4 : PySem.W.nsIn K mainGlobals "counter_of" = some (some (.ref f4)))
    (l4 : K.lookup f4 = some ⟨oc4, od4, .func (PySem.W.fnOf "counter_of" "counter_of" (defArgs scounter_of) (defBody scounter_of) (defScope scounter_of) .none kV4 dc4 pm4 an4 cd4 ct4), sl4⟩)
    (c4 : PySem.W.codeIn K cd4 "counter_of" = true)
    (k4 : PySem.W.keepIn K (.ref f4) = true)
    (a5 : PySem.W.nsIn K mainGlobals "depth_of" = some (some (.ref f5)))
    (l5 : K.lookup f5 = some ⟨oc5, od5, .func (PySem.W.fnOf "depth_of" "depth_of" (defArgs sdepth_of) (defBody sdepth_of) (defScope sdepth_of) .none kV5 dc5 pm5 an5 cd5 ct5), sl5⟩)
    (c5 : PySem.W.codeIn K cd5 "depth_of" = true)
    (k5 : PySem.W.keepIn K (.ref f5) = true)
    (a6 : PySem.W.nsIn K mainGlobals "goods_of" = some (some (.ref f6)))
    (l6 : K.lookup f6 = some ⟨oc6, od6, .func (PySem.W.fnOf "goods_of" "goods_of" (defArgs sgoods_of) (defBody sgoods_of) (defScope sgoods_of) .none kV6 dc6 pm6 an6 cd6 ct6), sl6⟩)
    (c6 : PySem.W.codeIn K cd6 "goods_of" = true)
    (k6 : PySem.W.keepIn K (.ref f6) = true)
    (a7 : PySem.W.nsIn K mainGlobals "form_with" = some (some (.ref f7)))
    (l7 : K.lookup f7 = some ⟨oc7, od7, .func (PySem.W.fnOf "form_with" "form_with" (defArgs sform_with) (defBody sform_with) (defScope sform_with) .none kV7 dc7 pm7 an7 cd7 ct7), sl7⟩)
    (c7 : PySem.W.codeIn K cd7 "form_with" = true)
    (k7 : PySem.W.keepIn K (.ref f7) = true)
    (a8 : PySem.W.nsIn K mainGlobals "depth_with" = some (some (.ref f8)))
    (l8 : K.lookup f8 = some ⟨oc8, od8, .func (PySem.W.fnOf "depth_with" "depth_with" (defArgs sdepth_with) (defBody sdepth_with) (defScope sdepth_with) .none kV8 dc8 pm8 an8 cd8 ct8), sl8⟩)
    (c8 : PySem.W.codeIn K cd8 "depth_with" = true)
    (k8 : PySem.W.keepIn K (.ref f8) = true)
    (a9 : PySem.W.nsIn K mainGlobals "check_form" = some (some (.ref f9)))
    (l9 : K.lookup f9 = some ⟨oc9, od9, .func (PySem.W.fnOf "check_form" "check_form" (defArgs scheck_form) (defBody scheck_form) (defScope scheck_form) .none kV9 dc9 pm9 an9 cd9 ct9), sl9⟩)
    (c9 : PySem.W.codeIn K cd9 "check_form" = true)
    (k9 : PySem.W.keepIn K (.ref f9) = true)
    (a10 : PySem.W.nsIn K mainGlobals "check_forms" = some (some (.ref f10)))
    (l10 : K.lookup f10 = some ⟨oc10, od10, .func (PySem.W.fnOf "check_forms" "check_forms" (defArgs scheck_forms) (defBody scheck_forms) (defScope scheck_forms) .none kV10 dc10 pm10 an10 cd10 ct10), sl10⟩)
    (c10 : PySem.W.codeIn K cd10 "check_forms" = true)
    (k10 : PySem.W.keepIn K (.ref f10) = true)
    (a11 : PySem.W.nsIn K mainGlobals "counter" = some (some (.ref f11)))
    (l11 : K.lookup f11 = some ⟨oc11, od11, .func (PySem.W.fnOf "counter" "counter" (defArgs scounter) (defBody scounter) (defScope scounter) .none kV11 dc11 pm11 an11 cd11 ct11), sl11⟩)
    (c11 : PySem.W.codeIn K cd11 "counter" = true)
    (k11 : PySem.W.keepIn K (.ref f11) = true)
    (a12 : PySem.W.nsIn K mainGlobals "depth" = some (some (.ref f12)))
    (l12 : K.lookup f12 = some ⟨oc12, od12, .func (PySem.W.fnOf "depth" "depth" (defArgs sdepth) (defBody sdepth) (defScope sdepth) .none kV12 dc12 pm12 an12 cd12 ct12), sl12⟩)
    (c12 : PySem.W.codeIn K cd12 "depth" = true)
    (k12 : PySem.W.keepIn K (.ref f12) = true)
    (a13 : PySem.W.nsIn K mainGlobals "goods" = some (some (.ref f13)))
    (l13 : K.lookup f13 = some ⟨oc13, od13, .func (PySem.W.fnOf "goods" "goods" (defArgs sgoods) (defBody sgoods) (defScope sgoods) .none kV13 dc13 pm13 an13 cd13 ct13), sl13⟩)
    (c13 : PySem.W.codeIn K cd13 "goods" = true)
    (k13 : PySem.W.keepIn K (.ref f13) = true)
    (a14 : PySem.W.nsIn K mainGlobals "with_forms" = some (some (.ref f14)))
    (l14 : K.lookup f14 = some ⟨oc14, od14, .func (PySem.W.fnOf "with_forms" "with_forms" (defArgs swith_forms) (defBody swith_forms) (defScope swith_forms) .none kV14 dc14 pm14 an14 cd14 ct14), sl14⟩)
    (c14 : PySem.W.codeIn K cd14 "with_forms" = true)
    (k14 : PySem.W.keepIn K (.ref f14) = true)
    (a15 : PySem.W.nsIn K mainGlobals "_law_begin" = some (some (.ref f15)))
    (l15 : K.lookup f15 = some ⟨oc15, od15, .func (PySem.W.fnOf "_law_begin" "_law_begin" (defArgs s_law_begin) (defBody s_law_begin) (defScope s_law_begin) .none kV15 dc15 pm15 an15 cd15 ct15), sl15⟩)
    (c15 : PySem.W.codeIn K cd15 "_law_begin" = true)
    (k15 : PySem.W.keepIn K (.ref f15) = true)
    (a16 : PySem.W.nsIn K mainGlobals "_law_draw" = some (some (.ref f16)))
    (l16 : K.lookup f16 = some ⟨oc16, od16, .func (PySem.W.fnOf "_law_draw" "_law_draw" (defArgs s_law_draw) (defBody s_law_draw) (defScope s_law_draw) .none kV16 dc16 pm16 an16 cd16 ct16), sl16⟩)
    (c16 : PySem.W.codeIn K cd16 "_law_draw" = true)
    (k16 : PySem.W.keepIn K (.ref f16) = true)
    (a17 : PySem.W.nsIn K mainGlobals "_law_pick" = some (some (.ref f17)))
    (l17 : K.lookup f17 = some ⟨oc17, od17, .func (PySem.W.fnOf "_law_pick" "_law_pick" (defArgs s_law_pick) (defBody s_law_pick) (defScope s_law_pick) .none kV17 dc17 pm17 an17 cd17 ct17), sl17⟩)
    (c17 : PySem.W.codeIn K cd17 "_law_pick" = true)
    (k17 : PySem.W.keepIn K (.ref f17) = true)
    (a18 : PySem.W.nsIn K mainGlobals "_law_shuffled" = some (some (.ref f18)))
    (l18 : K.lookup f18 = some ⟨oc18, od18, .func (PySem.W.fnOf "_law_shuffled" "_law_shuffled" (defArgs s_law_shuffled) (defBody s_law_shuffled) (defScope s_law_shuffled) .none kV18 dc18 pm18 an18 cd18 ct18), sl18⟩)
    (c18 : PySem.W.codeIn K cd18 "_law_shuffled" = true)
    (k18 : PySem.W.keepIn K (.ref f18) = true)
    (a19 : PySem.W.nsIn K mainGlobals "_law_counter" = some (some (.ref f19)))
    (l19 : K.lookup f19 = some ⟨oc19, od19, .func (PySem.W.fnOf "_law_counter" "_law_counter" (defArgs s_law_counter) (defBody s_law_counter) (defScope s_law_counter) .none kV19 dc19 pm19 an19 cd19 ct19), sl19⟩)
    (c19 : PySem.W.codeIn K cd19 "_law_counter" = true)
    (k19 : PySem.W.keepIn K (.ref f19) = true)
    (a20 : PySem.W.nsIn K mainGlobals "_law_leaves" = some (some (.ref f20)))
    (l20 : K.lookup f20 = some ⟨oc20, od20, .func (PySem.W.fnOf "_law_leaves" "_law_leaves" (defArgs s_law_leaves) (defBody s_law_leaves) (defScope s_law_leaves) .none kV20 dc20 pm20 an20 cd20 ct20), sl20⟩)
    (c20 : PySem.W.codeIn K cd20 "_law_leaves" = true)
    (k20 : PySem.W.keepIn K (.ref f20) = true)
    (a21 : PySem.W.nsIn K mainGlobals "_law_depth" = some (some (.ref f21)))
    (l21 : K.lookup f21 = some ⟨oc21, od21, .func (PySem.W.fnOf "_law_depth" "_law_depth" (defArgs s_law_depth) (defBody s_law_depth) (defScope s_law_depth) .none kV21 dc21 pm21 an21 cd21 ct21), sl21⟩)
    (c21 : PySem.W.codeIn K cd21 "_law_depth" = true)
    (k21 : PySem.W.keepIn K (.ref f21) = true)
    (a22 : PySem.W.nsIn K mainGlobals "_law_same" = some (some (.ref f22)))
    (l22 : K.lookup f22 = some ⟨oc22, od22, .func (PySem.W.fnOf "_law_same" "_law_same" (defArgs s_law_same) (defBody s_law_same) (defScope s_law_same) .none kV22 dc22 pm22 an22 cd22 ct22), sl22⟩)
    (c22 : PySem.W.codeIn K cd22 "_law_same" = true)
    (k22 : PySem.W.keepIn K (.ref f22) = true)
    (a23 : PySem.W.nsIn K mainGlobals "_law_fault" = some (some (.ref f23)))
    (l23 : K.lookup f23 = some ⟨oc23, od23, .func (PySem.W.fnOf "_law_fault" "_law_fault" (defArgs s_law_fault) (defBody s_law_fault) (defScope s_law_fault) .none kV23 dc23 pm23 an23 cd23 ct23), sl23⟩)
    (c23 : PySem.W.codeIn K cd23 "_law_fault" = true)
    (k23 : PySem.W.keepIn K (.ref f23) = true)
    (a24 : PySem.W.nsIn K mainGlobals "_law_faults" = some (some (.ref f24)))
    (l24 : K.lookup f24 = some ⟨oc24, od24, .func (PySem.W.fnOf "_law_faults" "_law_faults" (defArgs s_law_faults) (defBody s_law_faults) (defScope s_law_faults) .none kV24 dc24 pm24 an24 cd24 ct24), sl24⟩)
    (c24 : PySem.W.codeIn K cd24 "_law_faults" = true)
    (k24 : PySem.W.keepIn K (.ref f24) = true)
    (a25 : PySem.W.nsIn K mainGlobals "_law_name" = some (some (.ref f25)))
    (l25 : K.lookup f25 = some ⟨oc25, od25, .func (PySem.W.fnOf "_law_name" "_law_name" (defArgs s_law_name) (defBody s_law_name) (defScope s_law_name) .none kV25 dc25 pm25 an25 cd25 ct25), sl25⟩)
    (c25 : PySem.W.codeIn K cd25 "_law_name" = true)
    (k25 : PySem.W.keepIn K (.ref f25) = true)
    (a26 : PySem.W.nsIn K mainGlobals "_law_names" = some (some (.ref f26)))
    (l26 : K.lookup f26 = some ⟨oc26, od26, .func (PySem.W.fnOf "_law_names" "_law_names" (defArgs s_law_names) (defBody s_law_names) (defScope s_law_names) .none kV26 dc26 pm26 an26 cd26 ct26), sl26⟩)
    (c26 : PySem.W.codeIn K cd26 "_law_names" = true)
    (k26 : PySem.W.keepIn K (.ref f26) = true)
    (a27 : PySem.W.nsIn K mainGlobals "_law_shape" = some (some (.ref f27)))
    (l27 : K.lookup f27 = some ⟨oc27, od27, .func (PySem.W.fnOf "_law_shape" "_law_shape" (defArgs s_law_shape) (defBody s_law_shape) (defScope s_law_shape) .none kV27 dc27 pm27 an27 cd27 ct27), sl27⟩)
    (c27 : PySem.W.codeIn K cd27 "_law_shape" = true)
    (k27 : PySem.W.keepIn K (.ref f27) = true)
    (a28 : PySem.W.nsIn K mainGlobals "_law_is_name" = some (some (.ref f28)))
    (l28 : K.lookup f28 = some ⟨oc28, od28, .func (PySem.W.fnOf "_law_is_name" "_law_is_name" (defArgs s_law_is_name) (defBody s_law_is_name) (defScope s_law_is_name) .none kV28 dc28 pm28 an28 cd28 ct28), sl28⟩)
    (c28 : PySem.W.codeIn K cd28 "_law_is_name" = true)
    (k28 : PySem.W.keepIn K (.ref f28) = true)
    (a29 : PySem.W.nsIn K mainGlobals "_law_is_form" = some (some (.ref f29)))
    (l29 : K.lookup f29 = some ⟨oc29, od29, .func (PySem.W.fnOf "_law_is_form" "_law_is_form" (defArgs s_law_is_form) (defBody s_law_is_form) (defScope s_law_is_form) .none kV29 dc29 pm29 an29 cd29 ct29), sl29⟩)
    (c29 : PySem.W.codeIn K cd29 "_law_is_form" = true)
    (k29 : PySem.W.keepIn K (.ref f29) = true)
    (a30 : PySem.W.nsIn K mainGlobals "_law_bent_name" = some (some (.ref f30)))
    (l30 : K.lookup f30 = some ⟨oc30, od30, .func (PySem.W.fnOf "_law_bent_name" "_law_bent_name" (defArgs s_law_bent_name) (defBody s_law_bent_name) (defScope s_law_bent_name) .none kV30 dc30 pm30 an30 cd30 ct30), sl30⟩)
    (c30 : PySem.W.codeIn K cd30 "_law_bent_name" = true)
    (k30 : PySem.W.keepIn K (.ref f30) = true)
    (a31 : PySem.W.nsIn K mainGlobals "_law_bent" = some (some (.ref f31)))
    (l31 : K.lookup f31 = some ⟨oc31, od31, .func (PySem.W.fnOf "_law_bent" "_law_bent" (defArgs s_law_bent) (defBody s_law_bent) (defScope s_law_bent) .none kV31 dc31 pm31 an31 cd31 ct31), sl31⟩)
    (c31 : PySem.W.codeIn K cd31 "_law_bent" = true)
    (k31 : PySem.W.keepIn K (.ref f31) = true)
    (a32 : PySem.W.nsIn K mainGlobals "_law_deeper" = some (some (.ref f32)))
    (l32 : K.lookup f32 = some ⟨oc32, od32, .func (PySem.W.fnOf "_law_deeper" "_law_deeper" (defArgs s_law_deeper) (defBody s_law_deeper) (defScope s_law_deeper) .none kV32 dc32 pm32 an32 cd32 ct32), sl32⟩)
    (c32 : PySem.W.codeIn K cd32 "_law_deeper" = true)
    (k32 : PySem.W.keepIn K (.ref f32) = true)
    (a33 : PySem.W.nsIn K mainGlobals "_law_no_form" = some (some (.ref f33)))
    (l33 : K.lookup f33 = some ⟨oc33, od33, .func (PySem.W.fnOf "_law_no_form" "_law_no_form" (defArgs s_law_no_form) (defBody s_law_no_form) (defScope s_law_no_form) .none kV33 dc33 pm33 an33 cd33 ct33), sl33⟩)
    (c33 : PySem.W.codeIn K cd33 "_law_no_form" = true)
    (k33 : PySem.W.keepIn K (.ref f33) = true)
    (a34 : PySem.W.nsIn K mainGlobals "_law_put" = some (some (.ref f34)))
    (l34 : K.lookup f34 = some ⟨oc34, od34, .func (PySem.W.fnOf "_law_put" "_law_put" (defArgs s_law_put) (defBody s_law_put) (defScope s_law_put) .none kV34 dc34 pm34 an34 cd34 ct34), sl34⟩)
    (c34 : PySem.W.codeIn K cd34 "_law_put" = true)
    (k34 : PySem.W.keepIn K (.ref f34) = true)
    (a35 : PySem.W.nsIn K mainGlobals "_law_goods" = some (some (.ref f35)))
    (l35 : K.lookup f35 = some ⟨oc35, od35, .func (PySem.W.fnOf "_law_goods" "_law_goods" (defArgs s_law_goods) (defBody s_law_goods) (defScope s_law_goods) .none kV35 dc35 pm35 an35 cd35 ct35), sl35⟩)
    (c35 : PySem.W.codeIn K cd35 "_law_goods" = true)
    (k35 : PySem.W.keepIn K (.ref f35) = true)
    (a36 : PySem.W.nsIn K mainGlobals "_law_known" = some (some (.ref f36)))
    (l36 : K.lookup f36 = some ⟨oc36, od36, .func (PySem.W.fnOf "_law_known" "_law_known" (defArgs s_law_known) (defBody s_law_known) (defScope s_law_known) .none kV36 dc36 pm36 an36 cd36 ct36), sl36⟩)
    (c36 : PySem.W.codeIn K cd36 "_law_known" = true)
    (k36 : PySem.W.keepIn K (.ref f36) = true)
    (a37 : PySem.W.nsIn K mainGlobals "_law_dict" = some (some (.ref f37)))
    (l37 : K.lookup f37 = some ⟨oc37, od37, .func (PySem.W.fnOf "_law_dict" "_law_dict" (defArgs s_law_dict) (defBody s_law_dict) (defScope s_law_dict) .none kV37 dc37 pm37 an37 cd37 ct37), sl37⟩)
    (c37 : PySem.W.codeIn K cd37 "_law_dict" = true)
    (k37 : PySem.W.keepIn K (.ref f37) = true)
    (a38 : PySem.W.nsIn K mainGlobals "_law_put_in" = some (some (.ref f38)))
    (l38 : K.lookup f38 = some ⟨oc38, od38, .func (PySem.W.fnOf "_law_put_in" "_law_put_in" (defArgs s_law_put_in) (defBody s_law_put_in) (defScope s_law_put_in) .none kV38 dc38 pm38 an38 (.ref cc1) ct38), sl38⟩)
    (c38 : PySem.W.codeIn K (.ref cc1) "_law_put_in" = true)
    (k38 : PySem.W.keepIn K (.ref f38) = true)
    (a39 : PySem.W.nsIn K mainGlobals "_law_no_dict" = some (some (.ref f39)))
    (l39 : K.lookup f39 = some ⟨oc39, od39, .func (PySem.W.fnOf "_law_no_dict" "_law_no_dict" (defArgs s_law_no_dict) (defBody s_law_no_dict) (defScope s_law_no_dict) .none kV39 dc39 pm39 an39 cd39 ct39), sl39⟩)
    (c39 : PySem.W.codeIn K cd39 "_law_no_dict" = true)
    (k39 : PySem.W.keepIn K (.ref f39) = true)
    (a40 : PySem.W.nsIn K mainGlobals "_law_refuses" = some (some (.ref f40)))
    (l40 : K.lookup f40 = some ⟨oc40, od40, .func (PySem.W.fnOf "_law_refuses" "_law_refuses" (defArgs s_law_refuses) (defBody s_law_refuses) (defScope s_law_refuses) .none kV40 dc40 pm40 an40 (.ref cc2) ct40), sl40⟩)
    (c40 : PySem.W.codeIn K (.ref cc2) "_law_refuses" = true)
    (k40 : PySem.W.keepIn K (.ref f40) = true)
    (a41 : PySem.W.nsIn K mainGlobals "law" = some (some (.ref f41)))
    (l41 : K.lookup f41 = some ⟨oc41, od41, .func (PySem.W.fnOf "law" "law" (defArgs slaw) (defBody slaw) (defScope slaw) .none kV41 dc41 pm41 an41 cd41 ct41), sl41⟩)
    (c41 : PySem.W.codeIn K cd41 "law" = true)
    (k41 : PySem.W.keepIn K (.ref f41) = true)
    (tN1 : K.lookup Pt1 = none)
    (tC1 : PySem.W.codeHdIn K cc1 Pt1 = true)
    (tN2 : K.lookup Pt2 = none)
    (tC2 : PySem.W.codeHdIn K cc2 Pt2 = true)
    (gEB : PySem.W.nsIn K mainGlobals "BadValue" = some (some (.ref EB)))
    (gaEB : PySem.W.findIn K (.ref EB) "__getattribute__" = some (some (.builtin "BaseException.__getattribute__")))
    (ggEB : PySem.W.findIn K (.ref EB) "__getattr__" = some none)
    (exEB : PySem.W.subIn K (.ref EB) (.type "BaseException") = some true)
    (hdEB : PySem.W.hasDictIn K EB = true)
    (noEB : PySem.W.findIn K (.ref EB) "value" = some none)
    (isEB : PySem.W.isClsIn K EB = true)
    (tyEB : PySem.W.typeIn K (.ref EB) = some (.type "type"))
    (gEN : PySem.W.nsIn K mainGlobals "NotAText" = some (some (.ref EN)))
    (gaEN : PySem.W.findIn K (.ref EN) "__getattribute__" = some (some (.builtin "BaseException.__getattribute__")))
    (ggEN : PySem.W.findIn K (.ref EN) "__getattr__" = some none)
    (exEN : PySem.W.subIn K (.ref EN) (.type "BaseException") = some true)
    (hdEN : PySem.W.hasDictIn K EN = true)
    (noEN : PySem.W.findIn K (.ref EN) "at" = some none)
    (isEN : PySem.W.isClsIn K EN = true)
    (tyEN : PySem.W.typeIn K (.ref EN) = some (.type "type"))
    (gED : PySem.W.nsIn K mainGlobals "TooDeep" = some (some (.ref ED)))
    (gaED : PySem.W.findIn K (.ref ED) "__getattribute__" = some (some (.builtin "BaseException.__getattribute__")))
    (ggED : PySem.W.findIn K (.ref ED) "__getattr__" = some none)
    (exED : PySem.W.subIn K (.ref ED) (.type "BaseException") = some true)
    (hdED : PySem.W.hasDictIn K ED = true)
    (noED : PySem.W.findIn K (.ref ED) "most" = some none)
    (isED : PySem.W.isClsIn K ED = true)
    (tyED : PySem.W.typeIn K (.ref ED) = some (.type "type"))
    (gEM : PySem.W.nsIn K mainGlobals "TooMany" = some (some (.ref EM)))
    (gaEM : PySem.W.findIn K (.ref EM) "__getattribute__" = some (some (.builtin "BaseException.__getattribute__")))
    (ggEM : PySem.W.findIn K (.ref EM) "__getattr__" = some none)
    (exEM : PySem.W.subIn K (.ref EM) (.type "BaseException") = some true)
    (hdEM : PySem.W.hasDictIn K EM = true)
    (noEM : PySem.W.findIn K (.ref EM) "most" = some none)
    (isEM : PySem.W.isClsIn K EM = true)
    (tyEM : PySem.W.typeIn K (.ref EM) = some (.type "type"))
    (sBB : PySem.W.subIn K (.ref EB) (.ref EB) = some true)
    (sNB : PySem.W.subIn K (.ref EN) (.ref EB) = some false)
    (sNN : PySem.W.subIn K (.ref EN) (.ref EN) = some true)
    (sDB : PySem.W.subIn K (.ref ED) (.ref EB) = some false)
    (sDN : PySem.W.subIn K (.ref ED) (.ref EN) = some false)
    (sDD : PySem.W.subIn K (.ref ED) (.ref ED) = some true)
    (sMB : PySem.W.subIn K (.ref EM) (.ref EB) = some false)
    (sMN : PySem.W.subIn K (.ref EM) (.ref EN) = some false)
    (sMD : PySem.W.subIn K (.ref EM) (.ref ED) = some false)
    (sMM : PySem.W.subIn K (.ref EM) (.ref EM) = some true)
    (xB : K.lookup EB = some (excClassObj nmB qB EB NB bsB bmB true snB subB abB colB ddB mz0B mz1B mz2B mz3B mz5B "ValueError.__new__"))
    (rB : PySem.HandSPX.refsVE bmB = true)
    (saB : PySem.W.findIn K (.ref EB) "__setattr__" = some (some (.builtin "object.__setattr__")))
    (kB : PySem.W.keepIn K (.ref EB) = true)
    (xD : K.lookup ED = some (excClassObj nmD qD ED ND bsD bmD true snD subD abD colD ddD mz0D mz1D mz2D mz3D mz5D "ValueError.__new__"))
    (rD : PySem.HandSPX.refsVE bmD = true)
    (saD : PySem.W.findIn K (.ref ED) "__setattr__" = some (some (.builtin "object.__setattr__")))
    (kD : PySem.W.keepIn K (.ref ED) = true)
    (a42 : PySem.W.findIn K (.ref EB) "__init__" = some (some (.ref f42)))
    (i42 : PySem.W.typeIn K (.ref f42) = some (.type "function"))
    (l42 : K.lookup f42 = some ⟨oc42, od42, .func (PySem.W.fnOf "__init__" "BadValue.__init__" (defArgs (meth 2 0)) (defBody (meth 2 0)) (defScope (meth 2 0)) .none kV42 dc42 pm42 an42 cd42 ct42), sl42⟩)
    (c42 : PySem.W.codeIn K cd42 "BadValue.__init__" = true)
    (k42 : PySem.W.keepIn K (.ref f42) = true)
    (a43 : PySem.W.findIn K (.ref ED) "__init__" = some (some (.ref f43)))
    (i43 : PySem.W.typeIn K (.ref f43) = some (.type "function"))
    (l43 : K.lookup f43 = some ⟨oc43, od43, .func (PySem.W.fnOf "__init__" "TooDeep.__init__" (defArgs (meth 3 0)) (defBody (meth 3 0)) (defScope (meth 3 0)) .none kV43 dc43 pm43 an43 cd43 ct43), sl43⟩)
    (c43 : PySem.W.codeIn K cd43 "TooDeep.__init__" = true)
    (k43 : PySem.W.keepIn K (.ref f43) = true)
    (z1 : PySem.W.nsIn K mainGlobals "isinstance" = some none)
    (z2 : PySem.W.nsIn K mainGlobals "len" = some none)
    (z3 : PySem.W.nsIn K mainGlobals "all" = some none)
    (z4 : PySem.W.nsIn K mainGlobals "str" = some none)
    (z5 : PySem.W.nsIn K mainGlobals "tuple" = some none)
    (z6 : PySem.W.nsIn K mainGlobals "int" = some none)
    (z7 : PySem.W.nsIn K mainGlobals "list" = some none)
    (z8 : PySem.W.nsIn K mainGlobals "abs" = some none)
    (z9 : PySem.W.nsIn K mainGlobals "max" = some none)
    (z10 : PySem.W.nsIn K mainGlobals "min" = some none)
    (z11 : PySem.W.nsIn K mainGlobals "range" = some none)
    (z12 : PySem.W.nsIn K mainGlobals "bool" = some none)
    (z13 : PySem.W.nsIn K mainGlobals "zip" = some none)
    (z14 : PySem.W.nsIn K mainGlobals "dict" = some none)
    (z15 : PySem.W.nsIn K mainGlobals "set" = some none)
    (z16 : PySem.W.nsIn K mainGlobals "sorted" = some none)
    (y1 : PySem.W.nsIn K mainGlobals "LETTERS" = some (some (.str zLetters tl)))
    (y2 : PySem.W.nsIn K mainGlobals "DIGITS" = some (some (.str zDigits td)))
    (y3 : PySem.W.nsIn K mainGlobals "LONGEST_NAME" = some (some (.int 12 tn)))
    (y4 : PySem.W.nsIn K mainGlobals "DEEPEST" = some (some (.int 12 tp)))
    (y5 : PySem.W.nsIn K mainGlobals "LEAF_WORDS" = some (some (.ref aL)))
    (y6 : K.lookup aL = some ⟨.type "tuple", odL, .seq #[.str (Str.ofString "good") u1, .str (Str.ofString "counter") u2] nL, slL⟩)
    (y7 : PySem.W.nsIn K mainGlobals "HALVED_WORDS" = some (some (.ref aH)))
    (y8 : K.lookup aH = some ⟨.type "tuple", odH, .seq #[.str (Str.ofString "both") u3, .str (Str.ofString "between") u4, .str (Str.ofString "offered") u5, .str (Str.ofString "chosen") u6] nH, slH⟩)
    (y13 : PySem.W.nsIn K mainGlobals "COUNTER_WORDS" = some (some (.ref aC)))
    (y14 : K.lookup aC = some ⟨.type "dict", none, .dict esC nC, #[]⟩)
    (y15 : PySem.W.KeysLit w.params esC.toList)
    (e1 : PySem.W.nsIn K aC "good" = some (some (.str (Str.ofString "counter") v1)))
    (e2 : PySem.W.nsIn K aC "counter" = some (some (.str (Str.ofString "good") v2)))
    (e3 : PySem.W.nsIn K aC "both" = some (some (.str (Str.ofString "between") v3)))
    (e4 : PySem.W.nsIn K aC "between" = some (some (.str (Str.ofString "both") v4)))
    (e5 : PySem.W.nsIn K aC "offered" = some (some (.str (Str.ofString "chosen") v5)))
    (e6 : PySem.W.nsIn K aC "chosen" = some (some (.str (Str.ofString "offered") v6))) :
    LamX.LawAtS l w K CX0 71 63 "_law_script" mg fa h := by
  have e := hfa.symm.trans (PySem.W.mg_of X G a41)
  cases e
  have T : Txt K mg := {
    isinstance := PySem.W.mg_none_of X G z1, len := PySem.W.mg_none_of X G z2, all := PySem.W.mg_none_of X G z3, str := PySem.W.mg_none_of X G z4, tuple := PySem.W.mg_none_of X G z5, int := PySem.W.mg_none_of X G z6
    list := PySem.W.mg_none_of X G z7, abs := PySem.W.mg_none_of X G z8, max := PySem.W.mg_none_of X G z9, min := PySem.W.mg_none_of X G z10, range := PySem.W.mg_none_of X G z11, bool := PySem.W.mg_none_of X G z12
    LETTERS := ⟨_, PySem.W.mg_of X G y1, ⟨_, rfl⟩⟩, DIGITS := ⟨_, PySem.W.mg_of X G y2, ⟨_, rfl⟩⟩, LONGEST_NAME := ⟨_, PySem.W.mg_of X G y3, ⟨_, rfl⟩⟩, DEEPEST := ⟨_, PySem.W.mg_of X G y4, ⟨_, rfl⟩⟩
    aLeaf := aL, LEAF_WORDS := ⟨_, PySem.W.mg_of X G y5, rfl⟩, sLeaf := fun H => .inr ⟨_, _, _, y6, rfl, rfl, (by show 2 ≤ sizeLine; decide), .cons ⟨_, rfl⟩ (.cons ⟨_, rfl⟩ .nil)⟩
    aHalf := aH, HALVED_WORDS := ⟨_, PySem.W.mg_of X G y7, rfl⟩, sHalf := fun H => .inr ⟨_, _, _, y8, rfl, rfl, (by show 4 ≤ sizeLine; decide), .cons ⟨_, rfl⟩ (.cons ⟨_, rfl⟩ (.cons ⟨_, rfl⟩ (.cons ⟨_, rfl⟩ .nil)))⟩ }
  have G2 : TxtG mg := ⟨PySem.W.mg_none_of X G z15, PySem.W.mg_none_of X G z16⟩
  have YC : TxtC K mg w := {
    aCW := aC, COUNTER_WORDS := ⟨_, PySem.W.mg_of X G y13, rfl⟩
    kL := fun co => by
      cases co
      · exact ⟨esC, nC, _, y14, y15, e1, ⟨_, rfl⟩⟩
      · exact ⟨esC, nC, _, y14, y15, e2, ⟨_, rfl⟩⟩
    kN := fun s => by
      cases s
      · exact ⟨esC, nC, _, y14, y15, e3, ⟨_, rfl⟩⟩
      · exact ⟨esC, nC, _, y14, y15, e4, ⟨_, rfl⟩⟩
      · exact ⟨esC, nC, _, y14, y15, e5, ⟨_, rfl⟩⟩
      · exact ⟨esC, nC, _, y14, y15, e6, ⟨_, rfl⟩⟩ }
  let TE : ErrT K mg := {
    B := EB, N := EN, D := ED, M := EM, gB := PySem.W.mg_of X G gEB, gN := PySem.W.mg_of X G gEN, gD := PySem.W.mg_of X G gED, gM := PySem.W.mg_of X G gEM
    xB := ⟨gaEB, ggEB, exEB, hdEB⟩, xN := ⟨gaEN, ggEN, exEN, hdEN⟩, xD := ⟨gaED, ggED, exED, hdED⟩, xM := ⟨gaEM, ggEM, exEM, hdEM⟩
    nB := noEB, nN := noEN, nD := noED, nM := noEM
    BB := exm_two exEB isEB tyEB sBB, NB := exm_two exEB isEB tyEB sNB, NN := exm_two exEN isEN tyEN sNN, DB := exm_two exEB isEB tyEB sDB, DN := exm_two exEN isEN tyEN sDN, DD := exm_two exED isED tyED sDD
    MB := exm_two exEB isEB tyEB sMB, MN := exm_two exEN isEN tyEN sMN, MD := exm_two exED isED tyED sMD, MM := exm_two exEM isEM tyEM sMM }
  have F1 := fun_mk (st := sfits_name) l1 c1 k1
  have b1 := F1.binds (ps := Pfits_name) fun _ _ _ _ _ _ us hl => match us, hl with | [_], _ => rfl
  have m1 := PySem.W.mg_of X G a1
  have F2 := fun_mk (st := sfits_form) l2 c2 k2
  have b2 := F2.binds (ps := Pfits_form) fun _ _ _ _ _ _ us hl => match us, hl with | [_, _], _ => rfl
  have m2 := PySem.W.mg_of X G a2
  have F3 := fun_mk (st := sis_leaf) l3 c3 k3
  have b3 := F3.binds (ps := Pis_leaf) fun _ _ _ _ _ _ us hl => match us, hl with | [_], _ => rfl
  have m3 := PySem.W.mg_of X G a3
  have F4 := fun_mk (st := scounter_of) l4 c4 k4
  have b4 := F4.binds (ps := Pcounter_of) fun _ _ _ _ _ _ us hl => match us, hl with | [_], _ => rfl
  have m4 := PySem.W.mg_of X G a4
  have F5 := fun_mk (st := sdepth_of) l5 c5 k5
  have b5 := F5.binds (ps := Pdepth_of) fun _ _ _ _ _ _ us hl => match us, hl with | [_], _ => rfl
  have m5 := PySem.W.mg_of X G a5
  have F6 := fun_mk (st := sgoods_of) l6 c6 k6
  have b6 := F6.binds (ps := Pgoods_of) fun _ _ _ _ _ _ us hl => match us, hl with | [_], _ => rfl
  have m6 := PySem.W.mg_of X G a6
  have F7 := fun_mk (st := sform_with) l7 c7 k7
  have b7 := F7.binds (ps := Pform_with) fun _ _ _ _ _ _ us hl => match us, hl with | [_, _], _ => rfl
  have m7 := PySem.W.mg_of X G a7
  have F8 := fun_mk (st := sdepth_with) l8 c8 k8
  have b8 := F8.binds (ps := Pdepth_with) fun _ _ _ _ _ _ us hl => match us, hl with | [_, _], _ => rfl
  have m8 := PySem.W.mg_of X G a8
  have F9 := fun_mk (st := scheck_form) l9 c9 k9
  have b9 := F9.binds (ps := Pcheck_form) fun _ _ _ _ _ _ us hl => match us, hl with | [_], _ => rfl
  have m9 := PySem.W.mg_of X G a9
  have F10 := fun_mk (st := scheck_forms) l10 c10 k10
  have b10 := F10.binds (ps := Pcheck_forms) fun _ _ _ _ _ _ us hl => match us, hl with | [_], _ => rfl
  have m10 := PySem.W.mg_of X G a10
  have F11 := fun_mk (st := scounter) l11 c11 k11
  have b11 := F11.binds (ps := Pcounter) fun _ _ _ _ _ _ us hl => match us, hl with | [_], _ => rfl
  have m11 := PySem.W.mg_of X G a11
  have F12 := fun_mk (st := sdepth) l12 c12 k12
  have b12 := F12.binds (ps := Pdepth) fun _ _ _ _ _ _ us hl => match us, hl with | [_], _ => rfl
  have m12 := PySem.W.mg_of X G a12
  have F13 := fun_mk (st := sgoods) l13 c13 k13
  have b13 := F13.binds (ps := Pgoods) fun _ _ _ _ _ _ us hl => match us, hl with | [_], _ => rfl
  have m13 := PySem.W.mg_of X G a13
  have F14 := fun_mk (st := swith_forms) l14 c14 k14
  have b14 := F14.binds (ps := Pwith_forms) fun _ _ _ _ _ _ us hl => match us, hl with | [_, _], _ => rfl
  have m14 := PySem.W.mg_of X G a14
  have F15 := fun_mk (st := s_law_begin) l15 c15 k15
  have b15 := F15.binds (ps := P_law_begin) fun _ _ _ _ _ _ us hl => match us, hl with | [_], _ => rfl
  have m15 := PySem.W.mg_of X G a15
  have F16 := fun_mk (st := s_law_draw) l16 c16 k16
  have b16 := F16.binds (ps := P_law_draw) fun _ _ _ _ _ _ us hl => match us, hl with | [_, _], _ => rfl
  have m16 := PySem.W.mg_of X G a16
  have F17 := fun_mk (st := s_law_pick) l17 c17 k17
  have b17 := F17.binds (ps := P_law_pick) fun _ _ _ _ _ _ us hl => match us, hl with | [_, _], _ => rfl
  have m17 := PySem.W.mg_of X G a17
  have F18 := fun_mk (st := s_law_shuffled) l18 c18 k18
  have b18 := F18.binds (ps := P_law_shuffled) fun _ _ _ _ _ _ us hl => match us, hl with | [_, _], _ => rfl
  have m18 := PySem.W.mg_of X G a18
  have F19 := fun_mk (st := s_law_counter) l19 c19 k19
  have b19 := F19.binds (ps := P_law_counter) fun _ _ _ _ _ _ us hl => match us, hl with | [_], _ => rfl
  have m19 := PySem.W.mg_of X G a19
  have F20 := fun_mk (st := s_law_leaves) l20 c20 k20
  have b20 := F20.binds (ps := P_law_leaves) fun _ _ _ _ _ _ us hl => match us, hl with | [_], _ => rfl
  have m20 := PySem.W.mg_of X G a20
  have F21 := fun_mk (st := s_law_depth) l21 c21 k21
  have b21 := F21.binds (ps := P_law_depth) fun _ _ _ _ _ _ us hl => match us, hl with | [_], _ => rfl
  have m21 := PySem.W.mg_of X G a21
  have F22 := fun_mk (st := s_law_same) l22 c22 k22
  have b22 := F22.binds (ps := P_law_same) fun _ _ _ _ _ _ us hl => match us, hl with | [_, _], _ => rfl
  have m22 := PySem.W.mg_of X G a22
  have F23 := fun_mk (st := s_law_fault) l23 c23 k23
  have b23 := F23.binds (ps := P_law_fault) fun _ _ _ _ _ _ us hl => match us, hl with | [_], _ => rfl
  have m23 := PySem.W.mg_of X G a23
  have F24 := fun_mk (st := s_law_faults) l24 c24 k24
  have b24 := F24.binds (ps := P_law_faults) fun _ _ _ _ _ _ us hl => match us, hl with | [_, _], _ => rfl
  have m24 := PySem.W.mg_of X G a24
  have F25 := fun_mk (st := s_law_name) l25 c25 k25
  have b25 := F25.binds (ps := P_law_name) fun _ _ _ _ _ _ us hl => match us, hl with | [_], _ => rfl
  have m25 := PySem.W.mg_of X G a25
  have F26 := fun_mk (st := s_law_names) l26 c26 k26
  have b26 := F26.binds (ps := P_law_names) fun _ _ _ _ _ _ us hl => match us, hl with | [_, _], _ => rfl
  have m26 := PySem.W.mg_of X G a26
  have F27 := fun_mk (st := s_law_shape) l27 c27 k27
  have b27 := F27.binds (ps := P_law_shape) fun _ _ _ _ _ _ us hl => match us, hl with | [_, _, _, _], _ => rfl
  have m27 := PySem.W.mg_of X G a27
  have F28 := fun_mk (st := s_law_is_name) l28 c28 k28
  have b28 := F28.binds (ps := P_law_is_name) fun _ _ _ _ _ _ us hl => match us, hl with | [_], _ => rfl
  have m28 := PySem.W.mg_of X G a28
  have F29 := fun_mk (st := s_law_is_form) l29 c29 k29
  have b29 := F29.binds (ps := P_law_is_form) fun _ _ _ _ _ _ us hl => match us, hl with | [_, _], _ => rfl
  have m29 := PySem.W.mg_of X G a29
  have F30 := fun_mk (st := s_law_bent_name) l30 c30 k30
  have b30 := F30.binds (ps := P_law_bent_name) fun _ _ _ _ _ _ us hl => match us, hl with | [_, _], _ => rfl
  have m30 := PySem.W.mg_of X G a30
  have F31 := fun_mk (st := s_law_bent) l31 c31 k31
  have b31 := F31.binds (ps := P_law_bent) fun _ _ _ _ _ _ us hl => match us, hl with | [_, _], _ => rfl
  have m31 := PySem.W.mg_of X G a31
  have F32 := fun_mk (st := s_law_deeper) l32 c32 k32
  have b32 := F32.binds (ps := P_law_deeper) fun _ _ _ _ _ _ us hl => match us, hl with | [_, _], _ => rfl
  have m32 := PySem.W.mg_of X G a32
  have F33 := fun_mk (st := s_law_no_form) l33 c33 k33
  have b33 := F33.binds (ps := P_law_no_form) fun _ _ _ _ _ _ us hl => match us, hl with | [_, _], _ => rfl
  have m33 := PySem.W.mg_of X G a33
  have F34 := fun_mk (st := s_law_put) l34 c34 k34
  have b34 := F34.binds (ps := P_law_put) fun _ _ _ _ _ _ us hl => match us, hl with | [_, _], _ => rfl
  have m34 := PySem.W.mg_of X G a34
  have F35 := fun_mk (st := s_law_goods) l35 c35 k35
  have b35 := F35.binds (ps := P_law_goods) fun _ _ _ _ _ _ us hl => match us, hl with | [_], _ => rfl
  have m35 := PySem.W.mg_of X G a35
  have F36 := fun_mk (st := s_law_known) l36 c36 k36
  have b36 := F36.binds (ps := P_law_known) fun _ _ _ _ _ _ us hl => match us, hl with | [_], _ => rfl
  have m36 := PySem.W.mg_of X G a36
  have F37 := fun_mk (st := s_law_dict) l37 c37 k37
  have b37 := F37.binds (ps := P_law_dict) fun _ _ _ _ _ _ us hl => match us, hl with | [_, _], _ => rfl
  have m37 := PySem.W.mg_of X G a37
  have F38 : FunC K "_law_put_in" "_law_put_in" s_law_put_in f38 _ (.ref cc1) := ⟨oc38, od38, kV38, dc38, pm38, an38, ct38, sl38, rfl, l38, c38⟩
  have b38 := (fun_mk (st := s_law_put_in) l38 c38 k38).binds (ps := P_law_put_in) fun _ _ _ _ _ _ us hl => match us, hl with | [_, _], _ => rfl
  have m38 := PySem.W.mg_of X G a38
  have F39 := fun_mk (st := s_law_no_dict) l39 c39 k39
  have b39 := F39.binds (ps := P_law_no_dict) fun _ _ _ _ _ _ us hl => match us, hl with | [_, _], _ => rfl
  have m39 := PySem.W.mg_of X G a39
  have F40 : FunC K "_law_refuses" "_law_refuses" s_law_refuses f40 _ (.ref cc2) := ⟨oc40, od40, kV40, dc40, pm40, an40, ct40, sl40, rfl, l40, c40⟩
  have b40 := (fun_mk (st := s_law_refuses) l40 c40 k40).binds (ps := P_law_refuses) fun _ _ _ _ _ _ us hl => match us, hl with | [_, _, _], _ => rfl
  have m40 := PySem.W.mg_of X G a40
  have F41 := fun_mk (st := slaw) l41 c41 k41
  have F42 := fun_mk (st := (meth 2 0)) l42 c42 k42
  have b42 := F42.binds (ps := ["self", "value"]) fun _ _ _ _ _ _ us hl => match us, hl with | [_, _], _ => rfl
  have F43 := fun_mk (st := (meth 3 0)) l43 c43 k43
  have b43 := F43.binds (ps := ["self", "most"]) fun _ _ _ _ _ _ us hl => match us, hl with | [_, _], _ => rfl
  refine ⟨PySem.W.fnOf "law" "law" (defArgs slaw) (defBody slaw) (defScope slaw) .none kV41 dc41 pm41 an41 cd41 ct41, [(cc1, Pt1), (cc2, Pt2)], spLaw K [(Pt1, lamPi), (Pt2, lamQr)], fun p hp => ?_, fun p hp => ?_, fun p hp => ?_, fun s v => .of_eq rfl, fun H a ns hl hb hH hS => ?_, fun base _ _ hTB => ?_⟩
  · rcases List.mem_cons.mp hp with e | hp
    · rw [e]; exact tP1
    · rw [List.mem_singleton.mp hp]; exact tP2
  · rcases List.mem_cons.mp hp with e | hp
    · rw [e]; exact tN1
    · rw [List.mem_singleton.mp hp]; exact tN2
  · rcases List.mem_cons.mp hp with e | hp
    · rw [e]; exact PySem.W.codeHd_of_K X tC1
    · rw [List.mem_singleton.mp hp]; exact PySem.W.codeHd_of_K X tC2
  · refine ⟨a, ns, rfl, hS, hl, fun p hp => ?_, fun _ => rfl⟩
    rcases List.mem_cons.mp hp with e | hp
    · rw [e]; exact LamX.TabS.nil (hH (cc1, Pt1) List.mem_cons_self)
    · rw [List.mem_singleton.mp hp]; exact LamX.TabS.nil (hH (cc2, Pt2) (List.mem_cons_of_mem _ List.mem_cons_self))
  have TB1 : LamX.TabB base mg cc1 Pt1 := hTB (cc1, Pt1) List.mem_cons_self
  have TB2 : LamX.TabB base mg cc2 Pt2 := hTB (cc2, Pt2) (List.mem_cons_of_mem _ List.mem_cons_self)
  have one1 : ∀ p ∈ [(Pt1, lamPi), (Pt2, lamQr)], p.1 = Pt1 → p.2 = lamPi := fun p hp e => by
    rcases List.mem_cons.mp hp with e2 | hp
    · rw [e2]
    · rw [List.mem_singleton.mp hp] at e
      exact absurd e.symm tD
  have one2 : ∀ p ∈ [(Pt1, lamPi), (Pt2, lamQr)], p.1 = Pt2 → p.2 = lamQr := fun p hp e => by
    rcases List.mem_cons.mp hp with e2 | hp
    · rw [e2] at e
      exact absurd e tD
    · rw [List.mem_singleton.mp hp]
  have OB : OneE l.prog w K mg base "BadValue" "value" EB := { oex := ⟨⟨nmB, qB, NB, bsB, bmB, snB, subB, abB, colB, ddB, mz0B, mz1B, mz2B, mz3B, mz5B, xB, rB⟩, saB, exEB, tyEB, kB⟩, xf := TE.xB, no := noEB, g := PySem.W.mg_of X G gEB, fI := f42, fd := _, iC := a42, tI := i42, b := b42, F := ok_i2 EB F42 }
  have OD : OneE l.prog w K mg base "TooDeep" "most" ED := { oex := ⟨⟨nmD, qD, ND, bsD, bmD, snD, subD, abD, colD, ddD, mz0D, mz1D, mz2D, mz3D, mz5D, xD, rD⟩, saD, exED, tyED, kD⟩, xf := TE.xD, no := noED, g := PySem.W.mg_of X G gED, fI := f43, fd := _, iC := a43, tI := i43, b := b43, F := ok_i3 ED F43 }
  have Cfits_name : Cal l.prog w K mg base "fits_name" 2 Pfits_name (spName K) := ⟨_, _, ok_fits_name T F1, m1, k1, b1⟩
  have Cfits_form : Cal l.prog w K mg base "fits_form" 15 Pfits_form (spForm K 13) := ⟨_, _, all_fits_form T F2 b2 m2 Cfits_name 13, m2, k2, b2⟩
  have Cis_leaf : Cal l.prog w K mg base "is_leaf" 1 Pis_leaf (spLeafT K) := ⟨_, _, okis_leaf T F3, m3, k3, b3⟩
  have Ccheck_form : CalX l.prog w K mg base "check_form" 16 Pcheck_form (spCheckForm K EB) := ⟨_, _, okcheck_form T OB F9 Cfits_form, m9, k9, b9⟩
  have Ccheck_forms : CalX l.prog w K mg base "check_forms" 16 Pcheck_forms (spCheckForms w K EB) := ⟨_, _, okcheck_forms T (PySem.W.mg_none_of X G z14) OB F10 Cfits_name Cfits_form, m10, k10, b10⟩
  have Ccounter_of : Cal l.prog w K mg base "counter_of" 14 Pcounter_of (spCounterOf K 13) := ⟨_, _, all_counter_of YC F4 b4 m4 Cis_leaf 13, m4, k4, b4⟩
  have Cdepth_of : Cal l.prog w K mg base "depth_of" 14 Pdepth_of (spDepthOf K 13) := ⟨_, _, all_depth_of T F5 b5 m5 Cis_leaf 13, m5, k5, b5⟩
  have Cgoods_of : Cal l.prog w K mg base "goods_of" 14 Pgoods_of (spGoodsOf K 13) := ⟨_, _, all_goods_of F6 b6 m6 Cis_leaf 13, m6, k6, b6⟩
  have Cform_with : Cal l.prog w K mg base "form_with" 27 Pform_with (spPut K 13) := ⟨_, _, all_form_with F7 b7 m7 Cis_leaf Ccounter_of 13, m7, k7, b7⟩
  have Cdepth_with : Cal l.prog w K mg base "depth_with" 14 Pdepth_with (spDepthW K 13) := ⟨_, _, all_depth_with T F8 b8 m8 Cis_leaf 13, m8, k8, b8⟩
  have Ccounter : CalX l.prog w K mg base "counter" 18 Pcounter (spCounter K EB) := ⟨_, _, okcounter Ccheck_form Ccounter_of F11, m11, k11, b11⟩
  have Cdepth : CalX l.prog w K mg base "depth" 18 Pdepth (spDepthP K EB) := ⟨_, _, okdepth Ccheck_form Cdepth_of F12, m12, k12, b12⟩
  have Cgoods : CalX l.prog w K mg base "goods" 18 Pgoods (spGoods K EB) := ⟨_, _, okgoods T G2 Ccheck_form Cgoods_of F13, m13, k13, b13⟩
  have Cwith_forms : CalX l.prog w K mg base "with_forms" 28 Pwith_forms (spWithForms w K EB ED) := ⟨_, _, okwith_forms T OD F14 Ccheck_form Ccheck_forms Cdepth_of Cdepth_with Cform_with, m14, k14, b14⟩
  have C_law_begin : Cal l.prog w K mg base "_law_begin" 1 P_law_begin (spBegin K) := ⟨_, _, ok_law_begin T F15, m15, k15, b15⟩
  have C_law_draw : Cal l.prog w K mg base "_law_draw" 1 P_law_draw (spDraw K) := ⟨_, _, ok_law_draw T F16, m16, k16, b16⟩
  have C_law_pick : Cal l.prog w K mg base "_law_pick" 2 P_law_pick (spPick K) := ⟨_, _, ok_law_pick T F17 C_law_draw, m17, k17, b17⟩
  have C_law_depth : Cal l.prog w K mg base "_law_depth" 13 P_law_depth (spDepth K 13) := ⟨_, _, all_law_depth T F21 b21 m21 13, m21, k21, b21⟩
  have C_law_depthM : Cal l.prog w K mg base "_law_depth" 22 P_law_depth (spDepth K 22) := ⟨_, _, all_law_depth T F21 b21 m21 22, m21, k21, b21⟩
  have C_law_counter : Cal l.prog w K mg base "_law_counter" 13 P_law_counter (spCounterOf K 13) := ⟨_, _, all_law_counter F19 b19 m19 13, m19, k19, b19⟩
  have C_law_leaves : Cal l.prog w K mg base "_law_leaves" 30 P_law_leaves (spLLeaves K 30) := ⟨_, _, all_law_leaves T F20 b20 m20 30, m20, k20, b20⟩
  have C_law_goods : Cal l.prog w K mg base "_law_goods" 31 P_law_goods (spLGoods K) := ⟨_, _, ok_law_goods T G2 F35 C_law_leaves, m35, k35, b35⟩
  have C_law_put : Cal l.prog w K mg base "_law_put" 27 P_law_put (spPut K 13) := ⟨_, _, all_law_put T F34 b34 m34 C_law_counter 13, m34, k34, b34⟩
  have C_law_same : Cal l.prog w K mg base "_law_same" 29 P_law_same (spSame w K 28) := ⟨_, _, all_law_same T (PySem.W.mg_none_of X G z13) F22 b22 m22 28, m22, k22, b22⟩
  have C_law_fault : Cal l.prog w K mg base "_law_fault" 31 P_law_fault (spFault l.prog w K mg base TE 30) := ⟨_, _, ok_law_fault TE F23, m23, k23, b23⟩
  have C_law_faults : Cal l.prog w K mg base "_law_faults" 60 P_law_faults (spFaults l.prog w K mg base TE 30 28) := ⟨_, _, ok_law_faults (k := 30) (n := 28) TE F24 C_law_fault C_law_same, m24, k24, b24⟩
  have C_law_name : Cal l.prog w K mg base "_law_name" 3 P_law_name (spNameOf K) := ⟨_, _, ok_law_name T F25 C_law_pick, m25, k25, b25⟩
  have C_law_names : Cal l.prog w K mg base "_law_names" 4 P_law_names (spNames K) := ⟨_, _, ok_law_names T F26 C_law_draw C_law_name, m26, k26, b26⟩
  have C_law_shape : Cal l.prog w K mg base "_law_shape" 15 P_law_shape (spShape K 13) := ⟨_, _, all_law_shape T F27 b27 m27 C_law_draw C_law_pick 13, m27, k27, b27⟩
  have C_law_is_name : Cal l.prog w K mg base "_law_is_name" 2 P_law_is_name (spName K) := ⟨_, _, ok_law_is_name T F28, m28, k28, b28⟩
  have C_law_is_form : Cal l.prog w K mg base "_law_is_form" 15 P_law_is_form (spFormL K 13) := ⟨_, _, all_law_is_form T F29 b29 m29 C_law_is_name 13, m29, k29, b29⟩
  have C_law_bent_name : Cal l.prog w K mg base "_law_bent_name" 3 P_law_bent_name (spBentName K) := ⟨_, _, ok_law_bent_name T F30 C_law_draw C_law_pick, m30, k30, b30⟩
  have C_law_bent : Cal l.prog w K mg base "_law_bent" 16 P_law_bent (spBent K 13) := ⟨_, _, all_law_bent T F31 b31 m31 C_law_draw C_law_pick C_law_bent_name 13, m31, k31, b31⟩
  have C_law_deeper : Cal l.prog w K mg base "_law_deeper" 14 P_law_deeper (spDeeper K) := ⟨_, _, ok_law_deeper T F32 C_law_depth, m32, k32, b32⟩
  have C_law_no_form : Cal l.prog w K mg base "_law_no_form" 17 P_law_no_form (spNoForm K) := ⟨_, _, ok_law_no_form T F33 C_law_pick C_law_bent C_law_is_form C_law_deeper, m33, k33, b33⟩
  have C_law_shuffled : Cal l.prog w K mg base "_law_shuffled" 2 P_law_shuffled (spShuf K) := ⟨_, _, ok_law_shuffled T F18 C_law_draw, m18, k18, b18⟩
  have C_law_dict : Cal l.prog w K mg base "_law_dict" 16 P_law_dict (spDict K) := ⟨_, _, ok_law_dict T F37 C_law_draw C_law_pick C_law_names C_law_shuffled C_law_shape, m37, k37, b37⟩
  have C_law_known : Cal l.prog w K mg base "_law_known" 32 P_law_known (spKnown K) := ⟨_, _, ok_law_known C_law_counter C_law_same C_law_depth C_law_goods Ccounter Cdepth Cgoods F36, m36, k36, b36⟩
  have C_law_no_dict : Cal l.prog w K mg base "_law_no_dict" 18 P_law_no_dict (spNoDict w K) := ⟨_, _, ok_law_no_dict T G2 (PySem.W.mg_none_of X G z14) F39 C_law_draw C_law_pick C_law_no_form, m39, k39, b39⟩
  have in1 : (Pt1, lamPi) ∈ [(Pt1, lamPi), (Pt2, lamQr)] := List.mem_cons_self
  have in2 : (Pt2, lamQr) ∈ [(Pt1, lamPi), (Pt2, lamQr)] := List.mem_cons_of_mem _ List.mem_cons_self
  have C_law_put_in : Cal l.prog w K mg base "_law_put_in" 70 P_law_put_in (spPutIn K [(Pt1, lamPi), (Pt2, lamQr)]) := ⟨_, _, ok_law_put_in (E3 := TE) T G2 TB1 in1 one1 F38 C_law_put C_law_depthM C_law_faults C_law_same Cwith_forms, m38, k38, b38⟩
  have C_law_refuses : Cal l.prog w K mg base "_law_refuses" 70 P_law_refuses (spRefuses K [(Pt1, lamPi), (Pt2, lamQr)]) := ⟨_, _, ok_law_refuses (T := TE) TB2 in2 one2 F40 C_law_no_form C_law_no_dict C_law_faults Ccounter Cdepth Cgoods Cwith_forms, m40, k40, b40⟩
  exact ok_law T F41 C_law_begin C_law_draw C_law_pick C_law_names C_law_shape C_law_deeper C_law_dict C_law_known C_law_put_in C_law_refuses
theorem walk {l : PySem.W.OpenLaw} {q : Program} {loose : List Str} {XP : (Str → Option Value) → Heap → Prop} {YP : World → Heap → Prop} {d : DefRec} {K : Params → PySem.W.Frag} (hn : l.most = some 63) (hdf : d.params.defaults = [])
    (hY : ∀ (w : World) (h : Heap), YP w h → (K w.params).In h)
    (F : ∀ (w : World) (mg : Str → Option Value) (fa : Addr) (h : Heap), YP w h → (K w.params).In h → h.Ns mainGlobals mg → mg d.name = some (.ref fa) → LamX.LawAtS l w (K w.params) CX0 71 63 "_law_script" mg fa h) :
    PySem.W.WalkO q loose XP YP l.row.toRowW d [] (fun f vs => PySem.call f vs) :=
  LamX.walk_ofTs (n := 63) (k := 71) (x := "_law_script") (CX := fun _ => CX0) hn (by decide) hdf ⟨rfl, by decide, by decide⟩ hY F fun _ _ _ _ _ z => z
end My

set_option Elab.async false
set_option linter.all false
open PySem PySem.W PyProof.Rows
set_option maxRecDepth 100000 in
set_option maxHeartbeats 0 in
theorem PySem.Challenge.cw_alldeeds_k03_whole_counters_and_forms_pu_holds : PySem.Challenge.rw_alldeeds_k03_whole_counters_and_forms_pu.Holds := by
  w_on; o_law; k_head; (case hw => w_witness2)
  k_fill
  refine My.walk (l := PySem.Challenge.rw_alldeeds_k03_whole_counters_and_forms_pu) rfl rfl (fun w h Y => PySem.W.km_in_of Y) ?F
  case F =>
    intro w mg fa h Y KX G hmg
    have hT := PySem.W.km_tabs_of Y
    refine' My.all_mk KX G hmg ?tP1 ?tP2 ?tD ?a1 ?l1 ?c1 ?k1 ?a2 ?l2 ?c2 ?k2 ?a3 ?l3 ?c3 ?k3 ?a4 ?l4 ?c4 ?k4 ?a5 ?l5 ?c5 ?k5 ?a6 ?l6 ?c6 ?k6 ?a7 ?l7 ?c7 ?k7 ?a8 ?l8 ?c8 ?k8 ?a9 ?l9 ?c9 ?k9 ?a10 ?l10 ?c10 ?k10 ?a11 ?l11 ?c11 ?k11 ?a12 ?l12 ?c12 ?k12 ?a13 ?l13 ?c13 ?k13 ?a14 ?l14 ?c14 ?k14 ?a15 ?l15 ?c15 ?k15 ?a16 ?l16 ?c16 ?k16 ?a17 ?l17 ?c17 ?k17 ?a18 ?l18 ?c18 ?k18 ?a19 ?l19 ?c19 ?k19 ?a20 ?l20 ?c20 ?k20 ?a21 ?l21 ?c21 ?k21 ?a22 ?l22 ?c22 ?k22 ?a23 ?l23 ?c23 ?k23 ?a24 ?l24 ?c24 ?k24 ?a25 ?l25 ?c25 ?k25 ?a26 ?l26 ?c26 ?k26 ?a27 ?l27 ?c27 ?k27 ?a28 ?l28 ?c28 ?k28 ?a29 ?l29 ?c29 ?k29 ?a30 ?l30 ?c30 ?k30 ?a31 ?l31 ?c31 ?k31 ?a32 ?l32 ?c32 ?k32 ?a33 ?l33 ?c33 ?k33 ?a34 ?l34 ?c34 ?k34 ?a35 ?l35 ?c35 ?k35 ?a36 ?l36 ?c36 ?k36 ?a37 ?l37 ?c37 ?k37 ?a38 ?l38 ?c38 ?k38 ?a39 ?l39 ?c39 ?k39 ?a40 ?l40 ?c40 ?k40 ?a41 ?l41 ?c41 ?k41 ?tN1 ?tC1 ?tN2 ?tC2 ?gEB ?gaEB ?ggEB ?exEB ?hdEB ?noEB ?isEB ?tyEB ?gEN ?gaEN ?ggEN ?exEN ?hdEN ?noEN ?isEN ?tyEN ?gED ?gaED ?ggED ?exED ?hdED ?noED ?isED ?tyED ?gEM ?gaEM ?ggEM ?exEM ?hdEM ?noEM ?isEM ?tyEM ?sBB ?sNB ?sNN ?sDB ?sDN ?sDD ?sMB ?sMN ?sMD ?sMM ?xB ?rB ?saB ?kB ?xD ?rD ?saD ?kD ?a42 ?i42 ?l42 ?c42 ?k42 ?a43 ?i43 ?l43 ?c43 ?k43 ?z1 ?z2 ?z3 ?z4 ?z5 ?z6 ?z7 ?z8 ?z9 ?z10 ?z11 ?z12 ?z13 ?z14 ?z15 ?z16 ?y1 ?y2 ?y3 ?y4 ?y5 ?y6 ?y7 ?y8 ?y13 ?y14 ?y15 ?e1 ?e2 ?e3 ?e4 ?e5 ?e6
    (case tP1 => exact hT _ (List.mem_cons_of_mem _ List.mem_cons_self))
    (case tP2 => exact hT _ (List.mem_cons_self))
    (case tD => decide)
    (case a1 => k_is)
    (case l1 => k_is)
    (case c1 => k_is)
    (case k1 => k_is)
    (case a2 => k_is)
    (case l2 => k_is)
    (case c2 => k_is)
    (case k2 => k_is)
    (case a3 => k_is)
    (case l3 => k_is)
    (case c3 => k_is)
    (case k3 => k_is)
    (case a4 => k_is)
    (case l4 => k_is)
    (case c4 => k_is)
    (case k4 => k_is)
    (case a5 => k_is)
    (case l5 => k_is)
    (case c5 => k_is)
    (case k5 => k_is)
    (case a6 => k_is)
    (case l6 => k_is)
    (case c6 => k_is)
    (case k6 => k_is)
    (case a7 => k_is)
    (case l7 => k_is)
    (case c7 => k_is)
    (case k7 => k_is)
    (case a8 => k_is)
    (case l8 => k_is)
    (case c8 => k_is)
    (case k8 => k_is)
    (case a9 => k_is)
    (case l9 => k_is)
    (case c9 => k_is)
    (case k9 => k_is)
    (case a10 => k_is)
    (case l10 => k_is)
    (case c10 => k_is)
    (case k10 => k_is)
    (case a11 => k_is)
    (case l11 => k_is)
    (case c11 => k_is)
    (case k11 => k_is)
    (case a12 => k_is)
    (case l12 => k_is)
    (case c12 => k_is)
    (case k12 => k_is)
    (case a13 => k_is)
    (case l13 => k_is)
    (case c13 => k_is)
    (case k13 => k_is)
    (case a14 => k_is)
    (case l14 => k_is)
    (case c14 => k_is)
    (case k14 => k_is)
    (case a15 => k_is)
    (case l15 => k_is)
    (case c15 => k_is)
    (case k15 => k_is)
    (case a16 => k_is)
    (case l16 => k_is)
    (case c16 => k_is)
    (case k16 => k_is)
    (case a17 => k_is)
    (case l17 => k_is)
    (case c17 => k_is)
    (case k17 => k_is)
    (case a18 => k_is)
    (case l18 => k_is)
    (case c18 => k_is)
    (case k18 => k_is)
    (case a19 => k_is)
    (case l19 => k_is)
    (case c19 => k_is)
    (case k19 => k_is)
    (case a20 => k_is)
    (case l20 => k_is)
    (case c20 => k_is)
    (case k20 => k_is)
    (case a21 => k_is)
    (case l21 => k_is)
    (case c21 => k_is)
    (case k21 => k_is)
    (case a22 => k_is)
    (case l22 => k_is)
    (case c22 => k_is)
    (case k22 => k_is)
    (case a23 => k_is)
    (case l23 => k_is)
    (case c23 => k_is)
    (case k23 => k_is)
    (case a24 => k_is)
    (case l24 => k_is)
    (case c24 => k_is)
    (case k24 => k_is)
    (case a25 => k_is)
    (case l25 => k_is)
    (case c25 => k_is)
    (case k25 => k_is)
    (case a26 => k_is)
    (case l26 => k_is)
    (case c26 => k_is)
    (case k26 => k_is)
    (case a27 => k_is)
    (case l27 => k_is)
    (case c27 => k_is)
    (case k27 => k_is)
    (case a28 => k_is)
    (case l28 => k_is)
    (case c28 => k_is)
    (case k28 => k_is)
    (case a29 => k_is)
    (case l29 => k_is)
    (case c29 => k_is)
    (case k29 => k_is)
    (case a30 => k_is)
    (case l30 => k_is)
    (case c30 => k_is)
    (case k30 => k_is)
    (case a31 => k_is)
    (case l31 => k_is)
    (case c31 => k_is)
    (case k31 => k_is)
    (case a32 => k_is)
    (case l32 => k_is)
    (case c32 => k_is)
    (case k32 => k_is)
    (case a33 => k_is)
    (case l33 => k_is)
    (case c33 => k_is)
    (case k33 => k_is)
    (case a34 => k_is)
    (case l34 => k_is)
    (case c34 => k_is)
    (case k34 => k_is)
    (case a35 => k_is)
    (case l35 => k_is)
    (case c35 => k_is)
    (case k35 => k_is)
    (case a36 => k_is)
    (case l36 => k_is)
    (case c36 => k_is)
    (case k36 => k_is)
    (case a37 => k_is)
    (case l37 => k_is)
    (case c37 => k_is)
    (case k37 => k_is)
    (case a38 => k_is)
    (case l38 => k_is)
    (case c38 => k_is)
    (case k38 => k_is)
    (case a39 => k_is)
    (case l39 => k_is)
    (case c39 => k_is)
    (case k39 => k_is)
    (case a40 => k_is)
    (case l40 => k_is)
    (case c40 => k_is)
    (case k40 => k_is)
    (case a41 => k_is)
    (case l41 => k_is)
    (case c41 => k_is)
    (case k41 => k_is)
    (case tN1 => kernel_rfl)
    (case tC1 => kernel_rfl)
    (case tN2 => kernel_rfl)
    (case tC2 => kernel_rfl)
    (case gEB => k_is)
    (case gaEB => k_is)
    (case ggEB => k_is)
    (case exEB => k_is)
    (case hdEB => k_is)
    (case noEB => k_is)
    (case isEB => k_is)
    (case tyEB => k_is)
    (case gEN => k_is)
    (case gaEN => k_is)
    (case ggEN => k_is)
    (case exEN => k_is)
    (case hdEN => k_is)
    (case noEN => k_is)
    (case isEN => k_is)
    (case tyEN => k_is)
    (case gED => k_is)
    (case gaED => k_is)
    (case ggED => k_is)
    (case exED => k_is)
    (case hdED => k_is)
    (case noED => k_is)
    (case isED => k_is)
    (case tyED => k_is)
    (case gEM => k_is)
    (case gaEM => k_is)
    (case ggEM => k_is)
    (case exEM => k_is)
    (case hdEM => k_is)
    (case noEM => k_is)
    (case isEM => k_is)
    (case tyEM => k_is)
    (case sBB => first | rfl | k_is)
    (case sNB => first | rfl | k_is)
    (case sNN => first | rfl | k_is)
    (case sDB => first | rfl | k_is)
    (case sDN => first | rfl | k_is)
    (case sDD => first | rfl | k_is)
    (case sMB => first | rfl | k_is)
    (case sMN => first | rfl | k_is)
    (case sMD => first | rfl | k_is)
    (case sMM => first | rfl | k_is)
    (case xB => k_is)
    (case rB => first | decide +kernel | k_is)
    (case saB => k_is)
    (case kB => k_is)
    (case xD => k_is)
    (case rD => first | decide +kernel | k_is)
    (case saD => k_is)
    (case kD => k_is)
    (case a42 => k_is)
    (case i42 => k_is)
    (case l42 => k_is)
    (case c42 => k_is)
    (case k42 => k_is)
    (case a43 => k_is)
    (case i43 => k_is)
    (case l43 => k_is)
    (case c43 => k_is)
    (case k43 => k_is)
    (case z1 => k_is)
    (case z2 => k_is)
    (case z3 => k_is)
    (case z4 => k_is)
    (case z5 => k_is)
    (case z6 => k_is)
    (case z7 => k_is)
    (case z8 => k_is)
    (case z9 => k_is)
    (case z10 => k_is)
    (case z11 => k_is)
    (case z12 => k_is)
    (case z13 => k_is)
    (case z14 => k_is)
    (case z15 => k_is)
    (case z16 => k_is)
    (case y1 => k_is)
    (case y2 => k_is)
    (case y3 => k_is)
    (case y4 => k_is)
    (case y5 => k_is)
    (case y6 => k_is)
    (case y7 => k_is)
    (case y8 => k_is)
    (case y13 => k_is)
    (case y14 => k_is)
    (case y15 => exact ⟨⟨_, _, rfl, rfl⟩, ⟨_, _, rfl, rfl⟩, ⟨_, _, rfl, rfl⟩, ⟨_, _, rfl, rfl⟩, ⟨_, _, rfl, rfl⟩, ⟨_, _, rfl, rfl⟩, trivial⟩)
    (case e1 => k_is)
    (case e2 => k_is)
    (case e3 => k_is)
    (case e4 => k_is)
    (case e5 => k_is)
    (case e6 => k_is)

