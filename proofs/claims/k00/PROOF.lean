import PyProof.Rows.All
import Wide.All
import OpenK.AllK
import Wide.FinOn
import HandS.ForMost
import HandS.Wide
import HandS.IsInst
import HandS.TupAny
import HandS.Style
import HandS.Deep
import HandS.Conv
import HandS.Codes
import HandS.ForExc
import HandS.ExcInit
import HandS.MakeKw
import HandS.ExcField
import HandS.ExcValue
import HandS.ExcIs
import KE.KExcIs
import HandS.Walk
import HandS.DictComp
import HandS.More
import PySem.Challenge.RW_alldeeds_k00_errors_made_by_hand
set_option Elab.async false
set_option linter.all false
set_option maxRecDepth 100000
namespace My
open PySem L2

/-! ### the text by places -/
def top (i : Nat) : Stmt := PySem.Challenge.pw_alldeeds_k00_errors_made_by_hand.main.body.getD i (.Pass ⟨0, 0, 0, 0⟩)

/-! ### a def that may be called -/
structure Cal (P : Program) (w : World) (K : PySem.W.Frag) (mg : Str → Option Value) (base : Heap) (x : Str) (k : Nat) (ps : List Str) (sp : Sp) where
  f : Addr
  fd : FuncData
  ok : FnOk P w K mg base CX0 k f fd ps sp
  m : mg x = some (.ref f)
  kp : PySem.W.keepIn K (.ref f) = true
  b : Binds K fd ps []
section
variable {X : Cx} {k j : Nat} {ps : List Str} {sp : Sp} {x : Str} {p pos : Pos} {e : Expr} {es : List Expr} {t : TA}
theorem pe_callC (C : Cal X.prog X.w X.K X.mg X.base x k ps sp) (hr : Room j X.A) (ha : PA X (e :: es) t) (hk : k ≤ j := by omega) (hg : Gl X x := by rfl) (hdb : (x == ("__debug__" : Str)) = false := by decide)
    (he : starEach (e :: es) X.env = (false, eval e X.env) :: starEach es X.env := by rfl) (hpl : (backTo pos (starEach es X.env)).any (·.1) = false := by rfl) :
    PE X (.Call (.Name x p) (e :: es) [] pos) (tCall sp [] E0 t) := pe_call C.ok (hr.mono hk) hg C.m C.kp C.b .nil pass0 ha hdb he hpl
theorem pe_globE {v : V} (h : ∃ u, X.mg x = some u ∧ RelV v u) (hg : Gl X x := by rfl) (hd : (x == ("__debug__" : Str)) = false := by decide) : PE X (.Name x pos) (tC v) := by
  obtain ⟨u, hm, r⟩ := h
  exact pe_glob hg hm r hd
end

/-! ### heaps: all but the object at d is kept -/
def Keep (d : Addr) (H H' : Hp) : Prop := ∀ b o, b ≠ d → H b = some o → H' b = some o
def IsDk (H : Hp) (d : Addr) : Prop := ∃ kvs : List (Key × V), H d = some (.dK kvs)
theorem Keep.refl (d : Addr) (H : Hp) : Keep d H H := fun _ _ _ h => h
theorem Keep.trans {d : Addr} {H H1 H2 : Hp} (a : Keep d H H1) (b : Keep d H1 H2) : Keep d H H2 := fun c o n h => b c o n (a c o n h)
theorem Same.toKeep {d : Addr} {H H' : Hp} (s : Same H H') : Keep d H H' := fun c o _ h => s c o h
theorem same_new {H : Hp} {p : Addr} (h : H p = none) (o : HO) : Same H (upd H p o) := fun b u q => by rw [upd_ne (ne_of_none q h)]; exact q
theorem keep_put {d : Addr} {H : Hp} (o : HO) : Keep d H (upd H d o) := fun b u n q => by rw [upd_ne n]; exact q
theorem rd_keep {d : Addr} {H H' : Hp} {a : Addr} {o : HO} (hd : IsDk H d) (k : Keep d H H') (ho : ∀ kvs, o ≠ .dK kvs) (r : Rd H a o) : Rd H' a o := by
  obtain ⟨kvs, hd⟩ := hd
  have ne : a ≠ d := by
    rintro rfl
    rcases r with r | ⟨ob, r⟩
    · rw [hd] at r; exact ho _ (Option.some.inj r).symm
    · rw [hd] at r; cases r
  rcases r with r | ⟨ob, r⟩
  · exact .inl (k _ _ ne r)
  · exact .inr ⟨ob, k _ _ ne r⟩
variable {K : PySem.W.Frag}
theorem seqL_keep {d : Addr} {H H' : Hp} {a : Addr} {xs : List V} (hd : IsDk H d) (k : Keep d H H') (r : SqL K H a xs) : SqL K H' a xs := by
  rcases r with r | r
  · exact .inl (rd_keep hd k (fun _ z => by cases z) r)
  · exact .inr r
theorem seqT_keep {d : Addr} {H H' : Hp} {a : Addr} {xs : List V} (hd : IsDk H d) (k : Keep d H H') (r : SqT K H a xs) : SqT K H' a xs := by
  rcases r with r | r
  · exact .inl (rd_keep hd k (fun _ z => by cases z) r)
  · exact .inr r
mutual
theorem dp_keep {d : Addr} {H H' : Hp} (hd : IsDk H d) (k : Keep d H H') : ∀ (D : PyData) (v : V), Dp K H v D → Dp K H' v D
  | .none, _, h => by cases h; exact .non
  | .bool b, _, h => by cases h; exact .bl b
  | .int i, _, h => by cases h; exact .int i
  | .str x, _, h => by cases h; exact .str x
  | .list ds, _, h => by cases h with | lst hs ha => exact .lst (seqL_keep hd k hs) (dpAll_keep hd k ds _ ha)
  | .tuple ds, _, h => by cases h with | tup hs ha => exact .tup (seqT_keep hd k hs) (dpAll_keep hd k ds _ ha)
  | .dict _, _, h => by cases h
theorem dpAll_keep {d : Addr} {H H' : Hp} (hd : IsDk H d) (k : Keep d H H') : ∀ (Ds : List PyData) (vs : List V), DpAll K H vs Ds → DpAll K H' vs Ds
  | [], _, h => by cases h; exact .nil
  | D :: Ds, _, h => by cases h with | cons h1 h2 => exact .cons (dp_keep hd k D _ h1) (dpAll_keep hd k Ds _ h2)
end
/-- .. the same where nothing is changed -/
theorem rd_same {H H' : Hp} {a : Addr} {o : HO} (k : Same H H') (r : Rd H a o) : Rd H' a o := by
  rcases r with r | ⟨ob, r⟩
  · exact .inl (k _ _ r)
  · exact .inr ⟨ob, k _ _ r⟩
theorem seqT_same {H H' : Hp} {a : Addr} {xs : List V} (k : Same H H') (r : SqT K H a xs) : SqT K H' a xs := by
  rcases r with r | r
  · exact .inl (rd_same k r)
  · exact .inr r
mutual
theorem dp_same {H H' : Hp} (k : Same H H') : ∀ (D : PyData) (v : V), Dp K H v D → Dp K H' v D
  | .none, _, h => by cases h; exact .non
  | .bool b, _, h => by cases h; exact .bl b
  | .int i, _, h => by cases h; exact .int i
  | .str x, _, h => by cases h; exact .str x
  | .list ds, _, h => by cases h with | lst hs ha => exact .lst (k.seq hs) (dpAll_same k ds _ ha)
  | .tuple ds, _, h => by cases h with | tup hs ha => exact .tup (seqT_same k hs) (dpAll_same k ds _ ha)
  | .dict _, _, h => by cases h
theorem dpAll_same {H H' : Hp} (k : Same H H') : ∀ (Ds : List PyData) (vs : List V), DpAll K H vs Ds → DpAll K H' vs Ds
  | [], _, h => by cases h; exact .nil
  | D :: Ds, _, h => by cases h with | cons h1 h2 => exact .cons (dp_same k D _ h1) (dpAll_same k Ds _ h2)
end

/-! ### what isinstance says of data -/
def tagOf : PyData → String
  | .none => "NoneType" | .bool _ => "bool" | .int _ => "int" | .str _ => "str" | .list _ => "list" | .tuple _ => "tuple" | .dict _ => "dict"
theorem tyx_of {H : Hp} {v : V} {D : PyData} (h : Dp K H v D) : TyX K H v (.type (tagOf D)) := by
  cases h with
  | non => exact .base .non
  | bl b => exact .base (.bl b)
  | int i => exact .base (.int i)
  | str x => exact .base (.str x)
  | lst hs _ =>
    rcases hs with (hs | ⟨o, hs⟩) | ⟨o, its, n, lk, c, _⟩
    · exact .base (.lst hs)
    · exact .base (.frz hs)
    · exact .kList lk c
  | tup hs _ =>
    rcases hs with (hs | ⟨o, hs⟩) | ⟨o, its, n, lk, c, _⟩
    · exact .base (.tup hs)
    · exact .fTuple hs
    · exact .kTuple lk c
def isStrD : PyData → Bool | .str _ => true | _ => false
def isTupD : PyData → Bool | .tuple _ => true | _ => false
def isBoolD : PyData → Bool | .bool _ => true | _ => false
theorem kit_str (D : PyData) : PySem.W.kitOne K (.type (tagOf D)) (.type "str") = some (isStrD D) := by
  cases D <;> (refine kit_ty ?_; simp only [tagOf, isStrD]; decide +kernel)
theorem kit_tuple (D : PyData) : PySem.W.kitOne K (.type (tagOf D)) (.type "tuple") = some (isTupD D) := by
  cases D <;> (refine kit_ty ?_; simp only [tagOf, isTupD]; decide +kernel)
theorem kit_bool (D : PyData) : PySem.W.kitOne K (.type (tagOf D)) (.type "bool") = some (isBoolD D) := by
  cases D <;> (refine kit_ty ?_; simp only [tagOf, isBoolD]; decide +kernel)
theorem kit_dict_str : PySem.W.kitOne K (.type "dict") (.type "str") = some false := kit_ty (by decide +kernel)
theorem kit_dict_tuple : PySem.W.kitOne K (.type "dict") (.type "tuple") = some false := kit_ty (by decide +kernel)

/-! ### a comprehension over a text -/
theorem lc_str {x : Str} {g : TG} {tt : TT} {te : TE} {vs : List Nat} {σ : St} {H1 : Hp} {D : Addr} {Qd : Hp → Prop} (Pv : Nat → Hp → Prop) (h0 : Pv 0 (upd H1 D (.lst [])))
    (hs : ∀ i c H, x.cps.toList[i]? = some c → Pv i H → g (.str ⟨#[c]⟩) (wipe σ vs) H fun σ2 H2 => wipe σ2 vs = wipe σ vs ∧ tt σ2 H2 fun b H3 =>
      if b = true then te σ2 H3 fun y H4 => ∃ acc, H4 D = some (.lst acc) ∧ acc.length < sizeLine ∧ Pv (i + 1) (upd H4 D (.lst (acc ++ [y]))) else Pv (i + 1) H3) (hd : ∀ H, Pv x.cps.toList.length H → Qd H) :
    ∃ W : Nat → Nat → Hp → Prop, (∃ m, W 0 m (upd H1 D (.lst []))) ∧ ∀ i m H, W i m H →
      ((Its x).stop i H ∧ Qd H) ∨ ((Its x).go i H ∧ ∃ Nx : Hp → Prop, (∀ H', Nx H' → ∃ m', m' < m ∧ W (i + 1) m' H') ∧ ∀ x_1 H', (Its x).yld i H x_1 H' → g x_1 (wipe σ vs) H' fun σ2 H2 => wipe σ2 vs = wipe σ vs ∧ tt σ2 H2 fun b H3 =>
        if b = true then te σ2 H3 fun y H4 => ∃ acc, H4 D = some (.lst acc) ∧ acc.length < sizeLine ∧ Nx (upd H4 D (.lst (acc ++ [y]))) else Nx H3) := by
  refine ⟨fun i m H => m = x.cps.size - i ∧ i ≤ x.cps.size ∧ Pv i H, ⟨x.cps.size, by simp, Nat.zero_le _, h0⟩, ?_⟩
  rintro i m H ⟨rfl, hi, p⟩
  by_cases hlt : i < x.cps.size
  · refine .inr ⟨hlt, Pv (i + 1), fun H' p' => ⟨x.cps.size - (i + 1), by omega, rfl, hlt, p'⟩, fun v H' y => ?_⟩
    obtain ⟨e, c, hc, ev⟩ := y
    subst e ev
    exact hs i c _ (by rw [Array.getElem?_toList]; exact hc) p
  · have e : i = x.cps.size := by omega
    subst e
    exact .inl ⟨Nat.le_refl _, hd H p⟩
theorem same_fresh {H H' : Hp} {D : Addr} {o : HO} (k : Same H H') (n : H D = none) : Same H (upd H' D o) := fun b u q => by rw [upd_ne (ne_of_none q n)]; exact k _ _ q
theorem keep_fresh {d : Addr} {H H' : Hp} {D : Addr} {o : HO} (k : Keep d H H') (n : H D = none) : Keep d H (upd H' D o) := fun b u nd q => by rw [upd_ne (ne_of_none q n)]; exact k _ _ nd q
theorem take_next {α : Type} {xs : List α} {i : Nat} {c : α} (h : xs[i]? = some c) : xs.take (i + 1) = xs.take i ++ [c] := by
  rw [List.take_add_one, h]
  rfl

/-! ### names and forms -/
def zLetters : Str := Str.ofString "abcdefghijklmnopqrstuvwxyz"
def zDigits : Str := Str.ofString "0123456789"
def isL (c : Nat) : Bool := decide (c ∈ zLetters.cps.toList)
def isLD (c : Nat) : Bool := isL c || decide (c ∈ zDigits.cps.toList)
def isName (z : Str) : Bool := decide (1 ≤ z.length ∧ z.length ≤ 12) && ((z.cps.toList.head?.any isL) && z.cps.toList.all isLD)
def isNameD : PyData → Bool | .str z => isName z | _ => false
theorem inV_str (x : Str) : ∀ zs : List Str, inV (.str x) (zs.map V.str) = decide (x ∈ zs)
  | [] => by simp [inV]
  | z :: zs => by
    have ih := inV_str x zs
    unfold inV at ih ⊢
    rw [List.map_cons, List.any_cons, ih]
    by_cases e : z = x
    · subst e
      simp [eqV]
    · have e' : ¬ x = z := fun q => e q.symm
      simp [eqV, e, e']
def leafW : List Str := [Str.ofString "good", Str.ofString "counter"]
def halfW : List Str := [Str.ofString "both", Str.ofString "between", Str.ofString "offered", Str.ofString "chosen"]
def isForm : Nat → PyData → Bool
  | _, .tuple [.str x, n] => decide (x ∈ leafW) && isNameD n
  | 0, _ => false
  | k + 1, .tuple [.str x, a, b] => decide (x ∈ halfW) && (isForm k a && isForm k b)
  | _ + 1, _ => false
theorem isForm_tup2 (k : Nat) (a n : PyData) : isForm k (.tuple [a, n]) = (match a with | .str x => decide (x ∈ leafW) && isNameD n | _ => false) := by
  cases k <;> cases a <;> rfl
theorem isForm_tup3_0 (a b c : PyData) : isForm 0 (.tuple [a, b, c]) = false := by cases a <;> rfl
theorem isForm_tup3 (k : Nat) (a b c : PyData) : isForm (k + 1) (.tuple [a, b, c]) = (match a with | .str x => decide (x ∈ halfW) && (isForm k b && isForm k c) | _ => false) := by
  cases a <;> rfl
theorem isForm_tup_len (k : Nat) (ds : List PyData) (h2 : ds.length ≠ 2) (h3 : ds.length ≠ 3) : isForm k (.tuple ds) = false := by
  match ds, h2, h3 with
  | [], _, _ => cases k <;> rfl
  | [a], _, _ => cases k <;> cases a <;> rfl
  | [a, b], h, _ => exact absurd rfl h
  | [a, b, c], _, h => exact absurd rfl h
  | a :: b :: c :: d :: r, _, _ => cases k <;> cases a <;> rfl
theorem isForm_not_tup (k : Nat) (D : PyData) (h : isTupD D = false) : isForm k D = false := by
  cases D with
  | tuple ds => cases h
  | _ => cases k <;> rfl
def okStr (z : Str) : Bool := decide (z.length ≤ 1000) && z.cps.toList.all fun c => decide (c < 128)
mutual
def shortD : PyData → Bool
  | .str z => okStr z
  | .list xs => shortAll xs
  | .tuple xs => shortAll xs
  | .dict _ => false
  | _ => true
def shortAll : List PyData → Bool
  | [] => true
  | d :: ds => shortD d && shortAll ds
end
theorem shortAll_cons {d : PyData} {ds : List PyData} (h : shortAll (d :: ds) = true) : shortD d = true ∧ shortAll ds = true := by
  unfold shortAll at h
  exact Bool.and_eq_true_iff.mp h
theorem short_str {D : PyData} (h : shortD D = true) : ∀ z, D = .str z → z.length ≤ 1000 := by
  rintro z rfl
  unfold shortD okStr at h
  exact of_decide_eq_true (Bool.and_eq_true_iff.mp h).1
theorem strOk_of {z : Str} (h : okStr z = true) : PyData.strOk z = true := by
  unfold okStr at h
  unfold PyData.strOk
  have h2 := (Bool.and_eq_true_iff.mp h).2
  rw [List.all_eq_true] at h2
  rw [Array.all_eq_true']
  intro c hc
  have := of_decide_eq_true (h2 c (Array.mem_toList_iff.mpr hc))
  exact decide_eq_true (by omega)
mutual
theorem canLay_of : ∀ D : PyData, shortD D = true → D.canLay0 = true
  | .none, _ => by simp only [PyData.canLay0]
  | .bool _, _ => by simp only [PyData.canLay0]
  | .int _, _ => by simp only [PyData.canLay0]
  | .str x, h => by
    unfold shortD at h
    simp only [PyData.canLay0]
    exact strOk_of h
  | .list xs, h => by
    unfold shortD at h
    simp only [PyData.canLay0]
    exact canLayAll_of xs h
  | .tuple xs, h => by
    unfold shortD at h
    simp only [PyData.canLay0]
    exact canLayAll_of xs h
  | .dict _, h => by cases h
theorem canLayAll_of : ∀ xs : List PyData, shortAll xs = true → PyData.canLayAll0 xs = true
  | [], _ => by simp only [PyData.canLayAll0]
  | x :: xs, h => by
    have h' := shortAll_cons h
    simp only [PyData.canLayAll0, canLay_of x h'.1, canLayAll_of xs h'.2, Bool.and_self]
end
theorem shaped_of {D : PyData} (h : shortD D = true) (d : D.depth ≤ 64) : SeqAt.shaped D = true := by
  unfold SeqAt.shaped
  rw [canLay_of D h, decide_eq_true d]
  rfl
theorem depth_in {d : PyData} {ds : List PyData} (h : d ∈ ds) : d.depth + 1 ≤ (PyData.tuple ds).depth := by
  have key : ∀ ds : List PyData, d ∈ ds → d.depth ≤ PyData.depthAll ds := by
    intro ds
    induction ds with
    | nil => intro h; cases h
    | cons x xs ih =>
      intro h
      simp only [PyData.depthAll]
      rcases List.mem_cons.mp h with rfl | h
      · exact Nat.le_max_left _ _
      · exact Nat.le_trans (ih h) (Nat.le_max_right _ _)
  simp only [PyData.depth]
  have := key ds h
  omega
def memD (d : PyData) (zs : List Str) : Bool := match d with | .str x => decide (x ∈ zs) | _ => false
theorem any_eqv (d : PyData) : ∀ zs : List Str, ((zs.map PyData.str).any fun z => PyData.eqv z d) = memD d zs
  | [] => by cases d <;> rfl
  | z :: zs => by
    rw [List.map_cons, List.any_cons, any_eqv d zs]
    cases d with
    | str x =>
      unfold memD PyData.eqv
      by_cases e : z = x
      · subst e; simp
      · have e' : ¬ x = z := fun q => e q.symm
        simp [e, e']
    | _ => simp [memD, PyData.eqv]
theorem dpAll_strs {H : Hp} : ∀ zs : List Str, DpAll K H (zs.map V.str) (zs.map PyData.str)
  | [] => .nil
  | z :: zs => .cons (.str z) (dpAll_strs zs)
theorem dpAll_len {H : Hp} : ∀ {xs : List V} {ds : List PyData}, DpAll K H xs ds → xs.length = ds.length
  | _, _, .nil => rfl
  | _, _, .cons _ t => congrArg (· + 1) (dpAll_len t)
theorem inV_23 (n : Nat) : inV (.int n) [.int 2, .int 3] = (decide (n = 2) || decide (n = 3)) := by
  unfold inV
  simp only [List.any_cons, List.any_nil, Bool.or_false]
  have h2 : eqV (.int 2) (.int (n : Int)) = decide (n = 2) := by
    by_cases e : n = 2
    · subst e; rfl
    · rw [decide_eq_false e]
      show (if _ then _ else _) = _ <;> simp [eqV] <;> omega
  have h3 : eqV (.int 3) (.int (n : Int)) = decide (n = 3) := by
    by_cases e : n = 3
    · subst e; rfl
    · rw [decide_eq_false e]
      simp [eqV]
      omega
  rw [h2, h3]
end My

set_option Elab.async false
set_option linter.all false
set_option maxRecDepth 100000
namespace My
open PySem L2

structure Txt (K : PySem.W.Frag) (mg : Str → Option Value) where
  isinstance : mg "isinstance" = none
  len : mg "len" = none
  all : mg "all" = none
  str : mg "str" = none
  tuple : mg "tuple" = none
  int : mg "int" = none
  list : mg "list" = none
  abs : mg "abs" = none
  max : mg "max" = none
  min : mg "min" = none
  range : mg "range" = none
  bool : mg "bool" = none
  LETTERS : ∃ u, mg "LETTERS" = some u ∧ RelV (.str zLetters) u
  DIGITS : ∃ u, mg "DIGITS" = some u ∧ RelV (.str zDigits) u
  LONGEST_NAME : ∃ u, mg "LONGEST_NAME" = some u ∧ RelV (.int 12) u
  DEEPEST : ∃ u, mg "DEEPEST" = some u ∧ RelV (.int 12) u
  aLeaf : Addr
  LEAF_WORDS : ∃ u, mg "LEAF_WORDS" = some u ∧ RelV (.ref aLeaf) u
  sLeaf : ∀ H, SqT K H aLeaf (leafW.map V.str)
  aHalf : Addr
  HALVED_WORDS : ∃ u, mg "HALVED_WORDS" = some u ∧ RelV (.ref aHalf) u
  sHalf : ∀ H, SqT K H aHalf (halfW.map V.str)

/-- what is said of a name -/
def spName (K : PySem.W.Frag) : Sp := fun vs H Q _ => ∃ v, vs = [v] ∧
  ((∃ D, Dp K H v D ∧ (∀ z, D = .str z → z.length ≤ 1000) ∧ ∀ H', Same H H' → Q (.bl (isNameD D)) H') ∨ ((∃ (a : Addr) (kvs : List (Key × V)), v = .ref a ∧ H a = some (.dK kvs)) ∧ ∀ H', Same H H' → Q (.bl false) H'))

abbrev Nfits_name : List Str := ["value", "sign"]
abbrev Pfits_name : List Str := ["value"]
section
variable {P : Program} {w : World} {K : PySem.W.Frag} {mg : Str → Option Value} {base : Heap} {f : Addr} {fd : FuncData}

end
end My

set_option Elab.async false
set_option linter.all false
set_option maxRecDepth 100000
namespace My
open PySem L2
abbrev Nfits_form : List Str := ["value", "room"]
abbrev Pfits_form : List Str := ["value", "room"]
def spForm (K : PySem.W.Frag) (n : Nat) : Sp := fun vs H Q _ => ∃ (v : V) (k : Nat), vs = [v, .int k] ∧ k < n ∧
  ((∃ D, Dp K H v D ∧ shortD D = true ∧ ∀ H', Same H H' → Q (.bl (isForm k D)) H') ∨ ((∃ (a : Addr) (kvs : List (Key × V)), v = .ref a ∧ H a = some (.dK kvs)) ∧ ∀ H', Same H H' → Q (.bl false) H'))
section
variable {P : Program} {w : World} {K : PySem.W.Frag} {mg : Str → Option Value} {base : Heap} {f : Addr} {fd : FuncData}

end
end My

set_option Elab.async false
set_option linter.all false
set_option maxRecDepth 100000
namespace My
open PySem L2
abbrev N_law_is_name : List Str := ["_law_value", "_law_sign"]
abbrev P_law_is_name : List Str := ["_law_value"]
abbrev N_law_is_form : List Str := ["_law_value", "_law_tall"]
abbrev P_law_is_form : List Str := ["_law_value", "_law_tall"]
abbrev Nis_name : List Str := ["value"]
abbrev Pis_name : List Str := ["value"]
abbrev Nis_form : List Str := ["value"]
abbrev Pis_form : List Str := ["value"]
abbrev N_law_says : List Str := ["_law_told", "_law_due"]
abbrev P_law_says : List Str := ["_law_told", "_law_due"]
def zBoth : Str := Str.ofString "abcdefghijklmnopqrstuvwxyz0123456789"
theorem isLD_both (c : Nat) : decide (c ∈ zBoth.cps.toList) = isLD c := by
  have e : zBoth.cps.toList = zLetters.cps.toList ++ zDigits.cps.toList := by decide +kernel
  unfold isLD isL
  rw [e, ← Bool.decide_or]
  exact decide_eq_decide.mpr List.mem_append
theorem head_some {z : Str} (h : 1 ≤ z.length) : ∃ c, z.cps.toList[0]? = some c := ⟨_, List.getElem?_eq_getElem (by rw [Array.length_toList]; show 0 < z.length; omega)⟩
theorem isName_eq {z : Str} {c : Nat} (h1 : 1 ≤ z.length) (h2 : z.length ≤ 12) (hc : z.cps.toList[0]? = some c) : isName z = (isL c && z.cps.toList.all isLD) := by
  have hh : z.cps.toList.head? = some c := by rw [List.head?_eq_getElem?]; exact hc
  unfold isName
  rw [hh, decide_eq_true ⟨h1, h2⟩]
  rfl
theorem isName_out {z : Str} (h : ¬ (1 ≤ z.length ∧ z.length ≤ 12)) : isName z = false := by
  unfold isName
  rw [decide_eq_false h]
  rfl
theorem isForm_m2 (k : Nat) (a n : PyData) : isForm k (.tuple [a, n]) = (memD a leafW && isNameD n) := by rw [isForm_tup2]; cases a <;> rfl
theorem isForm_m3 (k : Nat) (a b c : PyData) : isForm (k + 1) (.tuple [a, b, c]) = (memD a halfW && (isForm k b && isForm k c)) := by rw [isForm_tup3]; cases a <;> rfl
/-- what is said of a form, all of which may be compared -/
def spFormL (K : PySem.W.Frag) (n : Nat) : Sp := fun vs H Q _ => ∃ (v : V) (k : Nat) (D : PyData), vs = [v, .int k] ∧ k < n ∧ Dp K H v D ∧ shortD D = true ∧ D.depth ≤ 60 ∧ ∀ H', Same H H' → Q (.bl (isForm k D)) H'
def spIsForm (K : PySem.W.Frag) : Sp := fun vs H Q _ => ∃ (v : V), vs = [v] ∧
  ((∃ D, Dp K H v D ∧ shortD D = true ∧ ∀ H', Same H H' → Q (.bl (isForm 12 D)) H') ∨ ((∃ (a : Addr) (kvs : List (Key × V)), v = .ref a ∧ H a = some (.dK kvs)) ∧ ∀ H', Same H H' → Q (.bl false) H'))
def spSays : Sp := fun vs H Q _ => ∃ a b : Bool, vs = [.bl a, .bl b] ∧ Q (.bl (a == b)) H
section
variable {P : Program} {w : World} {K : PySem.W.Frag} {mg : Str → Option Value} {base : Heap} {f : Addr} {fd : FuncData}
end
end My

set_option Elab.async false
set_option linter.all false
set_option maxRecDepth 100000
/-! own exceptions made with keywords -/
namespace ExK
open PySem PySem.Spec PySem.HandSPX PyProof.Rows
section
variable {M : Model} {A : Around} {E : Value → Shared → Prop} {hh : Heap} {gs : Array GenState} {dr : Drawn} {tk : Nat} {os : OsState}
variable {nm q : Str} {C N : Addr} {bs bm bmB : List Value} {hd : Bool} {sn : List Str} {sb : List Value} {ab : Bool} {cl : Option Bool} {dd : Option Addr} {j0 j1 j2 j3 j5 : Option Value} {B newId initId : String}
theorem check_kw (F : ExcBaseFacts B newId initId bmB) (hT : ∀ X : String, bm.contains (.type X) = bmB.contains (.type X)) {us : List Value} {kw : List (Str × Value)} {Q : Unit → Shared → Prop}
    (lk : hh.get? C = some (excClassObj nm q C N bs bm hd sn sb ab cl dd j0 j1 j2 j3 j5 newId)) (go : Q () ⟨hh, gs, dr, tk, os⟩) :
    wpAny M A (checkBuiltinCall newId ⟨.ref C :: us, kw⟩) Q E ⟨hh, gs, dr, tk, os⟩ := by
  have has : (Value.ref C :: bm).contains (.type B) = true := by
    rw [List.contains_cons, hT, F.hasB, Bool.or_true]
  have star := F.noStar
  simp only [checkBuiltinCall, F.newKind, F.newSplit, F.newRow]
  repeat (first
    | refine wpAny_loadPart_at lk ?_
    | (refine wpAny_isSubtype_exc lk ?_; rw [has])
    | refine wpAny_staticBase_exc lk ?_
    | refine wpAny_madeBy_exc lk ?_
    | simp only [bne_self_eq_false, Bool.false_eq_true, if_false]
    | wp_step)
  exact go
end
section
variable {P : Program} {w : World} {A : Around} {E : Value → Shared → Prop} {R : Result → Shared → Prop} {hh : Heap} {gs : Array GenState} {dr : Drawn} {tk : Nat} {os : OsState}
variable {nm q : Str} {C N : Addr} {bs bm bmB : List Value} {hd : Bool} {sn : List Str} {sb : List Value} {ab : Bool} {cl : Option Bool} {dd : Option Addr} {j0 j1 j2 j3 j5 : Option Value} {B newId initId : String}
theorem new_kw (F : ExcBaseFacts B newId initId bmB) (hT : ∀ X : String, bm.contains (.type X) = bmB.contains (.type X)) {us : List Value} {kw : List (Str × Value)}
    (lk : hh.get? C = some (excClassObj nm q C N bs bm hd sn sb ab cl dd j0 j1 j2 j3 j5 newId)) (small : us.length ≤ sizeLine)
    (go : R (.ok (.ret (.ref (hh.objs.size + 1)))) ⟨(hh.push (W.kdv_tup us)).push (excO C hh.objs.size), gs, dr, tk, os⟩) :
    codeAny (model P w) A (.builtin newId ⟨.ref C :: us, kw⟩) R ⟨hh, gs, dr, tk, os⟩ := by
  have ends := F.ends
  have c1 : (Value.ref C :: bm).contains (.type B) = true := by
    rw [List.contains_cons, hT, F.hasB, Bool.or_true]
  have c2 : (Value.ref C :: bm).contains (.type "AttributeError") = false := by
    rw [List.contains_cons, hT, F.noAttr]
    rfl
  have c3 : (Value.ref C :: bm).contains (.type "NameError") = false := by
    rw [List.contains_cons, hT, F.noName]
    rfl
  refine codeAny_builtinAt F.entry ?_
  unfold Builtin.«BaseException.__new__»
  refine PySem.wpAt_bind ?_
  show PySem.wpAt _ _ _ (stack >>= _) _ _ _
  refine PySem.wpAt_bind (PySem.wpAt_stack fun pp bb => PySem.wpAt_of_wpAny ?_)
  wp_walk
  refine PySem.wpAt_of_wpAny ?_
  rw [F.owner]
  repeat (first
    | with_reducible refine wpAny_madeHere_exc F.canon lk ?_
    | with_reducible refine wpAny_loadPart_at lk ?_
    | (with_reducible refine wpAny_isSubtype_exc lk ?_; first | rw [c1] | rw [c2] | rw [c3])
    | wp_step)
  show R _ _
  rw [Heap.size_push]
  exact go
theorem type_call_kw (F : ExcBaseFacts B newId initId bmB) (hT : ∀ X : String, bm.contains (.type X) = bmB.contains (.type X)) {us : List Value} {kw : List (Str × Value)} {fI : Addr} {Q : Fin → Shared → Prop}
    (lk : hh.get? C = some (excClassObj nm q C N bs bm hd sn sb ab cl dd j0 j1 j2 j3 j5 newId))
    (ini : W.Looks (model P w) hh (typeLookup (.ref C) "__init__") (some (.ref fI))) (bnd : ∀ self, W.Looks (model P w) hh (bindSpecial (.ref fI) self) (.ref fI, [self])) (small : us.length ≤ sizeLine)
    (go : codeAny (model P w) A (.call (.ref fI) ⟨.ref (hh.objs.size + 1) :: us, kw⟩)
      (fun r s' => match r with | .ok (.ret v) => v = .none ∧ Q (.done (.ret (.ref (hh.objs.size + 1)))) s' | .ok _ => False | .error e => E e s')
      ⟨(hh.push (W.kdv_tup us)).push (excO C hh.objs.size), gs, dr, tk, os⟩) :
    wpAny (model P w) A (Builtin.«type.__call__» ⟨.ref C :: us, kw⟩) Q E ⟨hh, gs, dr, tk, os⟩ := by
  repeat (first
    | with_reducible refine wpAny_loadPart_at lk ?_
    | with_reducible refine wpAny_madeBy_exc lk ?_
    | wp_step)
  refine codeAny_call_builtin_code (Code.quiet_builtin _ F.quiet) (check_kw F hT lk ?_)
  refine new_kw F hT lk small ?_
  show wpAny _ _ _ _ _ _
  have grow : ∀ b o, hh.get? b = some o → ((hh.push (W.kdv_tup us)).push (excO C hh.objs.size)).get? b = some o := fun b o e => Heap.get?_push_of_some _ (Heap.get?_push_of_some _ e)
  have lk2 := grow _ _ lk
  have here : ((hh.push (W.kdv_tup us)).push (excO C hh.objs.size)).get? (hh.objs.size + 1) = some (excO C hh.objs.size) := by heap_get
  have own : (Value.ref C :: bm).contains (.ref C) = true := by simp
  have ini2 := ini.keeps grow
  have bnd2 := (bnd (.ref (hh.objs.size + 1))).keeps grow
  unfold isInstance
  repeat (first
    | with_reducible refine wpAny_loadPart_at here ?_
    | (with_reducible refine wpAny_isSubtype_exc lk2 ?_; rw [own])
    | wp_step)
  show wpAny _ _ (typeLookup (.ref C) _) _ _ _
  refine ini2.at ?_
  refine wpAny_holding (wpAny_bind (bnd2.at ?_))
  refine wpAny_bind (wpAny_call (codeAny_mono go fun r s' z => ?_))
  rcases r with e | (v | _ | _ | _)
  · exact z
  · exact z.elim
  · exact z.elim
  · exact z.elim
  · obtain ⟨rfl, z⟩ := z
    first
      | exact wpAny_pure (wpAny_pure z)
      | (wp_walk; exact z)
theorem call_kw (F : ExcBaseFacts B newId initId bmB) (hT : ∀ X : String, bm.contains (.type X) = bmB.contains (.type X)) {us : List Value} {kw : List (Str × Value)} {fI : Addr}
    (lk : hh.get? C = some (excClassObj nm q C N bs bm hd sn sb ab cl dd j0 j1 j2 j3 j5 newId))
    (ini : W.Looks (model P w) hh (typeLookup (.ref C) "__init__") (some (.ref fI))) (bnd : ∀ self, W.Looks (model P w) hh (bindSpecial (.ref fI) self) (.ref fI, [self])) (small : us.length ≤ sizeLine)
    (go : codeAny (model P w) (A.under (.builtin "type.__call__" ⟨.ref C :: us, kw⟩)) (.call (.ref fI) ⟨.ref (hh.objs.size + 1) :: us, kw⟩) (W.InitBack (hh.objs.size + 1) R)
      ⟨(hh.push (W.kdv_tup us)).push (excO C hh.objs.size), gs, dr, tk, os⟩) :
    codeAny (model P w) A (.call (.ref C) ⟨us, kw⟩) R ⟨hh, gs, dr, tk, os⟩ := by
  have f1 := tc_lookup
  have f2 := tc_bind (.ref C)
  have isT : (⟨hh, gs, dr, tk, os⟩ : Shared).TypeIs (.ref C) "type" := ⟨_, lk, rfl⟩
  refine codeAny_of_tree ?_
  show wpAny _ _ (callAny (.ref C) _) _ _ _
  repeat (any_goals (first
    | assumption
    | with_reducible refine wpAny_loadPart_at lk ?_
    | wp_step))
  refine ⟨rfl, ?_⟩
  refine codeAny_call_builtin_at (Code.quiet_builtin _ (by decide +kernel)) entry_typeCall (wpAny_check_type_call_sub lk (type_call_kw F hT lk ini bnd small ?_))
  refine codeAny_mono go fun r s' z => ?_
  rcases r with e | (v | _ | _ | _) <;> exact z
end
end ExK
namespace ExV
open PySem PySem.Spec PyProof.Rows L2
/-- what an own error with an __init__ of its own must have, so that it may be made as a value -/
structure Made (P : Program) (w : World) (K : PySem.W.Frag) (mg : Str → Option Value) (base : Heap) (x : Str) (C : Addr) (ps : List Str) (fs : List V → List (Str × V)) where
  oex : OexC K C
  g : mg x = some (.ref C)
  fI : Addr
  fd : FuncData
  iC : PySem.W.findIn K (.ref C) "__init__" = some (some (.ref fI))
  tI : PySem.W.typeIn K (.ref fI) = some (.type "function")
  F : FnOk P w K mg base CX0 1 fI fd (("self" : Str) :: ps) (fun vs H Q _ => ∃ (a : Addr) (xs : List V), vs = .ref a :: xs ∧ xs.length = ps.length ∧ H a = some (exo a C none) ∧ ∀ d, H d = none → d ≠ a → Q .non (upd (upd H d (exd d (fs xs))) a (exo a C (some d))))
/-- x(..) as a value: the error stands at a, its fields at d -/
def tErr (C : Addr) (fs : List V → List (Str × V)) (ta : TA) : TE := fun (σ : L2.St) H Q => ta σ H fun xs H1 => xs.length ≤ 1000 ∧ ∀ a d, H1 a = none → H1 d = none → d ≠ a → Q (.ref a) (upd (upd H1 d (exd d (fs xs))) a (exo a C (some d)))
section
variable {X : Cx} {pins : List (Addr × Obj)} {σ : L2.St} {H1 : Hp} {s1 : Shared} {Q : VK} {x : Str} {C : Addr} {ps : List Str} {fs : List V → List (Str × V)}
theorem run_err (M : Made X.prog X.w X.K X.mg X.base x C ps fs) (hr : Room 2 X.A) {us : List Value} {kw : List (Str × Value)} {zs : List Value} {xs : List V} (bnd : ∀ (s : Shared) (a : Addr), X.K.In s.heap → BindsTo s M.fd ⟨.ref a :: us, kw⟩ ((("self" : Str) :: ps).zip (.ref a :: zs)))
    (I1 : L2.Inv X pins σ H1 s1) (rz : Vals xs zs) (hl : xs.length = ps.length) (hus : us.length ≤ sizeLine) (q : ∀ a d, H1 a = none → H1 d = none → d ≠ a → Q (.ref a) (upd (upd H1 d (exd d (fs xs))) a (exo a C (some d)))) :
    wpAny (model X.prog X.w) X.A (call (.ref C) us kw) (EP X pins σ Q) X.xe s1 := by
  obtain ⟨nm, qn, N, bs, bm, sn, sb, ab, cl, dd, j0, j1, j2, j3, j5, hC, hbm⟩ := M.oex.cls
  obtain ⟨hp, g, dr, tk, os⟩ := s1
  have big : hp.objs.size ≤ hp.objs.size + 1 := Nat.le_succ _
  have new : H1 (hp.objs.size + 1) = none := I1.hok.fresh big
  have keep : ∀ b o, hp.get? b = some o → ((hp.push (PySem.W.kdv_tup us)).push (PySem.HandSPX.excO C hp.objs.size)).get? b = some o := fun b o e => Heap.get?_push_of_some _ (Heap.get?_push_of_some _ e)
  have here : ((hp.push (PySem.W.kdv_tup us)).push (PySem.HandSPX.excO C hp.objs.size)).get? (hp.objs.size + 1) = some (PySem.HandSPX.excO C hp.objs.size) := by heap_get
  have I2 : L2.Inv X pins σ (upd H1 (hp.objs.size + 1) (exo (hp.objs.size + 1) C none)) ⟨(hp.push (PySem.W.kdv_tup us)).push (PySem.HandSPX.excO C hp.objs.size), g, dr, tk, os⟩ :=
    I1.laid (t' := tk) (a := hp.objs.size + 1) (o := exo (hp.objs.size + 1) C none) keep big (exo_ok here)
  have eu : ∀ d, upd (upd (upd H1 (hp.objs.size + 1) (exo (hp.objs.size + 1) C none)) d (exd d (fs xs))) (hp.objs.size + 1) (exo (hp.objs.size + 1) C (some d)) = upd (upd H1 d (exd d (fs xs))) (hp.objs.size + 1) (exo (hp.objs.size + 1) C (some d)) := fun d => by
    funext b
    by_cases h1 : b = hp.objs.size + 1
    · rw [h1, upd_same, upd_same]
    · rw [upd_ne h1, upd_ne h1]
      by_cases h2 : b = d
      · rw [h2, upd_same, upd_same]
      · rw [upd_ne h2, upd_ne h2, upd_ne h1]
  refine wpAny_call (ExK.call_kw F.excBase_ValueError (fun Y => PySem.HandSPX.refsVE_contains Y bm hbm) (I1.kIn _ _ hC) (PySem.W.looks_findIn I1.kIn M.iC) (fun self => PySem.W.bind_fn I1.kIn self M.tI) hus
    (codeAny_mono (M.F.run _ X.stack _ _ ⟨Value.ref (hp.objs.size + 1) :: us, kw⟩ (Value.ref (hp.objs.size + 1) :: zs) (.ref (hp.objs.size + 1) :: xs) (fun v H2 => v = .non ∧ Q (.ref (hp.objs.size + 1)) H2) (fun _ _ _ => False) (hr.make C us kw) (I2.env0.make C us kw) (bnd _ _ I2.kIn) (.cons rfl rz)
      ⟨hp.objs.size + 1, xs, rfl, hl, upd_same, fun d nd ne => ⟨rfl, by
        rw [eu d]
        exact q _ d new (by rw [upd_ne ne] at nd; exact nd) ne⟩⟩) fun r s' z => ?_))
  cases r with
  | error er => exact (z : False).elim
  | ok fl =>
    cases fl with
    | ret u =>
      obtain ⟨v, H', I3, rv, ev, q3⟩ := I2.after z
      subst ev
      exact ⟨rv, ⟨V.ref (hp.objs.size + 1), H', I3, rfl, q3⟩⟩
    | next => exact False.elim z
    | brk => exact False.elim z
    | cont => exact False.elim z
end
end ExV
namespace ExV
open PySem PySem.Spec PyProof.Rows L2
/-- x(..) as a value, n arguments by place, m by name -/
def tErrK (C : Addr) (n m : Nat) (gV : List V → List V → List V) (fs : List V → List (Str × V)) (ta tk : TA) : TE := fun σ H Q => ta σ H fun vs H1 => tk σ H1 fun zs H2 => vs.length = n ∧ zs.length = m ∧
  ∀ a d, H2 a = none → H2 d = none → d ≠ a → Q (.ref a) (upd (upd H2 d (exd d (fs (gV vs zs)))) a (exo a C (some d)))
section
variable {X : Cx} {x : Str} {C : Addr} {ps ks : List Str} {fs : List V → List (Str × V)} {n : Nat} {p pos : Pos} {e : Expr} {es : List Expr} {kws : List Keyword} {ta tk : TA} {g : List Value → List Value → List Value} {gV : List V → List V → List V}
theorem pe_errK (M : Made X.prog X.w X.K X.mg X.base x C ps fs) (hr : Room 2 X.A) (bnd : ∀ (s : Shared) (a : Addr) (us ws : List Value), us.length = n → ws.length = ks.length → BindsTo s M.fd ⟨.ref a :: us, ks.zip ws⟩ (((("self" : Str) :: ps)).zip (.ref a :: g us ws)))
    (rel : ∀ {vs zs : List V} {us ws : List Value}, vs.length = n → zs.length = ks.length → Vals vs us → Vals zs ws → Vals (gV vs zs) (g us ws) ∧ (gV vs zs).length = ps.length) (hg : Gl X x) (hn : n ≤ 10) (ha : PA X (e :: es) ta) (hkw : PK X kws tk)
    (hall : (backToKw pos (keywordEach kws X.env)).all (·.1.isSome) = true := by rfl) (hks : (backToKw pos (keywordEach kws X.env)).filterMap (·.1) = ks := by rfl) (hdb : (x == ("__debug__" : Str)) = false := by decide) (he : starEach (e :: es) X.env = (false, eval e X.env) :: starEach es X.env := by rfl)
    (hpl : ((backTo pos (starEach (e :: es) X.env)).any (·.1) || (backToKw pos (keywordEach kws X.env)).any (·.1.isNone)) = false := by rfl) : PE X (.Call (.Name x p) (e :: es) kws pos) (tErrK C n ks.length gV fs ta tk) := by
  refine ⟨fun pins s σ H Q I h => ?_⟩
  refine wpAny_Call_Name_kw (ld_glob I hg M.g ?_ hdb)
  refine PySem.W.callWith_KW (h₀ := X.base) I.ok.mod.kin M.oex.kC hall (thn (ha.run pos pins s σ H _ I h) fun us s1 ⟨vs, H1, I1, r, q⟩ => ?_) hpl he
  refine thn (hkw.run pos pins s1 σ H1 _ I1 q) fun ws s2 ⟨zs, H2, I2, rz, l1, l2, q2⟩ => ⟨I2.kIn, ?_⟩
  rw [hks]
  obtain ⟨r3, l3⟩ := rel l1 l2 r rz
  exact run_err M hr (fun s a _ => bnd s a us ws (r.length.symm.trans l1) (rz.length.symm.trans l2)) I2 r3 l3 (by have := r.length; show us.length ≤ sizeLine; rw [sizeLine_eq]; omega) q2
theorem pe_errK0 (M : Made X.prog X.w X.K X.mg X.base x C ps fs) (hr : Room 2 X.A) (bnd : ∀ (s : Shared) (a : Addr) (us ws : List Value), us.length = 0 → ws.length = ks.length → BindsTo s M.fd ⟨.ref a :: us, ks.zip ws⟩ (((("self" : Str) :: ps)).zip (.ref a :: g us ws)))
    (rel : ∀ {vs zs : List V} {us ws : List Value}, vs.length = 0 → zs.length = ks.length → Vals vs us → Vals zs ws → Vals (gV vs zs) (g us ws) ∧ (gV vs zs).length = ps.length) (hg : Gl X x) (hkw : PK X kws tk)
    (hall : (backToKw pos (keywordEach kws X.env)).all (·.1.isSome) = true := by rfl) (hks : (backToKw pos (keywordEach kws X.env)).filterMap (·.1) = ks := by rfl) (hdb : (x == ("__debug__" : Str)) = false := by decide)
    (hpl : ((backTo pos (starEach [] X.env)).any (·.1) || (backToKw pos (keywordEach kws X.env)).any (·.1.isNone)) = false := by rfl) : PE X (.Call (.Name x p) [] kws pos) (tErrK C 0 ks.length gV fs tNil tk) := by
  refine ⟨fun pins s σ H Q I h => ?_⟩
  refine wpAny_Call_Name_kw (ld_glob I hg M.g ?_ hdb)
  refine PySem.W.callWith_KW0 (h₀ := X.base) I.ok.mod.kin M.oex.kC hall ?_ hpl
  refine thn (hkw.run pos pins s σ H _ I h) fun ws s2 ⟨zs, H2, I2, rz, l1, l2, q2⟩ => ⟨I2.kIn, ?_⟩
  rw [hks]
  obtain ⟨r3, l3⟩ := rel l1 l2 (us := []) .nil rz
  exact run_err M hr (fun s a _ => bnd s a [] ws rfl (rz.length.symm.trans l2)) I2 r3 l3 (Nat.zero_le _) q2
theorem pe_err (M : Made X.prog X.w X.K X.mg X.base x C ps fs) (hr : Room 2 X.A) (bnd : ∀ (s : Shared) (a : Addr) (us : List Value), us.length = ps.length → BindsTo s M.fd ⟨.ref a :: us, []⟩ (((("self" : Str) :: ps)).zip (.ref a :: us))) (hg : Gl X x) (hn : ps.length ≤ 10) (ha : PA X (e :: es) ta)
    (hdb : (x == ("__debug__" : Str)) = false := by decide) (he : starEach (e :: es) X.env = (false, eval e X.env) :: starEach es X.env := by rfl) (hpl : (backTo pos (starEach es X.env)).any (·.1) = false := by rfl) :
    PE X (.Call (.Name x p) (e :: es) [] pos) (fun σ H Q => ta σ H fun vs H2 => vs.length = ps.length ∧ ∀ a d, H2 a = none → H2 d = none → d ≠ a → Q (.ref a) (upd (upd H2 d (exd d (fs vs))) a (exo a C (some d)))) := by
  refine ⟨fun pins s σ H Q I h => ?_⟩
  refine wpAny_Call_Name_kw (ld_glob I hg M.g ?_ hdb)
  refine PySem.W.callWith_K (h₀ := X.base) I.ok.mod.kin M.oex.kC (thn (ha.run pos pins s σ H _ I h) fun us s1 ⟨vs, H1, I1, r, l1, q⟩ => ⟨I1.kIn, ?_⟩) he hpl
  exact run_err (kw := []) M hr (fun s a _ => bnd s a us (r.length.symm.trans l1)) I1 r l1 (by have := r.length; show us.length ≤ sizeLine; rw [sizeLine_eq]; omega) q
/-- e.f of such a value -/
def tEv (K : PySem.W.Frag) (f : Str) (te : TE) : TE := fun σ H Q => te σ H fun y H1 => ∃ (a C d : Addr) (fs : List (Str × V)) (v : V), y = .ref a ∧ H1 a = some (exo a C (some d)) ∧ H1 d = some (exd d fs) ∧ XfC K C ∧ PySem.W.findIn K (.ref C) f = some none ∧ fs.lookup f = some v ∧ Q v H1
theorem pe_ev {o : Expr} {f : Str} {to : TE} (ho : PE X o to) (hb : attributeBase o f X.env (eval o X.env) = eval o X.env := by rfl) : PE X (.Attribute o f pos) (tEv X.K f to) := by
  refine ⟨fun pins s σ H Q I h => ?_⟩
  refine attr_of hb (thn (ho.run pins s σ H _ I h) fun u s1 ⟨y, H1, I1, r1, a, C, d, fs, v, ey, ea, ed, T, no, l, q⟩ => ?_)
  subst ey
  obtain rfl : u = Value.ref a := r1
  obtain ⟨t1, ha⟩ := exo_at I1.hok ea
  obtain ⟨mA, hns, hm⟩ := exd_at I1.hok ed
  obtain ⟨od, hod, hl⟩ := lookIn_ns hns
  obtain ⟨z, hz, rz⟩ := RelO.some_of (v := v) (o := mA f) (by rw [← l]; exact hm f)
  have J : PySem.W.InstAt s1.heap a _ C (some od) := ⟨ha, rfl, rfl, hod⟩
  exact HandSPX.exc_get I1.kIn J T.ga T.gg T.exC (PySem.W.findObj_own T.hdC no rfl (by rw [hl, hz])) (handed_of rz) ⟨v, H1, I1.tok _, rz, q⟩
/-- an error of the class D stands at a -/
def ErAt (H : Hp) (a D : Addr) : Prop := (∃ d fs, H a = some (exo a D (some d)) ∧ H d = some (exd d fs)) ∨ H a = some (ExO (.ref D) a)
theorem call_isV : CallR X (.builtin "isinstance") (fun xs H Q => ∃ (a D : Addr) (c : V) (cv : Value) (b : Bool), xs = [.ref a, c] ∧ ErAt H a D ∧ ExcC X.K D ∧ (∀ u, RelV c u → u = cv) ∧ PySem.W.kitOne X.K (.ref D) cv = some b ∧ Q (.bl b) H) := by
  intro pins s σ H xs us Q I r h
  obtain ⟨a, D, c, cv, b, rfl, er, C, hcv, hk, q⟩ := h
  cases r with
  | cons rx rr =>
    cases rr with
    | cons rt rr =>
      cases rr
      cases rx
      have ec := hcv _ rt
      subst ec
      have hcl : (PySem.W.clsIn X.K D).isSome = true := by
        obtain ⟨cd, hc, _⟩ := PySem.W.any_some C.hd
        rw [hc]
        rfl
      rcases er with ⟨d, fs, ea, ed⟩ | ea
      · obtain ⟨t1, ha⟩ := exo_at I.hok ea
        obtain ⟨mA, hns, hm⟩ := exd_at I.hok ed
        obtain ⟨od, hod, _⟩ := lookIn_ns hns
        have J : PySem.W.InstAt s.heap a _ D (some od) := ⟨ha, rfl, rfl, hod⟩
        exact PySem.W.kia_one (PySem.W.kitx_exc hcl C.hg C.hk C.hs C.ha C.hn C.ht C.hm) I.kIn J hk (fun z => nomatch z) fun tk => ⟨.bl b, H, I.kept (t' := tk) fun _ _ z => z, rfl, q⟩
      · obtain ⟨⟨oe, vs, ho, hz, hd, _⟩, _⟩ := I.hok a _ ea
        have J : PySem.W.InstAt s.heap a oe D none := by
          obtain ⟨oc, od, oda, osl⟩ := oe
          obtain ⟨h1, h2⟩ := hz
          dsimp only at h1 h2 hd
          subst h1 h2 hd
          exact ⟨ho, rfl, rfl, trivial⟩
        exact PySem.W.kia_one (PySem.W.kitx_exc hcl C.hg C.hk C.hs C.ha C.hn C.ht C.hm) I.kIn J hk (fun z => nomatch z) fun tk => ⟨.bl b, H, I.kept (t' := tk) fun _ _ z => z, rfl, q⟩
end
end ExV

set_option Elab.async false
set_option linter.all false
set_option maxRecDepth 100000
namespace My
open PySem PySem.Spec PyProof.Rows L2 SX
/-! ### the same rules, the heap behind them left open -/
/-- a new object -/
def New (o : HO) (Q : VK) (H : Hp) : Prop := ∀ p H', Same H H' → H' p = some o → Q (.ref p) H'
/-- a tuple, new or not -/
def NewT (K : PySem.W.Frag) (xs : List V) (Q : VK) (H : Hp) : Prop := ∀ p H', Same H H' → SqT K H' p xs → Q (.ref p) H'
theorem New.go {o : HO} {Q : VK} {H : Hp} (h : New o Q H) : ∀ p, H p = none → Q (.ref p) (upd H p o) := fun p np => h p _ (same_new np o) upd_same
theorem NewT.go {K : PySem.W.Frag} {xs : List V} {Q : VK} {H : Hp} (h : NewT K xs Q H) : ∀ p, H p = none → Q (.ref p) (upd H p (.tup xs)) := fun p np => h p _ (same_new np _) (SqT.of upd_same)
theorem le1k {n : Nat} (h : Nat.ble n 1000 = true := by rfl) : n ≤ 1000 := Nat.le_of_ble_eq_true h
theorem fit1000 {n : Nat} (h : n ≤ 1000) : n ≤ sizeLine := Nat.le_of_lt (small1000 h)
def nTup (K : PySem.W.Frag) (t : TA) : TE := fun σ H Q => t σ H fun xs H1 => xs.length ≤ 1000 ∧ NewT K xs Q H1
def nLst (t : TA) : TE := fun σ H Q => t σ H fun xs H1 => xs.length ≤ 1000 ∧ New (.lst xs) Q H1
def nCatT (K : PySem.W.Frag) : R2 := fun x y H Q => ∃ a b xs ys, x = .ref a ∧ y = .ref b ∧ SqT K H a xs ∧ SqT K H b ys ∧ xs.length + ys.length ≤ 1000 ∧ NewT K (xs ++ ys) Q H
def nCatL : R2 := fun x y H Q => ∃ l b xs zs, x = .ref l ∧ y = .ref b ∧ H l = some (.lst xs) ∧ H b = some (.lst zs) ∧ xs.length + zs.length ≤ 1000 ∧ New (.lst (xs ++ zs)) Q H
def nSlT (K : PySem.W.Frag) : V → Option Int → Option Int → Hp → VK → Prop := fun x lo hi H Q => ∃ a xs, x = .ref a ∧ SqT K H a xs ∧ NewT K (cutV xs lo hi) Q H
def nListOf (K : PySem.W.Frag) : List V → Hp → VK → Prop := fun xs H Q => ∃ p ys, xs = [.ref p] ∧ (SqL K H p ys ∨ SqT K H p ys) ∧ New (.lst ys) Q H
section
variable {X : Cx} {es : List Expr} {t : TA} {pos : Pos}
theorem pe_tupN {x1} (h : PA X es t) : PE X (.Tuple es x1 pos) (nTup X.K t) := by
  refine ⟨fun pins s σ H Q I hq => wpAny_Tuple_spliced (thn (h.run pos pins s σ H _ I hq) fun us s1 ⟨xs, H1, I1, r, z, q⟩ => ⟨by rw [← r.length]; exact fit1000 z, ?_⟩)⟩
  have hf := I1.hok.fresh (Nat.le_refl s1.heap.objs.size)
  exact ⟨.ref s1.heap.objs.size, upd H1 s1.heap.objs.size (.tup xs), I1.laid (t' := s1.toks) (fun b u e => Heap.get?_push_of_some _ e) (Nat.le_refl _) ⟨fit1000 z, us, r, ⟨_, Heap.get?_push_size _ rfl, rfl, _, rfl⟩⟩, rfl, q.go _ hf⟩
theorem pe_lstN (h : PA X es t) : PE X (.List es pos) (nLst t) := by
  refine ⟨fun pins s σ H Q I hq => wpAny_List_spliced (thn (h.run pos pins s σ H _ I hq) fun us s1 ⟨xs, H1, I1, r, z, q⟩ => ⟨by rw [← r.length]; exact fit1000 z, ?_⟩)⟩
  have hf := I1.hok.fresh (Nat.le_refl s1.heap.objs.size)
  exact ⟨.ref s1.heap.objs.size, upd H1 s1.heap.objs.size (.lst xs), I1.laid (t' := s1.toks) (fun b u e => Heap.get?_push_of_some _ e) (Nat.le_refl _) ⟨fit1000 z, us, 0, r, Heap.get?_push_size _ rfl⟩, rfl, q.go _ hf⟩
theorem op_catTN : OpR X (binaryOp .Add) (nCatT X.K) := by
  intro pins s σ H x y v u Q I rx ry ⟨a, b, xs, ys, ex, ey, hx, hy, hl, q⟩
  refine op_catA pins s σ H x y v u Q I rx ry ⟨a, b, xs, ys, ex, ey, hx, hy, fit1000 hl, fun e => ?_, fun _ e => ?_, fun _ _ => q.go⟩
  · subst e
    exact q b H (Same.refl H) hy
  · subst e
    exact q a H (Same.refl H) (by rw [List.append_nil]; exact hx)
theorem op_catLN : OpR X (binaryOp .Add) nCatL := by
  intro pins s σ H x y v u Q I rx ry ⟨l, b, xs, zs, ex, ey, hx, hy, hl, q⟩
  exact op_cat pins s σ H x y v u Q I rx ry ⟨l, b, xs, zs, ex, ey, hx, hy, fit1000 hl, q.go⟩
theorem sl_tupN : SlR X (nSlT X.K) := by
  intro pins s σ H x v vl vu lo hi sl Q I rx hs pl pu ⟨a, xs, ex, hx, q⟩
  refine sl_tupA pins s σ H x v vl vu lo hi sl Q I rx hs pl pu ⟨a, xs, ex, hx, fun ⟨e1, e2⟩ => ?_, fun _ => q.go⟩
  refine q a H (Same.refl H) ?_
  have e : cutV xs lo hi = xs := by
    unfold cutV
    rw [e1, e2, List.drop_zero, Nat.sub_zero, List.take_length]
  rw [e]
  exact hx
theorem call_listN : CallR X (.type "list") (nListOf X.K) := by
  intro pins s σ H xs us Q I r ⟨p, ys, ex, hy, q⟩
  exact call_list_of pins s σ H xs us Q I r ⟨p, ys, ex, hy, q.go⟩
end
end My

set_option Elab.async false
set_option linter.all false
set_option maxRecDepth 100000
namespace My
open PySem L2
/-- the builtins that the law names -/
structure Txt0 (K : PySem.W.Frag) (mg : Str → Option Value) where
  isinstance : mg "isinstance" = none
  len : mg "len" = none
  all : mg "all" = none
  int : mg "int" = none
  list : mg "list" = none
  min : mg "min" = none
  range : mg "range" = none
  bool : mg "bool" = none
theorem atI_int {α : Type} {xs : List α} {r : Int} (h0 : 0 ≤ r) (h1 : r < (xs.length : Int)) : ∃ x, atI xs r = some x ∧ x ∈ xs := by
  have h : r.toNat < xs.length := by omega
  refine ⟨xs[r.toNat], ?_, List.getElem_mem h⟩
  have e := atI_nat (xs := xs) (j := r.toNat) (v := xs[r.toNat]) (List.getElem?_eq_getElem h)
  rw [Int.toNat_of_nonneg h0] at e
  exact e
/-! ### the source of draws -/
def penK (L : Addr) (b l : Int) : List (Key × V) := [(.inr (Str.ofString "cells"), .ref L), (.inr (Str.ofString "stop"), .int b), (.inr (Str.ofString "rest"), .int l)]
structure Pen (K : PySem.W.Frag) (H : Hp) (d L : Addr) (ns : List Int) (n : Nat) : Prop where
  ex : ∃ b l : Int, H d = some (.dK (penK L b l)) ∧ 0 ≤ b ∧ b ≤ n
  cells : SqL K H L (ns.map V.int)
  few : ns.length ≤ 63
section
variable {K : PySem.W.Frag} {H H' : Hp} {d L : Addr} {ns : List Int} {n m : Nat}
theorem Pen.isDk (p : Pen K H d L ns n) : IsDk H d := by
  obtain ⟨b, l, h, _⟩ := p.ex
  exact ⟨_, h⟩
theorem Pen.same (p : Pen K H d L ns n) (k : Same H H') : Pen K H' d L ns n := by
  obtain ⟨b, l, h, h0⟩ := p.ex
  exact ⟨⟨b, l, k _ _ h, h0⟩, k.seq p.cells, p.few⟩
theorem Pen.mono (p : Pen K H d L ns n) (h : n ≤ m) : Pen K H d L ns m := by
  obtain ⟨b, l, e, h0, h1⟩ := p.ex
  exact ⟨⟨b, l, e, h0, by omega⟩, p.cells, p.few⟩
/-- .. behind a change elsewhere: D is new since H -/
theorem Pen.fresh {D : Addr} {o : HO} {H0 : Hp} (p : Pen K H d L ns n) (k : Keep d H0 H) (c0 : SqL K H0 L (ns.map V.int)) (hd : IsDk H0 d) (nD : H0 D = none) : Pen K (upd H D o) d L ns n := by
  obtain ⟨b, l, h, h0⟩ := p.ex
  have ne : d ≠ D := by
    obtain ⟨kvs, e⟩ := hd
    exact ne_of_none e nD
  exact ⟨⟨b, l, by rw [upd_ne ne]; exact h, h0⟩, seqL_keep hd (keep_fresh k nD) c0, p.few⟩
theorem Pen.put {b l : Int} (p : Pen K H d L ns n) (h0 : 0 ≤ b) (h1 : b ≤ m) : Pen K (upd H d (.dK (penK L b l))) d L ns m :=
  ⟨⟨b, l, upd_same, h0, h1⟩, seqL_keep p.isDk (keep_put _) p.cells, p.few⟩
theorem get_cells {b l : Int} (h : H d = some (.dK (penK L b l))) : DGet H d (.str (Str.ofString "cells")) (some (.ref L)) := DGet.k (k := .inr (Str.ofString "cells")) h
theorem get_stop {b l : Int} (h : H d = some (.dK (penK L b l))) : DGet H d (.str (Str.ofString "stop")) (some (.int b)) := DGet.k (k := .inr (Str.ofString "stop")) h
theorem get_rest {b l : Int} (h : H d = some (.dK (penK L b l))) : DGet H d (.str (Str.ofString "rest")) (some (.int l)) := DGet.k (k := .inr (Str.ofString "rest")) h
theorem put_stop {b l b' : Int} (h : H d = some (.dK (penK L b l))) : DPut H d (.str (Str.ofString "stop")) (.int b') (upd H d (.dK (penK L b' l))) := DPut.k (k := .inr (Str.ofString "stop")) h (by show 3 < sizeLine; decide)
theorem put_rest {b l l' : Int} (h : H d = some (.dK (penK L b l))) : DPut H d (.str (Str.ofString "rest")) (.int l') (upd H d (.dK (penK L b l'))) := DPut.k (k := .inr (Str.ofString "rest")) h (by show 3 < sizeLine; decide)
theorem dpAll_ints : ∀ ns : List Int, DpAll K H (ns.map V.int) (ns.map PyData.int)
  | [] => .nil
  | n :: ns => .cons (.int n) (dpAll_ints ns)
theorem shaped_ints (ns : List Int) : SeqAt.shaped (.list (ns.map PyData.int)) = true := by
  have h1 : ∀ ns : List Int, PyData.canLayAll0 (ns.map PyData.int) = true := by
    intro ns
    induction ns with
    | nil => simp only [List.map_nil, PyData.canLayAll0]
    | cons n ns ih => simp only [List.map_cons, PyData.canLayAll0, PyData.canLay0, ih, Bool.and_self]
  have h2 : ∀ ns : List Int, PyData.depthAll (ns.map PyData.int) = 0 := by
    intro ns
    induction ns with
    | nil => simp only [List.map_nil, PyData.depthAll]
    | cons n ns ih => simp only [List.map_cons, PyData.depthAll, PyData.depth, ih, Nat.max_self]
  unfold SeqAt.shaped
  simp only [PyData.canLay0, PyData.depth, h1, h2]
  decide
theorem eqv_nil (ns : List Int) : PyData.eqv (.list (ns.map PyData.int)) (.list []) = ns.isEmpty := by
  cases ns <;> simp [PyData.eqv, PyData.eqvAll]
end
abbrev s_law_pen : Stmt := top 22
abbrev P_law_pen : List Str := ["_law_script"]
theorem sc_law_pen : FnScope P_law_pen P_law_pen (defScope s_law_pen) := ⟨rfl, rfl, rfl, by decide +kernel, rfl, by decide +kernel, by decide +kernel⟩
abbrev s_law_draw : Stmt := top 23
abbrev N_law_draw : List Str := ["_law_pen_here", "_law_many", "_law_digit", "_law_stop", "_law_cell", "_law_blend"]
abbrev P_law_draw : List Str := ["_law_pen_here", "_law_many"]
theorem sc_law_draw : FnScope N_law_draw P_law_draw (defScope s_law_draw) := ⟨rfl, rfl, rfl, by decide +kernel, rfl, by decide +kernel, by decide +kernel⟩
abbrev s_law_pick : Stmt := top 24
abbrev P_law_pick : List Str := ["_law_pen_here", "_law_some"]
theorem sc_law_pick : FnScope P_law_pick P_law_pick (defScope s_law_pick) := ⟨rfl, rfl, rfl, by decide +kernel, rfl, by decide +kernel, by decide +kernel⟩
def spBegin (K : PySem.W.Frag) : Sp := fun vs H Q _ => ∃ (a : Addr) (ns : List Int), vs = [.ref a] ∧ SqL K H a (ns.map V.int) ∧ ns.length ≤ 63 ∧ ∀ d L H', Same H H' → Pen K H' d L ns 0 → Q (.ref d) H'
def spDraw (K : PySem.W.Frag) : Sp := fun vs H Q _ => ∃ (d L : Addr) (ns : List Int) (n : Nat) (m : Int), vs = [.ref d, .int m] ∧ Pen K H d L ns n ∧ n < 2 ^ 40 ∧ 0 < m ∧ m ≤ 2 ^ 20 ∧
  ∀ (r : Int) H', 0 ≤ r → r < m → Keep d H H' → Pen K H' d L ns (n + 1) → Q (.int r) H'
def spPick (K : PySem.W.Frag) : Sp := fun vs H Q _ => ∃ (d L : Addr) (ns : List Int) (n : Nat) (v : V), vs = [.ref d, v] ∧ Pen K H d L ns n ∧ n < 2 ^ 40 ∧
  ((∃ (a : Addr) (xs : List V), v = .ref a ∧ SqL K H a xs ∧ xs ≠ [] ∧ xs.length ≤ 1000 ∧ ∀ x H', x ∈ xs → Keep d H H' → Pen K H' d L ns (n + 1) → Q x H') ∨
   (∃ z : Str, v = .str z ∧ 1 ≤ z.length ∧ z.length ≤ 1000 ∧ ∀ c H', c ∈ z.cps.toList → Keep d H H' → Pen K H' d L ns (n + 1) → Q (.str ⟨#[c]⟩) H'))
section
variable {P : Program} {w : World} {K : PySem.W.Frag} {mg : Str → Option Value} {base : Heap} {f : Addr} {fd : FuncData}
theorem ok_law_pen (T : Txt0 K mg) (F : Fun K "_law_pen" "_law_pen" s_law_pen f fd) : FnOk P w K mg base CX0 1 f fd P_law_pen (spBegin K) := by
  refine F.ok sc_law_pen (fun vs H Q E h => ?_) (fun cdv A outer s H vs Q E hr h => ?_)
  · obtain ⟨a, ns, rfl, _⟩ := h
    rfl
  obtain ⟨a, ns, rfl, hS, h63, q⟩ := h
  refine ⟨_, (pss_one (ps_ret (pe_disp (pps_cons pe_str (pe_callTy call_list_of rfl T.list (by decide +kernel) (pa_cons (pe_slice sl_list (pv 0) po_none (po_some pe_int)) pa_nil)) (pps_cons pe_str pe_int (pps_cons pe_str pe_int pps_nil))) (by rfl) (by rfl) (fun z => by cases z) (by decide)))), ?_⟩
  refine fun d nd => ⟨_, rfl, _, rfl, a, _, rfl, (same_new nd _).seq hS, fun p1 n1 => ⟨p1, _, rfl, .inl (SqL.of upd_same), fun p2 n2 => ⟨?_, penK p2 0 0, rfl, by show 3 ≤ 15; decide, ?_⟩⟩⟩
  · have e1 : upd (upd H d (.dK [])) p1 (.lst (cutV (ns.map V.int) none (some 63))) d = some (.dK []) := same_new n1 _ _ _ upd_same
    exact same_new n2 _ _ _ e1
  · have e1 : upd (upd H d (.dK [])) p1 (.lst (cutV (ns.map V.int) none (some 63))) d = some (.dK []) := same_new n1 _ _ _ upd_same
    have ne : p2 ≠ d := fun z => (ne_of_none e1 n2) z.symm
    have c : cutV (ns.map V.int) none (some 63) = ns.map V.int := by
      have el : (ns.map V.int).length = ns.length := List.length_map _
      show (ns.map V.int).take (min 63 (ns.map V.int).length - 0) = _
      rw [Nat.min_eq_right (by omega), Nat.sub_zero, List.take_length]
    refine q d p2 _ ?_ ⟨⟨0, 0, upd_same, by omega, by omega⟩, ?_, h63⟩
    · exact fun b o hb => by
        have nb : b ≠ d := ne_of_none hb nd
        rw [upd_ne nb]
        exact same_new n2 _ _ _ (same_new n1 _ _ _ (same_new nd _ _ _ hb))
    · refine SqL.of ?_
      rw [upd_ne ne, upd_same, c]
theorem ok_law_draw (T : Txt0 K mg) (F : Fun K "_law_draw" "_law_draw" s_law_draw f fd) : FnOk P w K mg base CX0 1 f fd P_law_draw (spDraw K) := by
  refine F.ok sc_law_draw (fun vs H Q E h => ?_) (fun cdv A outer s H vs Q E hr h => ?_)
  · obtain ⟨d, L, ns, n, m, rfl, _⟩ := h
    rfl
  obtain ⟨d, L, ns, n, m, rfl, p, hn, hm, hm2, q⟩ := h
  refine ⟨_, (pss_cons (ps_if (pt_cmpR op_ge (pe_dget (hu_of hr) (pv 0) pe_str (fun _ _ => rfl)) (pv 1) (nomark _))
    (pss_cons (ps_set (i := 2) sc_law_draw.nd rfl (Or.inl rfl) (pe_op op_mod (pe_callTy call_int1 rfl T.int (by decide +kernel) (pa_cons (pe_dget (hu_of hr) (pv 0) pe_str (fun _ _ => rfl)) pa_nil)) (pv 1)))
    (pss_cons (ps_dput (hu_of hr) (pv 0) pe_str (pe_op op_fdivW (pe_dget (hu_of hr) (pv 0) pe_str (fun _ _ => rfl)) (pv 1)) rfl)
    (pss_one (ps_ret (pv 2)))))
    pss_nil)
  (pss_cons (ps_set (i := 3) sc_law_draw.nd rfl (Or.inl rfl) (pe_dget (hu_of hr) (pv 0) pe_str (fun _ _ => rfl)))
  (pss_cons (ps_dput (hu_of hr) (pv 0) pe_str (pe_op op_add (pv 3) pe_int) rfl)
  (pss_cons (ps_set (i := 4) sc_law_draw.nd rfl (Or.inl rfl) (pe_op op_add (pe_op op_mul pe_int (pv 3)) pe_int))
  (pss_cons (ps_if (pt_cmpR (op_neD hr.units) (pe_dget (hu_of hr) (pv 0) pe_str (fun _ _ => rfl)) (pe_lst pa_nil) (nomark _))
    (pss_one (ps_set (i := 4) sc_law_draw.nd rfl (Or.inl rfl) (pe_ix ix_list (pe_dget (hu_of hr) (pv 0) pe_str (fun _ _ => rfl)) (pe_op op_mod (pe_callTy call_int1 rfl T.int (by decide +kernel) (pa_cons (pv 3) pa_nil)) (pe_callB call_len rfl T.len (by decide +kernel) (pa_cons (pe_dget (hu_of hr) (pv 0) pe_str (fun _ _ => rfl)) pa_nil))) (fun _ _ => rfl))))
    pss_nil)
  (pss_cons (ps_if (PW.pt (pw_and (pt_cmpR op_lt (pv 3) (pe_callB call_len rfl T.len (by decide +kernel) (pa_cons (pe_dget (hu_of hr) (pv 0) pe_str (fun _ _ => rfl)) pa_nil)) (nomark _)) (pw_and1 (pt_cmpR op_ge (pv 4) (pe_op op_pow pe_int pe_int) (nomark _)))))
    (pss_cons (ps_dput (hu_of hr) (pv 0) pe_str (pe_op op_fdivW (pe_op op_sub (pv 4) (pe_op op_pow pe_int pe_int)) (pv 1)) rfl)
    (pss_one (ps_ret (pe_op op_mod (pe_callTy call_int1 rfl T.int (by decide +kernel) (pa_cons (pe_op op_sub (pv 4) (pe_op op_pow pe_int pe_int)) pa_nil)) (pv 1)))))
    pss_nil)
  (pss_cons (ps_set (i := 5) sc_law_draw.nd rfl (Or.inl rfl) (pe_op op_mul (pe_op op_mod (pe_callTy call_int1 rfl T.int (by decide +kernel) (pa_cons (pv 4) pa_nil)) pe_int) pe_int))
  (pss_cons (ps_set (i := 5) sc_law_draw.nd rfl (Or.inl rfl) (pe_op op_mod (pe_callTy call_int1 rfl T.int (by decide +kernel) (pa_cons (pe_op op_add (pe_op op_add (pe_op op_add (pv 5) (pe_op op_mul (pe_op op_mul pe_int (pv 3)) (pv 3))) (pe_op op_mul pe_int (pv 3))) pe_int) pa_nil)) pe_int))
  (pss_cons (ps_set (i := 5) sc_law_draw.nd rfl (Or.inl rfl) (pe_op op_mod (pe_callTy call_int1 rfl T.int (by decide +kernel) (pa_cons (pe_op op_mul (pv 5) (pe_op op_add (pv 5) pe_int)) pa_nil)) pe_int))
  (pss_one (ps_ret (pe_op op_mod (pe_callTy call_int1 rfl T.int (by decide +kernel) (pa_cons (pe_op op_fdivW (pe_op op_mod (pe_callTy call_int1 rfl T.int (by decide +kernel) (pa_cons (pe_op op_add (pe_op op_mul (pv 5) (pv 5)) (pe_op op_mul pe_int (pv 5))) pa_nil)) pe_int) pe_int) pa_nil)) (pv 1))))))))))))), ?_⟩
  obtain ⟨b, l, hd, hb0, hbn⟩ := p.ex
  have hb : -(2 ^ 64) < b ∧ b < 2 ^ 64 := by omega
  have hdiv : L2.CDivW 0 m := wide_div hm (b := 21) (by omega) (by decide) (by decide)
  have kd : IsDk H d := p.isDk
  refine ⟨_, rfl, d, _, rfl, get_rest hd, _, rfl, _, _, rfl, rfl, _, rfl, ?_⟩
  refine ite2 (fun c => ?_) (fun c => ?_)
  · refine ⟨_, rfl, d, _, rfl, get_rest hd, .inl ⟨_, rfl, _, rfl, _, _, rfl, rfl, hm, ?_⟩⟩
    refine ⟨_, rfl, d, _, rfl, get_rest hd, _, rfl, _, _, rfl, rfl, hdiv, _, rfl, d, _, rfl, put_rest hd, _, rfl, ?_⟩
    exact q _ _ (Int.emod_nonneg _ (by omega)) (Int.emod_lt_of_pos _ hm) (keep_put _) (p.put hb0 (by omega))
  · refine ⟨_, rfl, d, _, rfl, get_stop hd, ?_⟩
    refine ⟨_, rfl, _, _, rfl, rfl, _, rfl, d, _, rfl, put_stop hd, ?_⟩
    have h1 : upd H d (.dK (penK L (b + 1) l)) d = some (.dK (penK L (b + 1) l)) := upd_same
    have p1 : Pen K (upd H d (.dK (penK L (b + 1) l))) d L ns (n + 1) := p.put (by omega) (by omega)
    have k1 : Keep d H (upd H d (.dK (penK L (b + 1) l))) := keep_put _
    generalize upd H d (.dK (penK L (b + 1) l)) = H1 at h1 p1 k1 ⊢
    refine ⟨_, rfl, _, _, rfl, rfl, .inl ⟨by decide, by decide⟩, _, _, rfl, rfl, ?_⟩
    refine ⟨_, rfl, d, _, rfl, get_cells h1, by show 0 ≤ sizeLine; decide, fun p0 np0 => ⟨.list (ns.map PyData.int), .list [], .lst ((same_new np0 _).seq p1.cells) (dpAll_ints ns), .lst (SqL.of upd_same) .nil, shaped_ints ns, by decide, _, rfl, ?_⟩⟩
    have h2 := same_new np0 (.lst []) _ _ h1
    have p2 := p1.same (same_new np0 (.lst []))
    have k2 : Keep d H (upd H1 p0 (.lst [])) := k1.trans (Same.toKeep (same_new np0 (.lst [])))
    generalize upd H1 p0 (.lst []) = H2 at h2 p2 k2 ⊢
    rw [eqv_nil]
    have hlen : ∀ x, (ns.map V.int).length = x → ns.length = x := fun x e => by rw [List.length_map] at e; exact e
    generalize hcv : (61 * b + 53 : Int) = c0
    refine ite2 (fun c1 => ?a) (fun c1 => ?b)
    case' a =>
      have hne : 0 < ns.length := by
        cases ns with
        | nil => cases c1
        | cons _ _ => exact Nat.succ_pos _
      have hpos : (0 : Int) < ((ns.map V.int).length : Nat) := by rw [List.length_map]; omega
      have hlt : (b % ((ns.map V.int).length : Nat)).toNat < ns.length := by
        have h3 := Int.emod_nonneg b (b := (((ns.map V.int).length : Nat) : Int)) (by omega)
        have h4 := Int.emod_lt_of_pos b hpos
        rw [List.length_map] at *
        omega
      have hat : atI (ns.map V.int) (b % ((ns.map V.int).length : Nat)) = some (V.int ns[(b % ((ns.map V.int).length : Nat)).toNat]) := by
        have h3 := Int.emod_nonneg b (b := (((ns.map V.int).length : Nat) : Int)) (by omega)
        have e := Int.toNat_of_nonneg h3
        have g := atI_nat (xs := ns.map V.int) (j := (b % ((ns.map V.int).length : Nat)).toNat) (v := V.int ns[(b % ((ns.map V.int).length : Nat)).toNat]) (by rw [List.getElem?_map, List.getElem?_eq_getElem hlt]; rfl)
        rw [e] at g
        exact g
      generalize ns[(b % ((ns.map V.int).length : Nat)).toNat] = c2 at hat
      refine ⟨_, rfl, d, _, rfl, get_cells h2, _, rfl, .inl ⟨_, rfl, _, rfl, d, _, rfl, get_cells h2, _, _, rfl, .inl ⟨_, p2.cells, rfl⟩, _, _, rfl, rfl, hpos, L, _, _, _, rfl, rfl, p2.cells, hat, ?_⟩⟩
    all_goals
      refine ⟨_, rfl, _, rfl, d, _, rfl, get_cells h2, _, _, rfl, .inl ⟨_, p2.cells, rfl⟩, _, _, rfl, rfl, _, rfl, ?_⟩
      refine ite2 (fun c4 => ?_) (fun c4 => ?_)
      refine ⟨_, rfl, _, _, rfl, rfl, ⟨by decide, by decide, by decide⟩, _, _, rfl, rfl, _, rfl, ?_⟩
      refine ite2 (fun c5 => ?_) (fun c5 => ?_)
      refine ⟨_, rfl, _, _, rfl, rfl, ⟨by decide, by decide, by decide⟩, _, _, rfl, rfl, _, rfl, _, _, rfl, rfl, hdiv, _, rfl, d, _, rfl, put_rest h2, ?_⟩
      refine ⟨_, rfl, _, _, rfl, rfl, ⟨by decide, by decide, by decide⟩, _, _, rfl, rfl, .inl ⟨_, rfl, _, rfl, _, _, rfl, rfl, hm, ?_⟩⟩
      exact q _ _ (Int.emod_nonneg _ (by omega)) (Int.emod_lt_of_pos _ hm) (k2.trans (keep_put _)) (p2.put (by omega) (by omega))
      all_goals
        refine ⟨_, rfl, .inl ⟨_, rfl, _, _, rfl, rfl, (by show (0 : Int) < 2147483249; decide), _, _, rfl, rfl, .inr ⟨by decide, by decide⟩, ?_⟩⟩
        refine ⟨_, rfl, _, rfl, _, _, rfl, rfl, .inl ⟨by decide, by decide⟩, _, rfl, _, _, rfl, rfl, .inr hb, _, _, rfl, rfl, _, rfl, _, _, rfl, rfl, .inl ⟨by decide, by decide⟩, _, _, rfl, rfl, _, _, rfl, rfl, .inl ⟨_, rfl, _, _, rfl, rfl, (by show (0 : Int) < 2147483323; decide), ?_⟩⟩
        refine ⟨_, rfl, _, rfl, _, _, rfl, rfl, _, _, rfl, rfl, .inl ⟨by omega, by omega⟩, .inl ⟨_, rfl, _, _, rfl, rfl, (by show (0 : Int) < 2147483353; decide), ?_⟩⟩
        refine ⟨_, rfl, _, rfl, _, _, rfl, rfl, .inl ⟨by omega, by omega⟩, _, rfl, _, _, rfl, rfl, .inl ⟨by decide, by decide⟩, _, _, rfl, rfl, .inl ⟨_, rfl, _, _, rfl, rfl, (by show (0 : Int) < 2147483399; decide), _, _, rfl, rfl, ⟨by decide, by decide⟩, .inl ⟨_, rfl, _, rfl, _, _, rfl, rfl, hm, ?_⟩⟩⟩
        exact q _ _ (Int.emod_nonneg _ (by omega)) (Int.emod_lt_of_pos _ hm) k2 p2
theorem ok_law_pick (T : Txt0 K mg) (F : Fun K "_law_pick" "_law_pick" s_law_pick f fd) (C_law_draw : Cal P w K mg base "_law_draw" 1 P_law_draw (spDraw K)) : FnOk P w K mg base CX0 2 f fd P_law_pick (spPick K) := by
  refine F.ok sc_law_pick (fun vs H Q E h => ?_) (fun cdv A outer s H vs Q E hr h => ?_)
  · obtain ⟨d, L, ns, n, v, rfl, _⟩ := h
    rfl
  obtain ⟨d, L, ns, n, v, rfl, p, hn, h⟩ := h
  refine ⟨_, (pss_one (ps_ret (pe_ix ix_seq (pv 1) (pe_callC C_law_draw hr (pa_cons (pv 0) (pa_cons (pe_callB call_len rfl T.len (by decide +kernel) (pa_cons (pv 1) pa_nil)) pa_nil))) (fun _ _ => rfl)))), ?_⟩
  rcases h with ⟨a, xs, rfl, hS, hne, hl, q⟩ | ⟨z, rfl, h1, h2, q⟩
  · have hpos : 0 < xs.length := by
      cases xs with
      | nil => exact absurd rfl hne
      | cons _ _ => exact Nat.succ_pos _
    refine ⟨_, rfl, _, rfl, _, rfl, _, _, rfl, .inl ⟨xs, hS, rfl⟩, d, L, ns, n, (xs.length : Int), rfl, p, hn, by omega, by omega, fun r H' r0 r1 k p' => ?_⟩
    obtain ⟨x, hx, hm⟩ := atI_int (xs := xs) r0 r1
    exact .inl ⟨a, xs, r, x, rfl, rfl, seqL_keep p.isDk k hS, hx, q x H' hm k p'⟩
  · have hz : z.length ≤ sizeLine := Nat.le_of_lt (small1000 h2)
    refine ⟨_, rfl, _, rfl, _, rfl, _, _, rfl, ⟨hz, rfl⟩, d, L, ns, n, (z.length : Int), rfl, p, hn, by omega, by omega, fun r H' r0 r1 k p' => ?_⟩
    have el : z.cps.toList.length = z.length := Array.length_toList
    obtain ⟨x, hx, hm⟩ := atI_int (xs := z.cps.toList) (r := r) r0 (by rw [el]; exact r1)
    exact .inr (.inr ⟨z, r, x, rfl, rfl, hz, hx, q x H' hm k p'⟩)
end
end My

set_option Elab.async false
set_option linter.all false
set_option maxRecDepth 100000
namespace My
open PySem L2
theorem PE.weak {X : Cx} {e : Expr} {t t' : TE} (h : PE X e t) (i : ∀ σ H Q, t' σ H Q → t σ H Q) : PE X e t' := ⟨fun pins s σ H Q I g => h.run pins s σ H Q I (i σ H Q g)⟩
theorem PA.weak {X : Cx} {es : List Expr} {t t' : TA} (h : PA X es t) (i : ∀ σ H Q, t' σ H Q → t σ H Q) : PA X es t' := ⟨fun pos pins s σ H Q I g => h.run pos pins s σ H Q I (i σ H Q g)⟩
def one (f : Str) : List V → List (Str × V)
  | [x] => [(f, x)]
  | _ => []
def two (f g : Str) : List V → List (Str × V)
  | [x, y] => [(g, y), (f, x)]
  | _ => []
def spIni (K : PySem.W.Frag) (C : Addr) (n : Nat) (fs : List V → List (Str × V)) : Sp := fun vs H Q _ => ∃ (a : Addr) (xs : List V), vs = .ref a :: xs ∧ xs.length = n ∧ H a = some (exo a C none) ∧ ∀ d, H d = none → d ≠ a → Q .non (upd (upd H d (exd d (fs xs))) a (exo a C (some d)))
theorem two_upd {H : Hp} {a d : Addr} {u v o : HO} (ne : d ≠ a) : upd (upd (upd H d u) a o) d v = upd (upd H d v) a o := by
  funext b
  by_cases h1 : b = d
  · rw [h1, upd_same, upd_ne ne, upd_same]
  · rw [upd_ne h1]
    by_cases h2 : b = a
    · rw [h2, upd_same, upd_same]
    · rw [upd_ne h2, upd_ne h2, upd_ne h1, upd_ne h1]
section
variable {P : Program} {w : World} {K : PySem.W.Frag} {mg : Str → Option Value} {base : Heap} {f : Addr} {fd : FuncData}
abbrev sBadValue : Stmt := inClass (top 2) 0
theorem scBadValue : FnScope ["self", "value"] ["self", "value"] (defScope sBadValue) := ⟨rfl, rfl, rfl, by decide +kernel, rfl, by decide +kernel, by decide +kernel⟩
theorem okBadValue {C : Addr} (T : OexC K C) (no : PySem.W.findIn K (.ref C) "value" = some none) (F : Fun K "__init__" "BadValue.__init__" sBadValue f fd) : FnOk P w K mg base CX0 1 f fd ["self", "value"] (spIni K C 1 (one "value")) := by
  refine F.ok scBadValue (fun vs H Q E h => ?_) (fun cdv A outer s H vs Q E hr h => ?_)
  · obtain ⟨a, xs, rfl, hl, _⟩ := h
    exact congrArg Nat.succ hl
  obtain ⟨a, xs, rfl, hl, ea, q⟩ := h
  match xs, hl with
  | [x], _ => exact ⟨_, pss_one (ps_ost (pv 0) (pv 1)), x, rfl, _, rfl, a, C, rfl, T, no, .inl ⟨ea, fun d n ne => q d n ne⟩⟩
abbrev sTooDeep : Stmt := inClass (top 3) 0
theorem scTooDeep : FnScope ["self", "most"] ["self", "most"] (defScope sTooDeep) := ⟨rfl, rfl, rfl, by decide +kernel, rfl, by decide +kernel, by decide +kernel⟩
theorem okTooDeep {C : Addr} (T : OexC K C) (no : PySem.W.findIn K (.ref C) "most" = some none) (F : Fun K "__init__" "TooDeep.__init__" sTooDeep f fd) : FnOk P w K mg base CX0 1 f fd ["self", "most"] (spIni K C 1 (one "most")) := by
  refine F.ok scTooDeep (fun vs H Q E h => ?_) (fun cdv A outer s H vs Q E hr h => ?_)
  · obtain ⟨a, xs, rfl, hl, _⟩ := h
    exact congrArg Nat.succ hl
  obtain ⟨a, xs, rfl, hl, ea, q⟩ := h
  match xs, hl with
  | [x], _ => exact ⟨_, pss_one (ps_ost (pv 0) (pv 1)), x, rfl, _, rfl, a, C, rfl, T, no, .inl ⟨ea, fun d n ne => q d n ne⟩⟩
abbrev sTooMany : Stmt := inClass (top 4) 0
theorem scTooMany : FnScope ["self", "most"] ["self", "most"] (defScope sTooMany) := ⟨rfl, rfl, rfl, by decide +kernel, rfl, by decide +kernel, by decide +kernel⟩
theorem okTooMany {C : Addr} (T : OexC K C) (no : PySem.W.findIn K (.ref C) "most" = some none) (F : Fun K "__init__" "TooMany.__init__" sTooMany f fd) : FnOk P w K mg base CX0 1 f fd ["self", "most"] (spIni K C 1 (one "most")) := by
  refine F.ok scTooMany (fun vs H Q E h => ?_) (fun cdv A outer s H vs Q E hr h => ?_)
  · obtain ⟨a, xs, rfl, hl, _⟩ := h
    exact congrArg Nat.succ hl
  obtain ⟨a, xs, rfl, hl, ea, q⟩ := h
  match xs, hl with
  | [x], _ => exact ⟨_, pss_one (ps_ost (pv 0) (pv 1)), x, rfl, _, rfl, a, C, rfl, T, no, .inl ⟨ea, fun d n ne => q d n ne⟩⟩
abbrev sNotAText : Stmt := inClass (top 5) 0
theorem scNotAText : FnScope ["self", "at"] ["self", "at"] (defScope sNotAText) := ⟨rfl, rfl, rfl, by decide +kernel, rfl, by decide +kernel, by decide +kernel⟩
theorem okNotAText {C : Addr} (T : OexC K C) (no : PySem.W.findIn K (.ref C) "at" = some none) (F : Fun K "__init__" "NotAText.__init__" sNotAText f fd) : FnOk P w K mg base CX0 1 f fd ["self", "at"] (spIni K C 1 (one "at")) := by
  refine F.ok scNotAText (fun vs H Q E h => ?_) (fun cdv A outer s H vs Q E hr h => ?_)
  · obtain ⟨a, xs, rfl, hl, _⟩ := h
    exact congrArg Nat.succ hl
  obtain ⟨a, xs, rfl, hl, ea, q⟩ := h
  match xs, hl with
  | [x], _ => exact ⟨_, pss_one (ps_ost (pv 0) (pv 1)), x, rfl, _, rfl, a, C, rfl, T, no, .inl ⟨ea, fun d n ne => q d n ne⟩⟩
abbrev sWrongStep : Stmt := inClass (top 6) 0
theorem scWrongStep : FnScope ["self", "at"] ["self", "at"] (defScope sWrongStep) := ⟨rfl, rfl, rfl, by decide +kernel, rfl, by decide +kernel, by decide +kernel⟩
theorem okWrongStep {C : Addr} (T : OexC K C) (no : PySem.W.findIn K (.ref C) "at" = some none) (F : Fun K "__init__" "WrongStep.__init__" sWrongStep f fd) : FnOk P w K mg base CX0 1 f fd ["self", "at"] (spIni K C 1 (one "at")) := by
  refine F.ok scWrongStep (fun vs H Q E h => ?_) (fun cdv A outer s H vs Q E hr h => ?_)
  · obtain ⟨a, xs, rfl, hl, _⟩ := h
    exact congrArg Nat.succ hl
  obtain ⟨a, xs, rfl, hl, ea, q⟩ := h
  match xs, hl with
  | [x], _ => exact ⟨_, pss_one (ps_ost (pv 0) (pv 1)), x, rfl, _, rfl, a, C, rfl, T, no, .inl ⟨ea, fun d n ne => q d n ne⟩⟩
abbrev sUnknown : Stmt := inClass (top 8) 0
theorem scUnknown : FnScope ["self", "name"] ["self", "name"] (defScope sUnknown) := ⟨rfl, rfl, rfl, by decide +kernel, rfl, by decide +kernel, by decide +kernel⟩
theorem okUnknown {C : Addr} (T : OexC K C) (no : PySem.W.findIn K (.ref C) "name" = some none) (F : Fun K "__init__" "Unknown.__init__" sUnknown f fd) : FnOk P w K mg base CX0 1 f fd ["self", "name"] (spIni K C 1 (one "name")) := by
  refine F.ok scUnknown (fun vs H Q E h => ?_) (fun cdv A outer s H vs Q E hr h => ?_)
  · obtain ⟨a, xs, rfl, hl, _⟩ := h
    exact congrArg Nat.succ hl
  obtain ⟨a, xs, rfl, hl, ea, q⟩ := h
  match xs, hl with
  | [x], _ => exact ⟨_, pss_one (ps_ost (pv 0) (pv 1)), x, rfl, _, rfl, a, C, rfl, T, no, .inl ⟨ea, fun d n ne => q d n ne⟩⟩
abbrev sTaken : Stmt := inClass (top 9) 0
theorem scTaken : FnScope ["self", "name"] ["self", "name"] (defScope sTaken) := ⟨rfl, rfl, rfl, by decide +kernel, rfl, by decide +kernel, by decide +kernel⟩
theorem okTaken {C : Addr} (T : OexC K C) (no : PySem.W.findIn K (.ref C) "name" = some none) (F : Fun K "__init__" "Taken.__init__" sTaken f fd) : FnOk P w K mg base CX0 1 f fd ["self", "name"] (spIni K C 1 (one "name")) := by
  refine F.ok scTaken (fun vs H Q E h => ?_) (fun cdv A outer s H vs Q E hr h => ?_)
  · obtain ⟨a, xs, rfl, hl, _⟩ := h
    exact congrArg Nat.succ hl
  obtain ⟨a, xs, rfl, hl, ea, q⟩ := h
  match xs, hl with
  | [x], _ => exact ⟨_, pss_one (ps_ost (pv 0) (pv 1)), x, rfl, _, rfl, a, C, rfl, T, no, .inl ⟨ea, fun d n ne => q d n ne⟩⟩
abbrev sBadPromise : Stmt := inClass (top 11) 0
theorem scBadPromise : FnScope ["self", "promise"] ["self", "promise"] (defScope sBadPromise) := ⟨rfl, rfl, rfl, by decide +kernel, rfl, by decide +kernel, by decide +kernel⟩
theorem okBadPromise {C : Addr} (T : OexC K C) (no : PySem.W.findIn K (.ref C) "promise" = some none) (F : Fun K "__init__" "BadPromise.__init__" sBadPromise f fd) : FnOk P w K mg base CX0 1 f fd ["self", "promise"] (spIni K C 1 (one "promise")) := by
  refine F.ok scBadPromise (fun vs H Q E h => ?_) (fun cdv A outer s H vs Q E hr h => ?_)
  · obtain ⟨a, xs, rfl, hl, _⟩ := h
    exact congrArg Nat.succ hl
  obtain ⟨a, xs, rfl, hl, ea, q⟩ := h
  match xs, hl with
  | [x], _ => exact ⟨_, pss_one (ps_ost (pv 0) (pv 1)), x, rfl, _, rfl, a, C, rfl, T, no, .inl ⟨ea, fun d n ne => q d n ne⟩⟩
abbrev sNotMade : Stmt := inClass (top 13) 0
theorem scNotMade : FnScope ["self", "promise"] ["self", "promise"] (defScope sNotMade) := ⟨rfl, rfl, rfl, by decide +kernel, rfl, by decide +kernel, by decide +kernel⟩
theorem okNotMade {C : Addr} (T : OexC K C) (no : PySem.W.findIn K (.ref C) "promise" = some none) (F : Fun K "__init__" "NotMade.__init__" sNotMade f fd) : FnOk P w K mg base CX0 1 f fd ["self", "promise"] (spIni K C 1 (one "promise")) := by
  refine F.ok scNotMade (fun vs H Q E h => ?_) (fun cdv A outer s H vs Q E hr h => ?_)
  · obtain ⟨a, xs, rfl, hl, _⟩ := h
    exact congrArg Nat.succ hl
  obtain ⟨a, xs, rfl, hl, ea, q⟩ := h
  match xs, hl with
  | [x], _ => exact ⟨_, pss_one (ps_ost (pv 0) (pv 1)), x, rfl, _, rfl, a, C, rfl, T, no, .inl ⟨ea, fun d n ne => q d n ne⟩⟩
abbrev sCannotTake : Stmt := inClass (top 16) 0
theorem scCannotTake : FnScope ["self", "end"] ["self", "end"] (defScope sCannotTake) := ⟨rfl, rfl, rfl, by decide +kernel, rfl, by decide +kernel, by decide +kernel⟩
theorem okCannotTake {C : Addr} (T : OexC K C) (no : PySem.W.findIn K (.ref C) "end" = some none) (F : Fun K "__init__" "CannotTake.__init__" sCannotTake f fd) : FnOk P w K mg base CX0 1 f fd ["self", "end"] (spIni K C 1 (one "end")) := by
  refine F.ok scCannotTake (fun vs H Q E h => ?_) (fun cdv A outer s H vs Q E hr h => ?_)
  · obtain ⟨a, xs, rfl, hl, _⟩ := h
    exact congrArg Nat.succ hl
  obtain ⟨a, xs, rfl, hl, ea, q⟩ := h
  match xs, hl with
  | [x], _ => exact ⟨_, pss_one (ps_ost (pv 0) (pv 1)), x, rfl, _, rfl, a, C, rfl, T, no, .inl ⟨ea, fun d n ne => q d n ne⟩⟩
abbrev sWrongTerm : Stmt := inClass (top 18) 0
theorem scWrongTerm : FnScope ["self", "path"] ["self", "path"] (defScope sWrongTerm) := ⟨rfl, rfl, rfl, by decide +kernel, rfl, by decide +kernel, by decide +kernel⟩
theorem okWrongTerm {C : Addr} (T : OexC K C) (no : PySem.W.findIn K (.ref C) "path" = some none) (F : Fun K "__init__" "WrongTerm.__init__" sWrongTerm f fd) : FnOk P w K mg base CX0 1 f fd ["self", "path"] (spIni K C 1 (one "path")) := by
  refine F.ok scWrongTerm (fun vs H Q E h => ?_) (fun cdv A outer s H vs Q E hr h => ?_)
  · obtain ⟨a, xs, rfl, hl, _⟩ := h
    exact congrArg Nat.succ hl
  obtain ⟨a, xs, rfl, hl, ea, q⟩ := h
  match xs, hl with
  | [x], _ => exact ⟨_, pss_one (ps_ost (pv 0) (pv 1)), x, rfl, _, rfl, a, C, rfl, T, no, .inl ⟨ea, fun d n ne => q d n ne⟩⟩
abbrev sNotOfProgram : Stmt := inClass (top 19) 0
theorem scNotOfProgram : FnScope ["self", "at"] ["self", "at"] (defScope sNotOfProgram) := ⟨rfl, rfl, rfl, by decide +kernel, rfl, by decide +kernel, by decide +kernel⟩
theorem okNotOfProgram {C : Addr} (T : OexC K C) (no : PySem.W.findIn K (.ref C) "at" = some none) (F : Fun K "__init__" "NotOfProgram.__init__" sNotOfProgram f fd) : FnOk P w K mg base CX0 1 f fd ["self", "at"] (spIni K C 1 (one "at")) := by
  refine F.ok scNotOfProgram (fun vs H Q E h => ?_) (fun cdv A outer s H vs Q E hr h => ?_)
  · obtain ⟨a, xs, rfl, hl, _⟩ := h
    exact congrArg Nat.succ hl
  obtain ⟨a, xs, rfl, hl, ea, q⟩ := h
  match xs, hl with
  | [x], _ => exact ⟨_, pss_one (ps_ost (pv 0) (pv 1)), x, rfl, _, rfl, a, C, rfl, T, no, .inl ⟨ea, fun d n ne => q d n ne⟩⟩
abbrev sHasHand : Stmt := inClass (top 20) 0
theorem scHasHand : FnScope ["self", "at"] ["self", "at"] (defScope sHasHand) := ⟨rfl, rfl, rfl, by decide +kernel, rfl, by decide +kernel, by decide +kernel⟩
theorem okHasHand {C : Addr} (T : OexC K C) (no : PySem.W.findIn K (.ref C) "at" = some none) (F : Fun K "__init__" "HasHand.__init__" sHasHand f fd) : FnOk P w K mg base CX0 1 f fd ["self", "at"] (spIni K C 1 (one "at")) := by
  refine F.ok scHasHand (fun vs H Q E h => ?_) (fun cdv A outer s H vs Q E hr h => ?_)
  · obtain ⟨a, xs, rfl, hl, _⟩ := h
    exact congrArg Nat.succ hl
  obtain ⟨a, xs, rfl, hl, ea, q⟩ := h
  match xs, hl with
  | [x], _ => exact ⟨_, pss_one (ps_ost (pv 0) (pv 1)), x, rfl, _, rfl, a, C, rfl, T, no, .inl ⟨ea, fun d n ne => q d n ne⟩⟩
abbrev sNotAFile : Stmt := inClass (top 10) 0
theorem scNotAFile : FnScope ["self", "line", "at"] ["self", "line", "at"] (defScope sNotAFile) := ⟨rfl, rfl, rfl, by decide +kernel, rfl, by decide +kernel, by decide +kernel⟩
theorem okNotAFile {C : Addr} (T : OexC K C) (no : PySem.W.findIn K (.ref C) "line" = some none) (no2 : PySem.W.findIn K (.ref C) "at" = some none) (F : Fun K "__init__" "NotAFile.__init__" sNotAFile f fd) : FnOk P w K mg base CX0 1 f fd ["self", "line", "at"] (spIni K C 2 (two "line" "at")) := by
  refine F.ok scNotAFile (fun vs H Q E h => ?_) (fun cdv A outer s H vs Q E hr h => ?_)
  · obtain ⟨a, xs, rfl, hl, _⟩ := h
    exact congrArg Nat.succ hl
  obtain ⟨a, xs, rfl, hl, ea, q⟩ := h
  match xs, hl with
  | [x, y], _ =>
    refine ⟨_, pss_cons (ps_ost (pv 0) (pv 1)) (pss_one (ps_ost (pv 0) (pv 2))), x, rfl, _, rfl, a, C, rfl, T, no, .inl ⟨ea, fun d n ne => ⟨y, rfl, _, rfl, a, C, rfl, T, no2, .inr ⟨d, [("line", x)], upd_same, by rw [upd_ne ne, upd_same], by show 1 ≤ 900; decide, ?_⟩⟩⟩⟩
    rw [two_upd ne]
    exact q d n ne
abbrev sBroken : Stmt := inClass (top 12) 0
theorem scBroken : FnScope ["self", "promise", "paper"] ["self", "promise", "paper"] (defScope sBroken) := ⟨rfl, rfl, rfl, by decide +kernel, rfl, by decide +kernel, by decide +kernel⟩
theorem okBroken {C : Addr} (T : OexC K C) (no : PySem.W.findIn K (.ref C) "promise" = some none) (no2 : PySem.W.findIn K (.ref C) "paper" = some none) (F : Fun K "__init__" "Broken.__init__" sBroken f fd) : FnOk P w K mg base CX0 1 f fd ["self", "promise", "paper"] (spIni K C 2 (two "promise" "paper")) := by
  refine F.ok scBroken (fun vs H Q E h => ?_) (fun cdv A outer s H vs Q E hr h => ?_)
  · obtain ⟨a, xs, rfl, hl, _⟩ := h
    exact congrArg Nat.succ hl
  obtain ⟨a, xs, rfl, hl, ea, q⟩ := h
  match xs, hl with
  | [x, y], _ =>
    refine ⟨_, pss_cons (ps_ost (pv 0) (pv 1)) (pss_one (ps_ost (pv 0) (pv 2))), x, rfl, _, rfl, a, C, rfl, T, no, .inl ⟨ea, fun d n ne => ⟨y, rfl, _, rfl, a, C, rfl, T, no2, .inr ⟨d, [("promise", x)], upd_same, by rw [upd_ne ne, upd_same], by show 1 ≤ 900; decide, ?_⟩⟩⟩⟩
    rw [two_upd ne]
    exact q d n ne
end
end My

set_option Elab.async false
set_option linter.all false
set_option maxRecDepth 100000
namespace ExV
open PySem PySem.Spec PyProof.Rows L2
/-- x(), an own class without an __init__ of its own, as a value -/
theorem pe_exc0 {X : Cx} {C : Addr} {bmB : List Value} {B newId initId : String} {x : Str} {p pos : Pos} (F : ExcBaseFacts B newId initId bmB) (q : PySem.W.excIn X.K C bmB newId = true) (gC : X.mg x = some (.ref C)) (kC : PySem.W.keepIn X.K (.ref C) = true) (hg : Gl X x) (hdb : (x == ("__debug__" : Str)) = false := by decide) :
    PE X (.Call (.Name x p) [] [] pos) (fun σ H Q => ∀ a, H a = none → Q (.ref a) (upd H a (ExO (.ref C) a))) := by
  refine ⟨fun pins s σ H Q I h => ?_⟩
  refine wpAny_Call_Name_kw (ld_glob I hg gC ?_ hdb)
  refine PySem.W.callWith_K0 I.kIn kC ?_
  show wpAny _ _ (call (.ref C) []) _ _ _
  obtain ⟨bm, N, nm, qn, bs, hdct, sn, sub, ab, col, dd, j0, j1, j2, j3, j5, mN, hC, hN, hni, T⟩ := exc_obj I.kIn q
  refine wpAny_call_exc_subT F T hC hN hni (fun h' a hm => ?_) (by show 0 ≤ sizeLine; rw [sizeLine_eq]; omega)
  have hn : H a = none := I.hok.gone hm.new
  obtain ⟨t, ht, _, _⟩ := hm.there
  exact ⟨.ref a, upd H a (ExO (.ref C) a), I.laidN hm.keeps hm.new hn (exO_ok ht ⟨rfl, rfl⟩ rfl rfl rfl (show 4 < 6 by decide)), rfl, h a hn⟩
end ExV
namespace My
open PySem L2 ExV
/-- an own error with one field -/
structure OneM (P : Program) (w : World) (K : PySem.W.Frag) (mg : Str → Option Value) (base : Heap) (x fld : Str) (C : Addr) extends Made P w K mg base x C [fld] (one fld) where
  bP : ∀ (s : Shared) (a : Addr) (u : Value), BindsTo s fd ⟨[.ref a, u], []⟩ [("self", .ref a), (fld, u)]
  bK : ∀ (s : Shared) (a : Addr) (u : Value), BindsTo s fd ⟨[.ref a], [(fld, u)]⟩ [("self", .ref a), (fld, u)]
  xf : XfC K C
  no : PySem.W.findIn K (.ref C) fld = some none
structure TwoM (P : Program) (w : World) (K : PySem.W.Frag) (mg : Str → Option Value) (base : Heap) (x f1 f2 : Str) (C : Addr) extends Made P w K mg base x C [f1, f2] (two f1 f2) where
  bP : ∀ (s : Shared) (a : Addr) (u v : Value), BindsTo s fd ⟨[.ref a, u, v], []⟩ [("self", .ref a), (f1, u), (f2, v)]
  bK : ∀ (s : Shared) (a : Addr) (u v : Value), BindsTo s fd ⟨[.ref a, u], [(f2, v)]⟩ [("self", .ref a), (f1, u), (f2, v)]
  bT : ∀ (s : Shared) (a : Addr) (u v : Value), BindsTo s fd ⟨[.ref a], [(f2, u), (f1, v)]⟩ [("self", .ref a), (f1, v), (f2, u)]
  xf : XfC K C
  no1 : PySem.W.findIn K (.ref C) f1 = some none
  no2 : PySem.W.findIn K (.ref C) f2 = some none
/-- the value of slot i, whatever is laid anew -/
def tHeld (i : Nat) : TE := fun σ H Q => ∃ v, σ[i]? = some (some v) ∧ ∀ H2, Same H H2 → Q v H2
def tHeld2 (i j : Nat) (fs : V → V → List (Str × V)) (f : Str) : TE := fun σ H Q => ∃ v, σ[i]? = some (some v) ∧ ∃ u, σ[j]? = some (some u) ∧ ∃ x, (fs v u).lookup f = some x ∧ ∀ H2, Same H H2 → Q x H2
def tMk (i : Nat) (C : Addr) : TE := fun σ H Q => ∃ v, σ[i]? = some (some v) ∧ ∀ a H2, Same H H2 → ErAt H2 a C → Q (.ref a) H2
def tMk2 (i j : Nat) (C : Addr) : TE := fun σ H Q => ∃ v, σ[i]? = some (some v) ∧ ∃ u, σ[j]? = some (some u) ∧ ∀ a H2, Same H H2 → ErAt H2 a C → Q (.ref a) H2
def tMk0 (C : Addr) : TE := fun σ H Q => ∀ a H2, Same H H2 → ErAt H2 a C → Q (.ref a) H2
theorem same_two {H : Hp} {a d : Addr} {u v : HO} (na : H a = none) (nd : H d = none) : Same H (upd (upd H d u) a v) := fun b o e => by
  rw [upd_ne (ne_of_none e na), upd_ne (ne_of_none e nd)]
  exact e
section
variable {X : Cx} {x f f1 f2 y z : Str} {C : Addr} {i j : Nat} {p p1 p2 p3 p4 pos pos2 k1 k2 : Pos}
theorem held_p (O : OneM X.prog X.w X.K X.mg X.base x f C) (hr : Room 2 X.A) (he : PE X (.Name y p1) (tVar i)) (hg : Gl X x := by rfl) (hdb : (x == ("__debug__" : Str)) = false := by decide) :
    PE X (.Attribute (.Call (.Name x p) [.Name y p1] [] pos) f pos2) (tHeld i) :=
  PE.weak (pe_ev (pe_err O.toMade hr (fun s a us l => match us, l with | [u], _ => O.bP s a u) hg (by show 1 ≤ 10; decide) (pa_cons he pa_nil) hdb)) fun σ H Q ⟨v, hv, q⟩ => ⟨v, hv, rfl, fun a d na nd ne => ⟨a, C, d, [(f, v)], v, rfl, upd_same, by rw [upd_ne ne, upd_same]; rfl, O.xf, O.no, by simp [List.lookup], q _ (same_two na nd)⟩⟩
theorem held_k (O : OneM X.prog X.w X.K X.mg X.base x f C) (hr : Room 2 X.A) (he : PE X (.Name y p1) (tVar i)) (hg : Gl X x := by rfl) (hdb : (x == ("__debug__" : Str)) = false := by decide) :
    PE X (.Attribute (.Call (.Name x p) [] [⟨some f, .Name y p1, k1⟩] pos) f pos2) (tHeld i) :=
  PE.weak (pe_ev (pe_errK0 (ks := [f]) (g := fun _ ws => ws) (gV := fun _ zs => zs) O.toMade hr (fun s a us ws l1 l2 => match us, ws, l1, l2 with | [], [u], _, _ => O.bK s a u) (fun _ l2 _ r => ⟨r, l2⟩) hg (pk_cons he pk_nil) rfl rfl hdb rfl)) fun σ H Q ⟨v, hv, q⟩ => ⟨v, hv, rfl, rfl, fun a d na nd ne => ⟨a, C, d, [(f, v)], v, rfl, upd_same, by rw [upd_ne ne, upd_same]; rfl, O.xf, O.no, by simp [List.lookup], q _ (same_two na nd)⟩⟩
theorem mk_p (O : OneM X.prog X.w X.K X.mg X.base x f C) (hr : Room 2 X.A) (he : PE X (.Name y p1) (tVar i)) (hg : Gl X x := by rfl) (hdb : (x == ("__debug__" : Str)) = false := by decide) : PE X (.Call (.Name x p) [.Name y p1] [] pos) (tMk i C) :=
  PE.weak (pe_err O.toMade hr (fun s a us l => match us, l with | [u], _ => O.bP s a u) hg (by show 1 ≤ 10; decide) (pa_cons he pa_nil) hdb) fun σ H Q ⟨v, hv, q⟩ => ⟨v, hv, rfl, fun a d na nd ne => q a _ (same_two na nd) (.inl ⟨d, _, upd_same, by rw [upd_ne ne, upd_same]⟩)⟩
theorem mk_pp (O : TwoM X.prog X.w X.K X.mg X.base x f1 f2 C) (hr : Room 2 X.A) (he : PE X (.Name y p1) (tVar i)) (he2 : PE X (.Name z p2) (tVar j)) (hg : Gl X x := by rfl) (hdb : (x == ("__debug__" : Str)) = false := by decide) : PE X (.Call (.Name x p) [.Name y p1, .Name z p2] [] pos) (tMk2 i j C) :=
  PE.weak (pe_err O.toMade hr (fun s a us l => match us, l with | [u, v], _ => O.bP s a u v) hg (by show 2 ≤ 10; decide) (pa_cons he (pa_cons he2 pa_nil)) hdb) fun σ H Q ⟨v, hv, u, hu, q⟩ => ⟨v, hv, u, hu, rfl, fun a d na nd ne => q a _ (same_two na nd) (.inl ⟨d, _, upd_same, by rw [upd_ne ne, upd_same]⟩)⟩
theorem mk_0 {bmB : List Value} {B newId initId : String} (F : PySem.ExcBaseFacts B newId initId bmB) (q : PySem.W.excIn X.K C bmB newId = true) (gC : X.mg x = some (.ref C)) (kC : PySem.W.keepIn X.K (.ref C) = true) (hg : Gl X x := by rfl) (hdb : (x == ("__debug__" : Str)) = false := by decide) : PE X (.Call (.Name x p) [] [] pos) (tMk0 C) :=
  PE.weak (pe_exc0 F q gC kC hg hdb) fun σ H Q q a na => q a _ (same_new na _) (.inr upd_same)
def two2 (f1 f2 : Str) (v u : V) : List (Str × V) := [(f2, u), (f1, v)]
def two2r (f1 f2 : Str) (v u : V) : List (Str × V) := [(f2, v), (f1, u)]
theorem held_pp (O : TwoM X.prog X.w X.K X.mg X.base x f1 f2 C) (nf : PySem.W.findIn X.K (.ref C) f = some none) (hr : Room 2 X.A) (he : PE X (.Name y p1) (tVar i)) (he2 : PE X (.Name z p2) (tVar j)) (hg : Gl X x := by rfl) (hdb : (x == ("__debug__" : Str)) = false := by decide) :
    PE X (.Attribute (.Call (.Name x p) [.Name y p1, .Name z p2] [] pos) f pos2) (tHeld2 i j (two2 f1 f2) f) :=
  PE.weak (pe_ev (pe_err O.toMade hr (fun s a us l => match us, l with | [u, v], _ => O.bP s a u v) hg (by show 2 ≤ 10; decide) (pa_cons he (pa_cons he2 pa_nil)) hdb)) fun σ H Q ⟨v, hv, u, hu, xx, hx, q⟩ => ⟨v, hv, u, hu, rfl, fun a d na nd ne => ⟨a, C, d, _, xx, rfl, upd_same, by rw [upd_ne ne, upd_same]; rfl, O.xf, nf, hx, q _ (same_two na nd)⟩⟩
theorem held_pk (O : TwoM X.prog X.w X.K X.mg X.base x f1 f2 C) (nf : PySem.W.findIn X.K (.ref C) f = some none) (hr : Room 2 X.A) (he : PE X (.Name y p1) (tVar i)) (he2 : PE X (.Name z p2) (tVar j)) (hg : Gl X x := by rfl) (hdb : (x == ("__debug__" : Str)) = false := by decide) :
    PE X (.Attribute (.Call (.Name x p) [.Name y p1] [⟨some f2, .Name z p2, k1⟩] pos) f pos2) (tHeld2 i j (two2 f1 f2) f) :=
  PE.weak (pe_ev (pe_errK (n := 1) (ks := [f2]) (g := fun us ws => us ++ ws) (gV := fun vs zs => vs ++ zs) O.toMade hr (fun s a us ws l1 l2 => match us, ws, l1, l2 with | [u], [v], _, _ => O.bK s a u v) (fun l1 l2 r1 r2 => ⟨r1.append r2, by rw [List.length_append, l1, l2]; rfl⟩) hg (by decide) (pa_cons he pa_nil) (pk_cons he2 pk_nil) rfl rfl hdb rfl rfl)) fun σ H Q ⟨v, hv, u, hu, xx, hx, q⟩ => ⟨v, hv, u, hu, rfl, rfl, fun a d na nd ne => ⟨a, C, d, _, xx, rfl, upd_same, by rw [upd_ne ne, upd_same]; rfl, O.xf, nf, hx, q _ (same_two na nd)⟩⟩
theorem held_kk (O : TwoM X.prog X.w X.K X.mg X.base x f1 f2 C) (nf : PySem.W.findIn X.K (.ref C) f = some none) (hr : Room 2 X.A) (he : PE X (.Name y p1) (tVar i)) (he2 : PE X (.Name z p2) (tVar j)) (hg : Gl X x := by rfl) (hdb : (x == ("__debug__" : Str)) = false := by decide) :
    PE X (.Attribute (.Call (.Name x p) [] [⟨some f2, .Name y p1, k1⟩, ⟨some f1, .Name z p2, k2⟩] pos) f pos2) (tHeld2 i j (two2r f1 f2) f) :=
  PE.weak (pe_ev (pe_errK0 (ks := [f2, f1]) (g := fun _ ws => ws.reverse) (gV := fun _ zs => zs.reverse) O.toMade hr (fun s a us ws l1 l2 => match us, ws, l1, l2 with | [], [u, v], _, _ => O.bT s a u v)
    (fun {vs zs us ws} _ l2 _ r => match zs, ws, l2, r with | [_, _], _, _, .cons r1 (.cons r2 .nil) => ⟨.cons r2 (.cons r1 .nil), rfl⟩) hg (pk_cons he (pk_cons he2 pk_nil)) rfl rfl hdb rfl)) fun σ H Q ⟨v, hv, u, hu, xx, hx, q⟩ => ⟨v, hv, u, hu, rfl, rfl, fun a d na nd ne => ⟨a, C, d, _, xx, rfl, upd_same, by rw [upd_ne ne, upd_same]; rfl, O.xf, nf, hx, q _ (same_two na nd)⟩⟩
end
end My

set_option Elab.async false
set_option linter.all false
set_option maxRecDepth 100000
namespace My
open PySem L2 ExV
/-- an own error without an __init__ of its own -/
structure NoI (K : PySem.W.Frag) (mg : Str → Option Value) (x : Str) (C : Addr) : Prop where
  ex : PySem.W.excIn K C [.type "ValueError", .type "Exception", .type "BaseException", .type "object"] "ValueError.__new__" = true
  g : mg x = some (.ref C)
  kp : PySem.W.keepIn K (.ref C) = true
/-- all errors of the package, by number -/
structure Errs (P : Program) (w : World) (K : PySem.W.Frag) (mg : Str → Option Value) (base : Heap) where
  A : Nat → Addr
  DE : Addr
  gD : mg "DeedError" = some (.ref DE)
  isinstance : mg "isinstance" = none
  ValueError : mg "ValueError" = none
  zip : mg "zip" = none
  e0 : OneM P w K mg base "BadValue" "value" (A 0)
  e1 : OneM P w K mg base "TooDeep" "most" (A 1)
  e2 : OneM P w K mg base "TooMany" "most" (A 2)
  e3 : OneM P w K mg base "NotAText" "at" (A 3)
  e4 : OneM P w K mg base "WrongStep" "at" (A 4)
  e5 : NoI K mg "Unlike" (A 5)
  e6 : OneM P w K mg base "Unknown" "name" (A 6)
  e7 : OneM P w K mg base "Taken" "name" (A 7)
  e8 : TwoM P w K mg base "NotAFile" "line" "at" (A 8)
  e9 : OneM P w K mg base "BadPromise" "promise" (A 9)
  e10 : TwoM P w K mg base "Broken" "promise" "paper" (A 10)
  e11 : OneM P w K mg base "NotMade" "promise" (A 11)
  e12 : NoI K mg "NothingToUndo" (A 12)
  e13 : NoI K mg "NothingToRedo" (A 13)
  e14 : OneM P w K mg base "CannotTake" "end" (A 14)
  e15 : NoI K mg "NotOfDeed" (A 15)
  e16 : OneM P w K mg base "WrongTerm" "path" (A 16)
  e17 : OneM P w K mg base "NotOfProgram" "at" (A 17)
  e18 : OneM P w K mg base "HasHand" "at" (A 18)
  ec : ∀ i, i < 19 → ExcC K (A i)
  kit : ∀ i j, i < 19 → j < 19 → PySem.W.kitOne K (.ref (A i)) (.ref (A j)) = some (decide (i = j))
  kitD : ∀ i, i < 19 → PySem.W.kitOne K (.ref (A i)) (.ref DE) = some true
  kitV : ∀ i, i < 19 → PySem.W.kitOne K (.ref (A i)) (.type "ValueError") = some true
/-- a pair of slot i's value and itself -/
def tPr (K : PySem.W.Frag) (i : Nat) : TE := fun σ H Q => ∃ v, σ[i]? = some (some v) ∧ ∀ H2 t, Same H H2 → SqT K H2 t [v, v] → Q (.ref t) H2
def tPrs (K : PySem.W.Frag) (i n : Nat) : TA := fun σ H Q => ∃ v, σ[i]? = some (some v) ∧ ∀ H2 ts, Same H H2 → ts.length = n → (∀ t ∈ ts, ∃ a, t = V.ref a ∧ SqT K H2 a [v, v]) → Q ts H2
def tPx (K : PySem.W.Frag) (i j m : Nat) (fs : V → V → List (Str × V)) (f : Str) : TE := fun σ H Q => ∃ v, σ[i]? = some (some v) ∧ ∃ u, σ[j]? = some (some u) ∧ ∃ x, (fs v u).lookup f = some x ∧ σ[m]? = some (some x) ∧ ∀ H2 t, Same H H2 → SqT K H2 t [x, x] → Q (.ref t) H2
/-- the elements of a list of new errors -/
def ErrL (H : Hp) (A : Nat → Addr) : List V → List Nat → Prop := Paired fun t i => ∃ a, t = V.ref a ∧ ErAt H a (A i)
theorem er_same {H H' : Hp} {a D : Addr} (s : Same H H') (h : ErAt H a D) : ErAt H' a D := by
  rcases h with ⟨d, fs, h1, h2⟩ | h
  · exact .inl ⟨d, fs, s _ _ h1, s _ _ h2⟩
  · exact .inr (s _ _ h)
theorem paired_imp {α β : Type} {r s : α → β → Prop} (h : ∀ x y, r x y → s x y) : ∀ {xs : List α} {ys : List β}, Paired r xs ys → Paired s xs ys
  | _, _, .nil => .nil
  | _, _, .cons a b => .cons (h _ _ a) (paired_imp h b)
theorem ErrL.same {H H' : Hp} {A : Nat → Addr} {ts : List V} {is : List Nat} (s : Same H H') (h : ErrL H A ts is) : ErrL H' A ts is := paired_imp (fun _ _ ⟨a, e, h⟩ => ⟨a, e, er_same s h⟩) h
def tErs (A : Nat → Addr) (is : List Nat) : TA := fun σ H Q => ∃ v, σ[0]? = some (some v) ∧ ∃ u, σ[1]? = some (some u) ∧ ∀ H2 ts, Same H H2 → ErrL H2 A ts is → Q ts H2
section
variable {X : Cx} {i j m n : Nat} {A : Nat → Addr} {is : List Nat} {k : Nat} {o o2 : Expr} {f f2 y x x2 : Str} {p p1 p2 p3 pos : Pos} {es es2 : List Expr} {kw : List Keyword} {fs : V → V → List (Str × V)} {kk : Nat} {C : Addr}
theorem pe_pr (h1 : PE X (.Attribute o f p1) (tHeld i)) (h2 : PE X (.Attribute o2 f2 p2) (tHeld i)) : PE X (.Tuple [.Attribute o f p1, .Attribute o2 f2 p2] k pos) (tPr X.K i) :=
  PE.weak (pe_tupN (pa_cons h1 (pa_cons h2 pa_nil))) fun σ H Q ⟨v, hv, q⟩ => ⟨v, hv, fun H1 s1 => ⟨v, hv, fun H2 s2 => ⟨le1k, fun t H3 s3 e3 => q H3 t (s1.trans (s2.trans s3)) e3⟩⟩⟩
theorem pa_pr_nil : PA X [] (tPrs X.K i 0) := PA.weak pa_nil fun σ H Q ⟨v, hv, q⟩ => q H [] (fun _ _ z => z) rfl fun t ht => nomatch ht
theorem pa_pr_cons (h : PE X (.Tuple es k pos) (tPr X.K i)) (r : PA X es2 (tPrs X.K i n)) : PA X (.Tuple es k pos :: es2) (tPrs X.K i (n + 1)) :=
  PA.weak (pa_cons h r) fun σ H Q ⟨v, hv, q⟩ => ⟨v, hv, fun H1 t s1 e1 => ⟨v, hv, fun H2 ts s2 l2 g2 => q H2 (.ref t :: ts) (s1.trans s2) (by rw [List.length_cons, l2]) fun z hz => by
    rcases List.mem_cons.mp hz with rfl | hz
    · exact ⟨t, rfl, seqT_same s2 e1⟩
    · exact g2 z hz⟩⟩
theorem pe_px (h1 : PE X (.Attribute o f p1) (tHeld2 i j fs f)) (h2 : PE X (.Name y p2) (tVar m)) : PE X (.Tuple [.Attribute o f p1, .Name y p2] k pos) (tPx X.K i j m fs f) :=
  PE.weak (pe_tupN (pa_cons h1 (pa_cons h2 pa_nil))) fun σ H Q ⟨v, hv, u, hu, x, hx, hm, q⟩ => ⟨v, hv, u, hu, x, hx, fun H1 s1 => ⟨x, hm, le1k, fun t H3 s3 e3 => q H3 t (s1.trans s3) e3⟩⟩
theorem pa_er_nil : PA X [] (tErs A []) := PA.weak pa_nil fun σ H Q ⟨v, hv, u, hu, q⟩ => q H [] (fun _ _ z => z) .nil
theorem pa_er1 (h : PE X (.Call o es kw pos) (tMk 0 (A i))) (r : PA X es2 (tErs A is)) : PA X (.Call o es kw pos :: es2) (tErs A (i :: is)) :=
  PA.weak (pa_cons h r) fun σ H Q ⟨v, hv, u, hu, q⟩ => ⟨v, hv, fun a H1 s1 e1 => ⟨v, hv, u, hu, fun H2 ts s2 g2 => q H2 (.ref a :: ts) (s1.trans s2) (.cons ⟨a, rfl, er_same s2 e1⟩ g2)⟩⟩
theorem pa_er2 (h : PE X (.Call o es kw pos) (tMk2 0 1 (A i))) (r : PA X es2 (tErs A is)) : PA X (.Call o es kw pos :: es2) (tErs A (i :: is)) :=
  PA.weak (pa_cons h r) fun σ H Q ⟨v, hv, u, hu, q⟩ => ⟨v, hv, u, hu, fun a H1 s1 e1 => ⟨v, hv, u, hu, fun H2 ts s2 g2 => q H2 (.ref a :: ts) (s1.trans s2) (.cons ⟨a, rfl, er_same s2 e1⟩ g2)⟩⟩
theorem pa_er0 (h : PE X (.Call o es kw pos) (tMk0 (A i))) (r : PA X es2 (tErs A is)) : PA X (.Call o es kw pos :: es2) (tErs A (i :: is)) :=
  PA.weak (pa_cons h r) fun σ H Q ⟨v, hv, u, hu, q⟩ => fun a H1 s1 e1 => ⟨v, hv, u, hu, fun H2 ts s2 g2 => q H2 (.ref a :: ts) (s1.trans s2) (.cons ⟨a, rfl, er_same s2 e1⟩ g2)⟩
/-- isinstance of the error in slot i -/
def tIsj (K : PySem.W.Frag) (i : Nat) (C : Addr) : TE := fun σ H Q => ∃ (a D : Addr) (b : Bool), σ[i]? = some (some (.ref a)) ∧ ErAt H a D ∧ ExcC K D ∧ PySem.W.kitOne K (.ref D) (.ref C) = some b ∧ Q (.bl b) H
def tIsV (K : PySem.W.Frag) (i : Nat) : TE := fun σ H Q => ∃ (a D : Addr) (b : Bool), σ[i]? = some (some (.ref a)) ∧ ErAt H a D ∧ ExcC K D ∧ PySem.W.kitOne K (.ref D) (.type "ValueError") = some b ∧ Q (.bl b) H
theorem pe_isj (hm : X.mg "isinstance" = none) (hg : Gl X "isinstance") (he : PE X (.Name y p1) (tVar i)) (gx : X.mg x = some (.ref C)) (hgx : Gl X x) (hdb : (x == ("__debug__" : Str)) = false) : PE X (.Call (.Name "isinstance" p) [.Name y p1, .Name x p2] [] pos) (tIsj X.K i C) :=
  PE.weak (pe_callB call_isV hg hm (by decide +kernel) (pa_cons he (pa_cons (pe_globE (v := .ref C) ⟨_, gx, rfl⟩ hgx hdb) pa_nil))) fun σ H Q ⟨a, D, b, hi, er, C', hk, q⟩ => ⟨_, hi, a, D, _, _, b, rfl, er, C', fun u r => r, hk, q⟩
theorem pe_isVE (hm : X.mg "isinstance" = none) (hg : Gl X "isinstance") (he : PE X (.Name y p1) (tVar i)) (hv : X.mg "ValueError" = none) (hgv : Gl X "ValueError") : PE X (.Call (.Name "isinstance" p) [.Name y p1, .Name "ValueError" p2] [] pos) (tIsV X.K i) :=
  PE.weak (pe_callB call_isV hg hm (by decide +kernel) (pa_cons he (pa_cons (pe_bltn (v := .ty "ValueError") hgv hv (by decide +kernel) rfl) pa_nil))) fun σ H Q ⟨a, D, b, hi, er, C', hk, q⟩ => ⟨_, hi, a, D, _, _, b, rfl, er, C', fun u r => r, hk, q⟩
end
end My

set_option Elab.async false
set_option linter.all false
set_option maxRecDepth 100000
namespace My
open PySem L2 ExV
abbrev s_law_alone : Stmt := top 25
abbrev P_law_alone : List Str := ["_law_mine"]
theorem sc_law_alone : FnScope P_law_alone P_law_alone (defScope s_law_alone) := ⟨rfl, rfl, rfl, by decide +kernel, rfl, by decide +kernel, by decide +kernel⟩
/-- a list of pairs of a value and itself: of v or of u -/
def Prs (K : PySem.W.Frag) (H : Hp) (v u : V) (ts : List V) : Prop := ∀ t ∈ ts, ∃ a x, t = V.ref a ∧ SqT K H a [x, x] ∧ (x = v ∨ x = u)
def spAlone (K : PySem.W.Frag) : Sp := fun vs H Q _ => ∃ v, vs = [v] ∧ ∀ (H' : Hp) (p : Addr) (ts : List V), Same H H' → H' p = some (.lst ts) → Prs K H' v v ts → Q (.ref p) H'
abbrev s_law_more : Stmt := top 26
abbrev N_law_more : List Str := ["_law_mine", "_law_yours", "_law_pairs"]
abbrev P_law_more : List Str := ["_law_mine", "_law_yours"]
theorem sc_law_more : FnScope N_law_more P_law_more (defScope s_law_more) := ⟨rfl, rfl, rfl, by decide +kernel, rfl, by decide +kernel, by decide +kernel⟩
def spMore (K : PySem.W.Frag) : Sp := fun vs H Q _ => ∃ v u, vs = [v, u] ∧ ∀ (H' : Hp) (p : Addr) (ts : List V), Same H H' → H' p = some (.lst ts) → Prs K H' v u ts → Q (.ref p) H'
theorem seqT_put {K : PySem.W.Frag} {H : Hp} {l a : Addr} {zs ws xs : List V} (e : H l = some (.lst zs)) (h : SqT K H a xs) : SqT K (upd H l (.lst ws)) a xs := by
  rcases h with (h | ⟨o, h⟩) | h
  · exact .inl (.inl (by rw [upd_ne (fun z => by rw [z, e] at h; cases h)]; exact h))
  · exact .inl (.inr ⟨o, by rw [upd_ne (fun z => by rw [z, e] at h; cases h)]; exact h⟩)
  · exact .inr h
theorem Prs.next {K : PySem.W.Frag} {H H1 : Hp} {v u x : V} {l t : Addr} {ts : List V} (g : Prs K H v u ts) (s : Same H H1) (e : H1 l = some (.lst ts)) (ht : SqT K H1 t [x, x]) (hx : x = v ∨ x = u) : Prs K (upd H1 l (.lst (ts ++ [.ref t]))) v u (ts ++ [.ref t]) := fun z hz => by
  rcases List.mem_append.mp hz with hz | hz
  · obtain ⟨a, y, e1, h1, h2⟩ := g z hz
    exact ⟨a, y, e1, seqT_put e (seqT_same s h1), h2⟩
  · exact ⟨t, x, List.mem_singleton.mp hz, seqT_put e ht, hx⟩
section
variable {P : Program} {w : World} {K : PySem.W.Frag} {mg : Str → Option Value} {base : Heap} {f : Addr} {fd : FuncData}
theorem ok_law_alone (E : Errs P w K mg base) (F : Fun K "_law_alone" "_law_alone" s_law_alone f fd) : FnOk P w K mg base CX0 3 f fd P_law_alone (spAlone K) := by
  refine F.ok sc_law_alone (fun vs H Q R h => ?_) (fun cdv A outer s H vs Q R hr h => ?_)
  · obtain ⟨v, rfl, _⟩ := h
    rfl
  obtain ⟨v, rfl, q⟩ := h
  refine ⟨_, pss_one (ps_ret (pe_lstN (pa_pr_cons (pe_pr (held_p E.e0 hr (pv 0)) (held_k E.e0 hr (pv 0))) (pa_pr_cons (pe_pr (held_p E.e1 hr (pv 0)) (held_k E.e1 hr (pv 0))) (pa_pr_cons (pe_pr (held_p E.e2 hr (pv 0)) (held_k E.e2 hr (pv 0))) (pa_pr_cons (pe_pr (held_p E.e3 hr (pv 0)) (held_k E.e3 hr (pv 0))) (pa_pr_cons (pe_pr (held_p E.e4 hr (pv 0)) (held_k E.e4 hr (pv 0))) (pa_pr_cons (pe_pr (held_p E.e6 hr (pv 0)) (held_k E.e6 hr (pv 0))) (pa_pr_cons (pe_pr (held_p E.e7 hr (pv 0)) (held_k E.e7 hr (pv 0))) (pa_pr_cons (pe_pr (held_p E.e9 hr (pv 0)) (held_k E.e9 hr (pv 0))) (pa_pr_cons (pe_pr (held_p E.e11 hr (pv 0)) (held_k E.e11 hr (pv 0))) (pa_pr_cons (pe_pr (held_p E.e14 hr (pv 0)) (held_k E.e14 hr (pv 0))) (pa_pr_cons (pe_pr (held_p E.e16 hr (pv 0)) (held_k E.e16 hr (pv 0))) (pa_pr_cons (pe_pr (held_p E.e17 hr (pv 0)) (held_k E.e17 hr (pv 0))) (pa_pr_cons (pe_pr (held_p E.e18 hr (pv 0)) (held_k E.e18 hr (pv 0))) pa_pr_nil))))))))))))))), ?_⟩
  refine ⟨v, rfl, fun H2 ts s2 l2 g2 => ⟨by rw [l2]; decide, fun p H3 s3 e3 => ?_⟩⟩
  refine q H3 p ts (s2.trans s3) e3 fun t ht => ?_
  obtain ⟨a, e, h⟩ := g2 t ht
  exact ⟨a, v, e, seqT_same s3 h, .inl rfl⟩
theorem ok_law_more (E : Errs P w K mg base) (F : Fun K "_law_more" "_law_more" s_law_more f fd) : FnOk P w K mg base CX0 3 f fd P_law_more (spMore K) := by
  refine F.ok sc_law_more (fun vs H Q R h => ?_) (fun cdv A outer s H vs Q R hr h => ?_)
  · obtain ⟨v, u, rfl, _⟩ := h
    rfl
  obtain ⟨v, u, rfl, q⟩ := h
  refine ⟨_, (pss_cons (ps_set (i := 2) sc_law_more.nd rfl (Or.inl rfl) (pe_lst pa_nil))
  (pss_cons (ps_expr (pe_bm PySem.F.plainAttrs_list PySem.F.slot_list_append PySem.F.type_list_append mt_append (pv 2) (pa_cons (pe_px (held_pp E.e8 E.e8.no1 hr (pv 0) (pv 1)) (pv 0)) pa_nil)))
  (pss_cons (ps_expr (pe_bm PySem.F.plainAttrs_list PySem.F.slot_list_append PySem.F.type_list_append mt_append (pv 2) (pa_cons (pe_px (held_pk E.e8 E.e8.no2 hr (pv 0) (pv 1)) (pv 1)) pa_nil)))
  (pss_cons (ps_expr (pe_bm PySem.F.plainAttrs_list PySem.F.slot_list_append PySem.F.type_list_append mt_append (pv 2) (pa_cons (pe_px (held_kk E.e8 E.e8.no2 hr (pv 0) (pv 1)) (pv 0)) pa_nil)))
  (pss_cons (ps_expr (pe_bm PySem.F.plainAttrs_list PySem.F.slot_list_append PySem.F.type_list_append mt_append (pv 2) (pa_cons (pe_px (held_kk E.e8 E.e8.no1 hr (pv 0) (pv 1)) (pv 1)) pa_nil)))
  (pss_cons (ps_expr (pe_bm PySem.F.plainAttrs_list PySem.F.slot_list_append PySem.F.type_list_append mt_append (pv 2) (pa_cons (pe_px (held_pp E.e10 E.e10.no1 hr (pv 0) (pv 1)) (pv 0)) pa_nil)))
  (pss_cons (ps_expr (pe_bm PySem.F.plainAttrs_list PySem.F.slot_list_append PySem.F.type_list_append mt_append (pv 2) (pa_cons (pe_px (held_pk E.e10 E.e10.no2 hr (pv 0) (pv 1)) (pv 1)) pa_nil)))
  (pss_cons (ps_expr (pe_bm PySem.F.plainAttrs_list PySem.F.slot_list_append PySem.F.type_list_append mt_append (pv 2) (pa_cons (pe_px (held_kk E.e10 E.e10.no2 hr (pv 0) (pv 1)) (pv 0)) pa_nil)))
  (pss_cons (ps_expr (pe_bm PySem.F.plainAttrs_list PySem.F.slot_list_append PySem.F.type_list_append mt_append (pv 2) (pa_cons (pe_px (held_kk E.e10 E.e10.no1 hr (pv 0) (pv 1)) (pv 1)) pa_nil)))
  (pss_one (ps_ret (pv 2)))))))))))), ?_⟩
  refine ⟨Nat.zero_le _, fun l nl => ?_⟩
  have s0 := same_new nl (.lst [])
  have e0 : upd H l (.lst []) l = some (.lst []) := upd_same
  have g0 : Prs K (upd H l (.lst [])) v u [] := fun t ht => (nomatch ht)
  generalize upd H l (.lst []) = H0 at *
  have step : ∀ {H1 H2 : Hp} {t : Addr} {x : V} {ts : List V}, Same H H1 → H1 l = some (.lst ts) → Prs K H1 v u ts → (x = v ∨ x = u) → Same H1 H2 → SqT K H2 t [x, x] → Same H (upd H2 l (.lst (ts ++ [.ref t]))) ∧ upd H2 l (.lst (ts ++ [.ref t])) l = some (.lst (ts ++ [.ref t])) ∧ Prs K (upd H2 l (.lst (ts ++ [.ref t]))) v u (ts ++ [.ref t]) :=
    fun {H1 H2 t x ts} s e g hx s2 ht => ⟨fun b o hb => by rw [upd_ne (ne_of_none hb nl)]; exact s2 _ _ (s _ _ hb), upd_same, g.next s2 (s2 _ _ e) ht hx⟩
  refine ⟨_, rfl, .inl ⟨rfl, _, SqL.of e0⟩, v, rfl, u, rfl, v, rfl, rfl, fun J0 t0 q0 h0 => ⟨l, _, _, rfl, rfl, q0 _ _ e0, small1000 (by show 0 ≤ 1000; decide), ?_⟩⟩
  obtain ⟨s1, e1, g1⟩ := step s0 e0 g0 (.inl rfl) q0 h0
  generalize upd J0 l (.lst (_ ++ [.ref t0])) = H1 at *
  refine ⟨_, rfl, .inl ⟨rfl, _, SqL.of e1⟩, v, rfl, u, rfl, u, rfl, rfl, fun J1 t1 q1 h1 => ⟨l, _, _, rfl, rfl, q1 _ _ e1, small1000 (by show 1 ≤ 1000; decide), ?_⟩⟩
  obtain ⟨s2, e2, g2⟩ := step s1 e1 g1 (.inr rfl) q1 h1
  generalize upd J1 l (.lst (_ ++ [.ref t1])) = H2 at *
  refine ⟨_, rfl, .inl ⟨rfl, _, SqL.of e2⟩, v, rfl, u, rfl, v, rfl, rfl, fun J2 t2 q2 h2 => ⟨l, _, _, rfl, rfl, q2 _ _ e2, small1000 (by show 2 ≤ 1000; decide), ?_⟩⟩
  obtain ⟨s3, e3, g3⟩ := step s2 e2 g2 (.inl rfl) q2 h2
  generalize upd J2 l (.lst (_ ++ [.ref t2])) = H3 at *
  refine ⟨_, rfl, .inl ⟨rfl, _, SqL.of e3⟩, v, rfl, u, rfl, u, rfl, rfl, fun J3 t3 q3 h3 => ⟨l, _, _, rfl, rfl, q3 _ _ e3, small1000 (by show 3 ≤ 1000; decide), ?_⟩⟩
  obtain ⟨s4, e4, g4⟩ := step s3 e3 g3 (.inr rfl) q3 h3
  generalize upd J3 l (.lst (_ ++ [.ref t3])) = H4 at *
  refine ⟨_, rfl, .inl ⟨rfl, _, SqL.of e4⟩, v, rfl, u, rfl, v, rfl, rfl, fun J4 t4 q4 h4 => ⟨l, _, _, rfl, rfl, q4 _ _ e4, small1000 (by show 4 ≤ 1000; decide), ?_⟩⟩
  obtain ⟨s5, e5, g5⟩ := step s4 e4 g4 (.inl rfl) q4 h4
  generalize upd J4 l (.lst (_ ++ [.ref t4])) = H5 at *
  refine ⟨_, rfl, .inl ⟨rfl, _, SqL.of e5⟩, v, rfl, u, rfl, u, rfl, rfl, fun J5 t5 q5 h5 => ⟨l, _, _, rfl, rfl, q5 _ _ e5, small1000 (by show 5 ≤ 1000; decide), ?_⟩⟩
  obtain ⟨s6, e6, g6⟩ := step s5 e5 g5 (.inr rfl) q5 h5
  generalize upd J5 l (.lst (_ ++ [.ref t5])) = H6 at *
  refine ⟨_, rfl, .inl ⟨rfl, _, SqL.of e6⟩, v, rfl, u, rfl, v, rfl, rfl, fun J6 t6 q6 h6 => ⟨l, _, _, rfl, rfl, q6 _ _ e6, small1000 (by show 6 ≤ 1000; decide), ?_⟩⟩
  obtain ⟨s7, e7, g7⟩ := step s6 e6 g6 (.inl rfl) q6 h6
  generalize upd J6 l (.lst (_ ++ [.ref t6])) = H7 at *
  refine ⟨_, rfl, .inl ⟨rfl, _, SqL.of e7⟩, v, rfl, u, rfl, u, rfl, rfl, fun J7 t7 q7 h7 => ⟨l, _, _, rfl, rfl, q7 _ _ e7, small1000 (by show 7 ≤ 1000; decide), ?_⟩⟩
  obtain ⟨s8, e8, g8⟩ := step s7 e7 g7 (.inr rfl) q7 h7
  generalize upd J7 l (.lst (_ ++ [.ref t7])) = H8 at *
  exact ⟨_, rfl, q _ l _ s8 e8 g8⟩
end
end My

set_option Elab.async false
set_option linter.all false
set_option maxRecDepth 100000
namespace My
open PySem L2 ExV
/-- isinstance of the error n, asked of the classes js -/
def kb (n : Nat) (js : List Nat) : List V := js.map fun j => V.bl (decide (n = j))
def tIss (A : Nat → Addr) (i : Nat) (js : List Nat) : TA := fun σ H Q => ∃ a n, σ[i]? = some (some (.ref a)) ∧ n < 19 ∧ ErAt H a (A n) ∧ Q (kb n js) H
section
variable {X : Cx} {i j : Nat} {js : List Nat} {o : Expr} {es es2 : List Expr} {kw : List Keyword} {pos : Pos}
theorem pa_is_nil {A : Nat → Addr} : PA X [] (tIss A i []) := PA.weak pa_nil fun σ H Q ⟨a, n, _, _, _, q⟩ => q
theorem pa_is_cons (A : Nat → Addr) (ec : ∀ n, n < 19 → ExcC X.K (A n)) (kit : ∀ n m, n < 19 → m < 19 → PySem.W.kitOne X.K (.ref (A n)) (.ref (A m)) = some (decide (n = m))) (hj : j < 19) (h : PE X (.Call o es kw pos) (tIsj X.K i (A j))) (r : PA X es2 (tIss A i js)) : PA X (.Call o es kw pos :: es2) (tIss A i (j :: js)) :=
  PA.weak (pa_cons h r) fun σ H Q ⟨a, n, hi, hn, er, q⟩ => ⟨a, A n, _, hi, er, ec n hn, kit n j hn hj, a, n, hi, hn, er, q⟩
end
theorem same_at {H H' : Hp} {D : Addr} {o : HO} (s : Same H H') (nD : H D = none) : Same H (upd H' D o) := fun b u e => by
  rw [upd_ne (ne_of_none e nD)]
  exact s b u e
def kinds (n : Nat) : List Int := (List.range 19).map fun j => if n = j then (1 : Int) else 0
theorem kinds_eq : ∀ n, n < 19 → kinds n = List.replicate n 0 ++ [1] ++ List.replicate (18 - n) 0 := by decide
theorem kinds_len (n : Nat) : (kinds n).length = 19 := by
  unfold kinds
  rw [List.length_map, List.length_range]
theorem kinds_at {n i : Nat} (h : i < 19) : (kinds n)[i]? = some (if n = i then (1 : Int) else 0) := by
  unfold kinds
  rw [List.getElem?_map, List.getElem?_range h]
  rfl
abbrev s_law_kinds : Stmt := top 27
abbrev N_law_kinds : List Str := ["_law_error", "_law_told", "_law_once"]
abbrev P_law_kinds : List Str := ["_law_error"]
theorem sc_law_kinds : FnScope N_law_kinds P_law_kinds (defScope s_law_kinds) := ⟨rfl, rfl, rfl, by decide +kernel, rfl, by decide +kernel, by decide +kernel⟩
def spKinds (K : PySem.W.Frag) (A : Nat → Addr) : Sp := fun vs H Q _ => ∃ (a : Addr) (n : Nat), vs = [.ref a] ∧ n < 19 ∧ ErAt H a (A n) ∧ ∀ (H' : Hp) (p : Addr), Same H H' → H' p = some (.lst ((kinds n).map V.int)) → Q (.ref p) H'
section
variable {P : Program} {w : World} {K : PySem.W.Frag} {mg : Str → Option Value} {base : Heap} {f : Addr} {fd : FuncData}
theorem ok_law_kinds (E : Errs P w K mg base) (hint : mg "int" = none) (F : Fun K "_law_kinds" "_law_kinds" s_law_kinds f fd) : FnOk P w K mg base CX0 1 f fd P_law_kinds (spKinds K E.A) := by
  refine F.ok sc_law_kinds (fun vs H Q R h => ?_) (fun cdv A outer s H vs Q R hr h => ?_)
  · obtain ⟨a, n, rfl, _⟩ := h
    rfl
  obtain ⟨a, n, rfl, hn, er, q⟩ := h
  refine ⟨_, (pss_cons (ps_set (i := 1) sc_law_kinds.nd rfl (Or.inl rfl) (pe_lstN pa_nil))
  (pss_cons (ps_set (i := 1) sc_law_kinds.nd rfl (Or.inl rfl) (pe_op op_catLN (pv 1) (pe_lstN (pa_is_cons E.A (by exact E.ec) (by exact E.kit) (by decide : 0 < 19) (pe_isj (by exact E.isinstance) (by rfl) (pv 0) (by exact E.e0.g) (by rfl) (by decide)) (pa_is_cons E.A (by exact E.ec) (by exact E.kit) (by decide : 1 < 19) (pe_isj (by exact E.isinstance) (by rfl) (pv 0) (by exact E.e1.g) (by rfl) (by decide)) (pa_is_cons E.A (by exact E.ec) (by exact E.kit) (by decide : 2 < 19) (pe_isj (by exact E.isinstance) (by rfl) (pv 0) (by exact E.e2.g) (by rfl) (by decide)) (pa_is_nil (A := E.A))))))))
  (pss_cons (ps_set (i := 1) sc_law_kinds.nd rfl (Or.inl rfl) (pe_op op_catLN (pv 1) (pe_lstN (pa_is_cons E.A (by exact E.ec) (by exact E.kit) (by decide : 3 < 19) (pe_isj (by exact E.isinstance) (by rfl) (pv 0) (by exact E.e3.g) (by rfl) (by decide)) (pa_is_cons E.A (by exact E.ec) (by exact E.kit) (by decide : 4 < 19) (pe_isj (by exact E.isinstance) (by rfl) (pv 0) (by exact E.e4.g) (by rfl) (by decide)) (pa_is_cons E.A (by exact E.ec) (by exact E.kit) (by decide : 5 < 19) (pe_isj (by exact E.isinstance) (by rfl) (pv 0) (by exact E.e5.g) (by rfl) (by decide)) (pa_is_nil (A := E.A))))))))
  (pss_cons (ps_set (i := 1) sc_law_kinds.nd rfl (Or.inl rfl) (pe_op op_catLN (pv 1) (pe_lstN (pa_is_cons E.A (by exact E.ec) (by exact E.kit) (by decide : 6 < 19) (pe_isj (by exact E.isinstance) (by rfl) (pv 0) (by exact E.e6.g) (by rfl) (by decide)) (pa_is_cons E.A (by exact E.ec) (by exact E.kit) (by decide : 7 < 19) (pe_isj (by exact E.isinstance) (by rfl) (pv 0) (by exact E.e7.g) (by rfl) (by decide)) (pa_is_cons E.A (by exact E.ec) (by exact E.kit) (by decide : 8 < 19) (pe_isj (by exact E.isinstance) (by rfl) (pv 0) (by exact E.e8.g) (by rfl) (by decide)) (pa_is_nil (A := E.A))))))))
  (pss_cons (ps_set (i := 1) sc_law_kinds.nd rfl (Or.inl rfl) (pe_op op_catLN (pv 1) (pe_lstN (pa_is_cons E.A (by exact E.ec) (by exact E.kit) (by decide : 9 < 19) (pe_isj (by exact E.isinstance) (by rfl) (pv 0) (by exact E.e9.g) (by rfl) (by decide)) (pa_is_cons E.A (by exact E.ec) (by exact E.kit) (by decide : 10 < 19) (pe_isj (by exact E.isinstance) (by rfl) (pv 0) (by exact E.e10.g) (by rfl) (by decide)) (pa_is_cons E.A (by exact E.ec) (by exact E.kit) (by decide : 11 < 19) (pe_isj (by exact E.isinstance) (by rfl) (pv 0) (by exact E.e11.g) (by rfl) (by decide)) (pa_is_nil (A := E.A))))))))
  (pss_cons (ps_set (i := 1) sc_law_kinds.nd rfl (Or.inl rfl) (pe_op op_catLN (pv 1) (pe_lstN (pa_is_cons E.A (by exact E.ec) (by exact E.kit) (by decide : 12 < 19) (pe_isj (by exact E.isinstance) (by rfl) (pv 0) (by exact E.e12.g) (by rfl) (by decide)) (pa_is_cons E.A (by exact E.ec) (by exact E.kit) (by decide : 13 < 19) (pe_isj (by exact E.isinstance) (by rfl) (pv 0) (by exact E.e13.g) (by rfl) (by decide)) (pa_is_cons E.A (by exact E.ec) (by exact E.kit) (by decide : 14 < 19) (pe_isj (by exact E.isinstance) (by rfl) (pv 0) (by exact E.e14.g) (by rfl) (by decide)) (pa_is_nil (A := E.A))))))))
  (pss_cons (ps_set (i := 1) sc_law_kinds.nd rfl (Or.inl rfl) (pe_op op_catLN (pv 1) (pe_lstN (pa_is_cons E.A (by exact E.ec) (by exact E.kit) (by decide : 15 < 19) (pe_isj (by exact E.isinstance) (by rfl) (pv 0) (by exact E.e15.g) (by rfl) (by decide)) (pa_is_cons E.A (by exact E.ec) (by exact E.kit) (by decide : 16 < 19) (pe_isj (by exact E.isinstance) (by rfl) (pv 0) (by exact E.e16.g) (by rfl) (by decide)) (pa_is_cons E.A (by exact E.ec) (by exact E.kit) (by decide : 17 < 19) (pe_isj (by exact E.isinstance) (by rfl) (pv 0) (by exact E.e17.g) (by rfl) (by decide)) (pa_is_nil (A := E.A))))))))
  (pss_cons (ps_set (i := 1) sc_law_kinds.nd rfl (Or.inl rfl) (pe_op op_catLN (pv 1) (pe_lstN (pa_is_cons E.A (by exact E.ec) (by exact E.kit) (by decide : 18 < 19) (pe_isj (by exact E.isinstance) (by rfl) (pv 0) (by exact E.e18.g) (by rfl) (by decide)) (pa_is_nil (A := E.A))))))
  (pss_one (ps_ret (pe_lc (own := [("_law_once", 2)]) (g := (gName 2)) rfl sc_law_kinds.nd (pi_list (pv 1)) (blkOk_by (own := [("_law_once", 2)]) (N := N_law_kinds) (sc := defScope s_law_kinds) (by decide +kernel)) (fun _ _ _ _ _ => (pg_name (i := 2) sc_law_kinds.nd rfl (Or.inl rfl))) (fun _ _ _ _ _ => pts_nil) (fun _ _ _ _ _ => (pe_callTy call_int1 rfl hint (by decide +kernel) (pa_cons (pv 2) pa_nil)))))))))))))), ?_⟩
  refine ⟨le1k, fun p0 H0 s0 e0 => ?_⟩
  refine ⟨_, rfl, a, n, rfl, hn, er_same s0 er, le1k, fun q0 J0 t0 d0 => ⟨p0, q0, _, _, rfl, rfl, t0 _ _ e0, d0, le1k, fun p1 H1 r0 e1 => ?_⟩⟩
  have s1 := s0.trans (t0.trans r0)
  refine ⟨_, rfl, a, n, rfl, hn, er_same s1 er, le1k, fun q1 J1 t1 d1 => ⟨p1, q1, _, _, rfl, rfl, t1 _ _ e1, d1, le1k, fun p2 H2 r1 e2 => ?_⟩⟩
  have s2 := s1.trans (t1.trans r1)
  refine ⟨_, rfl, a, n, rfl, hn, er_same s2 er, le1k, fun q2 J2 t2 d2 => ⟨p2, q2, _, _, rfl, rfl, t2 _ _ e2, d2, le1k, fun p3 H3 r2 e3 => ?_⟩⟩
  have s3 := s2.trans (t2.trans r2)
  refine ⟨_, rfl, a, n, rfl, hn, er_same s3 er, le1k, fun q3 J3 t3 d3 => ⟨p3, q3, _, _, rfl, rfl, t3 _ _ e3, d3, le1k, fun p4 H4 r3 e4 => ?_⟩⟩
  have s4 := s3.trans (t3.trans r3)
  refine ⟨_, rfl, a, n, rfl, hn, er_same s4 er, le1k, fun q4 J4 t4 d4 => ⟨p4, q4, _, _, rfl, rfl, t4 _ _ e4, d4, le1k, fun p5 H5 r4 e5 => ?_⟩⟩
  have s5 := s4.trans (t4.trans r4)
  refine ⟨_, rfl, a, n, rfl, hn, er_same s5 er, le1k, fun q5 J5 t5 d5 => ⟨p5, q5, _, _, rfl, rfl, t5 _ _ e5, d5, le1k, fun p6 H6 r5 e6 => ?_⟩⟩
  have s6 := s5.trans (t5.trans r5)
  refine ⟨_, rfl, a, n, rfl, hn, er_same s6 er, le1k, fun q6 J6 t6 d6 => ⟨p6, q6, _, _, rfl, rfl, t6 _ _ e6, d6, le1k, fun p7 H7 r6 e7 => ?_⟩⟩
  have s7 := s6.trans (t6.trans r6)
  have ee : H7 p7 = some (.lst (kb n (List.range 19))) := e7
  refine ⟨_, rfl, p7, rfl, ⟨_, SqL.of ee⟩, fun D nD => ?_⟩
  refine lc_it (walk_list (xs := kb n (List.range 19))) (fun i H' => Same H7 H' ∧ H' D = some (.lst (((kinds n).take i).map V.int))) ⟨same_new nD _, upd_same⟩ (fun i H' _ p => SqL.of (p.1 _ _ ee)) (fun i y H3 H4 hi p yy => ?_) (fun H3 p => ?_)
  · obtain ⟨rfl, hy⟩ := yy
    obtain ⟨s3, eu⟩ := p
    have hi' : i < 19 := by
      have h : (kb n (List.range 19)).length = 19 := by
        unfold kb
        rw [List.length_map, List.length_range]
      omega
    have ey : y = .bl (decide (n = i)) := by
      unfold kb at hy
      rw [List.getElem?_map, List.getElem?_range hi'] at hy
      exact (Option.some.inj hy).symm
    subst ey
    have lt : (((kinds n).take i).map V.int).length ≤ 19 := by
      rw [List.length_map, List.length_take, kinds_len]
      omega
    refine ⟨rfl, _, rfl, .inr ⟨_, rfl, _, eu, small1000 (by omega), same_at s3 nD, ?_⟩⟩
    rw [upd_same, take_next (kinds_at (n := n) hi'), List.map_append]
    by_cases c : n = i
    · rw [if_pos (decide_eq_true c), if_pos c]
      rfl
    · rw [if_neg (by rw [decide_eq_false c]; exact Bool.false_ne_true), if_neg c]
      rfl
  · obtain ⟨s3, eu⟩ := p
    have e19 : (kb n (List.range 19)).length = 19 := by
      unfold kb
      rw [List.length_map, List.length_range]
    rw [e19, List.take_of_length_le (Nat.le_of_eq (kinds_len n))] at eu
    exact q H3 D (s7.trans s3) eu
end
end My

set_option Elab.async false
set_option linter.all false
set_option maxRecDepth 100000
namespace My
open PySem L2 ExV
abbrev s_law_apart : Stmt := top 28
abbrev N_law_apart : List Str := ["_law_mine", "_law_yours", "_law_made", "_law_last", "_law_k", "_law_error"]
abbrev P_law_apart : List Str := ["_law_mine", "_law_yours"]
theorem sc_law_apart : FnScope N_law_apart P_law_apart (defScope s_law_apart) := ⟨rfl, rfl, rfl, by decide +kernel, rfl, by decide +kernel, by decide +kernel⟩
def spApart : Sp := fun vs H Q _ => ∃ v u, vs = [v, u] ∧ ∀ (H' : Hp), Same H H' → Q (.bl true) H'
theorem errL_app {H : Hp} {A : Nat → Addr} : ∀ {xs ys : List V} {is js : List Nat}, ErrL H A xs is → ErrL H A ys js → ErrL H A (xs ++ ys) (is ++ js)
  | _, _, _, _, .nil, h => h
  | _, _, _, _, .cons a b, h => .cons a (errL_app b h)
theorem errL_at {H : Hp} {A : Nat → Addr} : ∀ {xs : List V} {is : List Nat} {i : Nat} {x : V}, ErrL H A xs is → xs[i]? = some x → ∃ n a, is[i]? = some n ∧ x = V.ref a ∧ ErAt H a (A n)
  | _, _, _, _, .nil, e => by simp at e
  | _, _, 0, _, .cons ⟨a, e1, h⟩ _, e => by
    simp at e
    exact ⟨_, a, rfl, by rw [← e, e1], h⟩
  | _, _, i + 1, _, .cons _ b, e => by
    obtain ⟨n, a, h1, h2, h3⟩ := errL_at (i := i) b (by simpa using e)
    exact ⟨n, a, by simpa using h1, h2, h3⟩
theorem all_true (n : Nat) : (List.replicate n true).all id = true := by
  rw [List.all_eq_true]
  intro x hx
  exact List.eq_of_mem_replicate hx
theorem rep_flat (v : V) : ∀ m : Nat, (List.replicate m [v]).flatten = List.replicate m v
  | 0 => rfl
  | m + 1 => by
    rw [List.replicate_succ, List.flatten_cons, rep_flat v m, List.replicate_succ]
    rfl
theorem kinds_vs {n : Nat} (h : n < 19) : List.replicate n (V.int 0) ++ [V.int 1] ++ List.replicate (18 - n) (V.int 0) = (kinds n).map V.int := by
  rw [kinds_eq n h, List.map_append, List.map_append, List.map_replicate, List.map_replicate]
  rfl
theorem dpAll_ints2 {K : PySem.W.Frag} {H : Hp} : ∀ ns : List Int, DpAll K H (ns.map V.int) (ns.map PyData.int)
  | [] => .nil
  | n :: ns => .cons (.int n) (dpAll_ints2 ns)
section
variable {P : Program} {w : World} {K : PySem.W.Frag} {mg : Str → Option Value} {base : Heap} {f : Addr} {fd : FuncData}
theorem ok_law_apart (E : Errs P w K mg base) (hlen : mg "len" = none) (hall : mg "all" = none) (hrange : mg "range" = none) (F : Fun K "_law_apart" "_law_apart" s_law_apart f fd) (C_law_kinds : Cal P w K mg base "_law_kinds" 1 P_law_kinds (spKinds K E.A)) : FnOk P w K mg base CX0 3 f fd P_law_apart spApart := by
  refine F.ok sc_law_apart (fun vs H Q R h => ?_) (fun cdv A outer s H vs Q R hr h => ?_)
  · obtain ⟨v, u, rfl, _⟩ := h
    rfl
  obtain ⟨v, u, rfl, q⟩ := h
  refine ⟨_, (pss_cons (ps_set (i := 2) sc_law_apart.nd rfl (Or.inr rfl) (pe_lstN pa_nil))
  (pss_cons (ps_set (i := 2) sc_law_apart.nd rfl (Or.inr rfl) (pe_op op_catLN (pv 2) (pe_lstN (pa_er1 (A := E.A) (i := 0) (mk_p (by exact E.e0) hr (pv 0)) (pa_er1 (A := E.A) (i := 1) (mk_p (by exact E.e1) hr (pv 0)) (pa_er1 (A := E.A) (i := 2) (mk_p (by exact E.e2) hr (pv 0)) (pa_er1 (A := E.A) (i := 3) (mk_p (by exact E.e3) hr (pv 0)) (pa_er1 (A := E.A) (i := 4) (mk_p (by exact E.e4) hr (pv 0)) (pa_er_nil (A := E.A))))))))))
  (pss_cons (ps_set (i := 2) sc_law_apart.nd rfl (Or.inr rfl) (pe_op op_catLN (pv 2) (pe_lstN (pa_er0 (A := E.A) (i := 5) (mk_0 PySem.F.excBase_ValueError (by exact E.e5.ex) (by exact E.e5.g) (by exact E.e5.kp)) (pa_er1 (A := E.A) (i := 6) (mk_p (by exact E.e6) hr (pv 0)) (pa_er1 (A := E.A) (i := 7) (mk_p (by exact E.e7) hr (pv 0)) (pa_er2 (A := E.A) (i := 8) (mk_pp (by exact E.e8) hr (pv 0) (pv 1)) (pa_er1 (A := E.A) (i := 9) (mk_p (by exact E.e9) hr (pv 0)) (pa_er_nil (A := E.A))))))))))
  (pss_cons (ps_set (i := 2) sc_law_apart.nd rfl (Or.inr rfl) (pe_op op_catLN (pv 2) (pe_lstN (pa_er2 (A := E.A) (i := 10) (mk_pp (by exact E.e10) hr (pv 0) (pv 1)) (pa_er1 (A := E.A) (i := 11) (mk_p (by exact E.e11) hr (pv 0)) (pa_er0 (A := E.A) (i := 12) (mk_0 PySem.F.excBase_ValueError (by exact E.e12.ex) (by exact E.e12.g) (by exact E.e12.kp)) (pa_er0 (A := E.A) (i := 13) (mk_0 PySem.F.excBase_ValueError (by exact E.e13.ex) (by exact E.e13.g) (by exact E.e13.kp)) (pa_er1 (A := E.A) (i := 14) (mk_p (by exact E.e14) hr (pv 0)) (pa_er_nil (A := E.A))))))))))
  (pss_cons (ps_set (i := 2) sc_law_apart.nd rfl (Or.inr rfl) (pe_op op_catLN (pv 2) (pe_lstN (pa_er0 (A := E.A) (i := 15) (mk_0 PySem.F.excBase_ValueError (by exact E.e15.ex) (by exact E.e15.g) (by exact E.e15.kp)) (pa_er1 (A := E.A) (i := 16) (mk_p (by exact E.e16) hr (pv 0)) (pa_er1 (A := E.A) (i := 17) (mk_p (by exact E.e17) hr (pv 0)) (pa_er1 (A := E.A) (i := 18) (mk_p (by exact E.e18) hr (pv 0)) (pa_er_nil (A := E.A)))))))))
  (pss_cons (ps_if (pt_not (pt_val (pe_callB (cr_all rfl) rfl hall (by decide +kernel) (pa_cons (pe_lc (own := [("_law_error", 5)]) (g := (gName 5)) (te := tAndV (tIsj K 5 E.DE) (tIsV K 5)) rfl sc_law_apart.nd (pi_list (pv 2)) (blkOk_by (own := [("_law_error", 5)]) (N := N_law_apart) (sc := defScope s_law_apart) (by decide +kernel)) (fun _ _ _ _ _ => (pg_name (i := 5) sc_law_apart.nd rfl (Or.inl rfl))) (fun _ _ _ _ _ => pts_nil) (fun _ _ _ _ _ => (pe_and (pe_isj (by exact E.isinstance) (by rfl) (pv 5) (by exact E.gD) (by rfl) (by decide)) (pe_one (pe_isVE (by exact E.isinstance) (by rfl) (pv 5) (by exact E.ValueError) (by rfl)))))) pa_nil))))
    (pss_one (ps_ret pe_bl))
    pss_nil)
  (pss_cons (ps_set (i := 3) sc_law_apart.nd rfl (Or.inr rfl) (pe_op op_sub (pe_callB call_len rfl hlen (by decide +kernel) (pa_cons (pv 2) pa_nil)) pe_int))
  (pss_one (ps_ret (pe_callB (cr_all rfl) rfl hall (by decide +kernel) (pa_cons (pe_lc (own := [("_law_k", 4)]) (g := (gName 4)) (te := tOp (rEqD K) (tCall (spKinds K E.A) [] E0 (tCons (tOp (rIxL K) (tVar 2) (tVar 4)) tNil)) _) rfl sc_law_apart.nd (pi_range1 rfl hrange (pa_cons (pe_callB call_len rfl hlen (by decide +kernel) (pa_cons (pv 2) pa_nil)) pa_nil)) (blkOk_by (own := [("_law_k", 4)]) (N := N_law_apart) (sc := defScope s_law_apart) (by decide +kernel)) (fun _ _ _ _ _ => (pg_name (i := 4) sc_law_apart.nd rfl (Or.inl rfl))) (fun _ _ _ _ _ => pts_nil)
    (fun _ _ _ _ _ => (pe_cmpR (op_eqD hr.units) (pe_callC C_law_kinds hr (pa_cons (pe_ix ix_list (pv 2) (pv 4) (fun _ _ => rfl)) pa_nil)) (pe_op op_catLN (pe_op op_catLN (pe_op op_rep (pe_lstN (pa_cons pe_int pa_nil)) (pv 4)) (pe_lstN (pa_cons pe_int pa_nil))) (pe_op op_rep (pe_lstN (pa_cons pe_int pa_nil)) (pe_op op_sub (pv 3) (pv 4)))) (nomark _)))) pa_nil))))))))))), ?_⟩
  refine ⟨le1k, fun p0 H0 s0 e0 => ?_⟩
  have z0 : ErrL H0 E.A [] [] := .nil
  refine ⟨_, rfl, v, rfl, u, rfl, fun J0 ts0 q0 g0 => ⟨by rw [Paired.length g0]; decide, fun l0 L0 t0 d0 => ⟨p0, l0, _, _, rfl, rfl, (q0.trans t0) _ _ e0, d0, by rw [Paired.length z0, Paired.length g0]; decide, fun p1 H1 r0 e1 => ?_⟩⟩⟩
  have s1 := s0.trans ((q0.trans t0).trans r0)
  have z1 := errL_app (ErrL.same ((q0.trans t0).trans r0) z0) (ErrL.same (t0.trans r0) g0)
  refine ⟨_, rfl, v, rfl, u, rfl, fun J1 ts1 q1 g1 => ⟨by rw [Paired.length g1]; decide, fun l1 L1 t1 d1 => ⟨p1, l1, _, _, rfl, rfl, (q1.trans t1) _ _ e1, d1, by rw [Paired.length z1, Paired.length g1]; decide, fun p2 H2 r1 e2 => ?_⟩⟩⟩
  have s2 := s1.trans ((q1.trans t1).trans r1)
  have z2 := errL_app (ErrL.same ((q1.trans t1).trans r1) z1) (ErrL.same (t1.trans r1) g1)
  refine ⟨_, rfl, v, rfl, u, rfl, fun J2 ts2 q2 g2 => ⟨by rw [Paired.length g2]; decide, fun l2 L2 t2 d2 => ⟨p2, l2, _, _, rfl, rfl, (q2.trans t2) _ _ e2, d2, by rw [Paired.length z2, Paired.length g2]; decide, fun p3 H3 r2 e3 => ?_⟩⟩⟩
  have s3 := s2.trans ((q2.trans t2).trans r2)
  have z3 := errL_app (ErrL.same ((q2.trans t2).trans r2) z2) (ErrL.same (t2.trans r2) g2)
  refine ⟨_, rfl, v, rfl, u, rfl, fun J3 ts3 q3 g3 => ⟨by rw [Paired.length g3]; decide, fun l3 L3 t3 d3 => ⟨p3, l3, _, _, rfl, rfl, (q3.trans t3) _ _ e3, d3, by rw [Paired.length z3, Paired.length g3]; decide, fun p4 H4 r3 e4 => ?_⟩⟩⟩
  have s4 := s3.trans ((q3.trans t3).trans r3)
  have z4 := errL_app (ErrL.same ((q3.trans t3).trans r3) z3) (ErrL.same (t3.trans r3) g3)
  generalize ((([] ++ ts0) ++ ts1) ++ ts2) ++ ts3 = zs at *
  have z : ErrL H4 E.A zs (List.range 19) := z4
  have lz : zs.length = 19 := Paired.length z
  refine ⟨_, rfl, p4, rfl, ⟨_, SqL.of e4⟩, fun D nD => ?_⟩
  refine lc_it (walk_list (xs := zs)) (fun i H' => Same H4 H' ∧ H' D = some (.lst ((List.replicate i true).map V.bl))) ⟨same_new nD _, upd_same⟩ (fun i H' _ p => SqL.of (p.1 _ _ e4)) (fun i y H5 H6 hi p yy => ?_) (fun H5 p => ?_)
  · obtain ⟨rfl, hy⟩ := yy
    obtain ⟨s5, eu⟩ := p
    obtain ⟨n, a, hn, rfl, er⟩ := errL_at z hy
    have hn19 : n < 19 := by
      have := List.mem_of_getElem? hn
      rw [List.mem_range] at this
      exact this
    have er5 := er_same s5 er
    refine ⟨rfl, a, E.A n, true, rfl, er5, E.ec n hn19, E.kitD n hn19, _, rfl, iteT ⟨a, E.A n, true, rfl, er5, E.ec n hn19, E.kitV n hn19, ?_⟩⟩
    refine ⟨_, eu, small1000 (by rw [List.length_map, List.length_replicate]; omega), same_at s5 nD, ?_⟩
    rw [upd_same, List.replicate_succ', List.map_append]
    rfl
  · obtain ⟨s5, eu⟩ := p
    refine ⟨D, List.replicate zs.length true, rfl, SqL.of eu, ?_⟩
    rw [all_true]
    refine ⟨_, rfl, iteF ?_⟩
    have e5 := s5 _ _ e4
    refine ⟨_, rfl, _, _, rfl, .inl ⟨zs, SqL.of e5, rfl⟩, _, _, rfl, rfl, ?_⟩
    refine ⟨_, rfl, _, _, rfl, .inl ⟨zs, SqL.of e5, rfl⟩, _, rfl, by rw [lz]; decide, by rw [lz]; decide, fun D2 nD2 => ?_⟩
    rw [lz]
    refine lc_range (lo := 0) (n := 19) (fun i H' => Same H5 H' ∧ H' D2 = some (.lst ((List.replicate i true).map V.bl))) ⟨same_new nD2 _, upd_same⟩ (fun i H6 hi ⟨s6, eu6⟩ => ?_) (fun H6 ⟨s6, eu6⟩ => ?_)
    · rw [Int.zero_add]
      have hi' : i < zs.length := by rw [lz]; exact hi
      obtain ⟨n, a, hn, ea, er⟩ := errL_at z (List.getElem?_eq_getElem hi')
      have en : n = i := by
        rw [List.getElem?_range hi] at hn
        exact (Option.some.inj hn).symm
      subst en
      have hat : atI zs (n : Int) = some (V.ref a) := by
        rw [← ea]
        exact atI_nat (List.getElem?_eq_getElem hi')
      refine ⟨rfl, _, rfl, _, rfl, p4, zs, _, _, rfl, rfl, SqL.of (s6 _ _ e5), hat, a, n, rfl, hi, er_same (s5.trans s6) er, fun H7 pk s7 ek => ?_⟩
      refine ⟨le1k, fun l8 H8 s8 e8 => ⟨_, rfl, l8, _, _, rfl, rfl, e8, by omega, by omega, ?_, fun p9 np9 => ?_⟩⟩
      · show [V.int 0].length * _ ≤ _
        refine Nat.le_of_lt (small1000 ?_)
        simp only [List.length_cons, List.length_nil]
        omega
      rw [Int.toNat_natCast, rep_flat]
      have s9 := same_new np9 (.lst (List.replicate n (V.int 0)))
      have e9 : upd H8 p9 (.lst (List.replicate n (V.int 0))) p9 = some (.lst (List.replicate n (V.int 0))) := upd_same
      generalize upd H8 p9 (.lst (List.replicate n (V.int 0))) = H9 at *
      refine ⟨le1k, fun l10 H10 s10 e10 => ⟨p9, l10, _, _, rfl, rfl, s10 _ _ e9, e10, by rw [List.length_replicate]; simp only [List.length_cons, List.length_nil]; omega, fun p11 H11 s11 e11 => ?_⟩⟩
      refine ⟨le1k, fun l12 H12 s12 e12 => ⟨_, rfl, _, rfl, _, _, rfl, rfl, l12, _, _, rfl, rfl, e12, by omega, by omega, ?_, fun p13 np13 => ?_⟩⟩
      · refine Nat.le_of_lt (small1000 ?_)
        simp only [List.length_cons, List.length_nil]
        omega
      have em : ((((19 : Nat) : Int) - 1) - (n : Int)).toNat = 18 - n := by omega
      rw [em, rep_flat]
      have s13 := same_new np13 (.lst (List.replicate (18 - n) (V.int 0)))
      have e13 : upd H12 p13 (.lst (List.replicate (18 - n) (V.int 0))) p13 = some (.lst (List.replicate (18 - n) (V.int 0))) := upd_same
      generalize upd H12 p13 (.lst (List.replicate (18 - n) (V.int 0))) = H13 at *
      refine ⟨p11, p13, _, _, rfl, rfl, s13 _ _ (s12 _ _ e11), e13, by simp only [List.length_append, List.length_replicate, List.length_cons, List.length_nil]; omega, fun p14 H14 s14 e14 => ?_⟩
      have s714 : Same H7 H14 := (s8.trans s9).trans ((s10.trans s11).trans ((s12.trans s13).trans s14))
      rw [kinds_vs hi] at e14
      have sh := shaped_ints (kinds n)
      refine ⟨_, _, .lst (SqL.of (s714 _ _ ek)) (dpAll_ints2 (kinds n)), .lst (SqL.of e14) (dpAll_ints2 (kinds n)), sh, sh, ?_⟩
      have lay : (PyData.list ((kinds n).map PyData.int)).canLay0 = true := by
        unfold SeqAt.shaped at sh
        exact (Bool.and_eq_true_iff.mp sh).1
      rw [SeqAt.eqv_refl _ lay]
      have s614 := s6.trans (s7.trans s714)
      refine ⟨_, (s7.trans s714) _ _ eu6, small1000 (by rw [List.length_map, List.length_replicate]; omega), same_at s614 nD2, ?_⟩
      rw [upd_same, List.replicate_succ', List.map_append]
      rfl
    · refine ⟨D2, List.replicate 19 true, rfl, SqL.of eu6, ?_⟩
      rw [all_true]
      exact q H6 (s4.trans (s5.trans s6))
end
end My

set_option Elab.async false
set_option linter.all false
set_option maxRecDepth 100000
namespace ExV
open PySem PySem.Spec PyProof.Rows L2
section
variable {X : Cx} {pins : List (Addr × Obj)} {σ : L2.St} {H1 : Hp} {s1 : Shared} {Q : XK} {x : Str} {C : Addr} {ps ks : List Str} {fs : List V → List (Str × V)} {p pos : Pos} {e : Expr} {es : List Expr} {kws : List Keyword} {ta tk : TA} {g : List Value → List Value} {gV : List V → List V}
/-- x(..) that is raised -/
theorem run_mk (M : Made X.prog X.w X.K X.mg X.base x C ps fs) (ty : PySem.W.typeIn X.K (.ref C) = some (.type "type")) (hr : Room 2 X.A) {us : List Value} {kw : List (Str × Value)} {zs : List Value} {xs : List V} (bnd : ∀ (s : Shared) (a : Addr), X.K.In s.heap → BindsTo s M.fd ⟨.ref a :: us, kw⟩ (((("self" : Str) :: ps)).zip (.ref a :: zs)))
    (I1 : L2.Inv X pins σ H1 s1) (rz : Vals xs zs) (hl : xs.length = ps.length) (hus : us.length ≤ sizeLine) (q : ∀ d, H1 d = none → Q (.ref C) (some d) (upd H1 d (.xd (fs xs)))) : wpAny (model X.prog X.w) X.A (call (.ref C) us kw) (MkP X pins σ Q) X.xe s1 := by
  obtain ⟨nm, qn, N, bs, bm, sn, sb, ab, cl, dd, j0, j1, j2, j3, j5, hC, hbm⟩ := M.oex.cls
  obtain ⟨hp, gg, dr, tk, os⟩ := s1
  have big : hp.objs.size ≤ hp.objs.size + 1 := Nat.le_succ _
  have new : H1 (hp.objs.size + 1) = none := I1.hok.fresh big
  have keep : ∀ b o, hp.get? b = some o → ((hp.push (PySem.W.kdv_tup us)).push (PySem.HandSPX.excO C hp.objs.size)).get? b = some o := fun b o e => Heap.get?_push_of_some _ (Heap.get?_push_of_some _ e)
  have here : ((hp.push (PySem.W.kdv_tup us)).push (PySem.HandSPX.excO C hp.objs.size)).get? (hp.objs.size + 1) = some (PySem.HandSPX.excO C hp.objs.size) := by heap_get
  have I2 : L2.Inv X pins σ (upd H1 (hp.objs.size + 1) (exo (hp.objs.size + 1) C none)) ⟨(hp.push (PySem.W.kdv_tup us)).push (PySem.HandSPX.excO C hp.objs.size), gg, dr, tk, os⟩ :=
    I1.laid (t' := tk) (a := hp.objs.size + 1) (o := exo (hp.objs.size + 1) C none) keep big (exo_ok here)
  refine wpAny_call (ExK.call_kw F.excBase_ValueError (fun Y => PySem.HandSPX.refsVE_contains Y bm hbm) (I1.kIn _ _ hC) (PySem.W.looks_findIn I1.kIn M.iC) (fun self => PySem.W.bind_fn I1.kIn self M.tI) hus
    (codeAny_mono (M.F.run _ X.stack _ _ ⟨Value.ref (hp.objs.size + 1) :: us, kw⟩ (Value.ref (hp.objs.size + 1) :: zs) (.ref (hp.objs.size + 1) :: xs)
      (fun v H2 => v = .non ∧ ∃ (d : Addr) (fl : List (Str × V)), H2 (hp.objs.size + 1) = some (exo (hp.objs.size + 1) C (some d)) ∧ H2 d = some (exd d fl) ∧ H1 d = none ∧ Q (.ref C) (some d) (upd (L2.del H2 (hp.objs.size + 1)) d (.xd fl))) (fun _ _ _ => False) (hr.make C us kw) (I2.env0.make C us kw) (bnd _ _ I2.kIn) (.cons rfl rz)
      ⟨hp.objs.size + 1, xs, rfl, hl, upd_same, fun d nd ne => ⟨rfl, d, fs xs, upd_same, by rw [upd_ne ne, upd_same], by rw [upd_ne ne] at nd; exact nd, by
        have e : upd (L2.del (upd (upd (upd H1 (hp.objs.size + 1) (exo (hp.objs.size + 1) C none)) d (exd d (fs xs))) (hp.objs.size + 1) (exo (hp.objs.size + 1) C (some d))) (hp.objs.size + 1)) d (.xd (fs xs)) = upd H1 d (.xd (fs xs)) := by
          funext b
          by_cases h1 : b = d
          · rw [h1, upd_same, upd_same]
          · rw [upd_ne h1, upd_ne h1]
            by_cases h2 : b = hp.objs.size + 1
            · rw [h2, L2.del_same, new]
            · rw [L2.del_ne h2, upd_ne h2, upd_ne h1, upd_ne h2]
        rw [e]
        exact q d (by rw [upd_ne ne] at nd; exact nd)⟩⟩) fun r s' z => ?_))
  cases r with
  | error er => exact (z : False).elim
  | ok fl =>
    cases fl with
    | ret u =>
      obtain ⟨v, H2, os2, bare2, un2, hok2, rv, ev, d, fl, ea, ed, hd1, q2⟩ := z
      subst ev
      obtain ⟨h2, g2, d2, t2, os'⟩ := s'
      exact ⟨rv, mk_end (raises_own M.oex.exC ty) I1 big keep un2 hok2 os2 bare2 ea ed hd1 q2⟩
    | next => exact False.elim z
    | brk => exact False.elim z
    | cont => exact False.elim z
theorem pmk_err (M : Made X.prog X.w X.K X.mg X.base x C ps fs) (ty : PySem.W.typeIn X.K (.ref C) = some (.type "type")) (hr : Room 2 X.A) (bnd : ∀ (s : Shared) (a : Addr) (us : List Value), us.length = ps.length → BindsTo s M.fd ⟨.ref a :: us, []⟩ (((("self" : Str) :: ps)).zip (.ref a :: us))) (hg : Gl X x) (hn : ps.length ≤ 10) (ha : PA X (e :: es) ta)
    (hdb : (x == ("__debug__" : Str)) = false := by decide) (he : starEach (e :: es) X.env = (false, eval e X.env) :: starEach es X.env := by rfl) (hpl : (backTo pos (starEach es X.env)).any (·.1) = false := by rfl) :
    PMk X (.Call (.Name x p) (e :: es) [] pos) (fun σ H Q => ta σ H fun vs H2 => vs.length = ps.length ∧ ∀ d, H2 d = none → Q (.ref C) (some d) (upd H2 d (.xd (fs vs)))) := by
  intro pins s σ H Q I h
  refine wpAny_Call_Name_kw (ld_glob I hg M.g ?_ hdb)
  refine PySem.W.callWith_K (h₀ := X.base) I.ok.mod.kin M.oex.kC (thn (ha.run pos pins s σ H _ I h) fun us s1 ⟨vs, H1, I1, r, l1, q⟩ => ⟨I1.kIn, ?_⟩) he hpl
  exact run_mk (kw := []) M ty hr (fun s a _ => bnd s a us (r.length.symm.trans l1)) I1 r l1 (by have := r.length; show us.length ≤ sizeLine; rw [sizeLine_eq]; omega) q
theorem pmk_errK0 (M : Made X.prog X.w X.K X.mg X.base x C ps fs) (ty : PySem.W.typeIn X.K (.ref C) = some (.type "type")) (hr : Room 2 X.A) (bnd : ∀ (s : Shared) (a : Addr) (ws : List Value), ws.length = ks.length → BindsTo s M.fd ⟨[.ref a], ks.zip ws⟩ (((("self" : Str) :: ps)).zip (.ref a :: g ws)))
    (rel : ∀ {zs : List V} {ws : List Value}, zs.length = ks.length → Vals zs ws → Vals (gV zs) (g ws) ∧ (gV zs).length = ps.length) (hg : Gl X x) (hkw : PK X kws tk)
    (hall : (backToKw pos (keywordEach kws X.env)).all (·.1.isSome) = true := by rfl) (hks : (backToKw pos (keywordEach kws X.env)).filterMap (·.1) = ks := by rfl) (hdb : (x == ("__debug__" : Str)) = false := by decide)
    (hpl : ((backTo pos (starEach [] X.env)).any (·.1) || (backToKw pos (keywordEach kws X.env)).any (·.1.isNone)) = false := by rfl) :
    PMk X (.Call (.Name x p) [] kws pos) (fun σ H Q => tk σ H fun zs H2 => zs.length = ks.length ∧ ∀ d, H2 d = none → Q (.ref C) (some d) (upd H2 d (.xd (fs (gV zs))))) := by
  intro pins s σ H Q I h
  refine wpAny_Call_Name_kw (ld_glob I hg M.g ?_ hdb)
  refine PySem.W.callWith_KW0 (h₀ := X.base) I.ok.mod.kin M.oex.kC hall ?_ hpl
  refine thn (hkw.run pos pins s σ H _ I h) fun ws s2 ⟨zs, H2, I2, rz, l2, q2⟩ => ⟨I2.kIn, ?_⟩
  rw [hks]
  obtain ⟨r3, l3⟩ := rel l2 rz
  exact run_mk M ty hr (fun s a _ => bnd s a ws (rz.length.symm.trans l2)) I2 r3 l3 (Nat.zero_le _) q2
end
end ExV
namespace My
open PySem L2 ExV
abbrev s_law_raise : Stmt := top 29
abbrev N_law_raise : List Str := ["_law_which", "_law_mine"]
abbrev P_law_raise : List Str := ["_law_which", "_law_mine"]
theorem sc_law_raise : FnScope N_law_raise P_law_raise (defScope s_law_raise) := ⟨rfl, rfl, rfl, by decide +kernel, rfl, by decide +kernel, by decide +kernel⟩
def spRaise (A : Nat → Addr) : Sp := fun vs H _ E => ∃ (i : Int) (v : V), vs = [.int i, v] ∧ ∀ n d H', n < 19 → Same H H' → E (.ref (A n)) d H'
abbrev s_law_caught : Stmt := top 30
abbrev N_law_caught : List Str := ["_law_which", "_law_mine", "e"]
abbrev P_law_caught : List Str := ["_law_which", "_law_mine"]
theorem sc_law_caught : FnScope N_law_caught P_law_caught (defScope s_law_caught) := ⟨rfl, rfl, rfl, by decide +kernel, rfl, by decide +kernel, by decide +kernel⟩
def spCaught : Sp := fun vs H Q _ => ∃ (i : Int) (v : V), vs = [.int i, v] ∧ ∀ H', Same H H' → Q (.bl true) H'
section
variable {P : Program} {w : World} {K : PySem.W.Frag} {mg : Str → Option Value} {base : Heap} {f : Addr} {fd : FuncData}
theorem ok_law_raise (E : Errs P w K mg base) (ty : ∀ i, i < 19 → PySem.W.typeIn K (.ref (E.A i)) = some (.type "type")) (F : Fun K "_law_raise" "_law_raise" s_law_raise f fd) : FnOk P w K mg base (L2.CX P w) 3 f fd P_law_raise (spRaise E.A) := by
  refine F.okX sc_law_raise (fun vs H Q R h => ?_) (fun cdv A outer s H vs Q R hr h => ?_)
  · obtain ⟨i, v, rfl, _⟩ := h
    rfl
  obtain ⟨i, v, rfl, q⟩ := h
  refine ⟨_, (pss_cons (ps_if (pt_cmpR op_eq (pv 0) pe_int (nomark _))
    (pss_one (ps_raise rfl (takes_of rfl rfl rfl rfl) (pmk_ret rfl (pe_exc0 PySem.F.excBase_ValueError (by exact E.e15.ex) (by exact E.e15.g) (by exact E.e15.kp) rfl))))
    pss_nil)
  (pss_cons (ps_if (pt_cmpR op_eq (pv 0) pe_int (nomark _))
    (pss_one (ps_raise rfl (takes_of rfl rfl rfl rfl) (pmk_err E.e2.toMade (ty 2 (by decide)) hr (fun s a us l => match us, l with | [u], _ => E.e2.bP s a u) rfl (by decide) (pa_cons pe_int pa_nil))))
    pss_nil)
  (pss_cons (ps_if (pt_cmpR op_eq (pv 0) pe_int (nomark _))
    (pss_one (ps_raise rfl (takes_of rfl rfl rfl rfl) (pmk_errK0 (ks := ["at", "line"]) (g := fun ws => ws.reverse) (gV := fun zs => zs.reverse) E.e8.toMade (ty 8 (by decide)) hr (fun s a ws l => match ws, l with | [u, v], _ => E.e8.bT s a u v)
      (fun {zs ws} l2 r => match zs, ws, l2, r with | [_, _], _, _, .cons r1 (.cons r2 .nil) => ⟨.cons r2 (.cons r1 .nil), rfl⟩) rfl (pk_cons (pv 1) (pk_cons pe_int pk_nil)))))
    pss_nil)
  (pss_cons (ps_if (pt_cmpR op_eq (pv 0) pe_int (nomark _))
    (pss_one (ps_raise rfl (takes_of rfl rfl rfl rfl) (pmk_err E.e6.toMade (ty 6 (by decide)) hr (fun s a us l => match us, l with | [u], _ => E.e6.bP s a u) rfl (by decide) (pa_cons (pv 1) pa_nil))))
    pss_nil)
  (pss_cons (ps_if (pt_cmpR op_eq (pv 0) pe_int (nomark _))
    (pss_one (ps_raise rfl (takes_of rfl rfl rfl rfl) (pmk_err E.e10.toMade (ty 10 (by decide)) hr (fun s a us l => match us, l with | [u, v], _ => E.e10.bP s a u v) rfl (by decide) (pa_cons (pv 1) (pa_cons pe_non pa_nil)))))
    pss_nil)
  (pss_one (ps_raise rfl (takes_of rfl rfl rfl rfl) (pmk_ret rfl (pe_exc0 PySem.F.excBase_ValueError (by exact E.e12.ex) (by exact E.e12.g) (by exact E.e12.kp) rfl))))))))), ?_⟩
  have R0 : ∀ n, n < 19 → Raises (cxOf (L2.CX P w) P w K mg base N_law_raise "_law_raise" (defScope s_law_raise) f cdv A outer s H R) (.ref (E.A n)) := fun n hn => raises_own (E.ec n hn).hs (ty n hn)
  refine ⟨_, rfl, rfl, _, rfl, ?_⟩
  refine ite2 (fun c => fun a na => ⟨a, _, rfl, upd_same, fr0_none na, R0 15 (by decide), by rw [delH_new na]; exact q 15 none H (by decide) (Same.refl H)⟩) (fun c => ?_)
  refine ⟨_, rfl, rfl, _, rfl, ?_⟩
  refine ite2 (fun c => ⟨rfl, fun d nd => q 2 _ _ (by decide) (same_new nd _)⟩) (fun c => ?_)
  refine ⟨_, rfl, rfl, _, rfl, ?_⟩
  refine ite2 (fun c => ⟨v, rfl, rfl, fun d nd => q 8 _ _ (by decide) (same_new nd _)⟩) (fun c => ?_)
  refine ⟨_, rfl, rfl, _, rfl, ?_⟩
  refine ite2 (fun c => ⟨v, rfl, rfl, fun d nd => q 6 _ _ (by decide) (same_new nd _)⟩) (fun c => ?_)
  refine ⟨_, rfl, rfl, _, rfl, ?_⟩
  refine ite2 (fun c => ⟨v, rfl, rfl, fun d nd => q 10 _ _ (by decide) (same_new nd _)⟩) (fun c => ?_)
  exact fun a na => ⟨a, _, rfl, upd_same, fr0_none na, R0 12 (by decide), by rw [delH_new na]; exact q 12 none H (by decide) (Same.refl H)⟩
theorem ok_law_caught (E : Errs P w K mg base) (exm : ∀ i, i < 19 → PySem.W.exmOne K (.ref (E.A i)) (.ref E.DE) = some true) (F : Fun K "_law_caught" "_law_caught" s_law_caught f fd) {fr : Addr} {fdr : FuncData} (G : FnOk P w K mg base (L2.CX P w) 3 fr fdr P_law_raise (spRaise E.A)) (gr : mg "_law_raise" = some (.ref fr)) (kr : PySem.W.keepIn K (.ref fr) = true) (br : Binds K fdr P_law_raise []) :
    FnOk P w K mg base CX0 5 f fd P_law_caught spCaught := by
  refine F.ok sc_law_caught (fun vs H Q R h => ?_) (fun cdv A outer s H vs Q R hr h => ?_)
  · obtain ⟨i, v, rfl, _⟩ := h
    rfl
  obtain ⟨i, v, rfl, q⟩ := h
  have hr1 : Room 3 _ := hr.mono (by decide)
  refine ⟨_, (pss_cons (ps_try_as (i := 2) (tb := fun W => tDrop (tCallS (spRaise E.A) (WE W) (tCons (tVar 0) (tCons (tVar 1) tNil)))) (ts := fun _ _ _ => tRet (tC (.bl true))) (Wout := fun _ _ _ _ => False) rfl rfl sc_law_caught.nd rfl rfl ⟨rfl, by decide, Or.inl E.gD⟩ takes0
      (fun W pn xe tk _ => pss_one (ps_expr (by exact (pe_callS G hr1 rfl gr kr br (fun σ => passAt tk σ) (by exact (pa_cons (pv 0) (pa_cons (pv 1) pa_nil)))))))
      (fun a oe cls d pn hz hf => pss_one (ps_ret pe_bl)))
  (pss_one (ps_ret pe_bl))), ?_⟩
  exact ⟨_, rfl, _, rfl, i, v, rfl, fun n d H' hn s' => ⟨true, exm n hn, fun _ a ha => q H' s', fun z => (nomatch z)⟩⟩
end
end My

set_option Elab.async false
set_option linter.all false
set_option maxRecDepth 100000
namespace My
open PySem L2 ExV
inductive Val (K : PySem.W.Frag) (H : Hp) : V → Prop
  | dat {v : V} {D : PyData} (h : Dp K H v D) (s : shortD D = true) (d : D.depth ≤ 64) : Val K H v
  | emp {a : Addr} (h : H a = some (.dK [])) : Val K H (.ref a)
section
variable {K : PySem.W.Frag} {H H' : Hp} {v : V}
theorem Val.same (s : Same H H') (h : Val K H v) : Val K H' v := by
  cases h with
  | dat h s' d => exact .dat (dp_same s _ _ h) s' d
  | emp h => exact .emp (s _ _ h)
theorem Val.keep {d L : Addr} {ns : List Int} {n : Nat} (p : Pen K H d L ns n) (k : Keep d H H') (h : Val K H v) : Val K H' v := by
  cases h with
  | dat h s' dd => exact .dat (dp_keep p.isDk k _ _ h) s' dd
  | @emp a h =>
    refine .emp (k _ _ (fun z => ?_) h)
    obtain ⟨b, l, e, _⟩ := p.ex
    rw [z, e] at h
    cases h
theorem op_orR {X : Cx} {f : Value → Value → Sem Value} {r1 r2 : R2} (a : OpR X f r1) (b : OpR X f r2) : OpR X f (fun x y H Q => r1 x y H Q ∨ r2 x y H Q) := fun pins s σ H x y v u Q I rx ry h =>
  h.elim (a pins s σ H x y v u Q I rx ry) (b pins s σ H x y v u Q I rx ry)
/-- x != x -/
theorem ne_self {Q : VK} (h : Val K H v) (q : Q (.bl false) H) : rNeD K v v H Q ∨ rNeDA v v H Q := by
  cases h with
  | @dat v D h s d =>
    refine .inl ⟨D, D, h, h, shaped_of s d, shaped_of s d, ?_⟩
    rw [SeqAt.eqv_refl D (canLay_of D s)]
    exact q
  | @emp a h => exact .inr ⟨a, a, [], [], rfl, rfl, h, h, rfl, fun p hp => (nomatch hp), q⟩
theorem ty_val (h : Val K H v) : ∃ (g : String) (b : Bool), kitB g "bool" = some b ∧ TyX K H v (.type g) := by
  cases h with
  | @dat v D h s d =>
    cases h with
    | non => exact ⟨"NoneType", false, by decide +kernel, .base .non⟩
    | bl b => exact ⟨"bool", true, by decide +kernel, .base (.bl b)⟩
    | int b => exact ⟨"int", false, by decide +kernel, .base (.int b)⟩
    | str b => exact ⟨"str", false, by decide +kernel, .base (.str b)⟩
    | lst h1 h2 =>
      rcases h1 with (hs | ⟨o, hs⟩) | ⟨o, its, n, lk, c, _⟩
      · exact ⟨"list", false, by decide +kernel, .base (.lst hs)⟩
      · exact ⟨"list", false, by decide +kernel, .base (.frz hs)⟩
      · exact ⟨"list", false, by decide +kernel, .kList lk c⟩
    | tup h1 h2 =>
      rcases h1 with (hs | ⟨o, hs⟩) | ⟨o, its, n, lk, c, _⟩
      · exact ⟨"tuple", false, by decide +kernel, .base (.tup hs)⟩
      · exact ⟨"tuple", false, by decide +kernel, .fTuple hs⟩
      · exact ⟨"tuple", false, by decide +kernel, .kTuple lk c⟩
  | emp h => exact ⟨"dict", false, by decide +kernel, .base (.dK h)⟩
end
abbrev slaw : Stmt := top 31
abbrev Nlaw : List Str := ["_law_script", "_law_pen_here", "_law_values", "_law_lap", "_law_mine", "_law_yours", "_law_held", "_law_twice", "_law_due", "_law_which"]
abbrev Plaw : List Str := ["_law_script"]
theorem sclaw : FnScope Nlaw Plaw (defScope slaw) := ⟨rfl, rfl, rfl, by decide +kernel, rfl, by decide +kernel, by decide +kernel⟩
def spLaw (K : PySem.W.Frag) : Sp := fun vs H Q _ => ∃ (a : Addr) (ns : List Int), vs = [.ref a] ∧ SqL K H a (ns.map V.int) ∧ ns.length ≤ 63 ∧ ∀ H', Q (.bl true) H'
section
variable {P : Program} {w : World} {K : PySem.W.Frag} {mg : Str → Option Value} {base : Heap} {f : Addr} {fd : FuncData}
theorem ok_law (T : Txt0 K mg) (F : Fun K "law" "law" slaw f fd) (C_law_pen : Cal P w K mg base "_law_pen" 1 P_law_pen (spBegin K)) (C_law_pick : Cal P w K mg base "_law_pick" 2 P_law_pick (spPick K)) (C_law_alone : Cal P w K mg base "_law_alone" 3 P_law_alone (spAlone K)) (C_law_more : Cal P w K mg base "_law_more" 3 P_law_more (spMore K))
    (C_law_apart : Cal P w K mg base "_law_apart" 3 P_law_apart spApart) (C_law_caught : Cal P w K mg base "_law_caught" 5 P_law_caught spCaught) : FnOk P w K mg base CX0 7 f fd Plaw (spLaw K) := by
  refine F.ok sclaw (fun vs H Q E h => ?_) (fun cdv A outer s H vs Q E hr h => ?_)
  · obtain ⟨a, ns, rfl, _⟩ := h
    rfl
  obtain ⟨a, ns, rfl, hS, h63, q⟩ := h
  have hu : (cxOf CX0 P w K mg base Nlaw "law" (defScope slaw) f cdv A outer s H E).A.units < cLine := Nat.lt_of_le_of_lt (Nat.le_add_right _ 64) hr.units
  refine ⟨_, (pss_cons (ps_set (i := 1) sclaw.nd rfl (Or.inl rfl) (pe_callC C_law_pen hr (pa_cons (pv 0) pa_nil)))
  (pss_cons (ps_set (i := 2) sclaw.nd rfl (Or.inl rfl) (pe_lstN (pa_cons pe_non (pa_cons pe_bl (pa_cons pe_int (pa_cons (pe_un un_neg pe_int) (pa_cons pe_str (pa_cons pe_str (pa_cons (pe_tupN (pa_cons pe_int (pa_cons pe_int pa_nil))) (pa_cons (pe_lstN (pa_cons pe_str pa_nil)) (pa_cons pe_dnewK (pa_cons (pe_op op_pow pe_int pe_int) (pa_cons pe_str (pa_cons (pe_tupN (pa_cons (pe_tupN (pa_cons pe_int (pa_cons pe_int pa_nil))) (pa_cons pe_int pa_nil))) pa_nil))))))))))))))
  (pss_cons (ps_for PassesOwn.never rfl (pi_range1 rfl T.range (pa_cons (pe_op op_add pe_int (pe_callB (call_min2 rfl) rfl T.min (by decide +kernel) (pa_cons pe_int (pa_cons (pe_callB call_len rfl T.len (by decide +kernel) (pa_cons (pv 0) pa_nil)) pa_nil)))) pa_nil)) (pg_name (i := 3) sclaw.nd rfl (Or.inl rfl))
    (pss_cons (ps_asg (pe_tupN (pa_cons (pe_callC C_law_pick hr (pa_cons (pv 1) (pa_cons (pv 2) pa_nil))) (pa_cons (pe_callC C_law_pick hr (pa_cons (pv 1) (pa_cons (pv 2) pa_nil))) pa_nil))) (pg_tup rfl (pgs_cons (pg_name (i := 4) sclaw.nd rfl (Or.inr rfl)) (pgs_cons (pg_name (i := 5) sclaw.nd rfl (Or.inl rfl)) pgs_nil))))
    (pss_cons (ps_for PassesOwn.never rfl (pi_list (pe_callC C_law_alone hr (pa_cons (pv 4) pa_nil))) (pg_tup rfl (pgs_cons (pg_name (i := 6) sclaw.nd rfl (Or.inl rfl)) (pgs_cons (pg_name (i := 7) sclaw.nd rfl (Or.inl rfl)) pgs_nil)))
      (pss_one (ps_if (PW.pt (pw_or (pt_cmpR (op_orR (op_neD hr.units) (op_ne_dictA hu)) (pv 6) (pv 4) (nomark _)) (pw_or (pt_cmpR (op_orR (op_neD hr.units) (op_ne_dictA hu)) (pv 7) (pv 4) (nomark _)) (pw_or1 (pt_cmpR op_ne (pe_callB call_isi rfl T.isinstance (by decide +kernel) (pa_cons (pv 6) (pa_cons (pe_bltn (v := .ty "bool") rfl T.bool (by decide +kernel) rfl) pa_nil))) (pe_callB call_isi rfl T.isinstance (by decide +kernel) (pa_cons (pv 4) (pa_cons (pe_bltn (v := .ty "bool") rfl T.bool (by decide +kernel) rfl) pa_nil))) (nomark _))))))
        (pss_one (ps_ret pe_bl))
        pss_nil)))
    (pss_cons (ps_for PassesOwn.never rfl (pi_list (pe_callC C_law_more hr (pa_cons (pv 4) (pa_cons (pv 5) pa_nil)))) (pg_tup rfl (pgs_cons (pg_name (i := 6) sclaw.nd rfl (Or.inl rfl)) (pgs_cons (pg_name (i := 8) sclaw.nd rfl (Or.inl rfl)) pgs_nil)))
      (pss_one (ps_if (PW.pt (pw_or (pt_cmpR (op_orR (op_neD hr.units) (op_ne_dictA hu)) (pv 6) (pv 8) (nomark _)) (pw_or1 (pt_cmpR op_ne (pe_callB call_isi rfl T.isinstance (by decide +kernel) (pa_cons (pv 6) (pa_cons (pe_bltn (v := .ty "bool") rfl T.bool (by decide +kernel) rfl) pa_nil))) (pe_callB call_isi rfl T.isinstance (by decide +kernel) (pa_cons (pv 8) (pa_cons (pe_bltn (v := .ty "bool") rfl T.bool (by decide +kernel) rfl) pa_nil))) (nomark _)))))
        (pss_one (ps_ret pe_bl))
        pss_nil)))
    (pss_one (ps_if (PW.pt (pw_or (pt_not (pt_val (pe_callC C_law_apart hr (pa_cons (pv 4) (pa_cons (pv 5) pa_nil))))) (pw_or1 (pt_not (pt_val (pe_callB (cr_all rfl) rfl T.all (by decide +kernel) (pa_cons (pe_lc (own := [("_law_which", 9)]) (g := (gName 9)) rfl sclaw.nd (pi_range1 rfl T.range (pa_cons pe_int pa_nil)) (blkOk_by (own := [("_law_which", 9)]) (N := Nlaw) (sc := defScope slaw) (by decide +kernel)) (fun _ _ _ _ _ => (pg_name (i := 9) sclaw.nd rfl (Or.inl rfl))) (fun _ _ _ _ _ => pts_nil) (fun _ _ _ _ _ => (pe_callC C_law_caught hr (pa_cons (pv 9) (pa_cons (pv 4) pa_nil))))) pa_nil)))))))
      (pss_one (ps_ret pe_bl))
      pss_nil))))))
  (pss_one (ps_ret pe_bl))))), ?_⟩
  refine ⟨_, rfl, a, ns, rfl, hS, h63, fun d L H1 S1 p1 => ?_⟩
  refine ⟨3, rfl, le1k, fun t1 H2 s2 e2 => ⟨le1k, fun l3 H3 s3 e3 => fun d4 n4 => ?_⟩⟩
  have s4 := same_new n4 (.dK [])
  have e4 : upd H3 d4 (.dK []) d4 = some (.dK []) := upd_same
  generalize upd H3 d4 (.dK []) = H4 at *
  refine ⟨_, _, rfl, rfl, ⟨by decide, by decide, by decide⟩, le1k, fun t5 H5 s5 e5 => ⟨le1k, fun t6 H6 s6 e6 => ⟨le1k, fun vl H7 s7 e7 => ?_⟩⟩⟩
  have p7 : Pen K H7 d L ns 0 := (((((p1.same s2).same s3).same s4).same s5).same s6).same s7
  have s47 : Same H4 H7 := s5.trans (s6.trans s7)
  have s37 : Same H3 H7 := s4.trans s47
  have sc : ∀ {v : V} {D : PyData}, Dp K H7 v D → shortD D = true → D.depth ≤ 64 → Val K H7 v := fun h s d => .dat h s d
  have t12 : Dp K H7 (.ref t1) (.tuple [.int 1, .int 2]) := .tup (seqT_same (s3.trans s37) e2) (.cons (.int _) (.cons (.int _) .nil))
  have lx : Dp K H7 (.ref l3) (.list [.str (Str.ofString "x")]) := .lst (SqL.of (s37 _ _ e3)) (.cons (.str _) .nil)
  have t01 : Dp K H7 (.ref t5) (.tuple [.int 0, .int 1]) := .tup (seqT_same (s6.trans s7) e5) (.cons (.int _) (.cons (.int _) .nil))
  have tt : Dp K H7 (.ref t6) (.tuple [.tuple [.int 0, .int 1], .int 2]) := .tup (seqT_same s7 e6) (.cons t01 (.cons (.int _) .nil))
  obtain ⟨vals, hv⟩ : ∃ vals : List V, vals = [.non, .bl true, .int 0, .int (-3), .str (Str.ofString ""), .str (Str.ofString "x y"), .ref t1, .ref l3, .ref d4, .int (10 ^ 9), .str (Str.ofString "a"), .ref t6] := ⟨_, rfl⟩
  have e7 : H7 vl = some (.lst vals) := by rw [hv]; exact e7
  have all : ∀ v ∈ vals, Val K H7 v := by
    intro v hm
    rw [hv] at hm
    simp only [List.mem_cons, List.not_mem_nil, or_false] at hm
    rcases hm with rfl | rfl | rfl | rfl | rfl | rfl | rfl | rfl | rfl | rfl | rfl | rfl
    · exact sc .non rfl (by decide)
    · exact sc (.bl _) rfl (by decide)
    · exact sc (.int _) rfl (by decide)
    · exact sc (.int _) rfl (by decide)
    · exact sc (.str _) (by decide +kernel) (by simp [PyData.depth])
    · exact sc (.str _) (by decide +kernel) (by simp [PyData.depth])
    · exact sc t12 rfl (by simp [PyData.depth, PyData.depthAll])
    · exact sc lx (by decide +kernel) (by simp [PyData.depth, PyData.depthAll])
    · exact .emp (s47 _ _ e4)
    · exact sc (.int _) rfl (by decide)
    · exact sc (.str _) (by decide +kernel) (by simp [PyData.depth])
    · exact sc tt rfl (by simp [PyData.depth, PyData.depthAll])
  have vne : vals ≠ [] ∧ vals.length ≤ 1000 := by
    rw [hv]
    exact ⟨fun z => (nomatch z), le1k⟩
  have hS7 : SqL K H7 a (ns.map V.int) := (S1.trans (s2.trans (s3.trans s37))).seq hS
  refine ⟨_, rfl, _, _, rfl, .inl ⟨_, hS7, rfl⟩, _, _, rfl, _, _, rfl, rfl, _, rfl, ?_, ?_, ?_⟩
  · split <;> omega
  · split <;> omega
  have nvd : vl ≠ d := fun z => by
    obtain ⟨kvs, hd⟩ := p7.isDk
    rw [z, hd] at e7
    cases e7
  refine for_range (lo := 0) (n := _) (fun i σ H' => Keep d H7 H' ∧ Pen K H' d L ns (2 * i) ∧ σ.length = 10 ∧ σ[1]? = some (some (.ref d)) ∧ σ[2]? = some (some (.ref vl))) ⟨Keep.refl _ _, p7, rfl, rfl, rfl⟩ (fun i σ H8 hi ⟨k8, p8, gl, g1, g2⟩ => ?_) (fun σ H8 _ => q H8)
  have hi5 : i < 10 := by
    revert hi
    split <;> omega
  have S : ∀ (m : Nat) (u z : V), m ≠ 3 → σ[m]? = some (some z) → (σ.set 3 (some u))[m]? = some (some z) := fun m u z h e => by
    rw [List.getElem?_set_ne (by omega)]
    exact e
  refine ⟨_, S 1 _ _ (by decide) g1, _, S 2 _ _ (by decide) g2, d, L, ns, _, .ref vl, rfl, p8, by omega, .inl ⟨vl, vals, rfl, SqL.of (k8 _ _ nvd e7), vne.1, vne.2, fun x H9 hx k9 p9 => ?_⟩⟩
  refine ⟨_, S 1 _ _ (by decide) g1, _, S 2 _ _ (by decide) g2, d, L, ns, _, .ref vl, rfl, p9, by omega, .inl ⟨vl, vals, rfl, SqL.of ((k8.trans k9) _ _ nvd e7), vne.1, vne.2, fun y H10 hy k10 p10 => ⟨le1k, fun t H11 s11 e11 => ?_⟩⟩⟩
  refine ⟨t, [x, y], rfl, e11, rfl, _, [y], rfl, y, [], rfl, rfl, ?_⟩
  have k11 : Keep d H7 H11 := ((k8.trans k9).trans k10).trans (Same.toKeep s11)
  have p11 := p10.same s11
  have vx : Val K H11 x := Val.keep p7 k11 (all x hx)
  have vy : Val K H11 y := Val.keep p7 k11 (all y hy)
  have S2 : ∀ (m : Nat) (u z : V), m ≠ 3 → m ≠ 4 → m ≠ 5 → σ[m]? = some (some z) → (((σ.set 3 (some u)).set 4 (some x)).set 5 (some y))[m]? = some (some z) := fun m u z h h4 h5 e => by
    rw [List.getElem?_set_ne (by omega), List.getElem?_set_ne (by omega)]
    exact S m u z h e
  have m4 : ∀ u : V, (((σ.set 3 (some u)).set 4 (some x)).set 5 (some y))[4]? = some (some x) := fun u => by
    rw [List.getElem?_set_ne (by omega), List.getElem?_set_self (by rw [List.length_set]; omega)]
  have m5 : ∀ u : V, (((σ.set 3 (some u)).set 4 (some x)).set 5 (some y))[5]? = some (some y) := fun u => by
    rw [List.getElem?_set_self (by rw [List.length_set, List.length_set]; omega)]
  refine ⟨x, m4 _, x, rfl, fun H12 p12 ts s12 e12 g12 => ⟨p12, rfl, ⟨ts, SqL.of e12⟩, ?_⟩⟩
  refine for_it walk_list (fun j σ' H' => Same H12 H' ∧ σ'.length = 10 ∧ σ'[1]? = some (some (.ref d)) ∧ σ'[2]? = some (some (.ref vl)) ∧ σ'[4]? = some (some x) ∧ σ'[5]? = some (some y)) ⟨Same.refl _, by rw [List.length_set, List.length_set, List.length_set]; exact gl, S2 1 _ _ (by decide) (by decide) (by decide) g1, S2 2 _ _ (by decide) (by decide) (by decide) g2, m4 _, m5 _⟩ (fun j σ' H' _ pv => SqL.of (pv.1 _ _ e12)) (fun j z σ' H13 H14 hj pv yy => ?_) (fun σ' H13 pv => ?_)
  · obtain ⟨rfl, hz⟩ := yy
    obtain ⟨s13, l', f1, f2, f4, f5⟩ := pv
    obtain ⟨a', w', rfl, hT, hw⟩ := g12 z (List.mem_of_getElem? hz)
    have ew : w' = x := hw.elim id id
    subst ew
    refine ⟨a', [w', w'], rfl, seqT_same s13 hT, rfl, _, [w'], rfl, w', [], rfl, rfl, ?_⟩
    have h6 : ((σ'.set 6 (some w')).set 7 (some w'))[6]? = some (some w') := by
      rw [List.getElem?_set_ne (by omega), List.getElem?_set_self (by omega)]
    have h7 : ((σ'.set 6 (some w')).set 7 (some w'))[7]? = some (some w') := by
      rw [List.getElem?_set_self (by rw [List.length_set]; omega)]
    have U : ∀ (m : Nat) (u : V), m ≠ 6 → m ≠ 7 → σ'[m]? = some (some u) → ((σ'.set 6 (some w')).set 7 (some w'))[m]? = some (some u) := fun m u h1 h2 e => by
      rw [List.getElem?_set_ne (by omega), List.getElem?_set_ne (by omega)]
      exact e
    have vw := Val.same (s12.trans s13) vx
    obtain ⟨g, b, hb, ty⟩ := ty_val vw
    refine ⟨w', h6, w', U 4 _ (by decide) (by decide) f4, ne_self vw ⟨false, rfl, ?_⟩⟩
    refine ⟨w', h7, w', U 4 _ (by decide) (by decide) f4, ne_self vw ⟨false, rfl, ?_⟩⟩
    refine ⟨w', h6, _, _, _, _, _, rfl, .ty "bool", ty, kit_ty hb, w', U 4 _ (by decide) (by decide) f4, _, _, _, _, _, rfl, .ty "bool", ty, kit_ty hb, rfl, false, by rw [decide_eq_true rfl]; rfl, ?_⟩
    exact ⟨s13, by rw [List.length_set, List.length_set]; exact l', U 1 _ (by decide) (by decide) f1, U 2 _ (by decide) (by decide) f2, U 4 _ (by decide) (by decide) f4, U 5 _ (by decide) (by decide) f5⟩
  obtain ⟨s13, l', f1, f2, f4, f5⟩ := pv
  refine ⟨x, f4, y, f5, x, y, rfl, fun H15 p15 us s15 e15 g15 => ⟨p15, rfl, ⟨us, SqL.of e15⟩, ?_⟩⟩
  refine for_it walk_list (fun j σ' H' => Same H15 H' ∧ σ'.length = 10 ∧ σ'[1]? = some (some (.ref d)) ∧ σ'[2]? = some (some (.ref vl)) ∧ σ'[4]? = some (some x) ∧ σ'[5]? = some (some y)) ⟨Same.refl _, l', f1, f2, f4, f5⟩ (fun j σ' H' _ pv => SqL.of (pv.1 _ _ e15)) (fun j z τ H16 H17 hj pv yy => ?_) (fun τ H16 pv => ?_)
  · obtain ⟨rfl, hz⟩ := yy
    obtain ⟨s16, l', f1, f2, f4, f5⟩ := pv
    obtain ⟨a', w', rfl, hT, hw⟩ := g15 z (List.mem_of_getElem? hz)
    refine ⟨a', [w', w'], rfl, seqT_same s16 hT, rfl, _, [w'], rfl, w', [], rfl, rfl, ?_⟩
    have h6 : ((τ.set 6 (some w')).set 8 (some w'))[6]? = some (some w') := by
      rw [List.getElem?_set_ne (by omega), List.getElem?_set_self (by omega)]
    have h8 : ((τ.set 6 (some w')).set 8 (some w'))[8]? = some (some w') := by
      rw [List.getElem?_set_self (by rw [List.length_set]; omega)]
    have U : ∀ (m : Nat) (u : V), m ≠ 6 → m ≠ 8 → τ[m]? = some (some u) → ((τ.set 6 (some w')).set 8 (some w'))[m]? = some (some u) := fun m u h1 h2 e => by
      rw [List.getElem?_set_ne (by omega), List.getElem?_set_ne (by omega)]
      exact e
    have v0 : Val K H11 w' := hw.elim (fun e => by rw [e]; exact vx) (fun e => by rw [e]; exact vy)
    have vw := Val.same (s12.trans (s13.trans (s15.trans s16))) v0
    obtain ⟨g, b, hb, ty⟩ := ty_val vw
    refine ⟨w', h6, w', h8, ne_self vw ⟨false, rfl, ?_⟩⟩
    refine ⟨w', h6, _, _, _, _, _, rfl, .ty "bool", ty, kit_ty hb, w', h8, _, _, _, _, _, rfl, .ty "bool", ty, kit_ty hb, rfl, false, by rw [decide_eq_true rfl]; rfl, ?_⟩
    exact ⟨s16, by rw [List.length_set, List.length_set]; exact l', U 1 _ (by decide) (by decide) f1, U 2 _ (by decide) (by decide) f2, U 4 _ (by decide) (by decide) f4, U 5 _ (by decide) (by decide) f5⟩
  obtain ⟨s16, l', f1, f2, f4, f5⟩ := pv
  obtain ⟨z0, z1, z2, z3, z4, z5, z6, z7, z8, z9, rfl⟩ : ∃ z0 z1 z2 z3 z4 z5 z6 z7 z8 z9, τ = [z0, z1, z2, z3, z4, z5, z6, z7, z8, z9] := by
    match τ, l' with
    | [z0, z1, z2, z3, z4, z5, z6, z7, z8, z9], _ => exact ⟨z0, z1, z2, z3, z4, z5, z6, z7, z8, z9, rfl⟩
  obtain rfl : z1 = some (.ref d) := Option.some.inj f1
  obtain rfl : z2 = some (.ref vl) := Option.some.inj f2
  obtain rfl : z4 = some x := Option.some.inj f4
  obtain rfl : z5 = some y := Option.some.inj f5
  refine ⟨x, rfl, y, rfl, x, y, rfl, fun H17 s17 => ⟨_, rfl, iteF ?_⟩⟩
  refine ⟨6, rfl, by decide, by decide, fun D nD => lc_range (lo := 0) (n := 6) (fun i H' => Same H17 H' ∧ H' D = some (.lst ((List.replicate i true).map V.bl))) ⟨same_new nD _, upd_same⟩ (fun i H18 hi ⟨s18, e⟩ => ?_) (fun H18 ⟨s18, e⟩ => ?_)⟩
  · refine ⟨rfl, _, rfl, x, rfl, _, x, rfl, fun H19 s19 => ⟨_, s19 _ _ e, small1000 (by rw [List.length_map, List.length_replicate]; omega), same_at (s18.trans s19) nD, ?_⟩⟩
    rw [upd_same, List.replicate_succ', List.map_append]
    rfl
  · refine ⟨D, List.replicate 6 true, rfl, SqL.of e, ?_⟩
    rw [all_true]
    refine ⟨_, rfl, iteF ?_⟩
    have kk : Same H11 H18 := s12.trans (s13.trans (s15.trans (s16.trans (s17.trans s18))))
    exact ⟨k11.trans (Same.toKeep kk), by rw [show 2 * (i + 1) = 2 * i + 1 + 1 by omega]; exact p11.same kk, rfl, rfl, rfl⟩
end
end My

set_option Elab.async false
set_option linter.all false
set_option maxRecDepth 100000
namespace My
open PySem L2 ExV
/-- what the text says of an error class, in one look -/
def errB (K : PySem.W.Frag) (DE C : Addr) : Bool :=
  xfB K C && (decide (PySem.W.findIn K (.ref C) "__class__" = some (some (.builtin "object.__class__"))) && (decide (PySem.W.mroIn K C (.type "object") = some true) && (decide (PySem.W.typeIn K (.ref C) = some (.type "type")) && (decide (PySem.W.exmOne K (.ref C) (.ref DE) = some true) &&
    (decide (PySem.W.kitOne K (.ref C) (.ref DE) = some true) && (decide (PySem.W.kitOne K (.ref C) (.type "ValueError") = some true) && (decide (PySem.W.findIn K (.ref C) "__setattr__" = some (some (.builtin "object.__setattr__"))) && PySem.W.keepIn K (.ref C))))))))
structure ErrF (K : PySem.W.Frag) (DE C : Addr) : Prop where
  xf : XfC K C
  ca : PySem.W.findIn K (.ref C) "__class__" = some (some (.builtin "object.__class__"))
  mo : PySem.W.mroIn K C (.type "object") = some true
  ty : PySem.W.typeIn K (.ref C) = some (.type "type")
  ex : PySem.W.exmOne K (.ref C) (.ref DE) = some true
  kd : PySem.W.kitOne K (.ref C) (.ref DE) = some true
  kv : PySem.W.kitOne K (.ref C) (.type "ValueError") = some true
  sa : PySem.W.findIn K (.ref C) "__setattr__" = some (some (.builtin "object.__setattr__"))
  kp : PySem.W.keepIn K (.ref C) = true
theorem errB_ok {K : PySem.W.Frag} {DE C : Addr} (h : errB K DE C = true) : ErrF K DE C := by
  unfold errB at h
  simp only [Bool.and_eq_true, decide_eq_true_eq] at h
  obtain ⟨h1, h2, h3, h4, h5, h6, h7, h8, h9⟩ := h
  exact ⟨xfB_ok h1, h2, h3, h4, h5, h6, h7, h8, h9⟩
def kitsB (K : PySem.W.Frag) (cs : List Addr) : Bool := (List.range 19).all fun i => (List.range 19).all fun j => decide (PySem.W.kitOne K (.ref (cs.getD i 0)) (.ref (cs.getD j 0)) = some (decide (i = j)))
theorem kitsB_ok {K : PySem.W.Frag} {cs : List Addr} (h : kitsB K cs = true) : ∀ i j, i < 19 → j < 19 → PySem.W.kitOne K (.ref (cs.getD i 0)) (.ref (cs.getD j 0)) = some (decide (i = j)) := fun i j hi hj => by
  unfold kitsB at h
  rw [List.all_eq_true] at h
  have a := h i (List.mem_range.mpr hi)
  rw [List.all_eq_true] at a
  exact of_decide_eq_true (a j (List.mem_range.mpr hj))
def errsB (K : PySem.W.Frag) (DE : Addr) (cs : List Addr) : Bool := (List.range 19).all fun i => errB K DE (cs.getD i 0)
theorem errsB_ok {K : PySem.W.Frag} {DE : Addr} {cs : List Addr} (h : errsB K DE cs = true) : ∀ i, i < 19 → ErrF K DE (cs.getD i 0) := fun i hi => by
  unfold errsB at h
  rw [List.all_eq_true] at h
  exact errB_ok (h i (List.mem_range.mpr hi))
theorem bind_of {K : PySem.W.Frag} {x qual : Str} {st : Stmt} {f : Addr} {fd : FuncData} {s : Shared} {args : Args} {out : List (Str × Value)} (F : Fun K x qual st f fd) (h : ∀ (kV doc pm : Value) (an : Option Addr) (cdv ct : Value), bindArgs (PySem.W.fnOf x qual (defArgs st) (defBody st) (defScope st) .none kV doc pm an cdv ct) args = pure out) : BindsTo s fd args out := by
  obtain ⟨oc, od, kV, doc, pm, an, cdv, ct, osl, rfl, l, c⟩ := F.ex
  exact .of_eq (h kV doc pm an cdv ct)
set_option maxHeartbeats 0 in
theorem all_mk {l : PySem.W.OpenLaw} {w : World} {K : PySem.W.Frag} {h : Heap} {mg : Str → Option Value} {fa DE f1 f2 f3 f4 f5 f6 f7 f8 f9 f10 A0 A1 A2 A3 A4 A5 A6 A7 A8 A9 A10 A11 A12 A13 A14 A15 A16 A17 A18 g0 g1 g2 g3 g4 g6 g7 g8 g9 g10 g11 g14 g16 g17 g18 : Addr} (X : K.In h) (G : h.Ns mainGlobals mg) (hfa : mg "law" = some (.ref fa))
    {od1 an1 od2 an2 od3 an3 od4 an4 od5 an5 od6 an6 od7 an7 od8 an8 od9 an9 od10 an10 : Option Addr} {sl1 sl2 sl3 sl4 sl5 sl6 sl7 sl8 sl9 sl10 : Array (Option Value)} {oc1 kV1 dc1 pm1 cd1 ct1 oc2 kV2 dc2 pm2 cd2 ct2 oc3 kV3 dc3 pm3 cd3 ct3 oc4 kV4 dc4 pm4 cd4 ct4 oc5 kV5 dc5 pm5 cd5 ct5 oc6 kV6 dc6 pm6 cd6 ct6 oc7 kV7 dc7 pm7 cd7 ct7 oc8 kV8 dc8 pm8 cd8 ct8 oc9 kV9 dc9 pm9 cd9 ct9 oc10 kV10 dc10 pm10 cd10 ct10 : Value}
    {oe0 ae0 oe1 ae1 oe2 ae2 oe3 ae3 oe4 ae4 oe6 ae6 oe7 ae7 oe8 ae8 oe9 ae9 oe10 ae10 oe11 ae11 oe14 ae14 oe16 ae16 oe17 ae17 oe18 ae18 : Option Addr} {se0 se1 se2 se3 se4 se6 se7 se8 se9 se10 se11 se14 se16 se17 se18 : Array (Option Value)} {ke0 he0 de0 me0 ue0 te0 ke1 he1 de1 me1 ue1 te1 ke2 he2 de2 me2 ue2 te2 ke3 he3 de3 me3 ue3 te3 ke4 he4 de4 me4 ue4 te4 ke6 he6 de6 me6 ue6 te6 ke7 he7 de7 me7 ue7 te7 ke8 he8 de8 me8 ue8 te8 ke9 he9 de9 me9 ue9 te9 ke10 he10 de10 me10 ue10 te10 ke11 he11 de11 me11 ue11 te11 ke14 he14 de14 me14 ue14 te14 ke16 he16 de16 me16 ue16 te16 ke17 he17 de17 me17 ue17 te17 ke18 he18 de18 me18 ue18 te18 : Value}
    {nm0 qn0 nm1 qn1 nm2 qn2 nm3 qn3 nm4 qn4 nm6 qn6 nm7 qn7 nm8 qn8 nm9 qn9 nm10 qn10 nm11 qn11 nm14 qn14 nm16 qn16 nm17 qn17 nm18 qn18 : Str} {N0 N1 N2 N3 N4 N6 N7 N8 N9 N10 N11 N14 N16 N17 N18 : Addr} {bs0 bm0 sb0 bs1 bm1 sb1 bs2 bm2 sb2 bs3 bm3 sb3 bs4 bm4 sb4 bs6 bm6 sb6 bs7 bm7 sb7 bs8 bm8 sb8 bs9 bm9 sb9 bs10 bm10 sb10 bs11 bm11 sb11 bs14 bm14 sb14 bs16 bm16 sb16 bs17 bm17 sb17 bs18 bm18 sb18 : List Value} {sn0 sn1 sn2 sn3 sn4 sn6 sn7 sn8 sn9 sn10 sn11 sn14 sn16 sn17 sn18 : List Str} {ab0 ab1 ab2 ab3 ab4 ab6 ab7 ab8 ab9 ab10 ab11 ab14 ab16 ab17 ab18 : Bool} {co0 co1 co2 co3 co4 co6 co7 co8 co9 co10 co11 co14 co16 co17 co18 : Option Bool} {dd0 dd1 dd2 dd3 dd4 dd6 dd7 dd8 dd9 dd10 dd11 dd14 dd16 dd17 dd18 : Option Addr} {y00 y01 y02 y03 y05 y10 y11 y12 y13 y15 y20 y21 y22 y23 y25 y30 y31 y32 y33 y35 y40 y41 y42 y43 y45 y60 y61 y62 y63 y65 y70 y71 y72 y73 y75 y80 y81 y82 y83 y85 y90 y91 y92 y93 y95 y100 y101 y102 y103 y105 y110 y111 y112 y113 y115 y140 y141 y142 y143 y145 y160 y161 y162 y163 y165 y170 y171 y172 y173 y175 y180 y181 y182 y183 y185 : Option Value}
    (a1 : PySem.W.nsIn K mainGlobals "_law_pen" = some (some (.ref f1)))
    (l1 : K.lookup f1 = some ⟨oc1, od1, .func (PySem.W.fnOf "_law_pen" "_law_pen" (defArgs s_law_pen) (defBody s_law_pen) (defScope s_law_pen) .none kV1 dc1 pm1 an1 cd1 ct1), sl1⟩)
    (c1 : PySem.W.codeIn K cd1 "_law_pen" = true)
    (k1 : PySem.W.keepIn K (.ref f1) = true)
    (a2 : PySem.W.nsIn K mainGlobals "_law_draw" = some (some (.ref f2)))
    (l2 : K.lookup f2 = some ⟨oc2, od2, .func (PySem.W.fnOf "_law_draw" "_law_draw" (defArgs s_law_draw) (defBody s_law_draw) (defScope s_law_draw) .none kV2 dc2 pm2 an2 cd2 ct2), sl2⟩)
    (c2 : PySem.W.codeIn K cd2 "_law_draw" = true)
    (k2 : PySem.W.keepIn K (.ref f2) = true)
    (a3 : PySem.W.nsIn K mainGlobals "_law_pick" = some (some (.ref f3)))
    (l3 : K.lookup f3 = some ⟨oc3, od3, .func (PySem.W.fnOf "_law_pick" "_law_pick" (defArgs s_law_pick) (defBody s_law_pick) (defScope s_law_pick) .none kV3 dc3 pm3 an3 cd3 ct3), sl3⟩)
    (c3 : PySem.W.codeIn K cd3 "_law_pick" = true)
    (k3 : PySem.W.keepIn K (.ref f3) = true)
    (a4 : PySem.W.nsIn K mainGlobals "_law_alone" = some (some (.ref f4)))
    (l4 : K.lookup f4 = some ⟨oc4, od4, .func (PySem.W.fnOf "_law_alone" "_law_alone" (defArgs s_law_alone) (defBody s_law_alone) (defScope s_law_alone) .none kV4 dc4 pm4 an4 cd4 ct4), sl4⟩)
    (c4 : PySem.W.codeIn K cd4 "_law_alone" = true)
    (k4 : PySem.W.keepIn K (.ref f4) = true)
    (a5 : PySem.W.nsIn K mainGlobals "_law_more" = some (some (.ref f5)))
    (l5 : K.lookup f5 = some ⟨oc5, od5, .func (PySem.W.fnOf "_law_more" "_law_more" (defArgs s_law_more) (defBody s_law_more) (defScope s_law_more) .none kV5 dc5 pm5 an5 cd5 ct5), sl5⟩)
    (c5 : PySem.W.codeIn K cd5 "_law_more" = true)
    (k5 : PySem.W.keepIn K (.ref f5) = true)
    (a6 : PySem.W.nsIn K mainGlobals "_law_kinds" = some (some (.ref f6)))
    (l6 : K.lookup f6 = some ⟨oc6, od6, .func (PySem.W.fnOf "_law_kinds" "_law_kinds" (defArgs s_law_kinds) (defBody s_law_kinds) (defScope s_law_kinds) .none kV6 dc6 pm6 an6 cd6 ct6), sl6⟩)
    (c6 : PySem.W.codeIn K cd6 "_law_kinds" = true)
    (k6 : PySem.W.keepIn K (.ref f6) = true)
    (a7 : PySem.W.nsIn K mainGlobals "_law_apart" = some (some (.ref f7)))
    (l7 : K.lookup f7 = some ⟨oc7, od7, .func (PySem.W.fnOf "_law_apart" "_law_apart" (defArgs s_law_apart) (defBody s_law_apart) (defScope s_law_apart) .none kV7 dc7 pm7 an7 cd7 ct7), sl7⟩)
    (c7 : PySem.W.codeIn K cd7 "_law_apart" = true)
    (k7 : PySem.W.keepIn K (.ref f7) = true)
    (a8 : PySem.W.nsIn K mainGlobals "_law_raise" = some (some (.ref f8)))
    (l8 : K.lookup f8 = some ⟨oc8, od8, .func (PySem.W.fnOf "_law_raise" "_law_raise" (defArgs s_law_raise) (defBody s_law_raise) (defScope s_law_raise) .none kV8 dc8 pm8 an8 cd8 ct8), sl8⟩)
    (c8 : PySem.W.codeIn K cd8 "_law_raise" = true)
    (k8 : PySem.W.keepIn K (.ref f8) = true)
    (a9 : PySem.W.nsIn K mainGlobals "_law_caught" = some (some (.ref f9)))
    (l9 : K.lookup f9 = some ⟨oc9, od9, .func (PySem.W.fnOf "_law_caught" "_law_caught" (defArgs s_law_caught) (defBody s_law_caught) (defScope s_law_caught) .none kV9 dc9 pm9 an9 cd9 ct9), sl9⟩)
    (c9 : PySem.W.codeIn K cd9 "_law_caught" = true)
    (k9 : PySem.W.keepIn K (.ref f9) = true)
    (a10 : PySem.W.nsIn K mainGlobals "law" = some (some (.ref f10)))
    (l10 : K.lookup f10 = some ⟨oc10, od10, .func (PySem.W.fnOf "law" "law" (defArgs slaw) (defBody slaw) (defScope slaw) .none kV10 dc10 pm10 an10 cd10 ct10), sl10⟩)
    (c10 : PySem.W.codeIn K cd10 "law" = true)
    (k10 : PySem.W.keepIn K (.ref f10) = true)
    (gD : PySem.W.nsIn K mainGlobals "DeedError" = some (some (.ref DE)))
    (n0 : PySem.W.nsIn K mainGlobals "BadValue" = some (some (.ref A0)))
    (n1 : PySem.W.nsIn K mainGlobals "TooDeep" = some (some (.ref A1)))
    (n2 : PySem.W.nsIn K mainGlobals "TooMany" = some (some (.ref A2)))
    (n3 : PySem.W.nsIn K mainGlobals "NotAText" = some (some (.ref A3)))
    (n4 : PySem.W.nsIn K mainGlobals "WrongStep" = some (some (.ref A4)))
    (n5 : PySem.W.nsIn K mainGlobals "Unlike" = some (some (.ref A5)))
    (n6 : PySem.W.nsIn K mainGlobals "Unknown" = some (some (.ref A6)))
    (n7 : PySem.W.nsIn K mainGlobals "Taken" = some (some (.ref A7)))
    (n8 : PySem.W.nsIn K mainGlobals "NotAFile" = some (some (.ref A8)))
    (n9 : PySem.W.nsIn K mainGlobals "BadPromise" = some (some (.ref A9)))
    (n10 : PySem.W.nsIn K mainGlobals "Broken" = some (some (.ref A10)))
    (n11 : PySem.W.nsIn K mainGlobals "NotMade" = some (some (.ref A11)))
    (n12 : PySem.W.nsIn K mainGlobals "NothingToUndo" = some (some (.ref A12)))
    (n13 : PySem.W.nsIn K mainGlobals "NothingToRedo" = some (some (.ref A13)))
    (n14 : PySem.W.nsIn K mainGlobals "CannotTake" = some (some (.ref A14)))
    (n15 : PySem.W.nsIn K mainGlobals "NotOfDeed" = some (some (.ref A15)))
    (n16 : PySem.W.nsIn K mainGlobals "WrongTerm" = some (some (.ref A16)))
    (n17 : PySem.W.nsIn K mainGlobals "NotOfProgram" = some (some (.ref A17)))
    (n18 : PySem.W.nsIn K mainGlobals "HasHand" = some (some (.ref A18)))
    (tE : errsB K DE [A0, A1, A2, A3, A4, A5, A6, A7, A8, A9, A10, A11, A12, A13, A14, A15, A16, A17, A18] = true)
    (tK : kitsB K [A0, A1, A2, A3, A4, A5, A6, A7, A8, A9, A10, A11, A12, A13, A14, A15, A16, A17, A18] = true)
    (cN : PySem.W.specialIn K (.builtin "object.__class__") "__get__" = some (some (.builtin "getset_descriptor.__get__")))
    (cT : PySem.W.takesIn K (.builtin "object.__class__") = some true)
    (x0 : K.lookup A0 = some (excClassObj nm0 qn0 A0 N0 bs0 bm0 true sn0 sb0 ab0 co0 dd0 y00 y01 y02 y03 y05 "ValueError.__new__"))
    (r0 : PySem.HandSPX.refsVE bm0 = true)
    (o0_0 : PySem.W.findIn K (.ref A0) "value" = some none)
    (i0 : PySem.W.findIn K (.ref A0) "__init__" = some (some (.ref g0)))
    (t0 : PySem.W.typeIn K (.ref g0) = some (.type "function"))
    (m0 : K.lookup g0 = some ⟨ke0, oe0, .func (PySem.W.fnOf "__init__" "BadValue.__init__" (defArgs sBadValue) (defBody sBadValue) (defScope sBadValue) .none he0 de0 me0 ae0 ue0 te0), se0⟩)
    (u0 : PySem.W.codeIn K ue0 "BadValue.__init__" = true)
    (v0 : PySem.W.keepIn K (.ref g0) = true)
    (x1 : K.lookup A1 = some (excClassObj nm1 qn1 A1 N1 bs1 bm1 true sn1 sb1 ab1 co1 dd1 y10 y11 y12 y13 y15 "ValueError.__new__"))
    (r1 : PySem.HandSPX.refsVE bm1 = true)
    (o1_0 : PySem.W.findIn K (.ref A1) "most" = some none)
    (i1 : PySem.W.findIn K (.ref A1) "__init__" = some (some (.ref g1)))
    (t1 : PySem.W.typeIn K (.ref g1) = some (.type "function"))
    (m1 : K.lookup g1 = some ⟨ke1, oe1, .func (PySem.W.fnOf "__init__" "TooDeep.__init__" (defArgs sTooDeep) (defBody sTooDeep) (defScope sTooDeep) .none he1 de1 me1 ae1 ue1 te1), se1⟩)
    (u1 : PySem.W.codeIn K ue1 "TooDeep.__init__" = true)
    (v1 : PySem.W.keepIn K (.ref g1) = true)
    (x2 : K.lookup A2 = some (excClassObj nm2 qn2 A2 N2 bs2 bm2 true sn2 sb2 ab2 co2 dd2 y20 y21 y22 y23 y25 "ValueError.__new__"))
    (r2 : PySem.HandSPX.refsVE bm2 = true)
    (o2_0 : PySem.W.findIn K (.ref A2) "most" = some none)
    (i2 : PySem.W.findIn K (.ref A2) "__init__" = some (some (.ref g2)))
    (t2 : PySem.W.typeIn K (.ref g2) = some (.type "function"))
    (m2 : K.lookup g2 = some ⟨ke2, oe2, .func (PySem.W.fnOf "__init__" "TooMany.__init__" (defArgs sTooMany) (defBody sTooMany) (defScope sTooMany) .none he2 de2 me2 ae2 ue2 te2), se2⟩)
    (u2 : PySem.W.codeIn K ue2 "TooMany.__init__" = true)
    (v2 : PySem.W.keepIn K (.ref g2) = true)
    (x3 : K.lookup A3 = some (excClassObj nm3 qn3 A3 N3 bs3 bm3 true sn3 sb3 ab3 co3 dd3 y30 y31 y32 y33 y35 "ValueError.__new__"))
    (r3 : PySem.HandSPX.refsVE bm3 = true)
    (o3_0 : PySem.W.findIn K (.ref A3) "at" = some none)
    (i3 : PySem.W.findIn K (.ref A3) "__init__" = some (some (.ref g3)))
    (t3 : PySem.W.typeIn K (.ref g3) = some (.type "function"))
    (m3 : K.lookup g3 = some ⟨ke3, oe3, .func (PySem.W.fnOf "__init__" "NotAText.__init__" (defArgs sNotAText) (defBody sNotAText) (defScope sNotAText) .none he3 de3 me3 ae3 ue3 te3), se3⟩)
    (u3 : PySem.W.codeIn K ue3 "NotAText.__init__" = true)
    (v3 : PySem.W.keepIn K (.ref g3) = true)
    (x4 : K.lookup A4 = some (excClassObj nm4 qn4 A4 N4 bs4 bm4 true sn4 sb4 ab4 co4 dd4 y40 y41 y42 y43 y45 "ValueError.__new__"))
    (r4 : PySem.HandSPX.refsVE bm4 = true)
    (o4_0 : PySem.W.findIn K (.ref A4) "at" = some none)
    (i4 : PySem.W.findIn K (.ref A4) "__init__" = some (some (.ref g4)))
    (t4 : PySem.W.typeIn K (.ref g4) = some (.type "function"))
    (m4 : K.lookup g4 = some ⟨ke4, oe4, .func (PySem.W.fnOf "__init__" "WrongStep.__init__" (defArgs sWrongStep) (defBody sWrongStep) (defScope sWrongStep) .none he4 de4 me4 ae4 ue4 te4), se4⟩)
    (u4 : PySem.W.codeIn K ue4 "WrongStep.__init__" = true)
    (v4 : PySem.W.keepIn K (.ref g4) = true)
    (x6 : K.lookup A6 = some (excClassObj nm6 qn6 A6 N6 bs6 bm6 true sn6 sb6 ab6 co6 dd6 y60 y61 y62 y63 y65 "ValueError.__new__"))
    (r6 : PySem.HandSPX.refsVE bm6 = true)
    (o6_0 : PySem.W.findIn K (.ref A6) "name" = some none)
    (i6 : PySem.W.findIn K (.ref A6) "__init__" = some (some (.ref g6)))
    (t6 : PySem.W.typeIn K (.ref g6) = some (.type "function"))
    (m6 : K.lookup g6 = some ⟨ke6, oe6, .func (PySem.W.fnOf "__init__" "Unknown.__init__" (defArgs sUnknown) (defBody sUnknown) (defScope sUnknown) .none he6 de6 me6 ae6 ue6 te6), se6⟩)
    (u6 : PySem.W.codeIn K ue6 "Unknown.__init__" = true)
    (v6 : PySem.W.keepIn K (.ref g6) = true)
    (x7 : K.lookup A7 = some (excClassObj nm7 qn7 A7 N7 bs7 bm7 true sn7 sb7 ab7 co7 dd7 y70 y71 y72 y73 y75 "ValueError.__new__"))
    (r7 : PySem.HandSPX.refsVE bm7 = true)
    (o7_0 : PySem.W.findIn K (.ref A7) "name" = some none)
    (i7 : PySem.W.findIn K (.ref A7) "__init__" = some (some (.ref g7)))
    (t7 : PySem.W.typeIn K (.ref g7) = some (.type "function"))
    (m7 : K.lookup g7 = some ⟨ke7, oe7, .func (PySem.W.fnOf "__init__" "Taken.__init__" (defArgs sTaken) (defBody sTaken) (defScope sTaken) .none he7 de7 me7 ae7 ue7 te7), se7⟩)
    (u7 : PySem.W.codeIn K ue7 "Taken.__init__" = true)
    (v7 : PySem.W.keepIn K (.ref g7) = true)
    (x8 : K.lookup A8 = some (excClassObj nm8 qn8 A8 N8 bs8 bm8 true sn8 sb8 ab8 co8 dd8 y80 y81 y82 y83 y85 "ValueError.__new__"))
    (r8 : PySem.HandSPX.refsVE bm8 = true)
    (o8_0 : PySem.W.findIn K (.ref A8) "line" = some none)
    (o8_1 : PySem.W.findIn K (.ref A8) "at" = some none)
    (i8 : PySem.W.findIn K (.ref A8) "__init__" = some (some (.ref g8)))
    (t8 : PySem.W.typeIn K (.ref g8) = some (.type "function"))
    (m8 : K.lookup g8 = some ⟨ke8, oe8, .func (PySem.W.fnOf "__init__" "NotAFile.__init__" (defArgs sNotAFile) (defBody sNotAFile) (defScope sNotAFile) .none he8 de8 me8 ae8 ue8 te8), se8⟩)
    (u8 : PySem.W.codeIn K ue8 "NotAFile.__init__" = true)
    (v8 : PySem.W.keepIn K (.ref g8) = true)
    (x9 : K.lookup A9 = some (excClassObj nm9 qn9 A9 N9 bs9 bm9 true sn9 sb9 ab9 co9 dd9 y90 y91 y92 y93 y95 "ValueError.__new__"))
    (r9 : PySem.HandSPX.refsVE bm9 = true)
    (o9_0 : PySem.W.findIn K (.ref A9) "promise" = some none)
    (i9 : PySem.W.findIn K (.ref A9) "__init__" = some (some (.ref g9)))
    (t9 : PySem.W.typeIn K (.ref g9) = some (.type "function"))
    (m9 : K.lookup g9 = some ⟨ke9, oe9, .func (PySem.W.fnOf "__init__" "BadPromise.__init__" (defArgs sBadPromise) (defBody sBadPromise) (defScope sBadPromise) .none he9 de9 me9 ae9 ue9 te9), se9⟩)
    (u9 : PySem.W.codeIn K ue9 "BadPromise.__init__" = true)
    (v9 : PySem.W.keepIn K (.ref g9) = true)
    (x10 : K.lookup A10 = some (excClassObj nm10 qn10 A10 N10 bs10 bm10 true sn10 sb10 ab10 co10 dd10 y100 y101 y102 y103 y105 "ValueError.__new__"))
    (r10 : PySem.HandSPX.refsVE bm10 = true)
    (o10_0 : PySem.W.findIn K (.ref A10) "promise" = some none)
    (o10_1 : PySem.W.findIn K (.ref A10) "paper" = some none)
    (i10 : PySem.W.findIn K (.ref A10) "__init__" = some (some (.ref g10)))
    (t10 : PySem.W.typeIn K (.ref g10) = some (.type "function"))
    (m10 : K.lookup g10 = some ⟨ke10, oe10, .func (PySem.W.fnOf "__init__" "Broken.__init__" (defArgs sBroken) (defBody sBroken) (defScope sBroken) .none he10 de10 me10 ae10 ue10 te10), se10⟩)
    (u10 : PySem.W.codeIn K ue10 "Broken.__init__" = true)
    (v10 : PySem.W.keepIn K (.ref g10) = true)
    (x11 : K.lookup A11 = some (excClassObj nm11 qn11 A11 N11 bs11 bm11 true sn11 sb11 ab11 co11 dd11 y110 y111 y112 y113 y115 "ValueError.__new__"))
    (r11 : PySem.HandSPX.refsVE bm11 = true)
    (o11_0 : PySem.W.findIn K (.ref A11) "promise" = some none)
    (i11 : PySem.W.findIn K (.ref A11) "__init__" = some (some (.ref g11)))
    (t11 : PySem.W.typeIn K (.ref g11) = some (.type "function"))
    (m11 : K.lookup g11 = some ⟨ke11, oe11, .func (PySem.W.fnOf "__init__" "NotMade.__init__" (defArgs sNotMade) (defBody sNotMade) (defScope sNotMade) .none he11 de11 me11 ae11 ue11 te11), se11⟩)
    (u11 : PySem.W.codeIn K ue11 "NotMade.__init__" = true)
    (v11 : PySem.W.keepIn K (.ref g11) = true)
    (x14 : K.lookup A14 = some (excClassObj nm14 qn14 A14 N14 bs14 bm14 true sn14 sb14 ab14 co14 dd14 y140 y141 y142 y143 y145 "ValueError.__new__"))
    (r14 : PySem.HandSPX.refsVE bm14 = true)
    (o14_0 : PySem.W.findIn K (.ref A14) "end" = some none)
    (i14 : PySem.W.findIn K (.ref A14) "__init__" = some (some (.ref g14)))
    (t14 : PySem.W.typeIn K (.ref g14) = some (.type "function"))
    (m14 : K.lookup g14 = some ⟨ke14, oe14, .func (PySem.W.fnOf "__init__" "CannotTake.__init__" (defArgs sCannotTake) (defBody sCannotTake) (defScope sCannotTake) .none he14 de14 me14 ae14 ue14 te14), se14⟩)
    (u14 : PySem.W.codeIn K ue14 "CannotTake.__init__" = true)
    (v14 : PySem.W.keepIn K (.ref g14) = true)
    (x16 : K.lookup A16 = some (excClassObj nm16 qn16 A16 N16 bs16 bm16 true sn16 sb16 ab16 co16 dd16 y160 y161 y162 y163 y165 "ValueError.__new__"))
    (r16 : PySem.HandSPX.refsVE bm16 = true)
    (o16_0 : PySem.W.findIn K (.ref A16) "path" = some none)
    (i16 : PySem.W.findIn K (.ref A16) "__init__" = some (some (.ref g16)))
    (t16 : PySem.W.typeIn K (.ref g16) = some (.type "function"))
    (m16 : K.lookup g16 = some ⟨ke16, oe16, .func (PySem.W.fnOf "__init__" "WrongTerm.__init__" (defArgs sWrongTerm) (defBody sWrongTerm) (defScope sWrongTerm) .none he16 de16 me16 ae16 ue16 te16), se16⟩)
    (u16 : PySem.W.codeIn K ue16 "WrongTerm.__init__" = true)
    (v16 : PySem.W.keepIn K (.ref g16) = true)
    (x17 : K.lookup A17 = some (excClassObj nm17 qn17 A17 N17 bs17 bm17 true sn17 sb17 ab17 co17 dd17 y170 y171 y172 y173 y175 "ValueError.__new__"))
    (r17 : PySem.HandSPX.refsVE bm17 = true)
    (o17_0 : PySem.W.findIn K (.ref A17) "at" = some none)
    (i17 : PySem.W.findIn K (.ref A17) "__init__" = some (some (.ref g17)))
    (t17 : PySem.W.typeIn K (.ref g17) = some (.type "function"))
    (m17 : K.lookup g17 = some ⟨ke17, oe17, .func (PySem.W.fnOf "__init__" "NotOfProgram.__init__" (defArgs sNotOfProgram) (defBody sNotOfProgram) (defScope sNotOfProgram) .none he17 de17 me17 ae17 ue17 te17), se17⟩)
    (u17 : PySem.W.codeIn K ue17 "NotOfProgram.__init__" = true)
    (v17 : PySem.W.keepIn K (.ref g17) = true)
    (x18 : K.lookup A18 = some (excClassObj nm18 qn18 A18 N18 bs18 bm18 true sn18 sb18 ab18 co18 dd18 y180 y181 y182 y183 y185 "ValueError.__new__"))
    (r18 : PySem.HandSPX.refsVE bm18 = true)
    (o18_0 : PySem.W.findIn K (.ref A18) "at" = some none)
    (i18 : PySem.W.findIn K (.ref A18) "__init__" = some (some (.ref g18)))
    (t18 : PySem.W.typeIn K (.ref g18) = some (.type "function"))
    (m18 : K.lookup g18 = some ⟨ke18, oe18, .func (PySem.W.fnOf "__init__" "HasHand.__init__" (defArgs sHasHand) (defBody sHasHand) (defScope sHasHand) .none he18 de18 me18 ae18 ue18 te18), se18⟩)
    (u18 : PySem.W.codeIn K ue18 "HasHand.__init__" = true)
    (v18 : PySem.W.keepIn K (.ref g18) = true)
    (x5 : PySem.W.excIn K A5 [.type "ValueError", .type "Exception", .type "BaseException", .type "object"] "ValueError.__new__" = true)
    (x12 : PySem.W.excIn K A12 [.type "ValueError", .type "Exception", .type "BaseException", .type "object"] "ValueError.__new__" = true)
    (x13 : PySem.W.excIn K A13 [.type "ValueError", .type "Exception", .type "BaseException", .type "object"] "ValueError.__new__" = true)
    (x15 : PySem.W.excIn K A15 [.type "ValueError", .type "Exception", .type "BaseException", .type "object"] "ValueError.__new__" = true)
    (z1 : PySem.W.nsIn K mainGlobals "isinstance" = some none)
    (z2 : PySem.W.nsIn K mainGlobals "len" = some none)
    (z3 : PySem.W.nsIn K mainGlobals "all" = some none)
    (z4 : PySem.W.nsIn K mainGlobals "int" = some none)
    (z5 : PySem.W.nsIn K mainGlobals "list" = some none)
    (z6 : PySem.W.nsIn K mainGlobals "min" = some none)
    (z7 : PySem.W.nsIn K mainGlobals "range" = some none)
    (z8 : PySem.W.nsIn K mainGlobals "bool" = some none)
    (z9 : PySem.W.nsIn K mainGlobals "zip" = some none)
    (z10 : PySem.W.nsIn K mainGlobals "ValueError" = some none) :
    ∃ fd : FuncData, (∀ (s : Shared) (v : Value), BindsTo s fd ⟨[v], []⟩ [("_law_script", v)]) ∧ ∀ base : Heap, K.In base → base.Ns mainGlobals mg → FnOk l.prog w K mg base CX0 7 fa fd ["_law_script"] (spLaw K) := by
  have e := hfa.symm.trans (PySem.W.mg_of X G a10)
  cases e
  have T : Txt0 K mg := ⟨PySem.W.mg_none_of X G z1, PySem.W.mg_none_of X G z2, PySem.W.mg_none_of X G z3, PySem.W.mg_none_of X G z4, PySem.W.mg_none_of X G z5, PySem.W.mg_none_of X G z6, PySem.W.mg_none_of X G z7, PySem.W.mg_none_of X G z8⟩
  have FE := errsB_ok tE
  have FK := kitsB_ok tK
  have F1 := fun_mk (st := s_law_pen) l1 c1 k1
  have b1 := F1.binds (ps := P_law_pen) fun _ _ _ _ _ _ us hl => match us, hl with | [_], _ => rfl
  have m_1 := PySem.W.mg_of X G a1
  have F2 := fun_mk (st := s_law_draw) l2 c2 k2
  have b2 := F2.binds (ps := P_law_draw) fun _ _ _ _ _ _ us hl => match us, hl with | [_, _], _ => rfl
  have m_2 := PySem.W.mg_of X G a2
  have F3 := fun_mk (st := s_law_pick) l3 c3 k3
  have b3 := F3.binds (ps := P_law_pick) fun _ _ _ _ _ _ us hl => match us, hl with | [_, _], _ => rfl
  have m_3 := PySem.W.mg_of X G a3
  have F4 := fun_mk (st := s_law_alone) l4 c4 k4
  have b4 := F4.binds (ps := P_law_alone) fun _ _ _ _ _ _ us hl => match us, hl with | [_], _ => rfl
  have m_4 := PySem.W.mg_of X G a4
  have F5 := fun_mk (st := s_law_more) l5 c5 k5
  have b5 := F5.binds (ps := P_law_more) fun _ _ _ _ _ _ us hl => match us, hl with | [_, _], _ => rfl
  have m_5 := PySem.W.mg_of X G a5
  have F6 := fun_mk (st := s_law_kinds) l6 c6 k6
  have b6 := F6.binds (ps := P_law_kinds) fun _ _ _ _ _ _ us hl => match us, hl with | [_], _ => rfl
  have m_6 := PySem.W.mg_of X G a6
  have F7 := fun_mk (st := s_law_apart) l7 c7 k7
  have b7 := F7.binds (ps := P_law_apart) fun _ _ _ _ _ _ us hl => match us, hl with | [_, _], _ => rfl
  have m_7 := PySem.W.mg_of X G a7
  have F8 := fun_mk (st := s_law_raise) l8 c8 k8
  have b8 := F8.binds (ps := P_law_raise) fun _ _ _ _ _ _ us hl => match us, hl with | [_, _], _ => rfl
  have m_8 := PySem.W.mg_of X G a8
  have F9 := fun_mk (st := s_law_caught) l9 c9 k9
  have b9 := F9.binds (ps := P_law_caught) fun _ _ _ _ _ _ us hl => match us, hl with | [_, _], _ => rfl
  have m_9 := PySem.W.mg_of X G a9
  have F10 := fun_mk (st := slaw) l10 c10 k10
  refine ⟨PySem.W.fnOf "law" "law" (defArgs slaw) (defBody slaw) (defScope slaw) .none kV10 dc10 pm10 an10 cd10 ct10, fun s v => .of_eq rfl, fun base _ _ => ?_⟩
  have h0 : ErrF K DE A0 := FE 0 (by decide)
  have oex0 : OexC K A0 := ⟨⟨nm0, qn0, N0, bs0, bm0, sn0, sb0, ab0, co0, dd0, y00, y01, y02, y03, y05, x0, r0⟩, h0.sa, h0.xf.exC, h0.ty, h0.kp⟩
  have I0 := fun_mk (st := sBadValue) m0 u0 v0
  let e0 : OneM l.prog w K mg base "BadValue" "value" A0 := { oex := oex0, g := PySem.W.mg_of X G n0, fI := g0, fd := _, iC := i0, tI := t0, F := okBadValue oex0 o0_0 I0, bP := fun s a u => bind_of I0 fun _ _ _ _ _ _ => rfl, bK := fun s a u => bind_of I0 fun _ _ _ _ _ _ => rfl, xf := h0.xf, no := o0_0 }
  have h1 : ErrF K DE A1 := FE 1 (by decide)
  have oex1 : OexC K A1 := ⟨⟨nm1, qn1, N1, bs1, bm1, sn1, sb1, ab1, co1, dd1, y10, y11, y12, y13, y15, x1, r1⟩, h1.sa, h1.xf.exC, h1.ty, h1.kp⟩
  have I1 := fun_mk (st := sTooDeep) m1 u1 v1
  let e1 : OneM l.prog w K mg base "TooDeep" "most" A1 := { oex := oex1, g := PySem.W.mg_of X G n1, fI := g1, fd := _, iC := i1, tI := t1, F := okTooDeep oex1 o1_0 I1, bP := fun s a u => bind_of I1 fun _ _ _ _ _ _ => rfl, bK := fun s a u => bind_of I1 fun _ _ _ _ _ _ => rfl, xf := h1.xf, no := o1_0 }
  have h2 : ErrF K DE A2 := FE 2 (by decide)
  have oex2 : OexC K A2 := ⟨⟨nm2, qn2, N2, bs2, bm2, sn2, sb2, ab2, co2, dd2, y20, y21, y22, y23, y25, x2, r2⟩, h2.sa, h2.xf.exC, h2.ty, h2.kp⟩
  have I2 := fun_mk (st := sTooMany) m2 u2 v2
  let e2 : OneM l.prog w K mg base "TooMany" "most" A2 := { oex := oex2, g := PySem.W.mg_of X G n2, fI := g2, fd := _, iC := i2, tI := t2, F := okTooMany oex2 o2_0 I2, bP := fun s a u => bind_of I2 fun _ _ _ _ _ _ => rfl, bK := fun s a u => bind_of I2 fun _ _ _ _ _ _ => rfl, xf := h2.xf, no := o2_0 }
  have h3 : ErrF K DE A3 := FE 3 (by decide)
  have oex3 : OexC K A3 := ⟨⟨nm3, qn3, N3, bs3, bm3, sn3, sb3, ab3, co3, dd3, y30, y31, y32, y33, y35, x3, r3⟩, h3.sa, h3.xf.exC, h3.ty, h3.kp⟩
  have I3 := fun_mk (st := sNotAText) m3 u3 v3
  let e3 : OneM l.prog w K mg base "NotAText" "at" A3 := { oex := oex3, g := PySem.W.mg_of X G n3, fI := g3, fd := _, iC := i3, tI := t3, F := okNotAText oex3 o3_0 I3, bP := fun s a u => bind_of I3 fun _ _ _ _ _ _ => rfl, bK := fun s a u => bind_of I3 fun _ _ _ _ _ _ => rfl, xf := h3.xf, no := o3_0 }
  have h4 : ErrF K DE A4 := FE 4 (by decide)
  have oex4 : OexC K A4 := ⟨⟨nm4, qn4, N4, bs4, bm4, sn4, sb4, ab4, co4, dd4, y40, y41, y42, y43, y45, x4, r4⟩, h4.sa, h4.xf.exC, h4.ty, h4.kp⟩
  have I4 := fun_mk (st := sWrongStep) m4 u4 v4
  let e4 : OneM l.prog w K mg base "WrongStep" "at" A4 := { oex := oex4, g := PySem.W.mg_of X G n4, fI := g4, fd := _, iC := i4, tI := t4, F := okWrongStep oex4 o4_0 I4, bP := fun s a u => bind_of I4 fun _ _ _ _ _ _ => rfl, bK := fun s a u => bind_of I4 fun _ _ _ _ _ _ => rfl, xf := h4.xf, no := o4_0 }
  have h6 : ErrF K DE A6 := FE 6 (by decide)
  have oex6 : OexC K A6 := ⟨⟨nm6, qn6, N6, bs6, bm6, sn6, sb6, ab6, co6, dd6, y60, y61, y62, y63, y65, x6, r6⟩, h6.sa, h6.xf.exC, h6.ty, h6.kp⟩
  have I6 := fun_mk (st := sUnknown) m6 u6 v6
  let e6 : OneM l.prog w K mg base "Unknown" "name" A6 := { oex := oex6, g := PySem.W.mg_of X G n6, fI := g6, fd := _, iC := i6, tI := t6, F := okUnknown oex6 o6_0 I6, bP := fun s a u => bind_of I6 fun _ _ _ _ _ _ => rfl, bK := fun s a u => bind_of I6 fun _ _ _ _ _ _ => rfl, xf := h6.xf, no := o6_0 }
  have h7 : ErrF K DE A7 := FE 7 (by decide)
  have oex7 : OexC K A7 := ⟨⟨nm7, qn7, N7, bs7, bm7, sn7, sb7, ab7, co7, dd7, y70, y71, y72, y73, y75, x7, r7⟩, h7.sa, h7.xf.exC, h7.ty, h7.kp⟩
  have I7 := fun_mk (st := sTaken) m7 u7 v7
  let e7 : OneM l.prog w K mg base "Taken" "name" A7 := { oex := oex7, g := PySem.W.mg_of X G n7, fI := g7, fd := _, iC := i7, tI := t7, F := okTaken oex7 o7_0 I7, bP := fun s a u => bind_of I7 fun _ _ _ _ _ _ => rfl, bK := fun s a u => bind_of I7 fun _ _ _ _ _ _ => rfl, xf := h7.xf, no := o7_0 }
  have h8 : ErrF K DE A8 := FE 8 (by decide)
  have oex8 : OexC K A8 := ⟨⟨nm8, qn8, N8, bs8, bm8, sn8, sb8, ab8, co8, dd8, y80, y81, y82, y83, y85, x8, r8⟩, h8.sa, h8.xf.exC, h8.ty, h8.kp⟩
  have I8 := fun_mk (st := sNotAFile) m8 u8 v8
  let e8 : TwoM l.prog w K mg base "NotAFile" "line" "at" A8 := { oex := oex8, g := PySem.W.mg_of X G n8, fI := g8, fd := _, iC := i8, tI := t8, F := okNotAFile oex8 o8_0 o8_1 I8, bP := fun s a u v => bind_of I8 fun _ _ _ _ _ _ => rfl, bK := fun s a u v => bind_of I8 fun _ _ _ _ _ _ => rfl, bT := fun s a u v => bind_of I8 fun _ _ _ _ _ _ => rfl, xf := h8.xf, no1 := o8_0, no2 := o8_1 }
  have h9 : ErrF K DE A9 := FE 9 (by decide)
  have oex9 : OexC K A9 := ⟨⟨nm9, qn9, N9, bs9, bm9, sn9, sb9, ab9, co9, dd9, y90, y91, y92, y93, y95, x9, r9⟩, h9.sa, h9.xf.exC, h9.ty, h9.kp⟩
  have I9 := fun_mk (st := sBadPromise) m9 u9 v9
  let e9 : OneM l.prog w K mg base "BadPromise" "promise" A9 := { oex := oex9, g := PySem.W.mg_of X G n9, fI := g9, fd := _, iC := i9, tI := t9, F := okBadPromise oex9 o9_0 I9, bP := fun s a u => bind_of I9 fun _ _ _ _ _ _ => rfl, bK := fun s a u => bind_of I9 fun _ _ _ _ _ _ => rfl, xf := h9.xf, no := o9_0 }
  have h10 : ErrF K DE A10 := FE 10 (by decide)
  have oex10 : OexC K A10 := ⟨⟨nm10, qn10, N10, bs10, bm10, sn10, sb10, ab10, co10, dd10, y100, y101, y102, y103, y105, x10, r10⟩, h10.sa, h10.xf.exC, h10.ty, h10.kp⟩
  have I10 := fun_mk (st := sBroken) m10 u10 v10
  let e10 : TwoM l.prog w K mg base "Broken" "promise" "paper" A10 := { oex := oex10, g := PySem.W.mg_of X G n10, fI := g10, fd := _, iC := i10, tI := t10, F := okBroken oex10 o10_0 o10_1 I10, bP := fun s a u v => bind_of I10 fun _ _ _ _ _ _ => rfl, bK := fun s a u v => bind_of I10 fun _ _ _ _ _ _ => rfl, bT := fun s a u v => bind_of I10 fun _ _ _ _ _ _ => rfl, xf := h10.xf, no1 := o10_0, no2 := o10_1 }
  have h11 : ErrF K DE A11 := FE 11 (by decide)
  have oex11 : OexC K A11 := ⟨⟨nm11, qn11, N11, bs11, bm11, sn11, sb11, ab11, co11, dd11, y110, y111, y112, y113, y115, x11, r11⟩, h11.sa, h11.xf.exC, h11.ty, h11.kp⟩
  have I11 := fun_mk (st := sNotMade) m11 u11 v11
  let e11 : OneM l.prog w K mg base "NotMade" "promise" A11 := { oex := oex11, g := PySem.W.mg_of X G n11, fI := g11, fd := _, iC := i11, tI := t11, F := okNotMade oex11 o11_0 I11, bP := fun s a u => bind_of I11 fun _ _ _ _ _ _ => rfl, bK := fun s a u => bind_of I11 fun _ _ _ _ _ _ => rfl, xf := h11.xf, no := o11_0 }
  have h14 : ErrF K DE A14 := FE 14 (by decide)
  have oex14 : OexC K A14 := ⟨⟨nm14, qn14, N14, bs14, bm14, sn14, sb14, ab14, co14, dd14, y140, y141, y142, y143, y145, x14, r14⟩, h14.sa, h14.xf.exC, h14.ty, h14.kp⟩
  have I14 := fun_mk (st := sCannotTake) m14 u14 v14
  let e14 : OneM l.prog w K mg base "CannotTake" "end" A14 := { oex := oex14, g := PySem.W.mg_of X G n14, fI := g14, fd := _, iC := i14, tI := t14, F := okCannotTake oex14 o14_0 I14, bP := fun s a u => bind_of I14 fun _ _ _ _ _ _ => rfl, bK := fun s a u => bind_of I14 fun _ _ _ _ _ _ => rfl, xf := h14.xf, no := o14_0 }
  have h16 : ErrF K DE A16 := FE 16 (by decide)
  have oex16 : OexC K A16 := ⟨⟨nm16, qn16, N16, bs16, bm16, sn16, sb16, ab16, co16, dd16, y160, y161, y162, y163, y165, x16, r16⟩, h16.sa, h16.xf.exC, h16.ty, h16.kp⟩
  have I16 := fun_mk (st := sWrongTerm) m16 u16 v16
  let e16 : OneM l.prog w K mg base "WrongTerm" "path" A16 := { oex := oex16, g := PySem.W.mg_of X G n16, fI := g16, fd := _, iC := i16, tI := t16, F := okWrongTerm oex16 o16_0 I16, bP := fun s a u => bind_of I16 fun _ _ _ _ _ _ => rfl, bK := fun s a u => bind_of I16 fun _ _ _ _ _ _ => rfl, xf := h16.xf, no := o16_0 }
  have h17 : ErrF K DE A17 := FE 17 (by decide)
  have oex17 : OexC K A17 := ⟨⟨nm17, qn17, N17, bs17, bm17, sn17, sb17, ab17, co17, dd17, y170, y171, y172, y173, y175, x17, r17⟩, h17.sa, h17.xf.exC, h17.ty, h17.kp⟩
  have I17 := fun_mk (st := sNotOfProgram) m17 u17 v17
  let e17 : OneM l.prog w K mg base "NotOfProgram" "at" A17 := { oex := oex17, g := PySem.W.mg_of X G n17, fI := g17, fd := _, iC := i17, tI := t17, F := okNotOfProgram oex17 o17_0 I17, bP := fun s a u => bind_of I17 fun _ _ _ _ _ _ => rfl, bK := fun s a u => bind_of I17 fun _ _ _ _ _ _ => rfl, xf := h17.xf, no := o17_0 }
  have h18 : ErrF K DE A18 := FE 18 (by decide)
  have oex18 : OexC K A18 := ⟨⟨nm18, qn18, N18, bs18, bm18, sn18, sb18, ab18, co18, dd18, y180, y181, y182, y183, y185, x18, r18⟩, h18.sa, h18.xf.exC, h18.ty, h18.kp⟩
  have I18 := fun_mk (st := sHasHand) m18 u18 v18
  let e18 : OneM l.prog w K mg base "HasHand" "at" A18 := { oex := oex18, g := PySem.W.mg_of X G n18, fI := g18, fd := _, iC := i18, tI := t18, F := okHasHand oex18 o18_0 I18, bP := fun s a u => bind_of I18 fun _ _ _ _ _ _ => rfl, bK := fun s a u => bind_of I18 fun _ _ _ _ _ _ => rfl, xf := h18.xf, no := o18_0 }
  let E : Errs l.prog w K mg base := {
    A := fun i => [A0, A1, A2, A3, A4, A5, A6, A7, A8, A9, A10, A11, A12, A13, A14, A15, A16, A17, A18].getD i 0, DE := DE, gD := PySem.W.mg_of X G gD, isinstance := PySem.W.mg_none_of X G z1, ValueError := PySem.W.mg_none_of X G z10, zip := PySem.W.mg_none_of X G z9,
    e0 := e0,
    e1 := e1,
    e2 := e2,
    e3 := e3,
    e4 := e4,
    e5 := ⟨x5, PySem.W.mg_of X G n5, (FE 5 (by decide)).kp⟩,
    e6 := e6,
    e7 := e7,
    e8 := e8,
    e9 := e9,
    e10 := e10,
    e11 := e11,
    e12 := ⟨x12, PySem.W.mg_of X G n12, (FE 12 (by decide)).kp⟩,
    e13 := ⟨x13, PySem.W.mg_of X G n13, (FE 13 (by decide)).kp⟩,
    e14 := e14,
    e15 := ⟨x15, PySem.W.mg_of X G n15, (FE 15 (by decide)).kp⟩,
    e16 := e16,
    e17 := e17,
    e18 := e18,
    ec := fun i hi => ⟨(FE i hi).xf.ga, (FE i hi).xf.gg, (FE i hi).xf.exC, (FE i hi).xf.hdC, (FE i hi).ca, cN, cT, (FE i hi).mo⟩, kit := FK, kitD := fun i hi => (FE i hi).kd, kitV := fun i hi => (FE i hi).kv }
  have C_law_pen : Cal l.prog w K mg base "_law_pen" 1 P_law_pen (spBegin K) := ⟨_, _, ok_law_pen T F1, m_1, k1, b1⟩
  have C_law_draw : Cal l.prog w K mg base "_law_draw" 1 P_law_draw (spDraw K) := ⟨_, _, ok_law_draw T F2, m_2, k2, b2⟩
  have C_law_pick : Cal l.prog w K mg base "_law_pick" 2 P_law_pick (spPick K) := ⟨_, _, ok_law_pick T F3 C_law_draw, m_3, k3, b3⟩
  have C_law_alone : Cal l.prog w K mg base "_law_alone" 3 P_law_alone (spAlone K) := ⟨_, _, ok_law_alone E F4, m_4, k4, b4⟩
  have C_law_more : Cal l.prog w K mg base "_law_more" 3 P_law_more (spMore K) := ⟨_, _, ok_law_more E F5, m_5, k5, b5⟩
  have C_law_kinds : Cal l.prog w K mg base "_law_kinds" 1 P_law_kinds (spKinds K E.A) := ⟨_, _, ok_law_kinds E T.int F6, m_6, k6, b6⟩
  have C_law_apart : Cal l.prog w K mg base "_law_apart" 3 P_law_apart spApart := ⟨_, _, ok_law_apart E T.len T.all T.range F7 C_law_kinds, m_7, k7, b7⟩
  have GR := ok_law_raise (f := f8) E (fun i hi => (FE i hi).ty) F8
  have C_law_caught : Cal l.prog w K mg base "_law_caught" 5 P_law_caught spCaught := ⟨_, _, ok_law_caught E (fun i hi => (FE i hi).ex) F9 GR m_8 k8 b8, m_9, k9, b9⟩
  exact ok_law T F10 C_law_pen C_law_pick C_law_alone C_law_more C_law_apart C_law_caught
theorem walk {l : PySem.W.OpenLaw} {q : Program} {loose : List Str} {XP : (Str → Option Value) → Heap → Prop} {YP : World → Heap → Prop} {d : DefRec} {K : Params → PySem.W.Frag} (hn : l.most = some 63) (hdf : d.params.defaults = [])
    (hY : ∀ (w : World) (h : Heap), YP w h → (K w.params).In h)
    (F : ∀ (w : World) (mg : Str → Option Value) (fa : Addr) (h : Heap), (K w.params).In h → h.Ns mainGlobals mg → mg d.name = some (.ref fa) →
      ∃ fd : FuncData, (∀ (s : Shared) (u : Value), BindsTo s fd ⟨[u], []⟩ [("_law_script", u)]) ∧ ∀ base : Heap, (K w.params).In base → base.Ns mainGlobals mg → FnOk l.prog w (K w.params) mg base CX0 7 fa fd ["_law_script"] (spLaw (K w.params))) :
    PySem.W.WalkO q loose XP YP l.row.toRowW d [] (fun f vs => PySem.call f vs) :=
  L2.walk_of (n := 63) (k := 7) (x := "_law_script") (CX := fun _ => CX0) (sp := fun w => spLaw (K w.params)) hn (by decide) hdf ⟨rfl, by decide, by decide⟩ hY F (fun _ _ a ns hl _ hS => ⟨a, ns, rfl, hS, hl, fun _ => rfl⟩) fun _ _ _ _ _ z => z
end My

set_option Elab.async false
set_option linter.all false
open PySem PySem.W PyProof.Rows
set_option maxRecDepth 100000 in
set_option maxHeartbeats 0 in
theorem PySem.Challenge.cw_alldeeds_k00_errors_made_by_hand_holds : PySem.Challenge.rw_alldeeds_k00_errors_made_by_hand.Holds := by
  w_on; o_law; k_head; (case hw => w_witness2)
  k_fill
  refine My.walk (l := PySem.Challenge.rw_alldeeds_k00_errors_made_by_hand) rfl rfl (fun w h Y => PySem.W.kIn_of Y) ?F
  case F =>
    intro w mg fa h KX G hmg
    refine' My.all_mk KX G hmg ?a1 ?l1 ?c1 ?k1 ?a2 ?l2 ?c2 ?k2 ?a3 ?l3 ?c3 ?k3 ?a4 ?l4 ?c4 ?k4 ?a5 ?l5 ?c5 ?k5 ?a6 ?l6 ?c6 ?k6 ?a7 ?l7 ?c7 ?k7 ?a8 ?l8 ?c8 ?k8 ?a9 ?l9 ?c9 ?k9 ?a10 ?l10 ?c10 ?k10 ?gD ?n0 ?n1 ?n2 ?n3 ?n4 ?n5 ?n6 ?n7 ?n8 ?n9 ?n10 ?n11 ?n12 ?n13 ?n14 ?n15 ?n16 ?n17 ?n18 ?tE ?tK ?cN ?cT ?x0 ?r0 ?o0_0 ?i0 ?t0 ?m0 ?u0 ?v0 ?x1 ?r1 ?o1_0 ?i1 ?t1 ?m1 ?u1 ?v1 ?x2 ?r2 ?o2_0 ?i2 ?t2 ?m2 ?u2 ?v2 ?x3 ?r3 ?o3_0 ?i3 ?t3 ?m3 ?u3 ?v3 ?x4 ?r4 ?o4_0 ?i4 ?t4 ?m4 ?u4 ?v4 ?x6 ?r6 ?o6_0 ?i6 ?t6 ?m6 ?u6 ?v6 ?x7 ?r7 ?o7_0 ?i7 ?t7 ?m7 ?u7 ?v7 ?x8 ?r8 ?o8_0 ?o8_1 ?i8 ?t8 ?m8 ?u8 ?v8 ?x9 ?r9 ?o9_0 ?i9 ?t9 ?m9 ?u9 ?v9 ?x10 ?r10 ?o10_0 ?o10_1 ?i10 ?t10 ?m10 ?u10 ?v10 ?x11 ?r11 ?o11_0 ?i11 ?t11 ?m11 ?u11 ?v11 ?x14 ?r14 ?o14_0 ?i14 ?t14 ?m14 ?u14 ?v14 ?x16 ?r16 ?o16_0 ?i16 ?t16 ?m16 ?u16 ?v16 ?x17 ?r17 ?o17_0 ?i17 ?t17 ?m17 ?u17 ?v17 ?x18 ?r18 ?o18_0 ?i18 ?t18 ?m18 ?u18 ?v18 ?x5 ?x12 ?x13 ?x15 ?z1 ?z2 ?z3 ?z4 ?z5 ?z6 ?z7 ?z8 ?z9 ?z10
    (case a1 => k_is)
    (case l1 => k_is)
    (case c1 => k_is)
    (case k1 => k_is)
    (case a2 => k_is)
    (case l2 => k_is)
    (case c2 => k_is)
    (case k2 => k_is)
    (case a3 => k_is)
    (case l3 => k_is)
    (case c3 => k_is)
    (case k3 => k_is)
    (case a4 => k_is)
    (case l4 => k_is)
    (case c4 => k_is)
    (case k4 => k_is)
    (case a5 => k_is)
    (case l5 => k_is)
    (case c5 => k_is)
    (case k5 => k_is)
    (case a6 => k_is)
    (case l6 => k_is)
    (case c6 => k_is)
    (case k6 => k_is)
    (case a7 => k_is)
    (case l7 => k_is)
    (case c7 => k_is)
    (case k7 => k_is)
    (case a8 => k_is)
    (case l8 => k_is)
    (case c8 => k_is)
    (case k8 => k_is)
    (case a9 => k_is)
    (case l9 => k_is)
    (case c9 => k_is)
    (case k9 => k_is)
    (case a10 => k_is)
    (case l10 => k_is)
    (case c10 => k_is)
    (case k10 => k_is)
    (case gD => k_is)
    (case n0 => k_is)
    (case n1 => k_is)
    (case n2 => k_is)
    (case n3 => k_is)
    (case n4 => k_is)
    (case n5 => k_is)
    (case n6 => k_is)
    (case n7 => k_is)
    (case n8 => k_is)
    (case n9 => k_is)
    (case n10 => k_is)
    (case n11 => k_is)
    (case n12 => k_is)
    (case n13 => k_is)
    (case n14 => k_is)
    (case n15 => k_is)
    (case n16 => k_is)
    (case n17 => k_is)
    (case n18 => k_is)
    (case tE => kernel_rfl)
    (case tK => kernel_rfl)
    (case cN => k_is)
    (case cT => k_is)
    (case x0 => k_is)
    (case r0 => first | decide +kernel | k_is)
    (case o0_0 => k_is)
    (case i0 => k_is)
    (case t0 => k_is)
    (case m0 => k_is)
    (case u0 => k_is)
    (case v0 => k_is)
    (case x1 => k_is)
    (case r1 => first | decide +kernel | k_is)
    (case o1_0 => k_is)
    (case i1 => k_is)
    (case t1 => k_is)
    (case m1 => k_is)
    (case u1 => k_is)
    (case v1 => k_is)
    (case x2 => k_is)
    (case r2 => first | decide +kernel | k_is)
    (case o2_0 => k_is)
    (case i2 => k_is)
    (case t2 => k_is)
    (case m2 => k_is)
    (case u2 => k_is)
    (case v2 => k_is)
    (case x3 => k_is)
    (case r3 => first | decide +kernel | k_is)
    (case o3_0 => k_is)
    (case i3 => k_is)
    (case t3 => k_is)
    (case m3 => k_is)
    (case u3 => k_is)
    (case v3 => k_is)
    (case x4 => k_is)
    (case r4 => first | decide +kernel | k_is)
    (case o4_0 => k_is)
    (case i4 => k_is)
    (case t4 => k_is)
    (case m4 => k_is)
    (case u4 => k_is)
    (case v4 => k_is)
    (case x6 => k_is)
    (case r6 => first | decide +kernel | k_is)
    (case o6_0 => k_is)
    (case i6 => k_is)
    (case t6 => k_is)
    (case m6 => k_is)
    (case u6 => k_is)
    (case v6 => k_is)
    (case x7 => k_is)
    (case r7 => first | decide +kernel | k_is)
    (case o7_0 => k_is)
    (case i7 => k_is)
    (case t7 => k_is)
    (case m7 => k_is)
    (case u7 => k_is)
    (case v7 => k_is)
    (case x8 => k_is)
    (case r8 => first | decide +kernel | k_is)
    (case o8_0 => k_is)
    (case o8_1 => k_is)
    (case i8 => k_is)
    (case t8 => k_is)
    (case m8 => k_is)
    (case u8 => k_is)
    (case v8 => k_is)
    (case x9 => k_is)
    (case r9 => first | decide +kernel | k_is)
    (case o9_0 => k_is)
    (case i9 => k_is)
    (case t9 => k_is)
    (case m9 => k_is)
    (case u9 => k_is)
    (case v9 => k_is)
    (case x10 => k_is)
    (case r10 => first | decide +kernel | k_is)
    (case o10_0 => k_is)
    (case o10_1 => k_is)
    (case i10 => k_is)
    (case t10 => k_is)
    (case m10 => k_is)
    (case u10 => k_is)
    (case v10 => k_is)
    (case x11 => k_is)
    (case r11 => first | decide +kernel | k_is)
    (case o11_0 => k_is)
    (case i11 => k_is)
    (case t11 => k_is)
    (case m11 => k_is)
    (case u11 => k_is)
    (case v11 => k_is)
    (case x14 => k_is)
    (case r14 => first | decide +kernel | k_is)
    (case o14_0 => k_is)
    (case i14 => k_is)
    (case t14 => k_is)
    (case m14 => k_is)
    (case u14 => k_is)
    (case v14 => k_is)
    (case x16 => k_is)
    (case r16 => first | decide +kernel | k_is)
    (case o16_0 => k_is)
    (case i16 => k_is)
    (case t16 => k_is)
    (case m16 => k_is)
    (case u16 => k_is)
    (case v16 => k_is)
    (case x17 => k_is)
    (case r17 => first | decide +kernel | k_is)
    (case o17_0 => k_is)
    (case i17 => k_is)
    (case t17 => k_is)
    (case m17 => k_is)
    (case u17 => k_is)
    (case v17 => k_is)
    (case x18 => k_is)
    (case r18 => first | decide +kernel | k_is)
    (case o18_0 => k_is)
    (case i18 => k_is)
    (case t18 => k_is)
    (case m18 => k_is)
    (case u18 => k_is)
    (case v18 => k_is)
    (case x5 => k_exc)
    (case x12 => k_exc)
    (case x13 => k_exc)
    (case x15 => k_exc)
    (case z1 => k_is)
    (case z2 => k_is)
    (case z3 => k_is)
    (case z4 => k_is)
    (case z5 => k_is)
    (case z6 => k_is)
    (case z7 => k_is)
    (case z8 => k_is)
    (case z9 => k_is)
    (case z10 => k_is)

