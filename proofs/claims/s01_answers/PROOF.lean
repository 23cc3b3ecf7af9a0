import PyProof.Rows.All
import Wide.All
import OpenK.AllK
import Wide.FinOn
import PyProof.EqAt
import PyProof.EqKinds
import PyProof.TupleCall
import HandS.Base
import HandS.Call
import HandS.List
import HandS.Iter
import HandS.Dict
import KE.GoesEnum
import KE.GoesNew
import KE.KDictCopyH
import KE.KDictDisplayH
import KE.DataMinMax
import KE.DataCmp
import PyProof.Rows.TupDisplay
import Open.SpecLaws
import KE.OsHead
import KE.OsGo
import HandS.Comp
import HandS.Walk
import HandS.Words
import HandS.WordsList
import HandS.Spec
import HandS.TupAny
import HandS.More
import HandS.CallLocal
import HandS.Codes
import PySem.Challenge.RW_iceline_s01_answers
set_option Elab.async false
set_option linter.all false
set_option maxRecDepth 100000
set_option maxHeartbeats 4000000
/-! The optimum, as plain recursion over the choice of an icebreaker; what the specification's own table tells of it. Lists and numbers alone. -/
namespace Ice
open Km559 (distance distanceMoved insertSorted sorted addConfiguration nextConfigurations configurations minCost optimalDistance)

theorem dist_self (a : Nat) : distance a a = 0 := by unfold distance; omega
theorem dist_comm (a b : Nat) : distance a b = distance b a := by unfold distance; omega
theorem dist_tri (a b c : Nat) : distance a c ≤ distance a b + distance b c := by unfold distance; omega

/-- the smallest of a list, 0 of none -/
def least : List Nat → Nat
  | [] => 0
  | [a] => a
  | a :: b :: r => min a (least (b :: r))

theorem le_least : ∀ {l : List Nat} (_ : l ≠ []) (x : Nat), x ≤ least l ↔ ∀ y ∈ l, x ≤ y
  | [a], _, x => by simp [least]
  | a :: b :: r, _, x => by
    have ih := le_least (l := b :: r) (by simp) x
    show x ≤ min a (least (b :: r)) ↔ _
    rw [Nat.le_min, ih]
    simp

/-- the smallest distance of any plan -/
def opt : List Nat → List Nat → Nat
  | _, [] => 0
  | ps, t :: rest => least ((List.range ps.length).map fun i => distance (ps.getD i 0) t + opt (ps.set i t) rest)

theorem opt_nil (ps : List Nat) : opt ps [] = 0 := by rw [opt]

theorem le_opt {ps : List Nat} (h : ps ≠ []) (t : Nat) (rest : List Nat) (x : Nat) :
    x ≤ opt ps (t :: rest) ↔ ∀ i, i < ps.length → x ≤ distance (ps.getD i 0) t + opt (ps.set i t) rest := by
  rw [opt]
  have hne : (List.range ps.length).map (fun i => distance (ps.getD i 0) t + opt (ps.set i t) rest) ≠ [] := by
    intro e
    have := congrArg List.length e
    simp at this
    exact h this
  rw [le_least hne]
  constructor
  · intro q i hi
    exact q _ (List.mem_map.mpr ⟨i, List.mem_range.mpr hi, rfl⟩)
  · intro q y hy
    obtain ⟨i, hi, rfl⟩ := List.mem_map.mp hy
    exact q i (List.mem_range.mp hi)

theorem opt_le {ps : List Nat} (t : Nat) (rest : List Nat) {i : Nat} (hi : i < ps.length) :
    opt ps (t :: rest) ≤ distance (ps.getD i 0) t + opt (ps.set i t) rest :=
  (le_opt (by intro e; subst e; simp at hi) t rest _).mp (Nat.le_refl _) i hi

theorem opt_choice {ps : List Nat} (h : ps ≠ []) (t : Nat) (rest : List Nat) :
    ∃ i, i < ps.length ∧ opt ps (t :: rest) = distance (ps.getD i 0) t + opt (ps.set i t) rest := by
  apply Classical.byContradiction
  intro q
  have : opt ps (t :: rest) + 1 ≤ opt ps (t :: rest) := by
    rw [le_opt h]
    intro i hi
    have h1 := opt_le t rest hi
    have h2 : opt ps (t :: rest) ≠ distance (ps.getD i 0) t + opt (ps.set i t) rest := fun e => q ⟨i, hi, e⟩
    omega
  omega

/-! ### the summed shift -/
def shift : List Nat → List Nat → Nat
  | a :: l, b :: m => distance a b + shift l m
  | _, _ => 0

theorem foldl_add (f : Nat → Nat) : ∀ (l : List Nat) (z : Nat), l.foldl (fun total i => total + f i) z = z + l.foldl (fun total i => total + f i) 0
  | [], z => by simp
  | a :: l, z => by
    rw [List.foldl_cons, List.foldl_cons, foldl_add f l (z + f a), foldl_add f l (0 + f a)]
    omega

theorem moved_cons (a b : Nat) (l m : List Nat) : distanceMoved (a :: l) (b :: m) = distance a b + distanceMoved l m := by
  unfold distanceMoved
  rw [List.length_cons, List.range_succ_eq_map, List.foldl_cons, List.foldl_map, foldl_add]
  simp

theorem moved_shift : ∀ {l m : List Nat}, l.length = m.length → distanceMoved l m = shift l m
  | [], [], _ => rfl
  | a :: l, b :: m, h => by
    rw [moved_cons, moved_shift (by simpa using h)]
    rfl

theorem shift_self : ∀ l : List Nat, shift l l = 0
  | [] => rfl
  | a :: l => by simp [shift, dist_self, shift_self l]

theorem shift_comm : ∀ l m : List Nat, shift l m = shift m l
  | [], [] => rfl
  | [], _ :: _ => rfl
  | _ :: _, [] => rfl
  | a :: l, b :: m => by simp [shift, dist_comm a b, shift_comm l m]

/-- both set at the same place: that place's share is gone -/
theorem shift_set : ∀ {l m : List Nat} {i : Nat} (t : Nat), l.length = m.length → i < l.length →
    shift (l.set i t) (m.set i t) + distance (l.getD i 0) (m.getD i 0) = shift l m
  | a :: l, b :: m, 0, t, h, hi => by simp [shift, dist_self]; omega
  | a :: l, b :: m, i + 1, t, h, hi => by
    have ih := shift_set (l := l) (m := m) (i := i) t (by simpa using h) (by simpa using hi)
    simp only [List.set_cons_succ, shift, List.getD_cons_succ]
    omega

theorem shift_set_left : ∀ {l : List Nat} {i : Nat} (t : Nat), i < l.length → shift l (l.set i t) = distance (l.getD i 0) t
  | a :: l, 0, t, hi => by simp [shift, shift_self]
  | a :: l, i + 1, t, hi => by
    have ih := shift_set_left (l := l) (i := i) t (by simpa using hi)
    simp only [List.set_cons_succ, shift, List.getD_cons_succ, ih, dist_self]
    omega

theorem set_self_getD : ∀ {l : List Nat} {i : Nat}, i < l.length → l.set i (l.getD i 0) = l
  | a :: l, 0, _ => rfl
  | a :: l, i + 1, h => by
    have ih := set_self_getD (l := l) (i := i) (by simpa using h)
    simp only [List.set_cons_succ, List.getD_cons_succ, ih]

theorem getD_set_self {l : List Nat} {i : Nat} (t : Nat) (h : i < l.length) : (l.set i t).getD i 0 = t := by
  rw [List.getD_eq_getElem?_getD, List.getElem?_set_self h]; rfl

/-- the optimum moves by at most the summed shift -/
theorem opt_lip : ∀ (rs : List Nat) {ps qs : List Nat}, ps.length = qs.length → opt ps rs ≤ opt qs rs + shift ps qs
  | [], ps, qs, _ => by simp [opt_nil]
  | t :: rest, ps, qs, h => by
    by_cases e : qs = []
    · subst e
      have : ps = [] := List.eq_nil_of_length_eq_zero h
      subst this
      exact Nat.le_add_right _ _
    · obtain ⟨j, hj, ej⟩ := opt_choice e t rest
      have hj' : j < ps.length := by omega
      have h1 := opt_le t rest hj'
      have h2 := opt_lip rest (ps := ps.set j t) (qs := qs.set j t) (by simpa using h)
      have h3 := shift_set (l := ps) (m := qs) (i := j) t h hj'
      have h4 := dist_tri (ps.getD j 0) (qs.getD j 0) t
      omega

/-- a move that serves the request, whatever else moves, costs at least what the optimum asks -/
theorem opt_step {ps next : List Nat} {t : Nat} {i : Nat} (rest : List Nat) (h : ps.length = next.length) (hi : i < ps.length) (ht : next.getD i 0 = t) :
    opt ps (t :: rest) ≤ shift ps next + opt next rest := by
  have h1 := opt_le t rest hi
  have h2 := opt_lip rest (ps := ps.set i t) (qs := next) (by simpa using h)
  have h3 := shift_set (l := ps) (m := next) (i := i) t h hi
  have h4 : next.set i t = next := by rw [← ht]; exact set_self_getD (by omega)
  rw [h4, ht] at h3
  omega

/-- a request more never makes it cheaper -/
theorem opt_erase : ∀ (rs : List Nat) (k : Nat) {ps : List Nat}, ps ≠ [] → opt ps (rs.eraseIdx k) ≤ opt ps rs
  | [], _, _, _ => by simp
  | t :: rest, 0, ps, h => by
    obtain ⟨i, hi, e⟩ := opt_choice h t rest
    have h1 := opt_lip rest (ps := ps) (qs := ps.set i t) (by simp)
    rw [shift_set_left t hi] at h1
    show opt ps rest ≤ _
    omega
  | t :: rest, k + 1, ps, h => by
    obtain ⟨i, hi, e⟩ := opt_choice h t rest
    have h1 := opt_erase rest k (ps := ps.set i t) (by simpa using h)
    have h2 := opt_le (ps := ps) t (rest.eraseIdx k) hi
    show opt ps (t :: rest.eraseIdx k) ≤ _
    omega

/-! ### the order of the icebreakers doesn't matter -/
theorem perm_set {ps qs : List Nat} (h : ps.Perm qs) {i : Nat} (hi : i < ps.length) :
    ∃ j, j < qs.length ∧ qs.getD j 0 = ps.getD i 0 ∧ ∀ t, (ps.set i t).Perm (qs.set j t) := by
  have e1 : ps = ps.take i ++ ps.getD i 0 :: ps.drop (i + 1) := by
    rw [List.getD_eq_getElem?_getD, List.getElem?_eq_getElem hi]
    show ps = ps.take i ++ ps[i] :: ps.drop (i + 1)
    rw [← List.drop_eq_getElem_cons hi, List.take_append_drop]
  have hm : ps.getD i 0 ∈ qs := h.mem_iff.mp (by rw [List.getD_eq_getElem?_getD, List.getElem?_eq_getElem hi]; exact List.getElem_mem hi)
  obtain ⟨m1, m2, e2⟩ := List.append_of_mem hm
  refine ⟨m1.length, by rw [e2]; simp, ?_, ?_⟩
  · rw [e2]; simp
  · intro t
    have p1 : (ps.take i ++ ps.drop (i + 1)).Perm (m1 ++ m2) := by
      have q1 : ps.Perm (ps.getD i 0 :: (ps.take i ++ ps.drop (i + 1))) := by
        conv => lhs; rw [e1]
        exact List.perm_middle
      have q2 : qs.Perm (ps.getD i 0 :: (m1 ++ m2)) := by
        conv => lhs; rw [e2]
        exact List.perm_middle
      exact ((q1.symm.trans h).trans q2).cons_inv
    have s1 : ps.set i t = ps.take i ++ t :: ps.drop (i + 1) := by
      rw [List.set_eq_take_append_cons_drop, if_pos hi]
    have s2 : qs.set m1.length t = m1 ++ t :: m2 := by
      rw [e2]
      simp
    rw [s1, s2]
    exact (List.perm_middle.trans (p1.cons t)).trans List.perm_middle.symm

theorem opt_perm : ∀ (rs : List Nat) {ps qs : List Nat}, ps.Perm qs → opt ps rs = opt qs rs
  | [], _, _, _ => by rw [opt_nil, opt_nil]
  | t :: rest, ps, qs, h => by
    by_cases e : ps = []
    · subst e
      rw [h.nil_eq]
    · have e' : qs ≠ [] := fun q => e (by subst q; exact h.eq_nil)
      apply Nat.le_antisymm
      · rw [le_opt e']
        intro j hj
        obtain ⟨i, hi, q1, q2⟩ := perm_set h.symm hj
        rw [← q1, opt_perm rest (q2 t)]
        exact opt_le t rest hi
      · rw [le_opt e]
        intro i hi
        obtain ⟨j, hj, q1, q2⟩ := perm_set h hi
        rw [← q1, opt_perm rest (q2 t)]
        exact opt_le t rest hj

/-! ### the specification's table -/
theorem insert_perm (x : Nat) : ∀ l : List Nat, (insertSorted x l).Perm (x :: l)
  | [] => .refl _
  | y :: rest => by
    unfold insertSorted
    split
    · exact .refl _
    · exact ((insert_perm x rest).cons y).trans (.swap x y rest)

theorem sorted_perm_acc : ∀ (l acc : List Nat), (l.foldl (fun (result : List Nat) (x : Nat) => insertSorted x result) acc).Perm (l ++ acc)
  | [], _ => .refl _
  | x :: l, acc => by
    rw [List.foldl_cons]
    exact ((sorted_perm_acc l _).trans ((insert_perm x acc).append_left l)).trans (List.perm_middle)

theorem sorted_perm (l : List Nat) : (sorted l).Perm l := by
  have := sorted_perm_acc l []
  rw [List.append_nil] at this
  exact this

/-- x is at most what every entry leads to -/
def Low (rest : List Nat) (x : Nat) (T : List (List Nat × Nat)) : Prop := ∀ e ∈ T, x ≤ e.2 + opt e.1 rest

theorem low_add (rest : List Nat) (x : Nat) (e : List Nat × Nat) : ∀ T, Low rest x (addConfiguration e T) ↔ (x ≤ e.2 + opt e.1 rest ∧ Low rest x T)
  | [] => by simp [addConfiguration, Low]
  | o :: T => by
    unfold addConfiguration
    split
    · next h =>
      unfold Low
      simp only [List.mem_cons, forall_eq_or_imp]
      rw [h]
      constructor
      · rintro ⟨q1, q2⟩
        exact ⟨by omega, by omega, q2⟩
      · rintro ⟨q1, q2, q3⟩
        exact ⟨by omega, q3⟩
    · have ih := low_add rest x e T
      unfold Low at ih ⊢
      simp only [List.mem_cons, forall_eq_or_imp]
      rw [ih]
      constructor
      · rintro ⟨q1, q2, q3⟩; exact ⟨q2, q1, q3⟩
      · rintro ⟨q1, q2, q3⟩; exact ⟨q2, q1, q3⟩

theorem low_fold (rest : List Nat) (x : Nat) : ∀ (l acc : List (List Nat × Nat)),
    Low rest x (l.foldl (fun (result : List (List Nat × Nat)) (entry : List Nat × Nat) => addConfiguration entry result) acc) ↔ (Low rest x l ∧ Low rest x acc)
  | [], acc => by simp [Low]
  | e :: l, acc => by
    rw [List.foldl_cons, low_fold rest x l, low_add]
    unfold Low
    simp only [List.mem_cons, forall_eq_or_imp]
    constructor
    · rintro ⟨q1, q2, q3⟩; exact ⟨⟨q2, q1⟩, q3⟩
    · rintro ⟨⟨q1, q2⟩, q3⟩; exact ⟨q2, q1, q3⟩

theorem low_next {T : List (List Nat × Nat)} (hT : ∀ e ∈ T, e.1 ≠ []) (t : Nat) (rest : List Nat) (x : Nat) :
    Low rest x (nextConfigurations T t) ↔ Low (t :: rest) x T := by
  unfold nextConfigurations
  rw [low_fold]
  constructor
  · rintro ⟨q, _⟩ e he
    have h1 : x - e.2 ≤ opt e.1 (t :: rest) := by
      rw [le_opt (hT e he)]
      intro i hi
      have := q (sorted (e.1.set i t), e.2 + distance (e.1.getD i 0) t) (List.mem_flatMap.mpr ⟨e, he, List.mem_map.mpr ⟨i, List.mem_range.mpr hi, rfl⟩⟩)
      simp only at this
      rw [opt_perm rest (sorted_perm _)] at this
      omega
    omega
  · intro q
    refine ⟨?_, by intro e he; simp at he⟩
    intro z hz
    obtain ⟨e, he, hz⟩ := List.mem_flatMap.mp hz
    obtain ⟨i, hi, rfl⟩ := List.mem_map.mp hz
    have h1 := q e he
    have h2 := opt_le t rest (List.mem_range.mp hi)
    simp only
    rw [opt_perm rest (sorted_perm _)]
    omega

theorem mem_add {z e : List Nat × Nat} : ∀ {T}, z ∈ addConfiguration e T → z.1 = e.1 ∨ ∃ o ∈ T, z.1 = o.1
  | [], h => by
    simp [addConfiguration] at h
    exact .inl (by rw [h])
  | o :: T, h => by
    unfold addConfiguration at h
    split at h
    · rcases List.mem_cons.mp h with h | h
      · exact .inl (by rw [h])
      · exact .inr ⟨z, List.mem_cons_of_mem _ h, rfl⟩
    · rcases List.mem_cons.mp h with h | h
      · exact .inr ⟨o, List.mem_cons_self .., by rw [h]⟩
      · rcases mem_add h with q | ⟨o', ho, q⟩
        · exact .inl q
        · exact .inr ⟨o', List.mem_cons_of_mem _ ho, q⟩

theorem add_ne (e : List Nat × Nat) (T) : addConfiguration e T ≠ [] := by
  cases T with
  | nil => simp [addConfiguration]
  | cons o T => unfold addConfiguration; split <;> simp

theorem mem_addAll {z : List Nat × Nat} : ∀ {l acc : List (List Nat × Nat)},
    z ∈ l.foldl (fun (result : List (List Nat × Nat)) (entry : List Nat × Nat) => addConfiguration entry result) acc → ∃ o, (o ∈ l ∨ o ∈ acc) ∧ z.1 = o.1
  | [], acc, h => ⟨z, .inr h, rfl⟩
  | e :: l, acc, h => by
    rw [List.foldl_cons] at h
    obtain ⟨o, ho, q⟩ := mem_addAll h
    rcases ho with ho | ho
    · exact ⟨o, .inl (List.mem_cons_of_mem _ ho), q⟩
    · rcases mem_add ho with r | ⟨o', ho', r⟩
      · exact ⟨e, .inl (List.mem_cons_self ..), q.trans r⟩
      · exact ⟨o', .inr ho', q.trans r⟩

theorem addAll_ne : ∀ {l acc : List (List Nat × Nat)}, (l ≠ [] ∨ acc ≠ []) →
    l.foldl (fun (result : List (List Nat × Nat)) (entry : List Nat × Nat) => addConfiguration entry result) acc ≠ []
  | [], acc, h => by simpa using h
  | e :: l, acc, _ => by
    rw [List.foldl_cons]
    exact addAll_ne (.inr (add_ne e acc))

theorem next_cfg {T : List (List Nat × Nat)} {k : Nat} (hT : ∀ e ∈ T, e.1.length = k) (t : Nat) : ∀ e ∈ nextConfigurations T t, e.1.length = k := by
  intro z hz
  unfold nextConfigurations at hz
  obtain ⟨o, ho, q⟩ := mem_addAll hz
  rcases ho with ho | ho
  · obtain ⟨e, he, ho⟩ := List.mem_flatMap.mp ho
    obtain ⟨i, hi, rfl⟩ := List.mem_map.mp ho
    rw [q]
    simp only
    rw [(sorted_perm _).length_eq, List.length_set]
    exact hT e he
  · simp at ho

theorem next_ne {T : List (List Nat × Nat)} (hT : ∀ e ∈ T, e.1 ≠ []) (h : T ≠ []) (t : Nat) : nextConfigurations T t ≠ [] := by
  unfold nextConfigurations
  apply addAll_ne
  refine .inl ?_
  intro q
  cases T with
  | nil => exact h rfl
  | cons e T =>
    have he := hT e (List.mem_cons_self ..)
    have : (sorted (e.1.set 0 t), e.2 + distance (e.1.getD 0 0) t) ∈ ((e :: T).flatMap fun entry => (List.range entry.1.length).map fun i =>
        (sorted (entry.1.set i t), entry.2 + distance (entry.1.getD i 0) t)) :=
      List.mem_flatMap.mpr ⟨e, List.mem_cons_self .., List.mem_map.mpr ⟨0, List.mem_range.mpr (List.length_pos_iff.mpr he), rfl⟩⟩
    rw [q] at this
    simp at this

theorem foldl_min : ∀ (l : List (List Nat × Nat)) (b x : Nat), x ≤ l.foldl (fun (best : Nat) (other : List Nat × Nat) => min best other.2) b ↔ (x ≤ b ∧ ∀ e ∈ l, x ≤ e.2)
  | [], b, x => by simp
  | e :: l, b, x => by
    rw [List.foldl_cons, foldl_min l]
    simp only [List.mem_cons, forall_eq_or_imp, Nat.le_min]
    constructor
    · rintro ⟨⟨a, b⟩, c⟩; exact ⟨a, b, c⟩
    · rintro ⟨a, b, c⟩; exact ⟨⟨a, b⟩, c⟩

theorem le_minCost {T : List (List Nat × Nat)} (h : T ≠ []) (x : Nat) : x ≤ minCost T ↔ Low [] x T := by
  cases T with
  | nil => exact absurd rfl h
  | cons e T =>
    show x ≤ T.foldl _ e.2 ↔ _
    rw [foldl_min]
    unfold Low
    simp [opt_nil]

theorem low_all (x k : Nat) (hk : 0 < k) : ∀ (rs : List Nat) (T : List (List Nat × Nat)), T ≠ [] → (∀ e ∈ T, e.1.length = k) →
    (x ≤ minCost (rs.foldl (fun (table : List (List Nat × Nat)) (target : Nat) => nextConfigurations table target) T) ↔ Low rs x T)
  | [], T, h, _ => le_minCost h x
  | t :: rest, T, h, hl => by
    have hn : ∀ e ∈ T, e.1 ≠ [] := fun e he q => by have := hl e he; rw [q] at this; simp at this; omega
    rw [List.foldl_cons, low_all x k hk rest _ (next_ne hn h t) (next_cfg hl t), low_next hn]

/-- the specification's optimum is the smallest distance of any plan -/
theorem optimal_is {ps : List Nat} (h : ps ≠ []) (rs : List Nat) : optimalDistance ps rs = opt ps rs := by
  have key : ∀ x, x ≤ optimalDistance ps rs ↔ x ≤ opt ps rs := by
    intro x
    unfold optimalDistance configurations
    rw [low_all x ps.length (List.length_pos_iff.mpr h) rs _ (by simp) (by intro e he; simp at he; subst he; exact (sorted_perm ps).length_eq)]
    unfold Low
    simp only [List.mem_singleton, forall_eq]
    rw [opt_perm rs (sorted_perm ps), Nat.zero_add]
  exact Nat.le_antisymm ((key _).mp (Nat.le_refl _)) ((key _).mpr (Nat.le_refl _))
end Ice
/-! Double coverage and greedy: each step serves its request; neither is below the optimum. -/
namespace Ice
open Km559 (distance distanceMoved leftNeighbour rightNeighbour doubleCoverageStep doubleCoverage nearest greedy optimalDistance)

/-! ### what the two neighbours are -/
/-- the first of the best among the places below n, by a test p and a strict order lt on values -/
structure IsLeft (ps : List Nat) (t n : Nat) (o : Option Nat) : Prop where
  none_ : o = none → ∀ i, i < n → ¬ ps.getD i 0 ≤ t
  some_ : ∀ j, o = some j → j < n ∧ ps.getD j 0 ≤ t ∧ (∀ i, i < n → ps.getD i 0 ≤ t → ps.getD i 0 ≤ ps.getD j 0) ∧ (∀ i, i < j → ps.getD i 0 ≤ t → ps.getD i 0 < ps.getD j 0)

structure IsRight (ps : List Nat) (t n : Nat) (o : Option Nat) : Prop where
  none_ : o = none → ∀ i, i < n → ¬ t ≤ ps.getD i 0
  some_ : ∀ j, o = some j → j < n ∧ t ≤ ps.getD j 0 ∧ (∀ i, i < n → t ≤ ps.getD i 0 → ps.getD j 0 ≤ ps.getD i 0) ∧ (∀ i, i < j → t ≤ ps.getD i 0 → ps.getD j 0 < ps.getD i 0)

theorem range_fold {β : Type} (f : β → Nat → β) (b : β) (n : Nat) : (List.range (n + 1)).foldl f b = f ((List.range n).foldl f b) n := by
  rw [List.range_succ, List.foldl_append]; rfl

theorem left_upto (ps : List Nat) (t : Nat) : ∀ n, IsLeft ps t n ((List.range n).foldl (fun (best : Option Nat) (i : Nat) =>
    if ps.getD i 0 ≤ t then (match best with
      | none => some i
      | some j => if ps.getD j 0 < ps.getD i 0 then some i else some j) else best) none)
  | 0 => ⟨fun _ i hi => by omega, fun j h => by simp at h⟩
  | n + 1 => by
    have ih := left_upto ps t n
    rw [range_fold]
    generalize (List.range n).foldl _ _ = o at ih
    split
    · next hn =>
      cases o with
      | none =>
        refine ⟨fun h => by simp at h, fun j h => ?_⟩
        simp only [Option.some.injEq] at h
        subst h
        refine ⟨by omega, hn, fun i hi hp => ?_, fun i hi hp => ?_⟩
        · by_cases e : i = n
          · subst e; exact Nat.le_refl _
          · exact absurd hp (ih.none_ rfl i (by omega))
        · exact absurd hp (ih.none_ rfl i hi)
      | some k =>
        obtain ⟨q1, q2, q3, q4⟩ := ih.some_ k rfl
        simp only
        split
        · next hlt =>
          refine ⟨fun h => by simp at h, fun j h => ?_⟩
          simp only [Option.some.injEq] at h
          subst h
          refine ⟨by omega, hn, fun i hi hp => ?_, fun i hi hp => ?_⟩
          · by_cases e : i = n
            · subst e; exact Nat.le_refl _
            · have := q3 i (by omega) hp; omega
          · have := q3 i hi hp; omega
        · next hlt =>
          refine ⟨fun h => by simp at h, fun j h => ?_⟩
          simp only [Option.some.injEq] at h
          subst h
          refine ⟨by omega, q2, fun i hi hp => ?_, q4⟩
          by_cases e : i = n
          · subst e; omega
          · exact q3 i (by omega) hp
    · next hn =>
      refine ⟨fun h i hi hp => ?_, fun j h => ?_⟩
      · by_cases e : i = n
        · subst e; exact hn hp
        · exact ih.none_ h i (by omega) hp
      · obtain ⟨q1, q2, q3, q4⟩ := ih.some_ j h
        refine ⟨by omega, q2, fun i hi hp => ?_, q4⟩
        by_cases e : i = n
        · subst e; exact absurd hp hn
        · exact q3 i (by omega) hp

theorem right_upto (ps : List Nat) (t : Nat) : ∀ n, IsRight ps t n ((List.range n).foldl (fun (best : Option Nat) (i : Nat) =>
    if t ≤ ps.getD i 0 then (match best with
      | none => some i
      | some j => if ps.getD i 0 < ps.getD j 0 then some i else some j) else best) none)
  | 0 => ⟨fun _ i hi => by omega, fun j h => by simp at h⟩
  | n + 1 => by
    have ih := right_upto ps t n
    rw [range_fold]
    generalize (List.range n).foldl _ _ = o at ih
    split
    · next hn =>
      cases o with
      | none =>
        refine ⟨fun h => by simp at h, fun j h => ?_⟩
        simp only [Option.some.injEq] at h
        subst h
        refine ⟨by omega, hn, fun i hi hp => ?_, fun i hi hp => ?_⟩
        · by_cases e : i = n
          · subst e; exact Nat.le_refl _
          · exact absurd hp (ih.none_ rfl i (by omega))
        · exact absurd hp (ih.none_ rfl i hi)
      | some k =>
        obtain ⟨q1, q2, q3, q4⟩ := ih.some_ k rfl
        simp only
        split
        · next hlt =>
          refine ⟨fun h => by simp at h, fun j h => ?_⟩
          simp only [Option.some.injEq] at h
          subst h
          refine ⟨by omega, hn, fun i hi hp => ?_, fun i hi hp => ?_⟩
          · by_cases e : i = n
            · subst e; exact Nat.le_refl _
            · have := q3 i (by omega) hp; omega
          · have := q3 i hi hp; omega
        · next hlt =>
          refine ⟨fun h => by simp at h, fun j h => ?_⟩
          simp only [Option.some.injEq] at h
          subst h
          refine ⟨by omega, q2, fun i hi hp => ?_, q4⟩
          by_cases e : i = n
          · subst e; omega
          · exact q3 i (by omega) hp
    · next hn =>
      refine ⟨fun h i hi hp => ?_, fun j h => ?_⟩
      · by_cases e : i = n
        · subst e; exact hn hp
        · exact ih.none_ h i (by omega) hp
      · obtain ⟨q1, q2, q3, q4⟩ := ih.some_ j h
        refine ⟨by omega, q2, fun i hi hp => ?_, q4⟩
        by_cases e : i = n
        · subst e; exact absurd hp hn
        · exact q3 i (by omega) hp

theorem left_is (ps : List Nat) (t : Nat) : IsLeft ps t ps.length (leftNeighbour ps t) := left_upto ps t ps.length
theorem right_is (ps : List Nat) (t : Nat) : IsRight ps t ps.length (rightNeighbour ps t) := right_upto ps t ps.length

theorem mem_getD {l : List Nat} {i : Nat} (h : i < l.length) : l.getD i 0 ∈ l := by
  rw [List.getD_eq_getElem?_getD, List.getElem?_eq_getElem h]; exact List.getElem_mem h

theorem getD_mem {l : List Nat} {x : Nat} (h : x ∈ l) : ∃ i, i < l.length ∧ l.getD i 0 = x := by
  obtain ⟨i, hi, e⟩ := List.getElem_of_mem h
  exact ⟨i, hi, by rw [List.getD_eq_getElem?_getD, List.getElem?_eq_getElem hi]; exact e⟩

theorem getD_set_ne {l : List Nat} {i j : Nat} (t : Nat) (h : i ≠ j) : (l.set i t).getD j 0 = l.getD j 0 := by
  rw [List.getD_eq_getElem?_getD, List.getD_eq_getElem?_getD, List.getElem?_set_ne h]

theorem step_length (ps : List Nat) (t : Nat) : (doubleCoverageStep ps t).length = ps.length := by
  unfold doubleCoverageStep
  split
  · rfl
  · split <;> simp

/-- a step of double coverage brings an icebreaker to the request -/
theorem step_serves {ps : List Nat} (h : ps ≠ []) (t : Nat) : ∃ i, i < ps.length ∧ (doubleCoverageStep ps t).getD i 0 = t := by
  unfold doubleCoverageStep
  split
  · next hc =>
    exact getD_mem (by simpa using hc)
  · next hc =>
    have hno : ∀ i, i < ps.length → ps.getD i 0 ≠ t := fun i hi e => hc (by rw [← e]; simpa using mem_getD hi)
    have L := left_is ps t
    have R := right_is ps t
    have h0 : 0 < ps.length := List.length_pos_iff.mpr h
    split
    · next i j el er =>
      obtain ⟨a1, a2, _, _⟩ := L.some_ i el
      obtain ⟨b1, b2, _, _⟩ := R.some_ j er
      have n1 := hno i a1
      have n2 := hno j b1
      have nij : i ≠ j := by
        intro e
        subst e
        omega
      by_cases c : t - ps.getD i 0 ≤ ps.getD j 0 - t
      · refine ⟨i, a1, ?_⟩
        simp only
        rw [getD_set_ne _ (Ne.symm nij), getD_set_self _ a1, Nat.min_eq_left c]
        omega
      · refine ⟨j, b1, ?_⟩
        simp only
        rw [getD_set_self _ (by simpa using b1), Nat.min_eq_right (by omega)]
        omega
    · next i el er =>
      exact ⟨i, (L.some_ i el).1, getD_set_self _ (L.some_ i el).1⟩
    · next j el er =>
      exact ⟨j, (R.some_ j er).1, getD_set_self _ (R.some_ j er).1⟩
    · next el er =>
      have a := L.none_ el 0 h0
      have b := R.none_ er 0 h0
      omega

theorem dc_length : ∀ (rs : List Nat) (ps : List Nat), (doubleCoverage ps rs).2.length = ps.length
  | [], _ => rfl
  | t :: rest, ps => by
    show (doubleCoverage (doubleCoverageStep ps t) rest).2.length = _
    rw [dc_length rest, step_length]

/-- double coverage is never below the optimum -/
theorem dc_ge : ∀ (rs : List Nat) {ps : List Nat}, ps ≠ [] → opt ps rs ≤ (doubleCoverage ps rs).1
  | [], _, _ => by rw [opt_nil]; exact Nat.zero_le _
  | t :: rest, ps, h => by
    show _ ≤ distanceMoved ps (doubleCoverageStep ps t) + (doubleCoverage (doubleCoverageStep ps t) rest).1
    obtain ⟨i, hi, e⟩ := step_serves h t
    have hl := step_length ps t
    have h1 := opt_step (next := doubleCoverageStep ps t) rest hl.symm hi e
    have h2 := dc_ge rest (ps := doubleCoverageStep ps t) (by intro q; rw [q] at hl; exact h (List.eq_nil_of_length_eq_zero hl.symm))
    rw [moved_shift hl.symm]
    omega

theorem nearest_lt {ps : List Nat} (h : ps ≠ []) (t : Nat) : nearest ps t < ps.length := by
  have key : ∀ n, n ≤ ps.length → (List.range n).foldl (fun (best i : Nat) =>
      if distance (ps.getD i 0) t < distance (ps.getD best 0) t then i else best) 0 < ps.length := by
    intro n
    induction n with
    | zero => intro _; exact List.length_pos_iff.mpr h
    | succ n ih =>
      intro hn
      rw [range_fold]
      split
      · omega
      · exact ih (by omega)
  exact key ps.length (Nat.le_refl _)

theorem greedy_length : ∀ (rs : List Nat) (ps : List Nat), (greedy ps rs).2.length = ps.length
  | [], _ => rfl
  | t :: rest, ps => by
    show (greedy (ps.set (nearest ps t) t) rest).2.length = _
    rw [greedy_length rest, List.length_set]

/-- greedy is never below the optimum -/
theorem greedy_ge : ∀ (rs : List Nat) {ps : List Nat}, ps ≠ [] → opt ps rs ≤ (greedy ps rs).1
  | [], _, _ => by rw [opt_nil]; exact Nat.zero_le _
  | t :: rest, ps, h => by
    show _ ≤ distance (ps.getD (nearest ps t) 0) t + (greedy (ps.set (nearest ps t) t) rest).1
    have h1 := opt_le t rest (nearest_lt h t)
    have h2 := greedy_ge rest (ps := ps.set (nearest ps t) t) (by simpa using h)
    omega

/-! ### double coverage on a longer list of requests -/
theorem dc_append : ∀ (rs : List Nat) (ps : List Nat) (t : Nat),
    doubleCoverage ps (rs ++ [t]) = ((doubleCoverage ps rs).1 + distanceMoved (doubleCoverage ps rs).2 (doubleCoverageStep (doubleCoverage ps rs).2 t), doubleCoverageStep (doubleCoverage ps rs).2 t)
  | [], ps, t => by simp [doubleCoverage]
  | r :: rest, ps, t => by
    show ((distanceMoved ps (doubleCoverageStep ps r) + (doubleCoverage (doubleCoverageStep ps r) (rest ++ [t])).1, (doubleCoverage (doubleCoverageStep ps r) (rest ++ [t])).2) : Nat × List Nat) = _
    rw [dc_append rest]
    show _ = ((distanceMoved ps (doubleCoverageStep ps r) + (doubleCoverage (doubleCoverageStep ps r) rest).1) + _, _)
    rw [Nat.add_assoc]
    rfl

theorem greedy_append : ∀ (rs : List Nat) (ps : List Nat) (t : Nat),
    greedy ps (rs ++ [t]) = ((greedy ps rs).1 + distance ((greedy ps rs).2.getD (nearest (greedy ps rs).2 t) 0) t, (greedy ps rs).2.set (nearest (greedy ps rs).2 t) t)
  | [], ps, t => by simp [greedy]
  | r :: rest, ps, t => by
    show ((distance (ps.getD (nearest ps r) 0) r + (greedy (ps.set (nearest ps r) r) (rest ++ [t])).1, (greedy (ps.set (nearest ps r) r) (rest ++ [t])).2) : Nat × List Nat) = _
    rw [greedy_append rest]
    show _ = ((distance (ps.getD (nearest ps r) 0) r + (greedy (ps.set (nearest ps r) r) rest).1) + _, _)
    rw [Nat.add_assoc]
    rfl
end Ice
/-! The optimal plan: one turn of it by the least icebreaker that keeps the optimum; it is a plan of the optimum's distance, and the first of those in the lexicographic order. -/
namespace Ice
open Km559 (distance optimalDistance optimalPlan)

theorem find_range {p : Nat → Bool} {n i : Nat} (hi : i < n) (hp : p i = true) (hlo : ∀ j, j < i → p j = false) : (List.range n).find? p = some i := by
  rw [List.find?_range_eq_some]
  refine ⟨hp, List.mem_range.mpr hi, fun j hj => ?_⟩
  simp [hlo j hj]

/-- one turn: the least icebreaker from which the optimum can still be reached -/
theorem plan_cons {ps : List Nat} (t : Nat) (rest : List Nat) {i : Nat} (hi : i < ps.length)
    (he : distance (ps.getD i 0) t + opt (ps.set i t) rest = opt ps (t :: rest))
    (hlo : ∀ j, j < i → distance (ps.getD j 0) t + opt (ps.set j t) rest ≠ opt ps (t :: rest)) :
    optimalPlan ps (t :: rest) = i :: optimalPlan (ps.set i t) rest := by
  have h : ps ≠ [] := by intro e; subst e; simp at hi
  have hs : ∀ j, ps.set j t ≠ [] := by intro j; simpa using h
  have f : (List.range ps.length).find? (fun i => distance (ps.getD i 0) t + optimalDistance (ps.set i t) rest == optimalDistance ps (t :: rest)) = some i := by
    apply find_range hi
    · rw [optimal_is (hs i), optimal_is h, he]; exact beq_self_eq_true _
    · intro j hj
      rw [optimal_is (hs j), optimal_is h]
      exact beq_false_of_ne (hlo j hj)
  rw [optimalPlan]
  simp only [f, Option.getD_some]

theorem plan_least {ps : List Nat} (h : ps ≠ []) (t : Nat) (rest : List Nat) :
    ∃ i, i < ps.length ∧ distance (ps.getD i 0) t + opt (ps.set i t) rest = opt ps (t :: rest) ∧
      (∀ j, j < i → distance (ps.getD j 0) t + opt (ps.set j t) rest ≠ opt ps (t :: rest)) := by
  have key : ∀ n, (∃ i, i < n ∧ distance (ps.getD i 0) t + opt (ps.set i t) rest = opt ps (t :: rest)) →
      ∃ i, i < n ∧ distance (ps.getD i 0) t + opt (ps.set i t) rest = opt ps (t :: rest) ∧
      (∀ j, j < i → distance (ps.getD j 0) t + opt (ps.set j t) rest ≠ opt ps (t :: rest)) := by
    intro n
    induction n with
    | zero => rintro ⟨i, hi, _⟩; omega
    | succ n ih =>
      rintro ⟨i, hi, e⟩
      by_cases c : ∃ i, i < n ∧ distance (ps.getD i 0) t + opt (ps.set i t) rest = opt ps (t :: rest)
      · obtain ⟨k, hk, q⟩ := ih c
        exact ⟨k, by omega, q⟩
      · refine ⟨i, hi, e, fun j hj q => c ⟨j, by omega, q⟩⟩
  obtain ⟨i, hi, e⟩ := opt_choice h t rest
  exact key ps.length ⟨i, hi, e.symm⟩

/-- a plan for the requests: one icebreaker for each -/
def IsPlan (k : Nat) (rs plan : List Nat) : Prop := plan.length = rs.length ∧ ∀ i ∈ plan, i < k

def planCost : List Nat → List Nat → List Nat → Nat
  | ps, t :: rest, i :: plan => distance (ps.getD i 0) t + planCost (ps.set i t) rest plan
  | _, _, _ => 0

theorem opt_le_plan : ∀ (rs plan : List Nat) {ps : List Nat}, IsPlan ps.length rs plan → opt ps rs ≤ planCost ps rs plan
  | [], _, ps, _ => by rw [opt_nil]; exact Nat.zero_le _
  | t :: rest, [], ps, h => by have := h.1; simp at this
  | t :: rest, i :: plan, ps, h => by
    have hi : i < ps.length := h.2 i (List.mem_cons_self ..)
    have h1 := opt_le t rest hi
    have h2 := opt_le_plan rest plan (ps := ps.set i t) ⟨by simpa using h.1, fun j hj => by rw [List.length_set]; exact h.2 j (List.mem_cons_of_mem _ hj)⟩
    show _ ≤ distance (ps.getD i 0) t + planCost (ps.set i t) rest plan
    omega

theorem plan_is : ∀ (rs : List Nat) {ps : List Nat}, ps ≠ [] → IsPlan ps.length rs (optimalPlan ps rs) ∧ planCost ps rs (optimalPlan ps rs) = opt ps rs
  | [], ps, _ => by
    rw [optimalPlan]
    exact ⟨⟨rfl, by simp⟩, by rw [opt_nil, planCost]; simp⟩
  | t :: rest, ps, h => by
    obtain ⟨i, hi, e, lo⟩ := plan_least h t rest
    obtain ⟨⟨a, b⟩, c⟩ := plan_is rest (ps := ps.set i t) (by simpa using h)
    rw [plan_cons t rest hi e lo]
    refine ⟨⟨by simp [a], ?_⟩, ?_⟩
    · intro j hj
      rcases List.mem_cons.mp hj with q | q
      · omega
      · have := b j q; simpa using this
    · show distance (ps.getD i 0) t + planCost (ps.set i t) rest (optimalPlan (ps.set i t) rest) = _
      rw [c, e]

/-- not behind, in the lexicographic order, for lists of one length -/
def LexLe : List Nat → List Nat → Prop
  | i :: p, j :: q => i < j ∨ (i = j ∧ LexLe p q)
  | _, _ => True

theorem lex_antisymm : ∀ {p q : List Nat}, p.length = q.length → LexLe p q → LexLe q p → p = q
  | [], [], _, _, _ => rfl
  | i :: p, j :: q, hl, h1, h2 => by
    rcases h1 with h1 | ⟨e1, h1⟩
    · rcases h2 with h2 | ⟨e2, h2⟩ <;> omega
    · rcases h2 with h2 | ⟨e2, h2⟩
      · omega
      · rw [e1, lex_antisymm (by simpa using hl) h1 h2]

theorem plan_first : ∀ (rs plan : List Nat) {ps : List Nat}, IsPlan ps.length rs plan → planCost ps rs plan = opt ps rs → LexLe (optimalPlan ps rs) plan
  | [], _, ps, _, _ => by rw [optimalPlan]; simp [LexLe]
  | t :: rest, [], ps, h, _ => by have := h.1; simp at this
  | t :: rest, k :: plan, ps, h, hc => by
    have hk : k < ps.length := h.2 k (List.mem_cons_self ..)
    have hne : ps ≠ [] := by intro e; subst e; simp at hk
    obtain ⟨i, hi, e, lo⟩ := plan_least hne t rest
    rw [plan_cons t rest hi e lo]
    have hp : IsPlan (ps.set k t).length rest plan := ⟨by simpa using h.1, fun j hj => by rw [List.length_set]; exact h.2 j (List.mem_cons_of_mem _ hj)⟩
    have h1 := opt_le t rest hk
    have h2 := opt_le_plan rest plan hp
    have hc' : distance (ps.getD k 0) t + planCost (ps.set k t) rest plan = opt ps (t :: rest) := hc
    by_cases c : k < i
    · exact absurd (by omega) (lo k c)
    · by_cases c2 : i = k
      · subst c2
        exact .inr ⟨rfl, plan_first rest plan hp (by omega)⟩
      · exact .inl (by omega)

/-- the optimal plan, told by what it is -/
theorem plan_unique {ps rs plan : List Nat} (h : ps ≠ []) (hp : IsPlan ps.length rs plan) (hc : planCost ps rs plan = opt ps rs)
    (hf : ∀ q, IsPlan ps.length rs q → planCost ps rs q = opt ps rs → LexLe plan q) : plan = optimalPlan ps rs := by
  obtain ⟨a, b⟩ := plan_is rs h
  exact lex_antisymm (by rw [hp.1, a.1]) (hf _ a b) (plan_first rs plan hp hc)
end Ice
/-! The best pair (distance, plan), kept for each list of positions that a plan leads to. Lists and numbers alone. -/
namespace Ice
open Km559 (distance optimalPlan)
def planLt : List Nat → List Nat → Bool
  | [], [] => false
  | [], _ :: _ => true
  | _ :: _, [] => false
  | x :: xs, y :: ys => if x = y then planLt xs ys else decide (x < y)
/-- a pair is smaller: by its distance, then by its plan -/
def pLt (a b : Nat × List Nat) : Bool := if a.1 = b.1 then planLt a.2 b.2 else decide (a.1 < b.1)
theorem planLt_nil : ∀ c : List Nat, planLt c [] = false
  | [] => rfl
  | _ :: _ => rfl
theorem planLt_cons_false {x y : Nat} {xs ys : List Nat} : planLt (x :: xs) (y :: ys) = false ↔ (x = y ∧ planLt xs ys = false) ∨ y < x := by
  show (if x = y then planLt xs ys else decide (x < y)) = false ↔ _
  by_cases e : x = y
  · rw [if_pos e]
    constructor
    · exact fun h => .inl ⟨e, h⟩
    · rintro (h | h)
      · exact h.2
      · omega
  · rw [if_neg e, decide_eq_false_iff_not]
    constructor
    · exact fun h => .inr (by omega)
    · rintro (h | h)
      · exact absurd h.1 e
      · omega
/-- a ≤ b, b ≤ c -/
theorem planLt_trans : ∀ {a b c : List Nat}, planLt b a = false → planLt c b = false → planLt c a = false
  | [], _, c, _, _ => planLt_nil c
  | x :: xs, [], _, h, _ => by cases h
  | x :: xs, y :: ys, [], _, h => by cases h
  | x :: xs, y :: ys, z :: zs, h1, h2 => by
    rw [planLt_cons_false] at h1 h2 ⊢
    rcases h1 with ⟨e1, h1⟩ | h1
    · rcases h2 with ⟨e2, h2⟩ | h2
      · exact .inl ⟨e2.trans e1, planLt_trans h1 h2⟩
      · exact .inr (by omega)
    · rcases h2 with ⟨e2, h2⟩ | h2
      · exact .inr (by omega)
      · exact .inr (by omega)
theorem planLt_self : ∀ a : List Nat, planLt a a = false
  | [] => rfl
  | x :: xs => planLt_cons_false.mpr (.inl ⟨rfl, planLt_self xs⟩)
theorem planLt_asymm : ∀ {a b : List Nat}, planLt a b = true → planLt b a = false
  | [], [], h => by cases h
  | [], y :: ys, _ => rfl
  | _ :: _, [], h => by cases h
  | x :: xs, y :: ys, h => by
    rw [planLt_cons_false]
    have h' : (if x = y then planLt xs ys else decide (x < y)) = true := h
    by_cases e : x = y
    · rw [if_pos e] at h'
      exact .inl ⟨e.symm, planLt_asymm h'⟩
    · rw [if_neg e, decide_eq_true_eq] at h'
      exact .inr h'
theorem planLt_snoc (i : Nat) : ∀ {a b : List Nat}, a.length = b.length → planLt b a = false → planLt (b ++ [i]) (a ++ [i]) = false
  | [], [], _, _ => planLt_self [i]
  | x :: xs, y :: ys, hl, h => by
    rw [List.cons_append, List.cons_append]
    rw [planLt_cons_false] at h ⊢
    rcases h with ⟨e, h⟩ | h
    · exact .inl ⟨e, planLt_snoc i (by simpa using hl) h⟩
    · exact .inr h
theorem lexLe_of : ∀ {a b : List Nat}, a.length = b.length → planLt b a = false → LexLe a b
  | [], [], _, _ => trivial
  | x :: xs, y :: ys, hl, h => by
    rw [planLt_cons_false] at h
    rcases h with ⟨e, h⟩ | h
    · exact .inr ⟨e.symm, lexLe_of (by simpa using hl) h⟩
    · exact .inl h
theorem pLt_false {a b : Nat × List Nat} : pLt a b = false ↔ (a.1 = b.1 ∧ planLt a.2 b.2 = false) ∨ b.1 < a.1 := by
  unfold pLt
  by_cases e : a.1 = b.1
  · rw [if_pos e]
    constructor
    · exact fun h => .inl ⟨e, h⟩
    · rintro (h | h)
      · exact h.2
      · omega
  · rw [if_neg e, decide_eq_false_iff_not]
    constructor
    · exact fun h => .inr (by omega)
    · rintro (h | h)
      · exact absurd h.1 e
      · omega
theorem pLt_self (a : Nat × List Nat) : pLt a a = false := pLt_false.mpr (.inl ⟨rfl, planLt_self _⟩)
theorem pLt_trans {a b c : Nat × List Nat} (h1 : pLt b a = false) (h2 : pLt c b = false) : pLt c a = false := by
  rw [pLt_false] at h1 h2 ⊢
  rcases h1 with ⟨e1, h1⟩ | h1
  · rcases h2 with ⟨e2, h2⟩ | h2
    · exact .inl ⟨e2.trans e1, planLt_trans h1 h2⟩
    · exact .inr (by omega)
  · rcases h2 with ⟨e2, h2⟩ | h2
    · exact .inr (by omega)
    · exact .inr (by omega)
theorem pLt_asymm {a b : Nat × List Nat} (h : pLt a b = true) : pLt b a = false := by
  unfold pLt at h
  rw [pLt_false]
  by_cases e : a.1 = b.1
  · rw [if_pos e] at h
    exact .inl ⟨e.symm, planLt_asymm h⟩
  · rw [if_neg e, decide_eq_true_eq] at h
    exact .inr h
theorem pLt_snoc (c i : Nat) {a b : Nat × List Nat} (hl : a.2.length = b.2.length) (h : pLt b a = false) : pLt (b.1 + c, b.2 ++ [i]) (a.1 + c, a.2 ++ [i]) = false := by
  rw [pLt_false] at h ⊢
  rcases h with ⟨e, h⟩ | h
  · exact .inl ⟨by simp only; omega, planLt_snoc i hl h⟩
  · exact .inr (by simp only; omega)
/-! ### plans, one request longer -/
/-- where the icebreakers stand behind a plan -/
def endPos : List Nat → List Nat → List Nat → List Nat
  | ps, t :: rest, i :: plan => endPos (ps.set i t) rest plan
  | ps, _, _ => ps
theorem endPos_nil (ps plan : List Nat) : endPos ps [] plan = ps := by cases plan <;> rfl
theorem endPos_len : ∀ (ts plan ps : List Nat), (endPos ps ts plan).length = ps.length
  | [], plan, ps => by rw [endPos_nil]
  | _ :: _, [], _ => rfl
  | t :: ts, i :: plan, ps => by
    show (endPos (ps.set i t) ts plan).length = _
    rw [endPos_len ts plan, List.length_set]
theorem endPos_snoc (t i : Nat) : ∀ (ts plan ps : List Nat), plan.length = ts.length → endPos ps (ts ++ [t]) (plan ++ [i]) = (endPos ps ts plan).set i t
  | [], [], ps, _ => rfl
  | u :: ts, j :: plan, ps, h => endPos_snoc t i ts plan (ps.set j u) (by simpa using h)
theorem planCost_snoc (t i : Nat) : ∀ (ts plan ps : List Nat), plan.length = ts.length → planCost ps (ts ++ [t]) (plan ++ [i]) = planCost ps ts plan + distance ((endPos ps ts plan).getD i 0) t
  | [], [], ps, _ => by
    show distance (ps.getD i 0) t + 0 = 0 + distance (ps.getD i 0) t
    omega
  | u :: ts, j :: plan, ps, h => by
    have ih := planCost_snoc t i ts plan (ps.set j u) (by simpa using h)
    show distance (ps.getD j 0) u + planCost (ps.set j u) (ts ++ [t]) (plan ++ [i]) = distance (ps.getD j 0) u + planCost (ps.set j u) ts plan + distance ((endPos (ps.set j u) ts plan).getD i 0) t
    rw [ih]; omega
theorem isPlan_snoc {k t i : Nat} {ts plan : List Nat} (h : IsPlan k ts plan) (hi : i < k) : IsPlan k (ts ++ [t]) (plan ++ [i]) := by
  refine ⟨by rw [List.length_append, List.length_append, h.1]; rfl, fun j hj => ?_⟩
  rcases List.mem_append.mp hj with hj | hj
  · exact h.2 j hj
  · rw [List.mem_singleton.mp hj]; exact hi
theorem isPlan_split {k t : Nat} {ts p : List Nat} (h : IsPlan k (ts ++ [t]) p) : ∃ plan i, p = plan ++ [i] ∧ IsPlan k ts plan ∧ i < k := by
  have hne : p ≠ [] := by
    intro z
    have := h.1
    rw [z, List.length_append] at this
    simp at this
  refine ⟨p.dropLast, p.getLast hne, (List.dropLast_concat_getLast hne).symm, ⟨?_, fun j hj => h.2 j (List.dropLast_subset _ hj)⟩, h.2 _ (List.getLast_mem hne)⟩
  rw [List.length_dropLast, h.1, List.length_append, List.length_singleton]
  omega
/-- the smallest of all pairs is the optimum's -/
theorem best_is {ps ts plan : List Nat} {d : Nat} (h : ps ≠ []) (hp : IsPlan ps.length ts plan) (hc : planCost ps ts plan = d)
    (hf : ∀ p, IsPlan ps.length ts p → pLt (planCost ps ts p, p) (d, plan) = false) : d = opt ps ts ∧ plan = optimalPlan ps ts := by
  obtain ⟨a, b⟩ := plan_is ts h
  have h1 := opt_le_plan ts plan hp
  have h2 := hf _ a
  rw [b, pLt_false] at h2
  have e : d = opt ps ts := by
    rcases h2 with ⟨h2, _⟩ | h2 <;> simp only at h2 <;> omega
  refine ⟨e, plan_unique h hp (hc.trans e) fun q hq ec => ?_⟩
  have h3 := hf q hq
  rw [ec, pLt_false] at h3
  rcases h3 with ⟨_, h3⟩ | h3
  · exact lexLe_of (by rw [hp.1, hq.1]) h3
  · simp only at h3; omega
end Ice
/-! The list of calls, taken apart; what the specification answers to the rest. -/
namespace Ice
open Km559 (Dispatch Call)
/-- how many numbers follow a call's own -/
def cnt (c : Nat) : Nat := [0, 1, 1, 2, 1, 0, 0, 0, 0, 0, 0, 0, 0, 0, 0, 0, 0, 0, 1, 1, 1, 0, 1, 1, 0].getD c 0
/-- the call, by its number and what follows -/
def mkCall (c : Nat) (xs : List Nat) : Call := match c with
  | 0 => .create
  | 1 => .addIcebreaker (xs.getD 0 0)
  | 2 => .removeIcebreaker (xs.getD 0 0)
  | 3 => .setStart (xs.getD 0 0) (xs.getD 1 0)
  | 4 => .request (xs.getD 0 0)
  | 5 => .undoRequest
  | 6 => .clearRequests
  | 7 => .listRequests
  | 8 => .currentPositions
  | 9 => .startPositions
  | 10 => .totalDistance
  | 11 => .greedyDistance
  | 12 => .greedyPositions
  | 13 => .optimalDistance
  | 14 => .optimalPlan
  | 15 => .competitiveBound
  | 16 => .spread
  | 17 => .excess
  | 18 => .previewRequest (xs.getD 0 0)
  | 19 => .optimalDistanceWithRequest (xs.getD 0 0)
  | 20 => .responders (xs.getD 0 0)
  | 21 => .distancesPerRequest
  | 22 => .savingWithoutRequest (xs.getD 0 0)
  | 23 => .distancesWithIcebreaker (xs.getD 0 0)
  | _ => .summary
theorem ite_or {α : Type} {c : Prop} [Decidable c] {a b x : α} (h : (if c then a else b) = x) : (c ∧ a = x) ∨ (¬ c ∧ b = x) := by
  by_cases e : c
  · rw [if_pos e] at h; exact .inl ⟨e, h⟩
  · rw [if_neg e] at h; exact .inr ⟨e, h⟩
theorem shape_is {p : Int} {n k : Nat} (h : PyKm559.shape p = some (n, k)) : ∃ c : Nat, p = (c : Int) ∧ c ≤ 24 ∧ n = cnt c ∧ k = 0 := by
  unfold PyKm559.shape at h
  rcases ite_or h with ⟨e, h⟩ | ⟨_, h⟩
  · cases h; exact ⟨0, e, by decide, rfl, rfl⟩
  rcases ite_or h with ⟨e, h⟩ | ⟨_, h⟩
  · cases h; exact ⟨1, e, by decide, rfl, rfl⟩
  rcases ite_or h with ⟨e, h⟩ | ⟨_, h⟩
  · cases h; exact ⟨2, e, by decide, rfl, rfl⟩
  rcases ite_or h with ⟨e, h⟩ | ⟨_, h⟩
  · cases h; exact ⟨3, e, by decide, rfl, rfl⟩
  rcases ite_or h with ⟨e, h⟩ | ⟨_, h⟩
  · cases h; exact ⟨4, e, by decide, rfl, rfl⟩
  rcases ite_or h with ⟨e, h⟩ | ⟨_, h⟩
  · cases h; exact ⟨5, e, by decide, rfl, rfl⟩
  rcases ite_or h with ⟨e, h⟩ | ⟨_, h⟩
  · cases h; exact ⟨6, e, by decide, rfl, rfl⟩
  rcases ite_or h with ⟨e, h⟩ | ⟨_, h⟩
  · cases h; exact ⟨7, e, by decide, rfl, rfl⟩
  rcases ite_or h with ⟨e, h⟩ | ⟨_, h⟩
  · cases h; exact ⟨8, e, by decide, rfl, rfl⟩
  rcases ite_or h with ⟨e, h⟩ | ⟨_, h⟩
  · cases h; exact ⟨9, e, by decide, rfl, rfl⟩
  rcases ite_or h with ⟨e, h⟩ | ⟨_, h⟩
  · cases h; exact ⟨10, e, by decide, rfl, rfl⟩
  rcases ite_or h with ⟨e, h⟩ | ⟨_, h⟩
  · cases h; exact ⟨11, e, by decide, rfl, rfl⟩
  rcases ite_or h with ⟨e, h⟩ | ⟨_, h⟩
  · cases h; exact ⟨12, e, by decide, rfl, rfl⟩
  rcases ite_or h with ⟨e, h⟩ | ⟨_, h⟩
  · cases h; exact ⟨13, e, by decide, rfl, rfl⟩
  rcases ite_or h with ⟨e, h⟩ | ⟨_, h⟩
  · cases h; exact ⟨14, e, by decide, rfl, rfl⟩
  rcases ite_or h with ⟨e, h⟩ | ⟨_, h⟩
  · cases h; exact ⟨15, e, by decide, rfl, rfl⟩
  rcases ite_or h with ⟨e, h⟩ | ⟨_, h⟩
  · cases h; exact ⟨16, e, by decide, rfl, rfl⟩
  rcases ite_or h with ⟨e, h⟩ | ⟨_, h⟩
  · cases h; exact ⟨17, e, by decide, rfl, rfl⟩
  rcases ite_or h with ⟨e, h⟩ | ⟨_, h⟩
  · cases h; exact ⟨18, e, by decide, rfl, rfl⟩
  rcases ite_or h with ⟨e, h⟩ | ⟨_, h⟩
  · cases h; exact ⟨19, e, by decide, rfl, rfl⟩
  rcases ite_or h with ⟨e, h⟩ | ⟨_, h⟩
  · cases h; exact ⟨20, e, by decide, rfl, rfl⟩
  rcases ite_or h with ⟨e, h⟩ | ⟨_, h⟩
  · cases h; exact ⟨21, e, by decide, rfl, rfl⟩
  rcases ite_or h with ⟨e, h⟩ | ⟨_, h⟩
  · cases h; exact ⟨22, e, by decide, rfl, rfl⟩
  rcases ite_or h with ⟨e, h⟩ | ⟨_, h⟩
  · cases h; exact ⟨23, e, by decide, rfl, rfl⟩
  rcases ite_or h with ⟨e, h⟩ | ⟨_, h⟩
  · cases h; exact ⟨24, e, by decide, rfl, rfl⟩
  cases h
/-- one call taken off -/
theorem calls_cons {f : Nat} {p : Int} {r : List Int} {cs : List (List (List Int))} (h : PyFlat.calls PyKm559.shape f (p :: r) = some cs) :
    ∃ (c : Nat) (xs rest : List Int) (cs' : List (List (List Int))) (f' : Nat), p = (c : Int) ∧ c ≤ 24 ∧ r = xs ++ rest ∧ xs.length = cnt c ∧ cs = [p :: xs] :: cs' ∧ PyFlat.calls PyKm559.shape f' rest = some cs' := by
  cases f with
  | zero => simp [PyFlat.calls] at h
  | succ f =>
    unfold PyFlat.calls PyFlat.call at h
    cases hs : PyKm559.shape p with
    | none => simp [hs] at h
    | some nk =>
      obtain ⟨n, k⟩ := nk
      obtain ⟨c, e1, e2, rfl, rfl⟩ := shape_is hs
      simp only [hs] at h
      by_cases hl : r.length < cnt c
      · simp [hl] at h
      · simp only [if_neg hl, PyFlat.rows] at h
        cases hc : PyFlat.calls PyKm559.shape f (r.drop (cnt c)) with
        | none => simp [hc] at h
        | some cs' =>
          simp only [hc, Option.some.injEq] at h
          exact ⟨c, r.take (cnt c), r.drop (cnt c), cs', f, e1, e2, (List.take_append_drop _ _).symm, by rw [List.length_take]; omega, h.symm, hc⟩
theorem calls_nil {f : Nat} {cs : List (List (List Int))} (h : PyFlat.calls PyKm559.shape f [] = some cs) : cs = [] := by
  cases f <;> simp [PyFlat.calls] at h <;> exact h
/-- the call of a number and what follows -/
theorem parse_is (c : Nat) (hc : c ≤ 24) (xs : List Nat) (h : xs.length = cnt c) : Km559Neutral.parseCall (PyKm559.whole [(c : Int) :: xs.map fun (n : Nat) => (n : Int)]) = some (mkCall c xs) := by
  have all : c = 0 ∨ c = 1 ∨ c = 2 ∨ c = 3 ∨ c = 4 ∨ c = 5 ∨ c = 6 ∨ c = 7 ∨ c = 8 ∨ c = 9 ∨ c = 10 ∨ c = 11 ∨ c = 12 ∨ c = 13 ∨ c = 14 ∨ c = 15 ∨ c = 16 ∨ c = 17 ∨ c = 18 ∨ c = 19 ∨ c = 20 ∨ c = 21 ∨ c = 22 ∨ c = 23 ∨ c = 24 := by omega
  match xs, h with
  | [], h => rcases all with rfl | rfl | rfl | rfl | rfl | rfl | rfl | rfl | rfl | rfl | rfl | rfl | rfl | rfl | rfl | rfl | rfl | rfl | rfl | rfl | rfl | rfl | rfl | rfl | rfl <;> first | rfl | exact absurd h (by decide)
  | [a], h =>
    have h : 1 = cnt c := h
    rcases all with rfl | rfl | rfl | rfl | rfl | rfl | rfl | rfl | rfl | rfl | rfl | rfl | rfl | rfl | rfl | rfl | rfl | rfl | rfl | rfl | rfl | rfl | rfl | rfl | rfl <;> first | rfl | exact absurd h (by decide)
  | [a, b], h =>
    have h : 2 = cnt c := h
    rcases all with rfl | rfl | rfl | rfl | rfl | rfl | rfl | rfl | rfl | rfl | rfl | rfl | rfl | rfl | rfl | rfl | rfl | rfl | rfl | rfl | rfl | rfl | rfl | rfl | rfl <;> first | rfl | exact absurd h (by decide)
  | a :: b :: d :: r, h =>
    have h : r.length + 3 = cnt c := h
    have k : cnt c ≤ 2 := by rcases all with rfl | rfl | rfl | rfl | rfl | rfl | rfl | rfl | rfl | rfl | rfl | rfl | rfl | rfl | rfl | rfl | rfl | rfl | rfl | rfl | rfl | rfl | rfl | rfl | rfl <;> decide
    omega
/-- what is told of one call and of the rest -/
theorem told_cons (st : Option Dispatch) (c : Nat) (hc : c ≤ 24) (xs : List Nat) (h : xs.length = cnt c) (cs : List (List (List Int))) :
    PyFlat.told (PyFlat.played Km559Neutral.step st ((([(c : Int) :: xs.map fun (n : Nat) => (n : Int)]) :: cs).map PyKm559.whole)) =
      (((Km559.step st (mkCall c xs)).2.nums.length + 1 : Nat) : Int) :: ((Km559.step st (mkCall c xs)).2.num :: (Km559.step st (mkCall c xs)).2.nums) ++
        PyFlat.told (PyFlat.played Km559Neutral.step (Km559.step st (mkCall c xs)).1 (cs.map PyKm559.whole)) := by
  have hs : Km559Neutral.step st (PyKm559.whole [(c : Int) :: xs.map fun (n : Nat) => (n : Int)]) = ((Km559.step st (mkCall c xs)).1, (Km559.step st (mkCall c xs)).2.num :: (Km559.step st (mkCall c xs)).2.nums) := by
    unfold Km559Neutral.step
    rw [parse_is c hc xs h]
  rw [List.map_cons]
  show PyFlat.told ((Km559Neutral.step st (PyKm559.whole [(c : Int) :: xs.map fun (n : Nat) => (n : Int)])).2 :: PyFlat.played Km559Neutral.step (Km559Neutral.step st (PyKm559.whole [(c : Int) :: xs.map fun (n : Nat) => (n : Int)])).1 (cs.map PyKm559.whole)) = _
  rw [hs]
  unfold PyFlat.told
  rw [List.flatMap_cons]
  rfl
end Ice
/-! The specification's step, call by call: what is answered, and that an instance stays good. -/
namespace Ice
open Km559 (Dispatch Call)
structure Good (d : Dispatch) : Prop where
  len : d.starts.length ≤ 3
  rlen : d.requests.length ≤ 8
  some_ : d.requests ≠ [] → d.starts ≠ []
def out (d : Dispatch) : Option Dispatch × Km559.Result → Dispatch × List Int
  | (some d', r) => (d', r.num :: r.nums)
  | (none, r) => (d, r.num :: r.nums)
def opRes (d : Dispatch) (c : Call) : Dispatch × List Int := out d (Km559.step (some d) c)
theorem sr_add (d : Dispatch) (x : Nat) : opRes d (.addIcebreaker x) = if 99 < x then (d, [-22]) else if 3 ≤ d.starts.length then (d, [-28]) else (⟨d.starts ++ [x], []⟩, [(d.starts.length : Int)]) := by
  show out d (if 99 < x then (some d, Km559.error (-22)) else if 3 ≤ d.starts.length then (some d, Km559.error (-28)) else (some ⟨d.starts ++ [x], []⟩, Km559.number (d.starts.length : Nat))) = _
  split
  · rfl
  · split <;> rfl
theorem sr_rem (d : Dispatch) (i : Nat) : opRes d (.removeIcebreaker i) = if d.starts.length ≤ i then (d, [-2]) else (⟨d.starts.eraseIdx i, []⟩, [((d.starts.length - 1 : Nat) : Int)]) := by
  show out d (if d.starts.length ≤ i then (some d, Km559.error (-2)) else (some ⟨d.starts.eraseIdx i, []⟩, Km559.number (d.starts.length - 1 : Nat))) = _
  split <;> rfl
theorem sr_set (d : Dispatch) (i x : Nat) : opRes d (.setStart i x) = if d.starts.length ≤ i then (d, [-2]) else if 99 < x then (d, [-22]) else (⟨d.starts.set i x, []⟩, [(d.starts.getD i 0 : Int)]) := by
  show out d (if d.starts.length ≤ i then (some d, Km559.error (-2)) else if 99 < x then (some d, Km559.error (-22)) else (some ⟨d.starts.set i x, []⟩, Km559.number (d.starts.getD i 0 : Nat))) = _
  split
  · rfl
  · split <;> rfl
theorem sr_req (d : Dispatch) (t : Nat) : opRes d (.request t) = if 99 < t then (d, [-22]) else if d.starts.length = 0 then (d, [-6]) else if 8 ≤ d.requests.length then (d, [-28]) else
    (⟨d.starts, d.requests ++ [t]⟩, (Km559.distanceMoved (Km559.currentPositions d) (Km559.doubleCoverageStep (Km559.currentPositions d) t) : Int) :: Km559.toInts (Km559.doubleCoverageStep (Km559.currentPositions d) t)) := by
  show out d (if 99 < t then (some d, Km559.error (-22)) else if d.starts.length = 0 then (some d, Km559.error (-6)) else if 8 ≤ d.requests.length then (some d, Km559.error (-28)) else
    (some ⟨d.starts, d.requests ++ [t]⟩, ⟨(Km559.distanceMoved (Km559.currentPositions d) (Km559.doubleCoverageStep (Km559.currentPositions d) t) : Int), Km559.toInts (Km559.doubleCoverageStep (Km559.currentPositions d) t)⟩)) = _
  split
  · rfl
  · split
    · rfl
    · split <;> rfl
theorem sr_undo (d : Dispatch) : opRes d .undoRequest = if h : d.requests = [] then (d, [-6]) else (⟨d.starts, d.requests.dropLast⟩, [((d.requests.getLast h : Nat) : Int)]) := by
  show out d (match d.requests.reverse with
    | [] => (some d, Km559.error (-6))
    | target :: rest => (some ⟨d.starts, rest.reverse⟩, Km559.number (target : Nat))) = _
  by_cases c : d.requests = []
  · rw [dif_pos c, c]; rfl
  · rw [dif_neg c]
    have e : d.requests.reverse = d.requests.getLast c :: d.requests.dropLast.reverse := by
      conv => lhs; rw [← List.dropLast_concat_getLast c]
      simp
    rw [e]
    show ((⟨d.starts, d.requests.dropLast.reverse.reverse⟩ : Dispatch), _) = _
    rw [List.reverse_reverse]
    rfl
theorem sr_clear (d : Dispatch) : opRes d .clearRequests = (⟨d.starts, []⟩, [(d.requests.length : Int)]) := rfl
theorem sr_list (d : Dispatch) : opRes d .listRequests = (d, (d.requests.length : Int) :: Km559.toInts d.requests) := rfl
theorem sr_cur (d : Dispatch) : opRes d .currentPositions = (d, ((Km559.currentPositions d).length : Int) :: Km559.toInts (Km559.currentPositions d)) := rfl
theorem sr_start (d : Dispatch) : opRes d .startPositions = (d, (d.starts.length : Int) :: Km559.toInts d.starts) := rfl
theorem sr_tot (d : Dispatch) : opRes d .totalDistance = (d, [(Km559.totalDistance d : Int)]) := rfl
theorem sr_gd (d : Dispatch) : opRes d .greedyDistance = (d, if d.starts.length = 0 then [-6] else [((Km559.greedy d.starts d.requests).1 : Int)]) := by
  show out d (some d, if d.starts.length = 0 then Km559.error (-6) else Km559.number ((Km559.greedy d.starts d.requests).1 : Nat)) = _
  split <;> rfl
theorem sr_gp (d : Dispatch) : opRes d .greedyPositions = (d, if d.starts.length = 0 then [-6] else ((Km559.greedy d.starts d.requests).2.length : Int) :: Km559.toInts (Km559.greedy d.starts d.requests).2) := by
  show out d (some d, if d.starts.length = 0 then Km559.error (-6) else Km559.listResult (Km559.greedy d.starts d.requests).2) = _
  split <;> rfl
theorem cur_len (d : Dispatch) : (Km559.currentPositions d).length = d.starts.length := by
  unfold Km559.currentPositions
  exact dc_length _ _
theorem step_some (d : Dispatch) (c : Call) : ∃ r, Km559.step (some d) c = (some (opRes d c).1, r) ∧ r.num :: r.nums = (opRes d c).2 := by
  have key : ∃ d' r, Km559.step (some d) c = (some d', r) := by
    cases c
    all_goals (delta Km559.step; dsimp only; repeat' split)
    all_goals exact ⟨_, _, rfl⟩
  obtain ⟨d', r, e⟩ := key
  refine ⟨r, ?_, ?_⟩ <;> (unfold opRes; rw [e]; rfl)
theorem step_none {c : Call} (h : c ≠ .create) : Km559.step none c = (none, Km559.error (-11)) := by
  cases c <;> first | rfl | exact absurd rfl h
theorem step_create (st : Option Dispatch) : Km559.step st .create = (some ⟨[], []⟩, Km559.number 0) := by
  cases st <;> rfl
theorem good_new : Good ⟨[], []⟩ := ⟨by simp, by simp, by simp⟩
theorem good_op {d : Dispatch} (g : Good d) (c : Call) : Good (opRes d c).1 := by
  have keep : ∀ r : List Int, opRes d c = (d, r) → Good (opRes d c).1 := fun r e => by rw [e]; exact g
  cases c with
  | create => exact good_new
  | addIcebreaker x =>
    rw [sr_add]
    split
    · exact g
    · split
      · exact g
      · exact ⟨by simp; omega, by simp, by simp⟩
  | removeIcebreaker i =>
    rw [sr_rem]
    split
    · exact g
    · have := g.len
      exact ⟨by simp [List.length_eraseIdx]; split <;> omega, by simp, by simp⟩
  | setStart i x =>
    rw [sr_set]
    split
    · exact g
    · split
      · exact g
      · have := g.len
        exact ⟨by simpa using this, by simp, by simp⟩
  | request t =>
    rw [sr_req]
    split
    · exact g
    · split
      · exact g
      · next h =>
        split
        · exact g
        · exact ⟨g.len, by simp; omega, fun _ z => h (by simp at z; rw [z]; rfl)⟩
  | undoRequest =>
    rw [sr_undo]
    split
    · exact g
    · have := g.rlen
      exact ⟨g.len, by simp; omega, fun _ => g.some_ (by assumption)⟩
  | clearRequests => exact ⟨g.len, by simp [sr_clear], by simp [sr_clear]⟩
  | _ => exact g
end Ice
/-! The calls 13 to 24, by the specification's step, with the optimum as the plain recursion and the subtractions as they are meant. -/
namespace Ice
open Km559 (Dispatch Call)
theorem ne_of_len {l : List Nat} (h : ¬ l.length = 0) : l ≠ [] := fun z => h (by rw [z]; rfl)
theorem sub_cast {a b : Nat} (h : b ≤ a) : ((a - b : Nat) : Int) = (a : Int) - (b : Int) := by omega
theorem sr_opt (d : Dispatch) : opRes d .optimalDistance = (d, if d.starts.length = 0 then [-6] else [(opt d.starts d.requests : Int)]) := by
  show out d (some d, if d.starts.length = 0 then Km559.error (-6) else Km559.number (Km559.optimalDistance d.starts d.requests : Nat)) = _
  split
  · rfl
  · next h => rw [optimal_is (ne_of_len h)]; rfl
theorem sr_plan (d : Dispatch) : opRes d .optimalPlan = (d, if d.starts.length = 0 then [-6] else ((Km559.optimalPlan d.starts d.requests).length : Int) :: Km559.toInts (Km559.optimalPlan d.starts d.requests)) := by
  show out d (some d, if d.starts.length = 0 then Km559.error (-6) else Km559.listResult (Km559.optimalPlan d.starts d.requests)) = _
  split <;> rfl
theorem sr_bound (d : Dispatch) : opRes d .competitiveBound = (d, if d.starts.length = 0 then [-6] else [((d.starts.length * opt d.starts d.requests + Km559.spread d.starts : Nat) : Int)]) := by
  show out d (some d, if d.starts.length = 0 then Km559.error (-6) else Km559.number (d.starts.length * Km559.optimalDistance d.starts d.requests + Km559.spread d.starts : Nat)) = _
  split
  · rfl
  · next h => rw [optimal_is (ne_of_len h)]; rfl
theorem sr_spread (d : Dispatch) : opRes d .spread = (d, [(Km559.spread d.starts : Int), (Km559.spread (Km559.currentPositions d) : Int)]) := rfl
theorem sr_excess (d : Dispatch) : opRes d .excess = (d, if d.starts.length = 0 then [-6] else
    [((Km559.doubleCoverage d.starts d.requests).1 : Int) - (opt d.starts d.requests : Int), ((Km559.greedy d.starts d.requests).1 : Int) - (opt d.starts d.requests : Int)]) := by
  show out d (some d, if d.starts.length = 0 then Km559.error (-6) else ⟨(((Km559.doubleCoverage d.starts d.requests).1 - Km559.optimalDistance d.starts d.requests : Nat) : Int), [(((Km559.greedy d.starts d.requests).1 - Km559.optimalDistance d.starts d.requests : Nat) : Int)]⟩) = _
  split
  · rfl
  · next h =>
    have hn := ne_of_len h
    rw [optimal_is hn, sub_cast (dc_ge d.requests hn), sub_cast (greedy_ge d.requests hn)]
    rfl
theorem sr_prev (d : Dispatch) (t : Nat) : opRes d (.previewRequest t) = (d, if 99 < t then [-22] else if d.starts.length = 0 then [-6] else
    (Km559.distanceMoved (Km559.currentPositions d) (Km559.doubleCoverageStep (Km559.currentPositions d) t) : Int) :: Km559.toInts (Km559.doubleCoverageStep (Km559.currentPositions d) t)) := by
  show out d (some d, if 99 < t then Km559.error (-22) else if d.starts.length = 0 then Km559.error (-6) else
    ⟨(Km559.distanceMoved (Km559.currentPositions d) (Km559.doubleCoverageStep (Km559.currentPositions d) t) : Int), Km559.toInts (Km559.doubleCoverageStep (Km559.currentPositions d) t)⟩) = _
  split
  · rfl
  · split <;> rfl
theorem sr_optw (d : Dispatch) (t : Nat) : opRes d (.optimalDistanceWithRequest t) = (d, if 99 < t then [-22] else if d.starts.length = 0 then [-6] else [(opt d.starts (d.requests ++ [t]) : Int)]) := by
  show out d (some d, if 99 < t then Km559.error (-22) else if d.starts.length = 0 then Km559.error (-6) else Km559.number (Km559.optimalDistance d.starts (d.requests ++ [t]) : Nat)) = _
  split
  · rfl
  · split
    · rfl
    · next h => rw [optimal_is (ne_of_len h)]; rfl
/-- the icebreakers that stand elsewhere behind than ahead, in order -/
def movers (l m : List Nat) : List Nat := (List.range l.length).filter fun i => l.getD i 0 != m.getD i 0
theorem sr_resp (d : Dispatch) (t : Nat) : opRes d (.responders t) = (d, if 99 < t then [-22] else if d.starts.length = 0 then [-6] else
    ((movers (Km559.currentPositions d) (Km559.doubleCoverageStep (Km559.currentPositions d) t)).length : Int) :: Km559.toInts (movers (Km559.currentPositions d) (Km559.doubleCoverageStep (Km559.currentPositions d) t))) := by
  have hl : (Km559.currentPositions d).length = d.starts.length := dc_length _ _
  unfold movers
  rw [hl]
  show out d (some d, if 99 < t then Km559.error (-22) else if d.starts.length = 0 then Km559.error (-6) else Km559.listResult ((List.range d.starts.length).filter fun i =>
    (Km559.currentPositions d).getD i 0 != (Km559.doubleCoverageStep (Km559.currentPositions d) t).getD i 0)) = _
  split
  · rfl
  · split <;> rfl
/-- the distances between neighbours of a course -/
def courseSteps : List (List Nat) → List Nat
  | a :: b :: r => shift a b :: courseSteps (b :: r)
  | _ => []
theorem dcAt (ps ts : List Nat) (i : Nat) : (Km559.doubleCoverage ps (ts.take i)).2 = (ts.take i).foldl Km559.doubleCoverageStep ps := by
  generalize ts.take i = l
  induction l generalizing ps with
  | nil => rfl
  | cons t l ih => exact ih _
theorem sr_dpr (d : Dispatch) : opRes d .distancesPerRequest = (d, ((List.range d.requests.length).length : Int) :: Km559.toInts ((List.range d.requests.length).map fun i =>
    shift ((d.requests.take i).foldl Km559.doubleCoverageStep d.starts) ((d.requests.take (i + 1)).foldl Km559.doubleCoverageStep d.starts))) := by
  have e : ((List.range d.requests.length).map fun index => Km559.distanceMoved (Km559.doubleCoverage d.starts (d.requests.take index)).2 (Km559.doubleCoverage d.starts (d.requests.take (index + 1))).2) =
      ((List.range d.requests.length).map fun i => shift ((d.requests.take i).foldl Km559.doubleCoverageStep d.starts) ((d.requests.take (i + 1)).foldl Km559.doubleCoverageStep d.starts)) := by
    apply List.map_congr_left
    intro i _
    rw [moved_shift (by rw [dc_length, dc_length]), dcAt, dcAt]
  show out d (some d, Km559.listResult ((List.range d.requests.length).map fun index => Km559.distanceMoved (Km559.doubleCoverage d.starts (d.requests.take index)).2 (Km559.doubleCoverage d.starts (d.requests.take (index + 1))).2)) = _
  rw [e]
  show (d, ((List.map _ _).length : Int) :: _) = _
  rw [List.length_map]
  rfl
theorem sr_sav (d : Dispatch) (g : Good d) (i : Nat) : opRes d (.savingWithoutRequest i) = (d, if d.requests.length ≤ i then [-2] else
    [(opt d.starts d.requests : Int) - (opt d.starts (d.requests.eraseIdx i) : Int), (opt d.starts (d.requests.eraseIdx i) : Int)]) := by
  show out d (some d, if d.requests.length ≤ i then Km559.error (-2) else ⟨((Km559.optimalDistance d.starts d.requests - Km559.optimalDistance d.starts (d.requests.eraseIdx i) : Nat) : Int), [(Km559.optimalDistance d.starts (d.requests.eraseIdx i) : Int)]⟩) = _
  split
  · rfl
  · next h =>
    have hn : d.starts ≠ [] := g.some_ fun z => h (by rw [z]; exact Nat.zero_le _)
    rw [optimal_is hn, optimal_is hn, sub_cast (opt_erase d.requests i hn)]
    rfl
theorem sr_dwi (d : Dispatch) (x : Nat) : opRes d (.distancesWithIcebreaker x) = (d, if 99 < x then [-22] else if 3 ≤ d.starts.length then [-28] else
    [(opt (d.starts ++ [x]) d.requests : Int), ((Km559.doubleCoverage (d.starts ++ [x]) d.requests).1 : Int)]) := by
  show out d (some d, if 99 < x then Km559.error (-22) else if 3 ≤ d.starts.length then Km559.error (-28) else ⟨(Km559.optimalDistance (d.starts ++ [x]) d.requests : Int), [((Km559.doubleCoverage (d.starts ++ [x]) d.requests).1 : Int)]⟩) = _
  split
  · rfl
  · split
    · rfl
    · rw [optimal_is (by simp)]; rfl
theorem sr_sum (d : Dispatch) : opRes d .summary = (d, [(d.starts.length : Int), (d.requests.length : Int), ((Km559.doubleCoverage d.starts d.requests).1 : Int)]) := rfl
/-- the spread of one list: each with those ahead of it -/
theorem spread_is (ps : List Nat) : Km559.spread ps = (List.range ps.length).foldl (fun total j => total + (List.range j).foldl (fun total i => total + Km559.distance (ps.getD i 0) (ps.getD j 0)) 0) 0 := by
  unfold Km559.spread
  congr 1
  funext total j
  rw [foldl_add (fun i => Km559.distance (ps.getD i 0) (ps.getD j 0))]
/-- as a sum over pairs, the first with all behind it -/
def pairs : List Nat → Nat
  | [] => 0
  | a :: l => l.foldl (fun total b => total + Km559.distance a b) 0 + pairs l
end Ice
/-! Rules that the layer lacks: enumerate over a tuple; < of data at any depth; a dict of one pair whose key is a tuple; min over the values of a dict with tuples for keys. -/
namespace Ice
open PySem PySem.Spec PyProof.Rows L2
/-! ### enumerate(tuple) -/
/-- enumerate's two new cells: what it draws from, and the count -/
def enumCell (it : Addr) : Obj := { cls := .type "enumerate", data := .fields #[.none, .bool false, .ref it, rawInt 0, .none, .none] }
theorem enum_made {v : Value} {o : Obj} {here : Heap → Prop} (B : Begins v o here) : Meets (Builtin.«enumerate.__new__» ⟨[.type "enumerate", v], []⟩) (fun _ R s => here s.heap ∧
    R (.ok (.ret (.ref (s.heap.push o).objs.size))) { s with heap := (s.heap.push o).push (enumCell s.heap.objs.size) }) := by
  refine .of_wp fun prog w A R ⟨hp, g, d, tk, os⟩ ⟨stands, done⟩ => ?_
  have start := fun {A' : Around} {E' : Value → Shared → Prop} {Q' : Value → Shared → Prop} q => B.iter prog w A' E' ⟨hp, g, d, tk, os⟩ Q' stands q
  have known := sub_enumerate
  wp_walk using start
  refine wpAny_stack_any fun _ => wpAny_pure ?_
  split
  · next c _ _ _ _ _ => cases c == Value.type "enumerate" <;> (wp_walk using start; exact ⟨_, rfl, done⟩)
  · wp_walk using start; exact ⟨_, rfl, done⟩
theorem enum_call {prog : Program} {w : World} {A : Around} {E : Value → Shared → Prop} {s : Shared} {v : Value} {o : Obj} {here : Heap → Prop} {Q : Value → Shared → Prop} (B : Begins v o here) (stands : here s.heap)
    (q : Q (.ref (s.heap.objs.size + 1)) { s with heap := (s.heap.push o).push (enumCell s.heap.objs.size) }) : wpAny (model prog w) A (call (.type "enumerate") [v]) Q E s := by
  have size1 : (s.heap.push o).objs.size = s.heap.objs.size + 1 := Heap.size_push _ _
  have cell : ((s.heap.push o).push (enumCell s.heap.objs.size)).get? (s.heap.push o).objs.size = some (enumCell s.heap.objs.size) := Heap.get?_push_size _ rfl
  refine callType_new F.called_enumerate (by decide) (F.typeCall_enumerate_1 v) (F.newCall_enumerate_1 v) (fun x => F.args_object_init_2 x v) F.entry_enumerate_new (enum_made B) ⟨stands, ⟨_, cell, rfl⟩, ?_⟩
  rw [size1]
  exact q
/-- the tuple at a, each item in a new pair -/
def IteT (K : PySem.W.Frag) (a : Addr) : It where
  go i H := ∃ (xs : List V) (x : V), SqT K H a xs ∧ xs[i]? = some x
  yld i H v H' := ∃ T x, v = .ref T ∧ H T = none ∧ H' = L2.upd H T (.tup [.int (i : Nat), x]) ∧ ∀ xs, SqT K H a xs → xs[i]? = some x
  stop i H := ∃ xs : List V, SqT K H a xs ∧ xs.length = i
theorem turn_enumT {P : Program} {w : World} {K : PySem.W.Frag} {elts : List Expr} {kk : Nat} {tpos : Pos} (a e it : Addr) (hei : e ≠ it) (hea : e ≠ a) (hai : a ≠ it) :
    Turn P w K (.Tuple elts kk tpos) (IteT K a) [e, it] e (fun i h => (∃ old, IsEnum h e it (0 + (i : Int)) old) ∧ h.IsTupleIter it a i) := by
  -- how it goes, by the library, whatever the tuple holds
  have goesN := fun (X : Cx) (calm : X.A.handled = none) (items : Array Value) =>
    GoesN.enumFrom (elts := elts) (x1 := kk) (pos := tpos) (A := X.A) 0 (Draws.tuple (prog := X.prog) (w := X.w) (A := X.A.in1) calm it a hai items) e hei (by simp [hei, hea]) (by simp)
  constructor
  · exact List.mem_cons_self ..
  · rintro i h ⟨⟨old, he⟩, oi, ho, _, hd⟩ b hb
    rcases List.mem_cons.mp hb with rfl | hb
    · refine ⟨_, he, ?_⟩
      intro v z; cases z
    · obtain rfl := List.mem_singleton.mp hb
      refine ⟨oi, ho, ?_⟩
      intro v z; rw [hd] at z; cases z
  · rintro i h h' ⟨⟨old, he⟩, hi⟩ keep
    exact ⟨⟨old, keep e (by simp) _ he⟩, hi.at fun o => keep it (by simp) o⟩
  · rintro X rfl rfl rfl calm i pins s σ H E I fpok ⟨en, ti⟩ ⟨xs, x, hxs, hx⟩
    obtain ⟨its, vals, tup, _⟩ := I.tuple hxs
    obtain ⟨u, hu, ru⟩ := vals.get hx
    have hlt : i < its.toArray.size := by
      obtain ⟨lt, _⟩ := List.getElem?_eq_some_iff.mp hu
      simpa using lt
    refine (goesN X (I.ok.hd calm) its.toArray).goes i s _ E hlt ⟨en, ti, tup⟩ ?_
    rintro v h' tk ⟨T, t, y, rfl, fresh, hy, hT⟩ ⟨en', ti', _⟩ keep _
    have same : y = u := by
      rw [show its.toArray[i]? = some u by simpa using hu] at hy
      exact (Option.some.inj hy).symm
    subst same
    rw [Int.zero_add] at hT
    have free := I.hok.fresh fresh
    refine ⟨.ref T, L2.upd H T (.tup [.int (i : Nat), x]), ?_, rfl, ⟨T, x, rfl, free, rfl, fun ys hys => by rw [I.tuple_inj hys hxs]; exact hx⟩, ⟨en', ti'⟩, fun b hb => ?_⟩
    · exact I.turnedNew keep fpok fresh ⟨(by show 2 ≤ sizeLine; decide), [.int i t, y], .cons ⟨t, rfl⟩ (.cons ru .nil), hT⟩
    · by_cases z : b = T
      · subst z
        refine absurd fresh (Nat.not_le.mpr ?_)
        rcases List.mem_cons.mp hb with rfl | hb
        · exact Heap.lt_size en.choose_spec
        · obtain rfl := List.mem_singleton.mp hb
          obtain ⟨oi, ho, _⟩ := ti
          exact Heap.lt_size ho
      · rw [upd_ne z]; exact (fpok b hb).1
  · rintro X rfl rfl rfl calm i pins s σ H E I fpok ⟨en, ti⟩ ⟨xs, hxs, hl⟩
    obtain ⟨its, vals, tup, _⟩ := I.tuple hxs
    have hn : its.toArray.size = i := by rw [List.size_toArray, ← vals.length, hl]
    subst hn
    exact (goesN X (I.ok.hd calm) its.toArray).stops s _ E ⟨en, ti, tup⟩ fun h' tk keep _ => I.turnedL keep fpok
  · rintro A i s Q E ⟨⟨old, he⟩, _⟩ q
    exact wpAny_pyIter_enum he q
def iEnumT (K : PySem.W.Frag) (ta : TA) : TI := fun σ H R => ta σ H fun vs H1 => ∃ a xs, vs = [.ref a] ∧ SqT K H1 a xs ∧ R (IteT K a) H1
theorem pi_enumT {X : Cx} {e : Expr} {ta : TA} {p pos tpos : Pos} {elts : List Expr} {kk : Nat} (hg : Gl X "enumerate") (hm : X.mg "enumerate" = none) (ha : PA X [e] ta) (hs : starEach [e] X.env = [(false, eval e X.env)] := by rfl) :
    PI X (.Tuple elts kk tpos) (.Call (.Name "enumerate" p) [e] [] pos) (iEnumT X.K ta) := by
  constructor
  intro pins s σ H R I want
  have args := ha.run pos pins s σ H _ I want
  refine Call_ (ld_blt I hg hm boot_enumerate (PyProof.Rows.callWith_type1 (thn args ?_) hs rfl))
  rintro us s1 ⟨vs, H1, I1, rel, a, xs, rfl, hxs, q⟩
  obtain rfl := Vals.ref1 rel
  obtain ⟨its, vals, tup, _⟩ := I1.tuple hxs
  have below : a < s1.heap.objs.size := tup.lt
  refine enum_call (begins_tuple a its.toArray) tup ?_
  have kept : ∀ b o, s1.heap.get? b = some o → ((s1.heap.push { cls := .type "tuple_iterator", data := .fields #[.ref a, .int 0 0] }).push (enumCell s1.heap.objs.size)).get? b = some o :=
    fun b o z => Heap.get?_push_of_some _ (Heap.get?_push_of_some _ z)
  have made : IsEnum ((s1.heap.push { cls := .type "tuple_iterator", data := .fields #[.ref a, .int 0 0] }).push (enumCell s1.heap.objs.size)) (s1.heap.objs.size + 1) s1.heap.objs.size 0 .none := by
    have z := Heap.get?_push_size (s1.heap.push { cls := .type "tuple_iterator", data := .fields #[.ref a, .int 0 0] }) (o := enumCell s1.heap.objs.size) rfl
    rw [Heap.size_push] at z
    exact z
  refine wpAny_pyIter_enum made ⟨_, [s1.heap.objs.size + 1, s1.heap.objs.size], _, _, H1, rfl, I1.kept (t' := s1.toks) kept, turn_enumT a _ _ (Nat.succ_ne_self _) (Nat.ne_of_gt (Nat.lt_succ_of_lt below)) (Nat.ne_of_lt below),
    ⟨⟨_, made⟩, _, Heap.get?_push_of_some _ (Heap.get?_push_size _ rfl), rfl, rfl⟩, ?_, q⟩
  intro b hb
  have high : s1.heap.objs.size ≤ b := by
    rcases List.mem_cons.mp hb with rfl | hb
    · exact Nat.le_succ _
    · exact Nat.le_of_eq (List.mem_singleton.mp hb).symm
  exact I1.fpOk high (I1.hok.fresh high)
/-! ### < of data at any depth -/
def rLtD (K : PySem.W.Frag) (A : Around) : R2 := fun x y H Q => ∃ d e, Dp K H x d ∧ Dp K H y e ∧ PySem.W.alike d e = true ∧ d ≠ .none ∧ A.units + min d.depth e.depth < cLine ∧ Q (.bl (PySem.W.dataLt d e)) H
theorem op_ltD {X : Cx} : OpR X (compareOp .Lt) (rLtD X.K X.A) := fun pins s σ H x y v u Q I rx ry ⟨d, e, hd, he, same, some_, room, q⟩ =>
  let ⟨_, left⟩ := Dp.reads I d x v hd rx
  let ⟨_, right⟩ := Dp.reads I e y u he ry
  PySem.W.lt_data left right same some_ room ⟨.bl _, H, I, rfl, q⟩
/-- a pair (distance, plan) as data -/
def pd (a : Nat × List Nat) : PyData := .tuple [.int (a.1 : Int), .tuple (a.2.map fun (n : Nat) => .int (n : Int))]
theorem ints_lt : ∀ a b : List Nat, PyProof.Rows.lexLt PyProof.Rows.itemOrd (PySem.W.keyToksAll (a.map fun (n : Nat) => PyData.int (n : Int))) (PySem.W.keyToksAll (b.map fun (n : Nat) => PyData.int (n : Int))) = planLt a b
  | [], [] => rfl
  | [], y :: ys => rfl
  | x :: xs, [] => rfl
  | x :: xs, y :: ys => by
    have ih := ints_lt xs ys
    show PyProof.Rows.lexLt PyProof.Rows.itemOrd (PySem.W.keyToksAll (PyData.int (x : Int) :: xs.map _)) (PySem.W.keyToksAll (PyData.int (y : Int) :: ys.map _)) = if x = y then planLt xs ys else decide (x < y)
    by_cases c : x = y
    · subst c
      rw [if_pos rfl, PySem.W.dataLt_all_yes rfl (by simp [PyData.eqv]), ih]
    · rw [if_neg c, PySem.W.dataLt_all_no rfl (by simp [PyData.eqv]; omega), PySem.W.dataLt_int]
      by_cases d : x < y
      · rw [decide_eq_true d, decide_eq_true (by omega)]
      · rw [decide_eq_false d, decide_eq_false (by omega)]
theorem ints_alike : ∀ a b : List Nat, PySem.W.alikeAll (a.map fun (n : Nat) => PyData.int (n : Int)) (b.map fun (n : Nat) => PyData.int (n : Int)) = true
  | [], _ => by simp [PySem.W.alikeAll]
  | _ :: _, [] => rfl
  | x :: xs, y :: ys => by
    have ih := ints_alike xs ys
    simp only [List.map_cons, PySem.W.alikeAll, PySem.W.alike, ih, Bool.and_self]
theorem pd_alike (a b : Nat × List Nat) : PySem.W.alike (pd a) (pd b) = true := by
  have ih := ints_alike a.2 b.2
  simp [pd, PySem.W.alike, PySem.W.alikeAll, ih]
theorem eqv_ints : ∀ a b : List Nat, PyData.eqvAll (a.map fun (n : Nat) => PyData.int (n : Int)) (b.map fun (n : Nat) => PyData.int (n : Int)) = decide (a = b)
  | [], [] => rfl
  | [], _ :: _ => rfl
  | _ :: _, [] => rfl
  | x :: xs, y :: ys => by
    have ih := eqv_ints xs ys
    simp only [List.map_cons, PyData.eqvAll, PyData.eqv, ih]
    by_cases c : x = y
    · subst c; simp
    · have h1 : ((x : Int) == (y : Int)) = false := by rw [beq_eq_false_iff_ne]; omega
      simp [c, h1]
theorem pd_lt (a b : Nat × List Nat) : PySem.W.dataLt (pd a) (pd b) = pLt a b := by
  unfold pd
  rw [PySem.W.dataLt_tuple]
  unfold pLt
  by_cases c : a.1 = b.1
  · rw [if_pos c, c, PySem.W.dataLt_all_yes rfl (by simp [PyData.eqv])]
    by_cases d : a.2 = b.2
    · rw [d, PySem.W.dataLt_all_yes (by simp only [PySem.W.alike]; exact ints_alike _ _) (by simp only [PyData.eqv]; rw [eqv_ints]; simp), planLt_self]
      rfl
    · rw [PySem.W.dataLt_all_no (by simp only [PySem.W.alike]; exact ints_alike _ _) (by simp only [PyData.eqv]; rw [eqv_ints]; exact decide_eq_false d), PySem.W.dataLt_tuple, ints_lt]
  · rw [if_neg c, PySem.W.dataLt_all_no rfl (by simp [PyData.eqv]; omega), PySem.W.dataLt_int]
    by_cases d : a.1 < b.1
    · rw [decide_eq_true d, decide_eq_true (by omega)]
    · rw [decide_eq_false d, decide_eq_false (by omega)]
theorem ints_depth : ∀ a : List Nat, PyData.depthAll (a.map fun (n : Nat) => PyData.int (n : Int)) ≤ 1
  | [] => Nat.zero_le _
  | x :: xs => Nat.max_le.mpr ⟨Nat.zero_le _, ints_depth xs⟩
theorem pd_depth (a : Nat × List Nat) : (pd a).depth ≤ 8 := by
  have ih := ints_depth a.2
  simp only [pd, PyData.depth, PyData.depthAll]
  omega
end Ice
/-! A dict of one pair whose key is a tuple; min over the values of a dict with tuples for keys. -/
namespace Ice
open PySem PySem.Spec PyProof.Rows L2
/-- {k: v}, k a tuple; the new dict stands empty while both are made -/
def tDispT (tk tv : TE) : TE := fun σ H Q => ∀ p, H p = none → tk σ (L2.upd H p (.dT [])) fun x H1 => tv σ H1 fun y H2 => H2 p = some (.dT []) ∧ ∃ (b : Addr) (k : List Key), x = .ref b ∧ H2 b = some (.tup (k.map kV)) ∧ Q (.ref p) (L2.upd H2 p (.dT [(k, y)]))
theorem pe_dispT {X : Cx} {pos : Pos} {k v : Expr} {tk tv : TE} (hu : X.A.units + 1 < cLine) (hk : PE X k tk) (hv : PE X v tv) : PE X (.Dict [some k] [v] pos) (tDispT tk tv) := by
  constructor
  intro pins s σ H Q I want
  -- the empty dict
  have I0 : Inv X pins σ (L2.upd H s.heap.objs.size (.dT [])) { s with heap := s.heap.push { cls := .type "dict", data := .dict #[] } } :=
    I.laid (t' := s.toks) (fun b u z => Heap.get?_push_of_some _ z) (Nat.le_refl _) (dt_empty s.heap I.big)
  have first := hk.run pins _ σ _ _ I0 (want _ (I.hok.fresh (Nat.le_refl _)))
  refine wpAny_Dict_any rfl rfl (by simp) (by simp) (pairTrees_cons_walk (thn first ?_))
  rintro key s1 ⟨x, H1, I1, rx, q1⟩
  refine thn (hv.run pins s1 σ H1 _ I1 q1) ?_
  rintro val s2 ⟨y, H2, I2, ry, empty, b, ks, rfl, hb, q⟩
  refine pairTrees_nil_walk ?_
  obtain rfl : key = Value.ref b := rx
  -- the one store
  obtain ⟨_, plain, _, none_, dict⟩ := dt_of I2.hok empty
  cases none_
  have room : (tupleKind (mixKind X.prog X.w)).room X.A := show X.A.units < cLine by omega
  refine wpAny_storeAllH room [(.ref b, val)] [(ks, b, val)] [] s2 _ ⟨rfl, rfl, key_of I2.hok hb, trivial⟩ dict (show 0 + 1 ≤ sizeLine by decide) ?_
  rintro h' tk' ⟨ob, es, ep, at_, h2, h3, h4, _, h5⟩ but
  refine ⟨.ref s.heap.objs.size, L2.upd H2 s.heap.objs.size (.dT [(ks, y)]), ?_, rfl, q⟩
  have tups : ∀ c ys, H2 c = some (.tup ys) → (L2.upd H2 s.heap.objs.size (.dT [(ks, y)])) c = some (.tup ys) := fun c ys z => by
    rw [upd_ne (ne_of z empty (by intro w; cases w))]; exact z
  exact d_write I2 (show Mut (H2 _) by rw [empty]; trivial) but ⟨ob, at_⟩ ⟨(by show 1 ≤ sizeLine; decide), plain, _, (KT.put (kvs := []) (xs := []) .nil ks hb ry).keeps tups, ob, es, ep, at_, h2, h3, h4, h5⟩
theorem argBest_pLt (f : Nat → Nat × List Nat) : ∀ k, argBest (fun i j => pLt (f i) (f j)) k ≤ k ∧ ∀ j, j ≤ k → pLt (f j) (f (argBest (fun i j => pLt (f i) (f j)) k)) = false
  | 0 => ⟨Nat.le_refl _, fun j hj => by
    have : j = 0 := by omega
    subst this
    exact pLt_self _⟩
  | k + 1 => by
    obtain ⟨h1, h2⟩ := argBest_pLt f k
    by_cases c : pLt (f (k + 1)) (f (argBest (fun i j => pLt (f i) (f j)) k)) = true
    · have e : argBest (fun i j => pLt (f i) (f j)) (k + 1) = k + 1 := if_pos c
      rw [e]
      refine ⟨Nat.le_refl _, fun j hj => ?_⟩
      by_cases d : j = k + 1
      · subst d; exact pLt_self _
      · exact pLt_trans (pLt_asymm c) (h2 j (by omega))
    · have e : argBest (fun i j => pLt (f i) (f j)) (k + 1) = argBest (fun i j => pLt (f i) (f j)) k := if_neg c
      rw [e]
      refine ⟨by omega, fun j hj => ?_⟩
      by_cases d : j = k + 1
      · subst d; simpa using c
      · exact h2 j (by omega)
/-! ### d.values() as a thing that stands, and min over it -/
def valsO (p a : Addr) : HO := .ext fun h => h.IsValuesView p a
def rVals : V → List V → Hp → VK → Prop := fun x xs H Q => ∃ (a : Addr) (kvs : List (List Key × V)), x = .ref a ∧ xs = [] ∧ H a = some (.dT kvs) ∧ ∀ p, H p = none → Q (.ref p) (L2.upd H p (valsO p a))
theorem mt_valsT {X : Cx} : MtR X "dict.values" rVals := by
  rintro pins s σ H _ _ v us Q I rx rxs ⟨a, kvs, rfl, rfl, ha, q⟩
  cases rx; cases rxs
  obtain ⟨_, plain, xs, _, dict⟩ := dt_of I.hok ha
  obtain ⟨es, ep, raw, _, _⟩ := dict.raw
  have view : (s.heap.push { cls := .type "dict_values", data := .fields #[.ref a] }).IsValuesView s.heap.objs.size a := ⟨_, Heap.get?_push_size _ rfl, rfl, rfl⟩
  have there : ObjOk X.prog X.w (L2.upd H s.heap.objs.size (valsO s.heap.objs.size a)) (s.heap.push { cls := .type "dict_values", data := .fields #[.ref a] }) s.heap.objs.size (valsO s.heap.objs.size a) :=
    ⟨view, let ⟨o, ho, _⟩ := view; ⟨o, ho⟩, fun _ _ ⟨o, ho, rest⟩ keep => ⟨o, keep o ho, rest⟩⟩
  exact call_meetsIn F.slot_dict_values raw.typeIs F.entry_dict_values (F.args_dict_values_1 _) (meets_dict_values_raw a plain)
    ⟨⟨es, ep, raw⟩, ⟨.ref _, _, I.laid (t' := s.toks) (fun _ _ z => Heap.get?_push_of_some _ z) (Nat.le_refl _) there, rfl, q _ (I.hok.fresh (Nat.le_refl _))⟩⟩
theorem kt_val {H : Hp} : ∀ {kvs : List (List Key × V)} {xs : List (List Key × Addr × Value)}, KT H kvs xs → ∀ (i : Nat) (y : List Key × Addr × Value), xs[i]? = some y → ∃ e, kvs[i]? = some e ∧ RelV e.2 y.2.2
  | _, _, .nil, _, _, z => by simp at z
  | p :: _, _, .cons r _, 0, _, z => ⟨p, rfl, Option.some.inj z ▸ r.2.2⟩
  | _, _, .cons _ t, i + 1, y, z => kt_val t i y z
/-- min(v), v the values of a dict with tuples for keys, each a pair (a number, a tuple of numbers) -/
def rMinT (K : PySem.W.Frag) : List V → Hp → VK → Prop := fun vs H Q => ∃ (p a : Addr) (kvs : List (List Key × V)) (cs : List (Nat × List Nat)), vs = [V.ref p] ∧ H p = some (valsO p a) ∧ H a = some (.dT kvs) ∧ cs.length = kvs.length ∧ cs ≠ [] ∧
  (∀ (i : Nat) (e : List Key × V) (c : Nat × List Nat), kvs[i]? = some e → cs[i]? = some c → Dp K H e.2 (pd c)) ∧
  ∀ (i : Nat) (e : List Key × V) (c : Nat × List Nat), kvs[i]? = some e → cs[i]? = some c → (∀ d ∈ cs, pLt d c = false) → Q e.2 H
theorem cr_minT {X : Cx} (hu : X.A.units + 64 < cLine) (calm : X.calm = true) : CallR X (.builtin "min") (rMinT X.K) := by
  rintro pins s σ H _ us Q I rel ⟨p, a, kvs, cs, rfl, hp, ha, hl, hne, data, q⟩
  obtain rfl := Vals.ref1 rel
  obtain ⟨view, _, _⟩ := (show ObjOk X.prog X.w H s.heap p (valsO p a) from I.hok p _ hp)
  obtain ⟨_, _, xs, kt, dict⟩ := dt_of I.hok ha
  obtain ⟨es, ep, raw, hes, entries⟩ := dict.raw
  have hx : kvs.length = xs.length := Paired.length kt
  have pos : 0 < cs.length := List.length_pos_iff.mpr hne
  -- each entry's value, and its pair
  have each : ∀ (i : Nat) (v : Value), (∃ lt : i < es.size, v = es[i].val) → ∃ e, kvs[i]? = some e ∧ RelV e.2 v ∧ cs[i]? = some (cs.getD i (0, [])) := by
    rintro i _ ⟨lt, rfl⟩
    obtain ⟨y, hy, _, ev, _⟩ := entries i lt
    obtain ⟨e, he, re⟩ := kt_val kt i y hy
    refine ⟨e, he, ev ▸ re, ?_⟩
    rw [List.getD_eq_getElem?_getD, List.getElem?_eq_getElem (by omega)]
    rfl
  have reads : ∀ (i : Nat) (v : Value), (∃ lt : i < es.size, v = es[i].val) → ∃ as, Reads s.heap v (pd (cs.getD i (0, []))) as := fun i v h =>
    let ⟨e, he, re, hc⟩ := each i v h
    Dp.reads I _ _ _ (data i e _ he hc) re
  have old : a ≠ s.heap.objs.size := let ⟨_, z, _⟩ := raw; Nat.ne_of_lt (Heap.lt_size z)
  refine call_min_walkH (wpAny_pyIter_values_raw view raw ?_)
  refine ⟨s.heap.objs.size, [s.heap.objs.size, a], [s.heap.objs.size], _, es.size, _, _, s.heap, fun i j => pLt (cs.getD i (0, [])) (cs.getD j (0, [])), rfl, (Walks.rawValues (A := X.A.in1) (I.ok.hd calm) s.heap.objs.size a old es ep).toS,
    ⟨⟨_, Heap.get?_push_size _ rfl, rfl, rfl⟩, raw.at fun _ z => Heap.get?_push_of_some _ z⟩, ?_, by omega, ?_, fun _ _ z => Heap.get?_push_of_some _ z, ?_, ?_⟩
  · intro b hb
    show b < (s.heap.push _).objs.size
    rw [Heap.size_push]
    simp only [List.mem_cons, List.not_mem_nil, or_false] at hb
    obtain ⟨_, z, _⟩ := raw
    have := Heap.lt_size z
    rcases hb with rfl | rfl
    · exact Nat.lt_succ_self _
    · exact Nat.lt_succ_of_lt this
  · intro b o z hb
    have := Heap.lt_size z
    rw [List.mem_singleton.mp hb] at this
    exact Nat.lt_irrefl _ this
  · intro i j vi vj s' Q' E' keep hi hj hq
    obtain ⟨_, ri⟩ := reads i vi hi
    obtain ⟨_, rj⟩ := reads j vj hj
    have small : min (pd (cs.getD i (0, []))).depth (pd (cs.getD j (0, []))).depth ≤ 8 := Nat.le_trans (Nat.min_le_left _ _) (pd_depth _)
    have answer : Q' (Value.bool (W.dataLt (pd (cs.getD i (0, []))) (pd (cs.getD j (0, []))))) s' := by rw [pd_lt]; exact hq
    exact PySem.W.rcLt_alike _ _ X.A.in1 s' vi vj _ _ (PySem.W.reads_keeps keep ri) (PySem.W.reads_keeps keep rj) (pd_alike _ _) (by unfold pd; intro z; cases z) (show X.A.units + 1 + _ < cLine by omega) X.prog X.w E' Q' answer
  · intro v s' chosen moved
    obtain ⟨e, he, re, hc⟩ := each _ v chosen
    obtain ⟨_, least⟩ := argBest_pLt (fun i => cs.getD i (0, [])) (es.size - 1)
    obtain ⟨h', tk, rfl, kept⟩ := PySem.W.moved_old rfl rfl moved
    refine ⟨e.2, H, I.kept (t' := tk) kept, re, q _ e _ he hc fun d hd => ?_⟩
    obtain ⟨j, hj, rfl⟩ := List.getElem_of_mem hd
    have := least j (by omega)
    rw [List.getD_eq_getElem?_getD, List.getElem?_eq_getElem hj] at this
    exact this
end Ice
/-! The text by places, lists of numbers in the heap, two rules that the layer lacks. -/
namespace Ice
open PySem PySem.Spec PyProof.Rows L2

/-- the i-th statement of the program -/
def top (i : Nat) : Stmt := PySem.Challenge.pw_iceline_s01_answers.main.body.getD i (.Pass ⟨0, 0, 0, 0⟩)

/-! ### lists of numbers as values -/
def nV (l : List Nat) : List V := l.map fun (n : Nat) => V.int (n : Int)
theorem nV_length (l : List Nat) : (nV l).length = l.length := List.length_map _
theorem nV_get {l : List Nat} {i : Nat} {x : V} (h : (nV l)[i]? = some x) : ∃ n, l[i]? = some n ∧ x = V.int (n : Int) := by
  unfold nV at h
  rw [List.getElem?_map] at h
  cases e : l[i]? with
  | none => rw [e] at h; cases h
  | some n =>
    rw [e] at h
    exact ⟨n, rfl, (Option.some.inj h).symm⟩
theorem nV_at {l : List Nat} {i : Nat} (h : i < l.length) : (nV l)[i]? = some (V.int (l.getD i 0 : Nat)) := by
  unfold nV
  rw [List.getElem?_map, List.getD_eq_getElem?_getD, List.getElem?_eq_getElem h]
  rfl
theorem nV_app (l m : List Nat) : nV (l ++ m) = nV l ++ nV m := List.map_append
theorem nV_set (l : List Nat) (i n : Nat) : (nV l).set i (.int (n : Int)) = nV (l.set i n) := by
  unfold nV
  rw [List.map_set]
theorem nV_ints (l : List Nat) : nV l = (l.map fun (n : Nat) => (n : Int)).map V.int := by
  unfold nV
  rw [List.map_map]
  rfl
theorem same_upd {H : Hp} {p : Addr} {o : HO} (h : H p = none) : Same H (upd H p o) := fun b x e => by
  rw [upd_ne (ne_of_none e h)]
  exact e
theorem getD_of {l : List Nat} {i n : Nat} (h : l[i]? = some n) : l.getD i 0 = n := by
  rw [List.getD_eq_getElem?_getD, h]; rfl
theorem lt_of_get {α : Type} {l : List α} {i : Nat} {n : α} (h : l[i]? = some n) : i < l.length := by
  obtain ⟨h, _⟩ := List.getElem?_eq_some_iff.mp h
  exact h
end Ice
/-! iceline.distance -/
namespace Ice
open PySem PySem.Spec PyProof.Rows L2
abbrev sMoved : Stmt := top 1
theorem scMoved : FnScope ["before", "after", "old", "new"] ["before", "after"] (defScope sMoved) := ⟨rfl, rfl, rfl, by decide +kernel, rfl, by decide +kernel, by decide +kernel⟩
/-- the distances, one by one, as whole numbers -/
def dists : List Nat → List Nat → List Int
  | a :: l, b :: m => (Km559.distance a b : Int) :: dists l m
  | _, _ => []
theorem dists_sum : ∀ l m : List Nat, (dists l m).sum = (shift l m : Int)
  | a :: l, b :: m => by
    show ((Km559.distance a b : Int) :: dists l m).sum = ((Km559.distance a b + shift l m : Nat) : Int)
    rw [List.sum_cons, dists_sum l m]
    omega
  | [], _ => by simp [dists, shift]
  | _ :: _, [] => by simp [dists, shift]
theorem dists_len : ∀ l m : List Nat, (dists l m).length = min l.length m.length
  | a :: l, b :: m => by simp [dists, dists_len l m]
  | [], _ => by simp [dists]
  | _ :: _, [] => by simp [dists]
theorem dists_get : ∀ {l m : List Nat} {i x y : Nat}, l[i]? = some x → m[i]? = some y → (dists l m)[i]? = some (Km559.distance x y : Int)
  | a :: l, b :: m, 0, x, y, h, h2 => by
    have e1 : a = x := Option.some.inj h
    have e2 : b = y := Option.some.inj h2
    subst e1; subst e2; rfl
  | a :: l, b :: m, i + 1, x, y, h, h2 => dists_get (l := l) (m := m) (i := i) h h2
  | [], _, _, _, _, h, _ => by simp at h
  | _ :: _, [], _, _, _, _, h => by simp at h
theorem abs_dist (x y : Nat) : (if (x : Int) - (y : Int) < 0 then -((x : Int) - (y : Int)) else (x : Int) - (y : Int)) = (Km559.distance x y : Int) := by
  unfold Km559.distance
  split <;> omega
theorem take_dists {l : List Int} {i : Nat} {z : Int} (h : l[i]? = some z) : l.take (i + 1) = l.take i ++ [z] := by
  rw [List.take_add_one, h]; rfl
section
variable {P : Program} {w : World} {K : PySem.W.Frag} {mg : Str → Option Value} {base : Heap}
def spMoved (K : PySem.W.Frag) : Sp := fun vs H Q _ => ∃ (a b : Addr) (l m : List Nat), vs = [.ref a, .ref b] ∧ SqL K H a (nV l) ∧ SqL K H b (nV m) ∧ l.length ≤ 1000 ∧
  ∀ H', Same H H' → Q (.int (shift l m : Nat)) H'
theorem ok_moved {f : Addr} {fd : FuncData} {k : Nat} (F : Fun K "moved_between" "moved_between" sMoved f fd) (mS : mg "sum" = none) (mA : mg "abs" = none) (mZ : mg "zip" = none) : FnOk P w K mg base CX0 (k + 1) f fd ["before", "after"] (spMoved K) := by
  refine F.ok scMoved (fun vs H Q E h => ?_) (fun cdv A outer s H vs Q E hr h => ?_)
  · obtain ⟨a, b, l, m, rfl, _⟩ := h
    rfl
  · obtain ⟨a, b, l, m, rfl, hA, hB, hlen, q⟩ := h
    refine ⟨_, pss_one (ps_ret (pe_callB (cr_sum rfl) (by rfl) mS (by decide +kernel) (pa_cons
      (pe_lc (own := [("old", 2), ("new", 3)]) (g := gTup K 2 (gCons (gName 2) (gCons (gName 3) gNil))) rfl scMoved.nd (pi_zip (by rfl) mZ (pa_cons (pv 0) (pa_cons (pv 1) pa_nil)))
        (blkOk_by (N := ["before", "after", "old", "new"]) (sc := defScope sMoved) (by decide +kernel))
        (fun _ _ _ _ _ => pg_tup rfl (pgs_cons (pg_name (i := 2) scMoved.nd rfl (Or.inl rfl) (Or.inr rfl)) (pgs_cons (pg_name (i := 3) scMoved.nd rfl (Or.inl rfl) (Or.inr rfl)) pgs_nil)))
        (fun _ _ _ _ _ => pts_nil)
        (fun _ _ _ _ _ => pe_callB call_abs (by rfl) mA (by decide +kernel) (pa_cons (pe_op op_sub (pv 2) (pv 3)) pa_nil)))
      pa_nil))), ?_⟩
    refine ⟨.ref a, rfl, .ref b, rfl, a, b, nV l, nV m, rfl, hA, hB, fun D nD => ?_⟩
    have s1 : Same H (upd H D (.lst [])) := same_upd nD
    refine lc_it (walk_zip (n := min l.length m.length) (by rw [nV_length, nV_length])) (fun i H' => Same H H' ∧ H' D = some (.lst (((dists l m).take i).map V.int))) ⟨s1, upd_same⟩ (fun i H' _ p => ⟨p.1.seq hA, p.1.seq hB⟩) ?_ ?_
    · rintro i x H' H'' hi ⟨sm, hD⟩ ⟨T, x1, x2, rfl, nT, rfl, g1, g2⟩
      obtain ⟨n1, e1, rfl⟩ := nV_get g1
      obtain ⟨n2, e2, rfl⟩ := nV_get g2
      refine ⟨T, _, rfl, .inl (.inl upd_same), rfl, _, _, rfl, _, [], rfl, rfl, ?_⟩
      have ed := dists_get e1 e2
      have nTD : D ≠ T := ne_of_none hD nT
      refine ⟨rfl, ?_⟩
      refine ⟨_, rfl, _, rfl, _, _, rfl, rfl, _, rfl, _, by rw [upd_ne nTD]; exact hD, ?_, ?_, ?_⟩
      · rw [List.length_map, List.length_take, dists_len]
        exact small1000 (by omega)
      · intro c o e
        have nc : c ≠ D := ne_of_none e nD
        rw [upd_ne nc]
        exact same_upd nT _ _ (sm _ _ e)
      · rw [upd_same, take_dists ed, List.map_append, abs_dist]
        rfl
    · rintro H' ⟨sm, hD⟩
      rw [List.take_of_length_le (by rw [dists_len]; exact Nat.le_refl _)] at hD
      refine ⟨D, _, rfl, .inl (.inl hD), ?_⟩
      rw [dists_sum]
      exact q H' sm
end
end Ice
/-! iceline.distance, the course -/
namespace Ice
open PySem PySem.Spec PyProof.Rows L2
/-- a list of lists of numbers: the addresses of the rows, and what each row is -/
structure Rows (H : Hp) (as : List Addr) (ls : List (List Nat)) : Prop where
  len : as.length = ls.length
  at_ : ∀ (i : Nat) (p : Addr) (l : List Nat), as[i]? = some p → ls[i]? = some l → H p = some (.lst (nV l))
theorem Rows.same {H H' : Hp} {as : List Addr} {ls : List (List Nat)} (r : Rows H as ls) (s : Same H H') : Rows H' as ls :=
  ⟨r.len, fun i p l a b => s _ _ (r.at_ i p l a b)⟩
def rV (as : List Addr) : List V := as.map V.ref
theorem rV_get {l : List Addr} {i : Nat} {p : Addr} (h : l[i]? = some p) : (rV l)[i]? = some (V.ref p) := by
  unfold rV
  rw [List.getElem?_map, h]; rfl
/-- the distance of a course -/
def courseDist : List (List Nat) → Nat
  | a :: b :: r => shift a b + courseDist (b :: r)
  | _ => 0
def zsum (l : List Nat) : Int := (l.map fun (n : Nat) => (n : Int)).sum
theorem courseSteps_sum : ∀ ls : List (List Nat), (zsum (courseSteps ls)) = (courseDist ls : Int)
  | [] => rfl
  | [_] => rfl
  | x :: y :: r => by
    have ih := courseSteps_sum (y :: r)
    show (shift x y : Int) + zsum (courseSteps (y :: r)) = ((shift x y + courseDist (y :: r) : Nat) : Int)
    rw [ih]; omega
theorem steps_take : ∀ (ls : List (List Nat)) (i : Nat) (a b : List Nat), ls[i]? = some a → ls[i + 1]? = some b → courseSteps (ls.take (i + 2)) = courseSteps (ls.take (i + 1)) ++ [shift a b]
  | [], _, _, _, h, _ => by simp at h
  | [_], _, _, _, _, h => by simp at h
  | x :: y :: r, 0, a, b, h, h2 => by
    have e1 : x = a := Option.some.inj h
    have e2 : y = b := Option.some.inj h2
    subst e1; subst e2
    simp [courseSteps]
  | x :: y :: r, i + 1, a, b, h, h2 => by
    have ih := steps_take (y :: r) i a b h h2
    show shift x y :: courseSteps ((y :: r).take (i + 2)) = shift x y :: courseSteps ((y :: r).take (i + 1)) ++ [shift a b]
    rw [ih]; rfl
theorem steps_len : ∀ ls : List (List Nat), (courseSteps ls).length ≤ ls.length
  | [] => Nat.le_refl _
  | [_] => Nat.zero_le _
  | x :: y :: r => by
    have ih := steps_len (y :: r)
    show (courseSteps (y :: r)).length + 1 ≤ (y :: r).length + 1
    omega
/-! the spread -/
def below (ps : List Nat) (j n : Nat) : Nat := (List.range n).foldl (fun total i => total + Km559.distance (ps.getD i 0) (ps.getD j 0)) 0
def pairsUp (ps : List Nat) (n : Nat) : Nat := (List.range n).foldl (fun total j => total + below ps j j) 0
theorem below_succ (ps : List Nat) (j n : Nat) : below ps j (n + 1) = below ps j n + Km559.distance (ps.getD n 0) (ps.getD j 0) := range_fold _ _ _
theorem pairsUp_succ (ps : List Nat) (n : Nat) : pairsUp ps (n + 1) = pairsUp ps n + below ps n n := range_fold _ _ _
theorem pairsUp_all (ps : List Nat) : pairsUp ps ps.length = Km559.spread ps := (spread_is ps).symm
theorem cut_to {l : List Nat} {j : Nat} (hj : j ≤ l.length) : cutV (nV l) none (some (j : Int)) = nV (l.take j) := by
  unfold cutV
  rw [HT.sIx_nat, nV_length, Nat.min_eq_left hj]
  unfold nV
  show ((l.map _).drop 0).take (j - 0) = _
  rw [List.drop_zero, Nat.sub_zero, List.map_take]
abbrev sCds : Stmt := top 2
abbrev sCourse : Stmt := top 3
abbrev sPair : Stmt := top 4
theorem scCds : FnScope ["course", "place"] ["course"] (defScope sCds) := ⟨rfl, rfl, rfl, by decide +kernel, rfl, by decide +kernel, by decide +kernel⟩
theorem scCourse : FnScope ["course"] ["course"] (defScope sCourse) := ⟨rfl, rfl, rfl, by decide +kernel, rfl, by decide +kernel, by decide +kernel⟩
theorem scPair : FnScope ["positions", "total", "place", "position", "other"] ["positions"] (defScope sPair) := ⟨rfl, rfl, rfl, by decide +kernel, rfl, by decide +kernel, by decide +kernel⟩
/-- hands back a new list of numbers -/
def NewL (H : Hp) (r : List Nat) (Q : VK) : Prop := ∀ H' p, Same H H' → H p = none → H' p = some (.lst (nV r)) → Q (.ref p) H'
section
variable {P : Program} {w : World} {K : PySem.W.Frag} {mg : Str → Option Value} {base : Heap}
def spCds (K : PySem.W.Frag) : Sp := fun vs H Q _ => ∃ (a : Addr) (as : List Addr) (ls : List (List Nat)), vs = [.ref a] ∧ SqL K H a (rV as) ∧ Rows H as ls ∧ ls.length ≤ 900 ∧ (∀ l ∈ ls, l.length ≤ 1000) ∧ NewL H (courseSteps ls) Q
theorem ok_cds {f fM : Addr} {fd fdM : FuncData} {k : Nat} (F : Fun K "course_distances" "course_distances" sCds f fd) (mL : mg "len" = none) (mR : mg "range" = none)
    (GM : FnOk P w K mg base CX0 k fM fdM ["before", "after"] (spMoved K)) (bM : Binds K fdM ["before", "after"] []) (kM : PySem.W.keepIn K (.ref fM) = true) (gM : mg "moved_between" = some (.ref fM)) : FnOk P w K mg base CX0 (k + 1) f fd ["course"] (spCds K) := by
  refine F.ok scCds (fun vs H Q E h => ?_) (fun cdv A outer s H vs Q E hr h => ?_)
  · obtain ⟨a, as, ls, rfl, _⟩ := h
    rfl
  · obtain ⟨a, as, ls, rfl, hA, rows, hlen, hw, q⟩ := h
    refine ⟨_, pss_one (ps_ret (pe_lc (own := [("place", 1)]) (g := gName 1) rfl scCds.nd (pi_range2 (by rfl) mR (pa_cons pe_int (pa_cons (pe_callB call_len_seq (by rfl) mL PySem.boot_len (pa_cons (pv 0) pa_nil)) pa_nil)))
        (blkOk_by (N := ["course", "place"]) (sc := defScope sCds) (by decide +kernel))
        (fun _ _ _ _ _ => pg_name (i := 1) scCds.nd rfl (Or.inl rfl) (Or.inr rfl))
        (fun _ _ _ _ _ => pts_nil)
        (fun _ _ _ _ _ => pe_call GM hr (by rfl) gM kM bM .nil pass0 (pa_cons (pe_ix (r := rIxL K) ix_list (pv 0) (pe_op op_sub (pv 1) pe_int) (fun _ _ => rfl)) (pa_cons (pe_ix (r := rIxL K) ix_list (pv 0) (pv 1) (fun _ _ => rfl)) pa_nil))))), ?_⟩
    have hlr : (rV as).length = ls.length := by rw [rV, List.length_map, rows.len]
    refine ⟨.ref a, rfl, a, rV as, rfl, .inl hA, 1, _, rfl, by rw [hlr]; omega, ?_⟩
    rw [show (((rV as).length : Int) - 1).toNat = ls.length - 1 by rw [hlr]; omega]
    intro D nD
    have s1 : Same H (L2.upd H D (.lst [])) := same_upd nD
    refine lc_it (walk_range (lo := 1) (n := ls.length - 1)) (fun i H' => Same H H' ∧ H' D = some (.lst (nV (courseSteps (ls.take (i + 1)))))) ⟨s1, ?_⟩ (fun _ _ _ _ => trivial) ?_ ?_
    · rw [upd_same]
      cases ls with
      | nil => rfl
      | cons x r => cases r <;> rfl
    · rintro i x H' H'' hi ⟨sm, hD⟩ ⟨rfl, rfl⟩
      have h1 : i < as.length := by rw [rows.len]; omega
      have h2 : i + 1 < as.length := by rw [rows.len]; omega
      have h1' : i < ls.length := by omega
      have h2' : i + 1 < ls.length := by omega
      have e1 := List.getElem?_eq_getElem h1
      have e2 := List.getElem?_eq_getElem h2
      have f1 := List.getElem?_eq_getElem h1'
      have f2 := List.getElem?_eq_getElem h2'
      have hA' := sm.seq hA
      have rows' := rows.same sm
      refine ⟨rfl, ?_⟩
      refine ⟨.ref a, rfl, _, rfl, _, _, rfl, rfl, a, _, _, .ref as[i], rfl, rfl, hA', at_of (j := i) (by omega) (rV_get e1), .ref a, rfl, _, rfl, a, _, _, .ref as[i + 1], rfl, rfl, hA', at_of (j := i + 1) (by omega) (rV_get e2), ?_⟩
      refine ⟨as[i], as[i + 1], ls[i], ls[i + 1], rfl, SqL.of (rows'.at_ i _ _ e1 f1), SqL.of (rows'.at_ (i + 1) _ _ e2 f2), hw _ (List.getElem_mem h1'), fun H3 sm2 => ?_⟩
      have hD3 := sm2 _ _ hD
      refine ⟨_, hD3, ?_, ?_, ?_⟩
      · rw [nV_length]
        have := steps_len (ls.take (i + 1))
        rw [List.length_take] at this
        exact small1000 (by omega)
      · intro b o e
        have nb : b ≠ D := ne_of_none e nD
        rw [upd_ne nb]
        exact sm2 _ _ (sm _ _ e)
      · rw [upd_same, show i + 1 + 1 = i + 2 from rfl, steps_take ls i _ _ f1 f2, nV_app]
        rfl
    · rintro H' ⟨sm, hD⟩
      rw [List.take_of_length_le (by omega)] at hD
      exact q H' D sm nD hD
def spCourse (K : PySem.W.Frag) : Sp := fun vs H Q _ => ∃ (a : Addr) (as : List Addr) (ls : List (List Nat)), vs = [.ref a] ∧ SqL K H a (rV as) ∧ Rows H as ls ∧ ls.length ≤ 900 ∧ (∀ l ∈ ls, l.length ≤ 1000) ∧
  ∀ H', Same H H' → Q (.int (courseDist ls : Nat)) H'
theorem ok_course {f fM : Addr} {fd fdM : FuncData} {k : Nat} (F : Fun K "course_distance" "course_distance" sCourse f fd) (mS : mg "sum" = none)
    (GM : FnOk P w K mg base CX0 k fM fdM ["course"] (spCds K)) (bM : Binds K fdM ["course"] []) (kM : PySem.W.keepIn K (.ref fM) = true) (gM : mg "course_distances" = some (.ref fM)) : FnOk P w K mg base CX0 (k + 1) f fd ["course"] (spCourse K) := by
  refine F.ok scCourse (fun vs H Q E h => ?_) (fun cdv A outer s H vs Q E hr h => ?_)
  · obtain ⟨a, as, ls, rfl, _⟩ := h
    rfl
  · obtain ⟨a, as, ls, rfl, hA, rows, hlen, hw, q⟩ := h
    refine ⟨_, pss_one (ps_ret (pe_callB (cr_sum rfl) (by rfl) mS (by decide +kernel) (pa_cons (pe_call GM hr (by rfl) gM kM bM .nil pass0 (pa_cons (pv 0) pa_nil)) pa_nil))), ?_⟩
    refine ⟨.ref a, rfl, a, as, ls, rfl, hA, rows, hlen, hw, fun H' p sm np hp => ?_⟩
    rw [nV_ints] at hp
    refine ⟨p, _, rfl, .inl (.inl hp), ?_⟩
    have e := courseSteps_sum ls
    unfold zsum at e
    rw [e]
    exact q H' sm
def spPair (K : PySem.W.Frag) : Sp := fun vs H Q _ => ∃ (a : Addr) (ps : List Nat), vs = [.ref a] ∧ SqL K H a (nV ps) ∧ ∀ H', Same H H' → Q (.int (Km559.spread ps : Nat)) H'
theorem ok_pair {f : Addr} {fd : FuncData} {k : Nat} (F : Fun K "pair_distances" "pair_distances" sPair f fd) (mE : mg "enumerate" = none) (mA : mg "abs" = none) : FnOk P w K mg base CX0 (k + 1) f fd ["positions"] (spPair K) := by
  refine F.ok scPair (fun vs H Q E h => ?_) (fun cdv A outer s H vs Q E hr h => ?_)
  · obtain ⟨a, ps, rfl, _⟩ := h
    rfl
  · obtain ⟨a, ps, rfl, hA, q⟩ := h
    refine ⟨_, pss_cons (ps_set (i := 1) scPair.nd rfl (.inl rfl) pe_int)
      (pss_cons (ps_for PassesOwn.never rfl (pi_enum (by rfl) mE (pa_cons (pv 0) pa_nil)) (pg_tup rfl (pgs_cons (pg_name (i := 2) scPair.nd rfl (Or.inl rfl)) (pgs_cons (pg_name (i := 3) scPair.nd rfl (Or.inl rfl)) pgs_nil)))
        (pss_one (ps_for PassesOwn.never rfl (pi_list (pe_slice sl_list (pv 0) po_none (po_some (pv 2)))) (pg_name (i := 4) scPair.nd rfl (Or.inl rfl))
          (pss_one (ps_aug (i := 1) scPair.nd rfl (Or.inl rfl) (pe_callB call_abs (by rfl) mA (by decide +kernel) (pa_cons (pe_op op_sub (pv 3) (pv 4)) pa_nil)) ip_add)))))
      (pss_one (ps_ret (pv 1)))), ?_⟩
    refine ⟨.ref a, rfl, a, nV ps, rfl, hA, ?_⟩
    refine for_it walk_enum (fun i σ H' => ∃ v2 v3 v4, σ = [some (.ref a), some (.int (pairsUp ps i : Nat)), v2, v3, v4] ∧ Same H H') ⟨none, none, none, rfl, Same.refl H⟩ (fun i σ H' _ ⟨_, _, _, _, sm⟩ => sm.seq hA) ?_ ?_
    · rintro j x σ H' H'' hj ⟨v2, v3, v4, rfl, sm⟩ ⟨T, x1, x2, rfl, nT, rfl, g1, g2⟩
      obtain rfl := Option.some.inj g1
      obtain ⟨n2, e2, rfl⟩ := nV_get g2
      have sm2 : Same H (L2.upd H' T (.tup [V.int (j : Int), V.int (n2 : Int)])) := sm.trans (same_upd nT)
      have hjl := lt_of_get e2
      have hn : ps.getD j 0 = n2 := getD_of e2
      refine ⟨T, _, rfl, .inl (.inl upd_same), rfl, _, _, rfl, _, [], rfl, rfl, ?_⟩
      refine ⟨.ref a, rfl, _, rfl, (j : Int), rfl, a, _, rfl, sm2.seq hA, fun g ng => ?_⟩
      rw [cut_to (by omega)]
      have sm3 := sm2.trans (same_upd (o := .lst (nV (ps.take j))) ng)
      refine ⟨g, rfl, ⟨_, SqL.of upd_same⟩, for_list (K := K) (a := g) (xs := nV (ps.take j)) (fun i σ H' => ∃ v4, σ = [some (.ref a), some (.int ((pairsUp ps j + below ps j i : Nat) : Int)), some (.int (j : Int)), some (.int (n2 : Int)), v4] ∧ Same H H' ∧ H' g = some (.lst (nV (ps.take j)))) ?_ ?_ ?_ ?_⟩
      · exact ⟨_, rfl, sm3, upd_same⟩
      · rintro i σ H' _ ⟨_, _, _, hg⟩
        exact SqL.of hg
      · rintro i x σ H3 hi ⟨v, rfl, sm4, hg⟩
        obtain ⟨t, et, rfl⟩ := nV_get hi
        have hij : i < (ps.take j).length := lt_of_get et
        rw [List.length_take] at hij
        rw [List.getElem?_take, if_pos (by omega)] at et
        have ht : ps.getD i 0 = t := getD_of et
        refine ⟨_, rfl, _, rfl, _, rfl, _, _, rfl, rfl, _, rfl, _, _, rfl, rfl, some (.int (t : Int)), ?_, sm4, hg⟩
        rw [below_succ, hn, ht, abs_dist, dist_comm t n2, show (((pairsUp ps j + (below ps j i + Km559.distance n2 t) : Nat)) : Int) = ((pairsUp ps j + below ps j i : Nat) : Int) + (Km559.distance n2 t : Int) by omega]
        rfl
      · rintro σ H3 ⟨v, rfl, sm4, hg⟩
        rw [nV_length, List.length_take, Nat.min_eq_left (by omega)]
        refine ⟨some (.int (j : Int)), some (.int (n2 : Int)), v, ?_, sm4⟩
        rw [pairsUp_succ]
    · rintro σ H' ⟨v2, v3, v4, rfl, sm⟩
      refine ⟨_, rfl, ?_⟩
      rw [nV_length, pairsUp_all]
      exact q H' sm
end
end Ice
/-! iceline.double_coverage -/
namespace Ice
open PySem PySem.Spec PyProof.Rows L2
/-! ### the mathematics -/
def leftUp (ps : List Nat) (t : Nat) (n : Nat) : Option Nat := (List.range n).foldl (fun (best : Option Nat) (i : Nat) =>
  if ps.getD i 0 < t then (match best with
    | none => some i
    | some j => if ps.getD j 0 < ps.getD i 0 then some i else some j) else best) none
def rightUp (ps : List Nat) (t : Nat) (n : Nat) : Option Nat := (List.range n).foldl (fun (best : Option Nat) (i : Nat) =>
  if t < ps.getD i 0 then (match best with
    | none => some i
    | some j => if ps.getD i 0 < ps.getD j 0 then some i else some j) else best) none
theorem leftUp_succ (ps : List Nat) (t n : Nat) : leftUp ps t (n + 1) = if ps.getD n 0 < t then (match leftUp ps t n with
    | none => some n
    | some j => if ps.getD j 0 < ps.getD n 0 then some n else some j) else leftUp ps t n := range_fold _ _ _
theorem rightUp_succ (ps : List Nat) (t n : Nat) : rightUp ps t (n + 1) = if t < ps.getD n 0 then (match rightUp ps t n with
    | none => some n
    | some j => if ps.getD n 0 < ps.getD j 0 then some n else some j) else rightUp ps t n := range_fold _ _ _
theorem leftUp_lt (ps : List Nat) (t : Nat) : ∀ n j, leftUp ps t n = some j → j < n ∧ ps.getD j 0 < t
  | 0, j, h => by simp [leftUp] at h
  | n + 1, j, h => by
    rw [leftUp_succ] at h
    have ih := leftUp_lt ps t n
    split at h
    · next c =>
      split at h
      · obtain rfl := Option.some.inj h; exact ⟨by omega, c⟩
      · next k e =>
        split at h
        · obtain rfl := Option.some.inj h; exact ⟨by omega, c⟩
        · obtain rfl := Option.some.inj h
          have := ih _ e
          exact ⟨by omega, this.2⟩
    · have := ih j h
      exact ⟨by omega, this.2⟩
theorem rightUp_lt (ps : List Nat) (t : Nat) : ∀ n j, rightUp ps t n = some j → j < n ∧ t < ps.getD j 0
  | 0, j, h => by simp [rightUp] at h
  | n + 1, j, h => by
    rw [rightUp_succ] at h
    have ih := rightUp_lt ps t n
    split at h
    · next c =>
      split at h
      · obtain rfl := Option.some.inj h; exact ⟨by omega, c⟩
      · next k e =>
        split at h
        · obtain rfl := Option.some.inj h; exact ⟨by omega, c⟩
        · obtain rfl := Option.some.inj h
          have := ih _ e
          exact ⟨by omega, this.2⟩
    · have := ih j h
      exact ⟨by omega, this.2⟩
theorem left_same {ps : List Nat} {t : Nat} (h : t ∉ ps) : leftUp ps t ps.length = Km559.leftNeighbour ps t := by
  have key : ∀ n, n ≤ ps.length → leftUp ps t n = (List.range n).foldl (fun (best : Option Nat) (i : Nat) =>
    if ps.getD i 0 ≤ t then (match best with
      | none => some i
      | some j => if ps.getD j 0 < ps.getD i 0 then some i else some j) else best) none := by
    intro n
    induction n with
    | zero => intro _; rfl
    | succ n ih =>
      intro hn
      rw [leftUp_succ, range_fold, ← ih (by omega)]
      have hne : ps.getD n 0 ≠ t := fun e => h (by rw [← e]; exact mem_getD (by omega))
      by_cases c : ps.getD n 0 < t
      · rw [if_pos c, if_pos (by omega)]
      · rw [if_neg c, if_neg (by omega)]
  exact key ps.length (Nat.le_refl _)
theorem right_same {ps : List Nat} {t : Nat} (h : t ∉ ps) : rightUp ps t ps.length = Km559.rightNeighbour ps t := by
  have key : ∀ n, n ≤ ps.length → rightUp ps t n = (List.range n).foldl (fun (best : Option Nat) (i : Nat) =>
    if t ≤ ps.getD i 0 then (match best with
      | none => some i
      | some j => if ps.getD i 0 < ps.getD j 0 then some i else some j) else best) none := by
    intro n
    induction n with
    | zero => intro _; rfl
    | succ n ih =>
      intro hn
      rw [rightUp_succ, range_fold, ← ih (by omega)]
      have hne : ps.getD n 0 ≠ t := fun e => h (by rw [← e]; exact mem_getD (by omega))
      by_cases c : t < ps.getD n 0
      · rw [if_pos c, if_pos (by omega)]
      · rw [if_neg c, if_neg (by omega)]
  exact key ps.length (Nat.le_refl _)
theorem ifT {c : Bool} {A B : Prop} (hc : c = true) (h : A) : if c = true then A else B := by
  rw [if_pos hc]
  exact h
theorem ifF {c : Bool} {A B : Prop} (hc : c = false) (h : B) : if c = true then A else B := by
  rw [hc, if_neg Bool.false_ne_true]
  exact h
/-- None, or a place -/
def oV : Option Nat → V
  | none => .non
  | some i => .int (i : Int)
/-! ### the text -/
abbrev sLeft : Stmt := top 6
abbrev sRight : Stmt := top 7
theorem scLeft : FnScope ["positions", "target", "found", "icebreaker", "position"] ["positions", "target"] (defScope sLeft) := ⟨rfl, rfl, rfl, by decide +kernel, rfl, by decide +kernel, by decide +kernel⟩
theorem scRight : FnScope ["positions", "target", "found", "icebreaker", "position"] ["positions", "target"] (defScope sRight) := ⟨rfl, rfl, rfl, by decide +kernel, rfl, by decide +kernel, by decide +kernel⟩
section
variable {P : Program} {w : World} {K : PySem.W.Frag} {mg : Str → Option Value} {base : Heap}
def spLeft (K : PySem.W.Frag) : Sp := fun vs H Q _ => ∃ (a : Addr) (ps : List Nat) (t : Nat), vs = [.ref a, .int (t : Int)] ∧ SqL K H a (nV ps) ∧ ∀ H', Same H H' → Q (oV (leftUp ps t ps.length)) H'
def spRight (K : PySem.W.Frag) : Sp := fun vs H Q _ => ∃ (a : Addr) (ps : List Nat) (t : Nat), vs = [.ref a, .int (t : Int)] ∧ SqL K H a (nV ps) ∧ ∀ H', Same H H' → Q (oV (rightUp ps t ps.length)) H'
theorem ok_left {f : Addr} {fd : FuncData} {k : Nat} (F : Fun K "left_neighbour" "left_neighbour" sLeft f fd) (mE : mg "enumerate" = none) : FnOk P w K mg base CX0 (k + 1) f fd ["positions", "target"] (spLeft K) := by
  refine F.ok scLeft (fun vs H Q E h => ?_) (fun cdv A outer s H vs Q E hr h => ?_)
  · obtain ⟨a, ps, t, rfl, _⟩ := h
    rfl
  · obtain ⟨a, ps, t, rfl, hA, q⟩ := h
    refine ⟨_, pss_cons (ps_set (i := 2) scLeft.nd rfl (.inl rfl) pe_non)
      (pss_cons (ps_for PassesOwn.never rfl (pi_enum (by rfl) mE (pa_cons (pv 0) pa_nil)) (pg_tup rfl (pgs_cons (pg_name (i := 3) scLeft.nd rfl (Or.inl rfl)) (pgs_cons (pg_name (i := 4) scLeft.nd rfl (Or.inl rfl)) pgs_nil)))
        (pss_one (ps_if (PW.pt (pw_and (pt_cmpR op_lt (pv 4) (pv 1) (nomark _)) (pw_and1 (PW.pt (pw_or (pt_cmpR op_isN (pv 2) pe_non (nomark _)) (pw_or1 (pt_cmpR op_gt (pv 4) (pe_ix ix_list (pv 0) (pv 2) (fun _ _ => rfl)) (nomark _))))))))
          (pss_one (ps_set (i := 2) scLeft.nd rfl (.inl rfl) (pv 3))) pss_nil)))
      (pss_one (ps_ret (pv 2)))), ?_⟩
    refine ⟨.ref a, rfl, a, nV ps, rfl, hA, ?_⟩
    refine for_it walk_enum (fun i σ H' => ∃ v v', σ = [some (.ref a), some (.int (t : Int)), some (oV (leftUp ps t i)), v, v'] ∧ Same H H') ⟨none, none, rfl, Same.refl H⟩ (fun i σ H' _ ⟨_, _, _, sm⟩ => sm.seq hA) ?_ ?_
    · rintro i x σ H' H'' hi ⟨v, v', rfl, sm⟩ ⟨T, x1, x2, rfl, nT, rfl, g1, g2⟩
      obtain rfl := Option.some.inj g1
      obtain ⟨n2, e2, rfl⟩ := nV_get g2
      have sm2 : Same H (upd H' T (.tup [V.int (i : Int), V.int (n2 : Int)])) := sm.trans (same_upd nT)
      refine ⟨T, _, rfl, .inl (.inl upd_same), rfl, _, _, rfl, _, [], rfl, rfl, ?_⟩
      have hn : ps.getD i 0 = n2 := getD_of e2
      refine ⟨_, rfl, _, rfl, _, _, rfl, rfl, _, rfl, ?_⟩
      have up := leftUp_succ ps t i
      rw [hn] at up
      by_cases c : n2 < t
      · refine ifT (decide_eq_true (show (n2 : Int) < (t : Int) by omega)) ?_
        rw [if_pos c] at up
        cases e : leftUp ps t i with
        | none =>
          rw [e] at up
          refine ⟨_, rfl, rfl, _, rfl, ifT (decide_eq_true rfl) ?_⟩
          refine ifT rfl ⟨_, rfl, ?_⟩
          rw [up]
          exact ⟨_, _, rfl, sm2⟩
        | some j =>
          rw [e] at up
          have hj := (leftUp_lt ps t i j e).1
          have hjl : j < ps.length := by have := lt_of_get e2; omega
          refine ⟨_, rfl, rfl, _, rfl, ifF (decide_eq_false (by intro z; cases z)) ?_⟩
          refine ⟨_, rfl, .ref a, rfl, _, rfl, a, _, _, _, rfl, rfl, sm2.seq hA, atI_nat (nV_at hjl), _, _, rfl, rfl, _, rfl, ?_⟩
          by_cases d : ps.getD j 0 < n2
          · refine ifT (decide_eq_true (show ((ps.getD j 0 : Nat) : Int) < (n2 : Int) by omega)) ⟨_, rfl, ?_⟩
            rw [up]
            simp only [if_pos d]
            exact ⟨_, _, rfl, sm2⟩
          · refine ifF (decide_eq_false (show ¬ ((ps.getD j 0 : Nat) : Int) < (n2 : Int) by omega)) ?_
            simp only [if_neg d] at up
            refine ⟨some (.int (i : Int)), some (.int (n2 : Int)), ?_, sm2⟩
            rw [up]
            rfl
      · refine ifF (decide_eq_false (show ¬ (n2 : Int) < (t : Int) by omega)) (ifF rfl ?_)
        rw [if_neg c] at up
        refine ⟨some (.int (i : Int)), some (.int (n2 : Int)), ?_, sm2⟩
        rw [up]
        rfl
    · rintro σ H' ⟨v, v', rfl, sm⟩
      refine ⟨_, rfl, ?_⟩
      rw [nV_length]
      exact q H' sm
theorem ok_right {f : Addr} {fd : FuncData} {k : Nat} (F : Fun K "right_neighbour" "right_neighbour" sRight f fd) (mE : mg "enumerate" = none) : FnOk P w K mg base CX0 (k + 1) f fd ["positions", "target"] (spRight K) := by
  refine F.ok scRight (fun vs H Q E h => ?_) (fun cdv A outer s H vs Q E hr h => ?_)
  · obtain ⟨a, ps, t, rfl, _⟩ := h
    rfl
  · obtain ⟨a, ps, t, rfl, hA, q⟩ := h
    refine ⟨_, pss_cons (ps_set (i := 2) scRight.nd rfl (.inl rfl) pe_non)
      (pss_cons (ps_for PassesOwn.never rfl (pi_enum (by rfl) mE (pa_cons (pv 0) pa_nil)) (pg_tup rfl (pgs_cons (pg_name (i := 3) scRight.nd rfl (Or.inl rfl)) (pgs_cons (pg_name (i := 4) scRight.nd rfl (Or.inl rfl)) pgs_nil)))
        (pss_one (ps_if (PW.pt (pw_and (pt_cmpR op_gt (pv 4) (pv 1) (nomark _)) (pw_and1 (PW.pt (pw_or (pt_cmpR op_isN (pv 2) pe_non (nomark _)) (pw_or1 (pt_cmpR op_lt (pv 4) (pe_ix ix_list (pv 0) (pv 2) (fun _ _ => rfl)) (nomark _))))))))
          (pss_one (ps_set (i := 2) scRight.nd rfl (.inl rfl) (pv 3))) pss_nil)))
      (pss_one (ps_ret (pv 2)))), ?_⟩
    refine ⟨.ref a, rfl, a, nV ps, rfl, hA, ?_⟩
    refine for_it walk_enum (fun i σ H' => ∃ v v', σ = [some (.ref a), some (.int (t : Int)), some (oV (rightUp ps t i)), v, v'] ∧ Same H H') ⟨none, none, rfl, Same.refl H⟩ (fun i σ H' _ ⟨_, _, _, sm⟩ => sm.seq hA) ?_ ?_
    · rintro i x σ H' H'' hi ⟨v, v', rfl, sm⟩ ⟨T, x1, x2, rfl, nT, rfl, g1, g2⟩
      obtain rfl := Option.some.inj g1
      obtain ⟨n2, e2, rfl⟩ := nV_get g2
      have sm2 : Same H (upd H' T (.tup [V.int (i : Int), V.int (n2 : Int)])) := sm.trans (same_upd nT)
      refine ⟨T, _, rfl, .inl (.inl upd_same), rfl, _, _, rfl, _, [], rfl, rfl, ?_⟩
      have hn : ps.getD i 0 = n2 := getD_of e2
      refine ⟨_, rfl, _, rfl, _, _, rfl, rfl, _, rfl, ?_⟩
      have up := rightUp_succ ps t i
      rw [hn] at up
      by_cases c : t < n2
      · refine ifT (decide_eq_true (show (t : Int) < (n2 : Int) by omega)) ?_
        rw [if_pos c] at up
        cases e : rightUp ps t i with
        | none =>
          rw [e] at up
          refine ⟨_, rfl, rfl, _, rfl, ifT (decide_eq_true rfl) ?_⟩
          refine ifT rfl ⟨_, rfl, ?_⟩
          rw [up]
          exact ⟨_, _, rfl, sm2⟩
        | some j =>
          rw [e] at up
          have hj := (rightUp_lt ps t i j e).1
          have hjl : j < ps.length := by have := lt_of_get e2; omega
          refine ⟨_, rfl, rfl, _, rfl, ifF (decide_eq_false (by intro z; cases z)) ?_⟩
          refine ⟨_, rfl, .ref a, rfl, _, rfl, a, _, _, _, rfl, rfl, sm2.seq hA, atI_nat (nV_at hjl), _, _, rfl, rfl, _, rfl, ?_⟩
          by_cases d : n2 < ps.getD j 0
          · refine ifT (decide_eq_true (show (n2 : Int) < ((ps.getD j 0 : Nat) : Int) by omega)) ⟨_, rfl, ?_⟩
            rw [up]
            simp only [if_pos d]
            exact ⟨_, _, rfl, sm2⟩
          · refine ifF (decide_eq_false (show ¬ (n2 : Int) < ((ps.getD j 0 : Nat) : Int) by omega)) ?_
            simp only [if_neg d] at up
            refine ⟨some (.int (i : Int)), some (.int (n2 : Int)), ?_, sm2⟩
            rw [up]
            rfl
      · refine ifF (decide_eq_false (show ¬ (t : Int) < (n2 : Int) by omega)) (ifF rfl ?_)
        rw [if_neg c] at up
        refine ⟨some (.int (i : Int)), some (.int (n2 : Int)), ?_, sm2⟩
        rw [up]
        rfl
    · rintro σ H' ⟨v, v', rfl, sm⟩
      refine ⟨_, rfl, ?_⟩
      rw [nV_length]
      exact q H' sm
end
end Ice
/-! iceline.offline: the tables of best pairs, as they stand in the heap -/
namespace Ice
open PySem PySem.Spec PyProof.Rows L2
open Km559 (distance optimalPlan)
def keyN (l : List Nat) : List Key := l.map fun (n : Nat) => Sum.inl (n : Int)
theorem keyN_V (l : List Nat) : (keyN l).map kV = nV l := by
  unfold keyN nV
  rw [List.map_map]
  rfl
theorem keyN_inj : ∀ {a b : List Nat}, keyN a = keyN b → a = b
  | [], [], _ => rfl
  | [], _ :: _, h => by simp [keyN] at h
  | _ :: _, [], h => by simp [keyN] at h
  | x :: xs, y :: ys, h => by
    have h' : (Sum.inl (x : Int) : Key) :: keyN xs = Sum.inl (y : Int) :: keyN ys := h
    injection h' with h1 h2
    injection h1 with h1
    have e1 : x = y := by omega
    rw [e1, keyN_inj h2]
theorem nV_inj : ∀ {a b : List Nat}, nV a = nV b → a = b
  | [], [], _ => rfl
  | [], _ :: _, h => by simp [nV] at h
  | _ :: _, [], h => by simp [nV] at h
  | x :: xs, y :: ys, h => by
    have h' : V.int (x : Int) :: nV xs = V.int (y : Int) :: nV ys := h
    injection h' with h1 h2
    injection h1 with h1
    have e1 : x = y := by omega
    rw [e1, nV_inj h2]
/-- at v stands the pair c, a tuple of its distance and of its plan's own tuple -/
def PairAt (H : Hp) (v : V) (c : Nat × List Nat) : Prop := ∃ a b, v = .ref a ∧ H a = some (.tup [.int (c.1 : Int), .ref b]) ∧ H b = some (.tup (nV c.2))
theorem PairAt.keeps {H H' : Hp} {v : V} {c : Nat × List Nat} (h : PairAt H v c) (k : ∀ b ys, H b = some (.tup ys) → H' b = some (.tup ys)) : PairAt H' v c := by
  obtain ⟨a, b, e, h1, h2⟩ := h
  exact ⟨a, b, e, k _ _ h1, k _ _ h2⟩
theorem PairAt.inj {H : Hp} {v : V} {c d : Nat × List Nat} (h : PairAt H v c) (h' : PairAt H v d) : c = d := by
  obtain ⟨a, b, rfl, h1, h2⟩ := h
  obtain ⟨a', b', e, h3, h4⟩ := h'
  injection e with e
  subst e
  rw [h1] at h3
  injection h3 with h3
  injection h3 with h3
  injection h3 with h5 h6
  injection h5 with h5
  injection h6 with h6
  injection h6 with h6
  subst h6
  rw [h2] at h4
  injection h4 with h4
  injection h4 with h4
  have e1 : c.1 = d.1 := by omega
  have e2 := nV_inj h4
  exact Prod.ext e1 e2
theorem dpAll_ints {K : PySem.W.Frag} {H : Hp} : ∀ l : List Nat, DpAll K H (nV l) (l.map fun (n : Nat) => PyData.int (n : Int))
  | [] => .nil
  | x :: xs => .cons (.int (x : Int)) (dpAll_ints xs)
theorem PairAt.dp {K : PySem.W.Frag} {H : Hp} {v : V} {c : Nat × List Nat} (h : PairAt H v c) : Dp K H v (pd c) := by
  obtain ⟨a, b, rfl, h1, h2⟩ := h
  exact .tup (SqT.of h1) (.cons (.int _) (.cons (.tup (SqT.of h2) (dpAll_ints _)) .nil))
/-! ### lookups -/
theorem mem_of_valV {κ : Type} [DecidableEq κ] {k : κ} {v : V} : ∀ {kvs : List (κ × V)}, valV kvs k = some v → (k, v) ∈ kvs
  | [], h => by cases h
  | p :: r, h => by
    by_cases e : p.1 = k
    · rw [valV_pos e] at h
      have : p = (k, v) := Prod.ext e (Option.some.inj h)
      rw [this]; exact List.mem_cons_self ..
    · rw [valV_neg e] at h
      exact List.mem_cons_of_mem _ (mem_of_valV h)
theorem valV_of_mem {κ : Type} [DecidableEq κ] {k : κ} {v : V} {kvs : List (κ × V)} (h : (k, v) ∈ kvs) : ∃ u, valV kvs k = some u := by
  have : (kvs.any fun kv => decide (kv.1 = k)) = true := List.any_eq_true.mpr ⟨_, h, decide_eq_true rfl⟩
  rw [valV_any] at this
  exact Option.isSome_iff_exists.mp this
theorem mem_putK {κ : Type} [DecidableEq κ] {k : κ} {y : V} {e : κ × V} {kvs : List (κ × V)} (h : e ∈ putK kvs k y) : e ∈ kvs ∨ e = (k, y) := by
  unfold putK at h
  split at h
  · obtain ⟨p, hp, rfl⟩ := List.mem_map.mp h
    split
    · next c => exact .inr (by rw [c])
    · exact .inl hp
  · rcases List.mem_append.mp h with h | h
    · exact .inl h
    · exact .inr (List.mem_singleton.mp h)
/-! ### a table: what each entry is (S), what has gone in (C) -/
structure Part (H : Hp) (L : List (List Key × V)) (S C : List Nat → Nat × List Nat → Prop) : Prop where
  sound : ∀ e ∈ L, ∃ q c, e.1 = keyN q ∧ PairAt H e.2 c ∧ S q c
  whole : ∀ q c, C q c → ∃ v c', valV L (keyN q) = some v ∧ PairAt H v c' ∧ pLt c c' = false
section
variable {H H' : Hp} {L : List (List Key × V)} {S C : List Nat → Nat × List Nat → Prop} {q : List Nat} {c : Nat × List Nat} {y : V}
theorem Part.keeps (p : Part H L S C) (k : ∀ b ys, H b = some (.tup ys) → H' b = some (.tup ys)) : Part H' L S C :=
  ⟨fun e he => let ⟨q, c, h1, h2, h3⟩ := p.sound e he; ⟨q, c, h1, h2.keeps k, h3⟩, fun q c h => let ⟨v, c', h1, h2, h3⟩ := p.whole q c h; ⟨v, c', h1, h2.keeps k, h3⟩⟩
theorem Part.mono {C' : List Nat → Nat × List Nat → Prop} (p : Part H L S C) (h : ∀ q c, C' q c → C q c) : Part H L S C' := ⟨p.sound, fun q c z => p.whole q c (h q c z)⟩
theorem Part.at_ (p : Part H L S C) {v : V} (h : valV L (keyN q) = some v) : ∃ c, PairAt H v c ∧ S q c := by
  obtain ⟨q', c, h1, h2, h3⟩ := p.sound _ (mem_of_valV h)
  have := keyN_inj h1
  subst this
  exact ⟨c, h2, h3⟩
theorem Part.put (p : Part H L S C) (hs : S q c) (hy : PairAt H y c) (hn : ∀ v c', valV L (keyN q) = some v → PairAt H v c' → pLt c c' = true) :
    Part H (putK L (keyN q) y) S (fun q' d => C q' d ∨ (q' = q ∧ d = c)) := by
  refine ⟨fun e he => ?_, fun q' d h => ?_⟩
  · rcases mem_putK he with he | rfl
    · exact p.sound e he
    · exact ⟨q, c, rfl, hy, hs⟩
  · by_cases e : q' = q
    · subst e
      refine ⟨y, c, by rw [valV_put, if_pos rfl], hy, ?_⟩
      rcases h with h | ⟨_, rfl⟩
      · obtain ⟨v, c', h1, h2, h3⟩ := p.whole q' d h
        exact pLt_trans (pLt_asymm (hn v c' h1 h2)) h3
      · exact pLt_self _
    · rcases h with h | ⟨e', _⟩
      · obtain ⟨v, c', h1, h2, h3⟩ := p.whole q' d h
        exact ⟨v, c', by rw [valV_put, if_neg (fun z => e (keyN_inj z))]; exact h1, h2, h3⟩
      · exact absurd e' e
theorem Part.skip (p : Part H L S C) {v : V} {c' : Nat × List Nat} (h1 : valV L (keyN q) = some v) (h2 : PairAt H v c') (h3 : pLt c c' = false) :
    Part H L S (fun q' d => C q' d ∨ (q' = q ∧ d = c)) := by
  refine ⟨p.sound, fun q' d h => ?_⟩
  rcases h with h | ⟨rfl, rfl⟩
  · exact p.whole q' d h
  · exact ⟨v, c', h1, h2, h3⟩
end
/-- c is the cost and the plan of a plan for ts that leads to q -/
def Leads (ps ts : List Nat) (q : List Nat) (c : Nat × List Nat) : Prop := IsPlan ps.length ts c.2 ∧ planCost ps ts c.2 = c.1 ∧ endPos ps ts c.2 = q
/-- the pair c from k0, one request longer by the icebreaker j -/
def ext (t : Nat) (k0 : List Nat) (c : Nat × List Nat) (j : Nat) : Nat × List Nat := (c.1 + distance (k0.getD j 0) t, c.2 ++ [j])
theorem leads_ext {ps ts k0 : List Nat} {t : Nat} {c : Nat × List Nat} (h : Leads ps ts k0 c) {j : Nat} (hj : j < k0.length) : Leads ps (ts ++ [t]) (k0.set j t) (ext t k0 c j) := by
  obtain ⟨h1, h2, h3⟩ := h
  have hl : k0.length = ps.length := by rw [← h3, endPos_len]
  refine ⟨isPlan_snoc h1 (by omega), ?_, ?_⟩
  · show planCost ps (ts ++ [t]) (c.2 ++ [j]) = c.1 + _
    rw [planCost_snoc t j ts c.2 ps h1.1, h2, h3]
  · show endPos ps (ts ++ [t]) (c.2 ++ [j]) = _
    rw [endPos_snoc t j ts c.2 ps h1.1, h3]
theorem leads_len {ps ts q : List Nat} {c : Nat × List Nat} (h : Leads ps ts q c) : q.length = ps.length := by rw [← h.2.2, endPos_len]
/-- what has gone in when i entries of the table have been gone through -/
def Cand (H : Hp) (kvs : List (List Key × V)) (t i : Nat) (q : List Nat) (d : Nat × List Nat) : Prop :=
  ∃ i' k0 v0 c0 j, i' < i ∧ (∃ e, kvs[i']? = some e ∧ e.1 = keyN k0) ∧ valV kvs (keyN k0) = some v0 ∧ PairAt H v0 c0 ∧ j < k0.length ∧ q = k0.set j t ∧ d = ext t k0 c0 j
/-- within the entry of k0, j icebreakers gone through -/
def CandIn (H : Hp) (kvs : List (List Key × V)) (t i : Nat) (k0 : List Nat) (c0 : Nat × List Nat) (j : Nat) (q : List Nat) (d : Nat × List Nat) : Prop :=
  Cand H kvs t i q d ∨ ∃ j', j' < j ∧ q = k0.set j' t ∧ d = ext t k0 c0 j'
section
variable {H H0 : Hp} {kvs L : List (List Key × V)} {S : List Nat → Nat × List Nat → Prop} {t i j : Nat} {k0 : List Nat} {c0 : Nat × List Nat} {v0 : V}
theorem cand_in (p : Part H L S (Cand H0 kvs t i)) : Part H L S (CandIn H0 kvs t i k0 c0 0) := p.mono fun q d h => by
  rcases h with h | ⟨j', h, _⟩
  · exact h
  · omega
theorem cand_turn (p : Part H L S (fun q d => CandIn H0 kvs t i k0 c0 j q d ∨ (q = k0.set j t ∧ d = ext t k0 c0 j))) : Part H L S (CandIn H0 kvs t i k0 c0 (j + 1)) := p.mono fun q d h => by
  rcases h with h | ⟨j', h, e1, e2⟩
  · exact .inl (.inl h)
  · by_cases z : j' = j
    · subst z; exact .inr ⟨e1, e2⟩
    · exact .inl (.inr ⟨j', by omega, e1, e2⟩)
theorem cand_out {e : List Key × V} (he : kvs[i]? = some e) (ek : e.1 = keyN k0) (hv : valV kvs (keyN k0) = some v0) (hc : PairAt H0 v0 c0) (p : Part H L S (CandIn H0 kvs t i k0 c0 k0.length)) : Part H L S (Cand H0 kvs t (i + 1)) := p.mono fun q d h => by
  obtain ⟨i', k1, v1, c1, j, hi, ⟨e', he', ek'⟩, hv', hc', hj, e1, e2⟩ := h
  by_cases z : i' = i
  · subst z
    rw [he] at he'
    obtain rfl := Option.some.inj he'
    have ek2 := keyN_inj (ek.symm.trans ek')
    subst ek2
    rw [hv] at hv'
    obtain rfl := Option.some.inj hv'
    obtain rfl := hc.inj hc'
    exact .inr ⟨j, hj, e1, e2⟩
  · exact .inl ⟨i', k1, v1, c1, j, by omega, ⟨e', he', ek'⟩, hv', hc', hj, e1, e2⟩
/-- all entries gone through: the table of one request more -/
theorem cand_all {ps ts : List Nat} (T : Part H0 kvs (Leads ps ts) (Leads ps ts)) (p : Part H L S (Cand H0 kvs t kvs.length)) : Part H L S (Leads ps (ts ++ [t])) := by
  refine ⟨p.sound, fun q d h => ?_⟩
  obtain ⟨h1, h2, h3⟩ := h
  obtain ⟨plan, j, e, hp, hj⟩ := isPlan_split h1
  have he : d = (planCost ps ts plan + distance ((endPos ps ts plan).getD j 0) t, plan ++ [j]) := Prod.ext (by rw [← h2, e, planCost_snoc t j ts plan ps hp.1]) e
  have hq : q = (endPos ps ts plan).set j t := by rw [← h3, e, endPos_snoc t j ts plan ps hp.1]
  obtain ⟨v0, c0, g1, g2, g3⟩ := T.whole (endPos ps ts plan) (planCost ps ts plan, plan) ⟨hp, rfl, rfl⟩
  obtain ⟨c1, g4, g5⟩ := T.at_ g1
  obtain rfl := g2.inj g4
  obtain ⟨i', hi, ei⟩ := List.getElem_of_mem (mem_of_valV g1)
  obtain ⟨v, c', f1, f2, f3⟩ := p.whole q (ext t (endPos ps ts plan) c0 j) ⟨i', endPos ps ts plan, v0, c0, j, hi, ⟨_, by rw [List.getElem?_eq_getElem hi, ei], rfl⟩, g1, g2, by rw [endPos_len]; exact hj, hq, rfl⟩
  refine ⟨v, c', f1, f2, pLt_trans f3 ?_⟩
  rw [he]
  exact pLt_snoc _ j (a := c0) (b := (planCost ps ts plan, plan)) (by rw [g5.1.1, hp.1]) g3
end
/-- each its own: a list of what is told of each -/
theorem choose_list {α β : Type} {R : α → β → Prop} : ∀ l : List α, (∀ e ∈ l, ∃ c, R e c) → ∃ cs : List β, cs.length = l.length ∧ ∀ (i : Nat) (e : α) (c : β), l[i]? = some e → cs[i]? = some c → R e c
  | [], _ => ⟨[], rfl, fun i e c h => by simp at h⟩
  | a :: l, h => by
    obtain ⟨c0, h0⟩ := h a (List.mem_cons_self ..)
    obtain ⟨cs, hl, hr⟩ := choose_list l fun e he => h e (List.mem_cons_of_mem _ he)
    refine ⟨c0 :: cs, by simp [hl], fun i e c h1 h2 => ?_⟩
    cases i with
    | zero =>
      obtain rfl := Option.some.inj h1
      obtain rfl := Option.some.inj h2
      exact h0
    | succ i => exact hr i e c (by simpa using h1) (by simpa using h2)
theorem start_part {H : Hp} {ps : List Nat} {y : V} (h : PairAt H y (0, [])) : Part H [(keyN ps, y)] (Leads ps []) (Leads ps []) := by
  have nil : ∀ {c : Nat × List Nat}, IsPlan ps.length [] c.2 → c.2 = [] := fun h => List.eq_nil_of_length_eq_zero h.1
  refine ⟨fun e he => ?_, fun q c hc => ?_⟩
  · obtain rfl := List.mem_singleton.mp he
    exact ⟨ps, (0, []), rfl, h, ⟨rfl, by simp⟩, rfl, rfl⟩
  · obtain ⟨h1, h2, h3⟩ := hc
    have e := nil h1
    rw [e] at h2 h3
    have e2 : c = (0, []) := Prod.ext h2.symm e
    have e3 : ps = q := h3
    subst e2 e3
    exact ⟨y, (0, []), valV_pos (p := (keyN ps, y)) rfl, h, pLt_self _⟩
/-- the smallest pair of a whole table -/
theorem part_best {H : Hp} {L : List (List Key × V)} {ps ts : List Nat} (h : ps ≠ []) (T : Part H L (Leads ps ts) (Leads ps ts)) {cs : List (Nat × List Nat)} (hl : cs.length = L.length)
    (hr : ∀ (i : Nat) (e : List Key × V) (c : Nat × List Nat), L[i]? = some e → cs[i]? = some c → PairAt H e.2 c ∧ ∃ q, Leads ps ts q c) {i : Nat} {e : List Key × V} {c : Nat × List Nat} (he : L[i]? = some e) (hc : cs[i]? = some c)
    (hm : ∀ d ∈ cs, pLt d c = false) : c = (opt ps ts, optimalPlan ps ts) := by
  obtain ⟨_, q, h1, h2, h3⟩ := hr i e c he hc
  obtain ⟨e1, e2⟩ := best_is h h1 h2 fun p hp => by
    obtain ⟨v, c', g1, g2, g3⟩ := T.whole (endPos ps ts p) (planCost ps ts p, p) ⟨hp, rfl, rfl⟩
    obtain ⟨j, hj, ej⟩ := List.getElem_of_mem (mem_of_valV g1)
    have hj' : j < cs.length := by omega
    have f1 : L[j]? = some (keyN (endPos ps ts p), v) := by rw [List.getElem?_eq_getElem hj, ej]
    obtain ⟨g4, _⟩ := hr j _ cs[j] f1 (List.getElem?_eq_getElem hj')
    obtain rfl := g2.inj g4
    exact pLt_trans (hm _ (List.getElem_mem hj')) g3
  exact Prod.ext e1 e2
theorem part_ne {H : Hp} {L : List (List Key × V)} {ps ts : List Nat} (h : ps ≠ []) (T : Part H L (Leads ps ts) (Leads ps ts)) : L ≠ [] := by
  obtain ⟨a, b⟩ := plan_is ts h
  obtain ⟨v, c', g1, _⟩ := T.whole _ (planCost ps ts (optimalPlan ps ts), optimalPlan ps ts) ⟨a, rfl, rfl⟩
  intro z
  rw [z] at g1
  cases g1
end Ice
/-! iceline.offline -/
namespace Ice
open PySem PySem.Spec PyProof.Rows L2
open Km559 (distance optimalPlan)
theorem walk_enumT {K : PySem.W.Frag} {a : Addr} {xs : List V} : Walk (IteT K a) xs.length (fun H => SqT K H a xs) (YPair (fun i => some (.int (i : Nat))) (fun i => xs[i]?)) where
  goes i _ lt here := ⟨xs, xs[i], here, List.getElem?_eq_getElem lt⟩
  stops _ here := ⟨xs, here, rfl⟩
  yields i H v H' _ here y := let ⟨T, x, e1, free, e2, all⟩ := y; ⟨T, _, x, e1, free, e2, rfl, all xs here⟩
theorem cat_rd {K : PySem.W.Frag} {H : Hp} {a b : Addr} {l m : List Nat} {Q : VK} (ha : H a = some (.tup (nV l))) (hb : H b = some (.tup (nV m))) (hz : l.length + m.length ≤ 1000)
    (q : ∀ H' r, Same H H' → H' r = some (.tup (nV (l ++ m))) → Q (.ref r) H') : rCatA K (.ref a) (.ref b) H Q := by
  refine ⟨a, b, nV l, nV m, rfl, rfl, SqT.of ha, SqT.of hb, ?_, fun z => ?_, fun _ z => ?_, fun _ _ p np => ?_⟩
  · rw [nV_length, nV_length]
    exact Nat.le_of_lt (small1000 hz)
  · have : l = [] := by cases l with
      | nil => rfl
      | cons x l => cases z
    subst this
    exact q H b (Same.refl H) hb
  · have : m = [] := by cases m with
      | nil => rfl
      | cons x m => cases z
    subst this
    exact q H a (Same.refl H) (by rw [List.append_nil]; exact ha)
  · exact q _ p (same_upd np) (by rw [upd_same, nV_app])
theorem sl_to {K : PySem.W.Frag} {H : Hp} {a : Addr} {l : List Nat} {j : Nat} {Q : VK} (ha : H a = some (.tup (nV l))) (hj : j < l.length)
    (q : ∀ H' r, Same H H' → H' r = some (.tup (nV (l.take j))) → Q (.ref r) H') : rSlA K (.ref a) none (some (j : Int)) H Q := by
  refine ⟨a, nV l, rfl, SqT.of ha, fun z => ?_, fun _ p np => ?_⟩
  · have := z.2
    rw [HT.sIx_nat, nV_length] at this
    omega
  · exact q _ p (same_upd np) (by rw [upd_same, cut_to (by omega)])
theorem sl_from {K : PySem.W.Frag} {H : Hp} {a : Addr} {l : List Nat} {j : Nat} {Q : VK} (ha : H a = some (.tup (nV l))) (hj : 0 < j) (hl : j ≤ l.length)
    (q : ∀ H' r, Same H H' → H' r = some (.tup (nV (l.drop j))) → Q (.ref r) H') : rSlA K (.ref a) (some (j : Int)) none H Q := by
  refine ⟨a, nV l, rfl, SqT.of ha, fun z => ?_, fun _ p np => ?_⟩
  · have := z.1
    rw [HT.sIx_nat, nV_length] at this
    omega
  · refine q _ p (same_upd np) ?_
    rw [upd_same]
    unfold cutV
    rw [HT.sIx_nat, nV_length, Nat.min_eq_left hl]
    show some (HO.tup (((nV l).drop j).take (l.length - j))) = _
    rw [List.take_of_length_le (by rw [List.length_drop, nV_length]; exact Nat.le_refl _)]
    unfold nV
    rw [List.map_drop]
theorem sl_from' {K : PySem.W.Frag} {H : Hp} {σ : L2.St} {a : Addr} {l : List Nat} {j : Nat} {Q : VK} (ha : H a = some (.tup (nV l))) (hj : 0 < j) (hl : j ≤ l.length)
    (q : ∀ H' r, Same H H' → H' r = some (.tup (nV (l.drop j))) → Q (.ref r) H') : tNoPart σ H fun u H3 => rSlA K (.ref a) (some (j : Int)) u H3 Q := sl_from ha hj hl q
theorem set_cut (l : List Nat) (j t : Nat) (h : j < l.length) : l.take j ++ [t] ++ l.drop (j + 1) = l.set j t := by
  rw [List.set_eq_take_append_cons_drop, if_pos h, List.append_assoc]
  rfl
abbrev sExt : Stmt := top 14
abbrev sBest : Stmt := top 15
abbrev sSd : Stmt := top 16
abbrev sSp : Stmt := top 17
theorem scExt : FnScope ["best", "target", "longer", "positions", "pair", "icebreaker", "position", "after", "candidate"] ["best", "target"] (defScope sExt) := ⟨rfl, rfl, rfl, by decide +kernel, rfl, by decide +kernel, by decide +kernel⟩
theorem scBest : FnScope ["starts", "targets", "best", "target"] ["starts", "targets"] (defScope sBest) := ⟨rfl, rfl, rfl, by decide +kernel, rfl, by decide +kernel, by decide +kernel⟩
theorem scSd : FnScope ["starts", "targets"] ["starts", "targets"] (defScope sSd) := ⟨rfl, rfl, rfl, by decide +kernel, rfl, by decide +kernel, by decide +kernel⟩
theorem scSp : FnScope ["starts", "targets"] ["starts", "targets"] (defScope sSp) := ⟨rfl, rfl, rfl, by decide +kernel, rfl, by decide +kernel, by decide +kernel⟩
/-- the heap within the walk: all stands but the table walked, which is locked; the longer table at ℓ -/
structure InExt (H0 H : Hp) (a ℓ : Addr) (od : Obj) (kvs L : List (List Key × V)) (S C : List Nat → Nat × List Nat → Prop) : Prop where
  keep : ∀ b o, H0 b = some o → b ≠ a → H b = some o
  best : H a = some (.frz od (.dT kvs))
  long : H ℓ = some (.dT L)
  part : Part H L S C
theorem InExt.same {H0 H H' : Hp} {a ℓ : Addr} {od : Obj} {kvs L : List (List Key × V)} {S C : List Nat → Nat × List Nat → Prop} (i : InExt H0 H a ℓ od kvs L S C) (s : Same H H') : InExt H0 H' a ℓ od kvs L S C :=
  ⟨fun b o e n => s _ _ (i.keep b o e n), s _ _ i.best, s _ _ i.long, i.part.keeps fun b ys e => s _ _ e⟩
section
variable {P : Program} {w : World} {K : PySem.W.Frag} {mg : Str → Option Value} {base : Heap}
def spExt (K : PySem.W.Frag) : Sp := fun vs H Q _ => ∃ (a : Addr) (t : Nat) (kvs : List (List Key × V)) (ps ts : List Nat), vs = [.ref a, .int (t : Int)] ∧ H a = some (.dT kvs) ∧ Part H kvs (Leads ps ts) (Leads ps ts) ∧ ps.length ≤ 3 ∧ ts.length ≤ 900 ∧ kvs.length ≤ 1000000 ∧
  ∀ (H' : Hp) (p : Addr) (L : List (List Key × V)), Same H H' → H' p = some (.dT L) → Part H' L (Leads ps (ts ++ [t])) (Leads ps (ts ++ [t])) → L.length ≤ 3 * kvs.length → Q (.ref p) H'
theorem ok_ext {f : Addr} {fd : FuncData} {k : Nat} (F : Fun K "extended" "extended" sExt f fd) (mE : mg "enumerate" = none) (mA : mg "abs" = none) : FnOk P w K mg base CX0 (k + 1) f fd ["best", "target"] (spExt K) := by
  refine F.ok scExt (fun vs H Q E h => ?_) (fun cdv A outer s H vs Q E hr h => ?_)
  · obtain ⟨a, t, kvs, ps, ts, rfl, _⟩ := h
    rfl
  · obtain ⟨a, t, kvs, ps, ts, rfl, ha, T, hps, hts, hkl, q⟩ := h
    have hu := hu_of hr
    refine ⟨_, pss_cons (ps_set (i := 2) scExt.nd rfl (.inl rfl) pe_dnewT)
      (pss_cons (ps_lock (ps_for PassesOwn.never rfl (pi_keys (pv 0)) (pg_name (i := 3) scExt.nd rfl (Or.inl rfl))
        (pss_cons (ps_set (i := 4) scExt.nd rfl (.inl rfl) (pe_dget hu (pv 0) (pv 3) (fun _ _ => rfl)))
        (pss_one (ps_for PassesOwn.never rfl (pi_enumT (by rfl) mE (pa_cons (pv 3) pa_nil)) (pg_tup rfl (pgs_cons (pg_name (i := 5) scExt.nd rfl (Or.inl rfl)) (pgs_cons (pg_name (i := 6) scExt.nd rfl (Or.inl rfl)) pgs_nil)))
          (pss_cons (ps_set (i := 7) scExt.nd rfl (.inl rfl) (pe_op op_catA (pe_op op_catA (pe_slice sl_tupA (pv 3) po_none (po_some (pv 5))) (pe_tup (pa_cons (pv 1) pa_nil))) (pe_slice sl_tupA (pv 3) (po_some (pe_op op_add (pv 5) pe_int)) po_none)))
          (pss_cons (ps_set (i := 8) scExt.nd rfl (.inl rfl) (pe_tup (pa_cons (pe_op op_add (pe_ix ix_tup (pv 4) pe_int (fun _ _ => rfl)) (pe_callB call_abs (by rfl) mA (by decide +kernel) (pa_cons (pe_op op_sub (pv 6) (pv 1)) pa_nil)))
            (pa_cons (pe_op op_catA (pe_ix ix_tup (pv 4) pe_int (fun _ _ => rfl)) (pe_tup (pa_cons (pv 5) pa_nil))) pa_nil))))
          (pss_one (ps_if (PW.pt (pw_or (pt_cmp (pc_dnotin hu (pv 7) (pv 2))) (pw_or1 (pt_cmpR op_ltD (pv 8) (pe_dget hu (pv 2) (pv 7) (fun _ _ => rfl)) (nomark _)))))
            (pss_one (ps_dput hu (pv 2) (pv 7) (pv 8) rfl)) pss_nil))))))))
      )
      (pss_one (ps_ret (pv 2)))), ?_⟩
    intro ℓ nℓ
    have hla : a ≠ ℓ := ne_of_none ha nℓ
    -- the lock
    refine ⟨a, .dT kvs, by rw [upd_ne hla]; exact ha, trivial, fun od => ?_⟩
    refine ⟨.ref a, rfl, a, od, rfl, .inr ⟨kvs, upd_same, ?_⟩⟩
    refine for_it walk_keysT (fun i σ H' => ∃ v3 v4 v5 v6 v7 v8 L, σ = [some (.ref a), some (.int (t : Int)), some (.ref ℓ), v3, v4, v5, v6, v7, v8] ∧ InExt H H' a ℓ od kvs L (Leads ps (ts ++ [t])) (Cand H kvs t i) ∧ L.length ≤ 3 * i) ?_ (fun i σ H' _ ⟨_, _, _, _, _, _, _, _, I, _⟩ => I.best) ?_ ?_
    · refine ⟨none, none, none, none, none, none, [], rfl, ⟨fun b o e n => ?_, upd_same, ?_, ⟨fun e he => by simp at he, fun q c h => ?_⟩⟩, Nat.zero_le _⟩
      · rw [upd_ne n, upd_ne (ne_of_none e nℓ)]; exact e
      · rw [upd_ne hla.symm, upd_same]
      · obtain ⟨i', _, _, _, _, hi, _⟩ := h
        omega
    · rintro i x σ H' H'' hi ⟨v3, v4, v5, v6, v7, v8, L, rfl, I, hL⟩ ⟨rfl, k, v, b, hk, rfl, hb⟩
      -- positions, pair
      obtain ⟨k0, c1, ek, hp1, hl1⟩ := T.sound (k, v) (List.mem_of_getElem? hk)
      simp only at ek
      subst ek
      obtain ⟨v0, hv0⟩ := valV_of_mem (List.mem_of_getElem? hk)
      obtain ⟨c0, hc0, hl0⟩ := T.at_ hv0
      have tk : ∀ {b' : Addr} {ys : List V}, H b' = some (.tup ys) → H'' b' = some (.tup ys) := fun e => I.keep _ _ e (ne_of e ha (by intro z; cases z))
      have hk0 : k0.length = ps.length := leads_len hl0
      refine ⟨.ref a, rfl, .ref b, rfl, a, v0, rfl, .inr ⟨kvs, keyN k0, b, .inr ⟨od, I.best⟩, rfl, hb, hv0.symm⟩, ?_⟩
      rw [keyN_V] at hb
      obtain ⟨pa, pb, rfl, hpa, hpb⟩ := hc0
      refine ⟨.ref b, rfl, b, nV k0, rfl, SqT.of hb, ?_⟩
      refine for_it walk_enumT (fun j σ H3 => ∃ v5 v6 v7 v8 L, σ = [some (.ref a), some (.int (t : Int)), some (.ref ℓ), some (.ref b), some (.ref pa), v5, v6, v7, v8] ∧ InExt H H3 a ℓ od kvs L (Leads ps (ts ++ [t])) (CandIn H kvs t i k0 c0 j) ∧ L.length ≤ 3 * i + j ∧ H3 b = some (.tup (nV k0)))
        ?_ (fun j σ H3 _ ⟨_, _, _, _, _, _, _, _, hb⟩ => SqT.of hb) ?_ ?_
      · exact ⟨v5, v6, v7, v8, L, rfl, ⟨I.keep, I.best, I.long, cand_in I.part⟩, by omega, hb⟩
      · rintro j x σ H3 H4 hj ⟨v5, v6, v7, v8, L, rfl, I, hL, hb⟩ ⟨T5, x1, x2, rfl, nT, rfl, g1, g2⟩
        obtain rfl := Option.some.inj g1
        obtain ⟨n2, e2, rfl⟩ := nV_get g2
        have hjl := lt_of_get e2
        have hn : k0.getD j 0 = n2 := getD_of e2
        have I4 := I.same (same_upd (o := .tup [V.int (j : Int), V.int (n2 : Int)]) nT)
        refine ⟨T5, _, rfl, .inl (.inl upd_same), rfl, _, _, rfl, _, [], rfl, rfl, ?_⟩
        have hb4 := same_upd (o := .tup [V.int (j : Int), V.int (n2 : Int)]) nT _ _ hb
        generalize L2.upd H3 T5 (.tup [V.int (j : Int), V.int (n2 : Int)]) = H4 at I4 hb4
        -- after
        refine ⟨.ref b, rfl, _, rfl, (j : Int), rfl, sl_to hb4 hjl fun H5 r5 s5 e5 => ?_⟩
        refine ⟨_, rfl, (by show 1 ≤ sizeLine; decide), fun r6 n6 => ?_⟩
        have s6 : Same H5 (L2.upd H5 r6 (.tup [V.int (t : Int)])) := same_upd n6
        have e6 : (L2.upd H5 r6 (.tup [V.int (t : Int)])) r6 = some (.tup (nV [t])) := upd_same
        refine cat_rd (s6 _ _ e5) e6 (by rw [List.length_take, List.length_singleton]; omega) fun H7 r7 s7 e7 => ?_
        have s47 := (s5.trans s6).trans s7
        refine ⟨.ref b, rfl, _, rfl, _, _, rfl, rfl, ((j + 1 : Nat) : Int), rfl, ?_⟩
        refine sl_from' (s47 _ _ hb4) (by omega) (by omega) fun H8 r8 s8 e8 => ?_
        refine cat_rd (s8 _ _ e7) e8 (by rw [List.length_append, List.length_take, List.length_singleton, List.length_drop]; omega) fun H9 r9 s9 e9 => ?_
        rw [set_cut _ _ _ hjl] at e9
        have s49 := (s47.trans s8).trans s9
        have I9 := I4.same s49
        have hb9 := s49 _ _ hb4
        clear s49 s47 s9 e8 s8 e7 s7 e6 s6 n6 e5 s5 hb4 I4
        -- candidate
        have hpa9 : H9 pa = some (.tup [.int (c0.1 : Int), .ref pb]) := I9.keep _ _ hpa (ne_of hpa ha (by intro z; cases z))
        have hpb9 : H9 pb = some (.tup (nV c0.2)) := I9.keep _ _ hpb (ne_of hpb ha (by intro z; cases z))
        refine ⟨.ref pa, rfl, pa, _, _, _, rfl, rfl, SqT.of hpa9, rfl, _, rfl, _, rfl, _, _, rfl, rfl, _, rfl, _, _, rfl, rfl, .ref pa, rfl, pa, _, _, _, rfl, rfl, SqT.of hpa9, rfl, _, rfl, (by show 1 ≤ sizeLine; decide), fun r10 n10 => ?_⟩
        have s10 : Same H9 (L2.upd H9 r10 (.tup [V.int (j : Int)])) := same_upd n10
        have e10 : (L2.upd H9 r10 (.tup [V.int (j : Int)])) r10 = some (.tup (nV [j])) := upd_same
        refine cat_rd (s10 _ _ hpb9) e10 (by rw [hl0.1.1, List.length_singleton]; omega) fun H11 r11 s11 e11 => ?_
        refine ⟨(by show 2 ≤ sizeLine; decide), fun r12 n12 => ?_⟩
        rw [abs_dist]
        have s12 : Same H11 (L2.upd H11 r12 (.tup [V.int ((c0.1 : Int) + (distance n2 t : Int)), V.ref r11])) := same_upd n12
        have I12 := I9.same ((s10.trans s11).trans s12)
        have hb12 := ((s10.trans s11).trans s12) _ _ hb9
        have ha12 := ((s10.trans s11).trans s12) _ _ e9
        have e12 : PairAt (L2.upd H11 r12 (.tup [V.int ((c0.1 : Int) + (distance n2 t : Int)), V.ref r11])) (.ref r12) (ext t k0 c0 j) := by
          refine ⟨r12, r11, rfl, ?_, s12 _ _ e11⟩
          rw [upd_same]
          show _ = some (HO.tup [V.int ((c0.1 + distance (k0.getD j 0) t : Nat) : Int), V.ref r11])
          rw [hn, Int.natCast_add]
        generalize L2.upd H11 r12 (.tup [V.int ((c0.1 : Int) + (distance n2 t : Int)), V.ref r11]) = H12 at I12 hb12 ha12 e12
        clear s12 n12 e11 s11 e10 s10 n10 hpb9 hpa9 I9 hb9 e9
        have hkr : H12 r9 = some (.tup ((keyN (k0.set j t)).map kV)) := by rw [keyN_V]; exact ha12
        have hlead := leads_ext (t := t) hl0 hjl
        -- the store
        have store : ∀ (hnew : ∀ v c', valV L (keyN (k0.set j t)) = some v → PairAt H12 v c' → pLt (ext t k0 c0 j) c' = true),
            InExt H (L2.upd H12 ℓ (.dT (putK L (keyN (k0.set j t)) (.ref r12)))) a ℓ od kvs (putK L (keyN (k0.set j t)) (.ref r12)) (Leads ps (ts ++ [t])) (CandIn H kvs t i k0 c0 (j + 1)) ∧
            (putK L (keyN (k0.set j t)) (.ref r12)).length ≤ 3 * i + (j + 1) ∧ (L2.upd H12 ℓ (.dT (putK L (keyN (k0.set j t)) (.ref r12)))) b = some (.tup (nV k0)) := fun hnew => by
          have kt : ∀ {b' : Addr} {ys : List V}, H12 b' = some (.tup ys) → (L2.upd H12 ℓ (.dT (putK L (keyN (k0.set j t)) (.ref r12)))) b' = some (.tup ys) := fun e => by
            rw [upd_ne (ne_of e I12.long (by intro z; cases z))]; exact e
          refine ⟨⟨fun b' o e n => ?_, ?_, upd_same, cand_turn ((I12.part.put hlead e12 hnew).keeps fun b' ys e => kt e)⟩, ?_, kt hb12⟩
          · rw [upd_ne (ne_of_none e nℓ)]; exact I12.keep _ _ e n
          · rw [upd_ne hla]; exact I12.best
          · have := length_putK L (keyN (k0.set j t)) (.ref r12)
            omega
        refine ⟨.ref r9, rfl, .ref ℓ, rfl, ℓ, _, rfl, DGet.t I12.long hkr, _, rfl, ?_⟩
        cases hv : valV L (keyN (k0.set j t)) with
        | none =>
          refine ifT rfl ?_
          refine ifT rfl ?_
          obtain ⟨z1, z2, z3⟩ := store fun v c' e => by rw [hv] at e; cases e
          refine ⟨_, rfl, _, rfl, _, rfl, ℓ, _, rfl, DPut.t I12.long hkr ?_, _, _, _, _, _, rfl, z1, z2, z3⟩
          exact Nat.lt_of_le_of_lt (show L.length ≤ 10000000 by omega) (by decide)
        | some vo =>
          obtain ⟨co, hpo, hlo⟩ := I12.part.at_ hv
          refine ifF rfl ?_
          refine ⟨_, rfl, .ref ℓ, rfl, .ref r9, rfl, ℓ, vo, rfl, ?_, ?_⟩
          · rw [← hv]; exact DGet.t I12.long hkr
          refine ⟨pd (ext t k0 c0 j), pd co, e12.dp, hpo.dp, pd_alike _ _, (by unfold pd; intro z; cases z), ?_, _, rfl, ?_⟩
          · have := pd_depth (ext t k0 c0 j)
            have := Nat.min_le_left (pd (ext t k0 c0 j)).depth (pd co).depth
            exact Nat.lt_of_le_of_lt (Nat.add_le_add_left (show min (pd (ext t k0 c0 j)).depth (pd co).depth ≤ 64 by omega) _) hr.units
          rw [pd_lt]
          cases hlt : pLt (ext t k0 c0 j) co with
          | true =>
            refine ifT rfl ?_
            obtain ⟨z1, z2, z3⟩ := store fun v c' e h => by
              rw [hv] at e
              obtain rfl := Option.some.inj e
              obtain rfl := hpo.inj h
              exact hlt
            refine ⟨_, rfl, _, rfl, _, rfl, ℓ, _, rfl, DPut.t I12.long hkr ?_, _, _, _, _, _, rfl, z1, z2, z3⟩
            exact Nat.lt_of_le_of_lt (show L.length ≤ 10000000 by omega) (by decide)
          | false =>
            refine ifF rfl ?_
            exact ⟨_, _, _, _, L, rfl, ⟨I12.keep, I12.best, I12.long, cand_turn (I12.part.skip hv hpo hlt)⟩, by omega, hb12⟩
      · rintro σ H3 ⟨v5, v6, v7, v8, L, rfl, I, hL, hb⟩
        rw [nV_length] at I hL
        refine ⟨_, _, _, _, _, _, L, rfl, ⟨I.keep, I.best, I.long, cand_out hk rfl hv0 ⟨pa, pb, rfl, hpa, hpb⟩ I.part⟩, by omega⟩
    · rintro σ H' ⟨v3, v4, v5, v6, v7, v8, L, rfl, I, hL⟩
      refine ⟨I.best, ?_⟩
      have kt : ∀ {b' : Addr} {ys : List V}, H' b' = some (.tup ys) → (L2.upd H' a (.dT kvs)) b' = some (.tup ys) := fun e => by
        rw [upd_ne (ne_of e I.best (by intro z; cases z))]; exact e
      refine ⟨_, rfl, q _ ℓ L (fun b o e => ?_) (by rw [upd_ne hla.symm]; exact I.long) ((cand_all T I.part).keeps fun b ys e => kt e) (by omega)⟩
      by_cases z : b = a
      · subst z
        rw [ha] at e
        rw [upd_same]; exact e
      · rw [upd_ne z]; exact I.keep b o e z
end
end Ice
/-! iceline.offline: best_pair and what is read off it -/
namespace Ice
open PySem PySem.Spec PyProof.Rows L2
open Km559 (distance optimalPlan)
section
variable {P : Program} {w : World} {K : PySem.W.Frag} {mg : Str → Option Value} {base : Heap}
theorem take_snocN' {l : List Nat} {i z : Nat} (h : l[i]? = some z) : l.take (i + 1) = l.take i ++ [z] := by
  rw [List.take_add_one, h]; rfl
def spBest (K : PySem.W.Frag) : Sp := fun vs H Q _ => ∃ (a b : Addr) (ps ts : List Nat), vs = [.ref a, .ref b] ∧ SqL K H a (nV ps) ∧ SqL K H b (nV ts) ∧ ps ≠ [] ∧ ps.length ≤ 3 ∧ ts.length ≤ 9 ∧
  ∀ (H' : Hp) (v : V), Same H H' → PairAt H' v (opt ps ts, optimalPlan ps ts) → Q v H'
theorem pow_le9 : ∀ i : Nat, i ≤ 9 → 3 ^ i ≤ 19683 := by
  intro i h
  have := Nat.pow_le_pow_right (show 1 ≤ 3 by decide) h
  exact this
theorem ok_best {f fX : Addr} {fd fdX : FuncData} {k : Nat} (F : Fun K "best_pair" "best_pair" sBest f fd) (mT : mg "tuple" = none) (mM : mg "min" = none)
    (GX : FnOk P w K mg base CX0 k fX fdX ["best", "target"] (spExt K)) (bX : Binds K fdX ["best", "target"] []) (kX : PySem.W.keepIn K (.ref fX) = true) (gX : mg "extended" = some (.ref fX)) :
    FnOk P w K mg base CX0 (k + 1) f fd ["starts", "targets"] (spBest K) := by
  refine F.ok scBest (fun vs H Q E h => ?_) (fun cdv A outer s H vs Q E hr h => ?_)
  · obtain ⟨a, b, ps, ts, rfl, _⟩ := h
    rfl
  · obtain ⟨a, b, ps, ts, rfl, hA, hB, hne, hps, hts, q⟩ := h
    have hu := hu_of hr
    refine ⟨_, pss_cons (ps_set (i := 2) scBest.nd rfl (.inl rfl) (pe_dispT hu (pe_callTy call_tuple_of (by rfl) mT (by decide +kernel) (pa_cons (pv 0) pa_nil)) (pe_tup (pa_cons pe_int (pa_cons (pe_tup pa_nil) pa_nil)))))
      (pss_cons (ps_for PassesOwn.never rfl (pi_list (pv 1)) (pg_name (i := 3) scBest.nd rfl (Or.inl rfl))
        (pss_one (ps_set (i := 2) scBest.nd rfl (.inl rfl) (pe_call GX hr (by rfl) gX kX bX .nil pass0 (pa_cons (pv 2) (pa_cons (pv 3) pa_nil))))))
      (pss_one (ps_ret (pe_callB (cr_minT hr.units rfl) (by rfl) mM (by decide +kernel) (pa_cons (pe_bm0 PySem.F.plainAttrs_dict PySem.F.slot_dict_values PySem.F.type_dict_values mt_valsT (pv 2)) pa_nil))))), ?_⟩
    intro d nd
    have s1 : Same H (L2.upd H d (.dT [])) := same_upd nd
    refine ⟨.ref a, rfl, a, nV ps, rfl, .inl ⟨s1.seq hA, fun t nt => ?_⟩⟩
    have s2 : Same (L2.upd H d (.dT [])) (L2.upd (L2.upd H d (.dT [])) t (.tup (nV ps))) := same_upd nt
    refine ⟨Nat.zero_le _, fun e ne => ?_⟩
    have s3 : Same (L2.upd (L2.upd H d (.dT [])) t (.tup (nV ps))) (L2.upd (L2.upd (L2.upd H d (.dT [])) t (.tup (nV ps))) e (.tup [])) := same_upd ne
    refine ⟨(by show 2 ≤ sizeLine; decide), fun p np => ?_⟩
    have s4 : Same (L2.upd (L2.upd (L2.upd H d (.dT [])) t (.tup (nV ps))) e (.tup [])) (L2.upd (L2.upd (L2.upd (L2.upd H d (.dT [])) t (.tup (nV ps))) e (.tup [])) p (.tup [.int 0, .ref e])) := same_upd np
    have ht : (L2.upd (L2.upd (L2.upd (L2.upd H d (.dT [])) t (.tup (nV ps))) e (.tup [])) p (.tup [.int 0, .ref e])) t = some (.tup (nV ps)) := s4 _ _ (s3 _ _ upd_same)
    have hd : (L2.upd (L2.upd (L2.upd (L2.upd H d (.dT [])) t (.tup (nV ps))) e (.tup [])) p (.tup [.int 0, .ref e])) d = some (.dT []) := s4 _ _ (s3 _ _ (s2 _ _ upd_same))
    have hpair : PairAt (L2.upd (L2.upd (L2.upd (L2.upd H d (.dT [])) t (.tup (nV ps))) e (.tup [])) p (.tup [.int 0, .ref e])) (.ref p) (0, []) := ⟨p, e, rfl, upd_same, s4 _ _ upd_same⟩
    have sm : ∀ x o, H x = some o → (L2.upd (L2.upd (L2.upd (L2.upd H d (.dT [])) t (.tup (nV ps))) e (.tup [])) p (.tup [.int 0, .ref e])) x = some o := fun x o ex => s4 _ _ (s3 _ _ (s2 _ _ (s1 _ _ ex)))
    generalize L2.upd (L2.upd (L2.upd (L2.upd H d (.dT [])) t (.tup (nV ps))) e (.tup [])) p (.tup [.int 0, .ref e]) = H4 at ht hd hpair sm
    refine ⟨hd, t, keyN ps, rfl, by rw [keyN_V]; exact ht, ?_⟩
    have sm5 : Same H (L2.upd H4 d (.dT [(keyN ps, .ref p)])) := fun x o ex => by
      rw [upd_ne (ne_of_none ex nd)]
      exact sm x o ex
    have hpair5 : PairAt (L2.upd H4 d (.dT [(keyN ps, .ref p)])) (.ref p) (0, []) := hpair.keeps fun b' ys eb => by
      rw [upd_ne (ne_of eb hd (by intro z; cases z))]; exact eb
    refine ⟨.ref b, rfl, b, rfl, ⟨_, sm5.seq hB⟩, for_list (K := K) (a := b) (xs := nV ts) (fun i σ H' => ∃ v D L, σ = [some (.ref a), some (.ref b), some (.ref D), v] ∧ Same H H' ∧ H' D = some (.dT L) ∧ Part H' L (Leads ps (ts.take i)) (Leads ps (ts.take i)) ∧ L.length ≤ 3 ^ i) ?_ ?_ ?_ ?_⟩
    · refine ⟨none, d, _, rfl, sm5, upd_same, start_part hpair5, ?_⟩
      show 1 ≤ 3 ^ 0
      decide
    · rintro i σ H' _ ⟨v, D, L, _, sm', _⟩
      exact sm'.seq hB
    · rintro i x σ H' hi ⟨v, D, L, rfl, sm', hD, T, hL⟩
      obtain ⟨z, et, rfl⟩ := nV_get hi
      have hil := lt_of_get et
      have hp9 := pow_le9 i (by omega)
      refine ⟨.ref D, rfl, _, rfl, D, z, L, ps, ts.take i, rfl, hD, T, hps, by rw [List.length_take]; omega, by omega, fun H2 D2 L2' s2 h2 T2 hl2 => ?_⟩
      refine ⟨_, D2, L2', rfl, sm'.trans s2, h2, ?_, ?_⟩
      · rw [take_snocN' et]; exact T2
      · rw [Nat.pow_succ]; omega
    · rintro σ H' ⟨v, D, L, rfl, sm', hD, T, hL⟩
      rw [nV_length, List.take_length] at T
      obtain ⟨cs, hcl, hcr⟩ := choose_list (R := fun (e : List Key × V) c => PairAt H' e.2 c ∧ ∃ q, Leads ps ts q c) L fun e he => let ⟨q, c, _, h2, h3⟩ := T.sound e he; ⟨c, h2, q, h3⟩
      have hLne := part_ne hne T
      refine ⟨.ref D, rfl, .inr (.inr (.inl ⟨rfl, .inr ⟨_, hD⟩⟩)), D, L, rfl, rfl, hD, fun p np => ?_⟩
      have s9 : Same H' (L2.upd H' p (valsO p D)) := same_upd np
      have kt : ∀ b ys, H' b = some (.tup ys) → (L2.upd H' p (valsO p D)) b = some (.tup ys) := fun b ys z => s9 _ _ z
      refine ⟨p, D, L, cs, rfl, upd_same, s9 _ _ hD, hcl, ?_, fun i e c h1 h2 => ((hcr i e c h1 h2).1.keeps kt).dp, fun i e c h1 h2 hm => ?_⟩
      · intro z
        rw [z] at hcl
        exact hLne (List.eq_nil_of_length_eq_zero hcl.symm)
      · refine q _ e.2 (sm'.trans s9) ?_
        rw [← part_best hne T hcl hcr h1 h2 hm]
        exact (hcr i e c h1 h2).1.keeps kt
def spSd (K : PySem.W.Frag) : Sp := fun vs H Q _ => ∃ (a b : Addr) (ps ts : List Nat), vs = [.ref a, .ref b] ∧ SqL K H a (nV ps) ∧ SqL K H b (nV ts) ∧ ps ≠ [] ∧ ps.length ≤ 3 ∧ ts.length ≤ 9 ∧
  ∀ (H' : Hp), Same H H' → Q (.int (opt ps ts : Nat)) H'
theorem ok_sd {f fX : Addr} {fd fdX : FuncData} {k : Nat} (F : Fun K "smallest_distance" "smallest_distance" sSd f fd)
    (GX : FnOk P w K mg base CX0 k fX fdX ["starts", "targets"] (spBest K)) (bX : Binds K fdX ["starts", "targets"] []) (kX : PySem.W.keepIn K (.ref fX) = true) (gX : mg "best_pair" = some (.ref fX)) :
    FnOk P w K mg base CX0 (k + 1) f fd ["starts", "targets"] (spSd K) := by
  refine F.ok scSd (fun vs H Q E h => ?_) (fun cdv A outer s H vs Q E hr h => ?_)
  · obtain ⟨a, b, ps, ts, rfl, _⟩ := h
    rfl
  · obtain ⟨a, b, ps, ts, rfl, hA, hB, hne, hps, hts, q⟩ := h
    refine ⟨_, pss_one (ps_ret (pe_ix ix_tup (pe_call GX hr (by rfl) gX kX bX .nil pass0 (pa_cons (pv 0) (pa_cons (pv 1) pa_nil))) pe_int (fun _ _ => rfl))), ?_⟩
    refine ⟨.ref a, rfl, .ref b, rfl, a, b, ps, ts, rfl, hA, hB, hne, hps, hts, fun H' v sm ⟨x, y, ev, hx, hy⟩ => ?_⟩
    subst ev
    exact ⟨x, _, 0, _, rfl, rfl, SqT.of hx, rfl, q H' sm⟩
def spSp (K : PySem.W.Frag) : Sp := fun vs H Q _ => ∃ (a b : Addr) (ps ts : List Nat), vs = [.ref a, .ref b] ∧ SqL K H a (nV ps) ∧ SqL K H b (nV ts) ∧ ps ≠ [] ∧ ps.length ≤ 3 ∧ ts.length ≤ 9 ∧ NewL H (optimalPlan ps ts) Q
theorem ok_sp {f fX : Addr} {fd fdX : FuncData} {k : Nat} (F : Fun K "smallest_plan" "smallest_plan" sSp f fd) (mL : mg "list" = none)
    (GX : FnOk P w K mg base CX0 k fX fdX ["starts", "targets"] (spBest K)) (bX : Binds K fdX ["starts", "targets"] []) (kX : PySem.W.keepIn K (.ref fX) = true) (gX : mg "best_pair" = some (.ref fX)) :
    FnOk P w K mg base CX0 (k + 1) f fd ["starts", "targets"] (spSp K) := by
  refine F.ok scSp (fun vs H Q E h => ?_) (fun cdv A outer s H vs Q E hr h => ?_)
  · obtain ⟨a, b, ps, ts, rfl, _⟩ := h
    rfl
  · obtain ⟨a, b, ps, ts, rfl, hA, hB, hne, hps, hts, q⟩ := h
    refine ⟨_, pss_one (ps_ret (pe_callTy call_list_of (by rfl) mL (by decide +kernel) (pa_cons (pe_ix ix_tup (pe_call GX hr (by rfl) gX kX bX .nil pass0 (pa_cons (pv 0) (pa_cons (pv 1) pa_nil))) pe_int (fun _ _ => rfl)) pa_nil))), ?_⟩
    refine ⟨.ref a, rfl, .ref b, rfl, a, b, ps, ts, rfl, hA, hB, hne, hps, hts, fun H' v sm ⟨x, y, ev, hx, hy⟩ => ?_⟩
    subst ev
    refine ⟨x, _, 1, _, rfl, rfl, SqT.of hx, rfl, y, _, rfl, .inr (SqT.of hy), fun l nl => ?_⟩
    exact q _ l (sm.trans (same_upd nl)) (Same.free sm nl) upd_same
end
end Ice
/-! iceline.double_coverage: covered, coverage_course -/
namespace Ice
open PySem PySem.Spec PyProof.Rows L2
theorem step_in {ps : List Nat} {t : Nat} (h : t ∈ ps) : Km559.doubleCoverageStep ps t = ps := by
  unfold Km559.doubleCoverageStep
  rw [if_pos (by simpa using h)]
theorem step_out {ps : List Nat} {t : Nat} (h : t ∉ ps) : Km559.doubleCoverageStep ps t = match leftUp ps t ps.length, rightUp ps t ps.length with
  | some i, some j => (ps.set i (ps.getD i 0 + min (t - ps.getD i 0) (ps.getD j 0 - t))).set j (ps.getD j 0 - min (t - ps.getD i 0) (ps.getD j 0 - t))
  | some i, none => ps.set i t
  | none, some j => ps.set j t
  | none, none => ps := by
  unfold Km559.doubleCoverageStep
  rw [if_neg (by simpa using h), left_same h, right_same h]
  rfl
theorem some_side {ps : List Nat} {t : Nat} (h : t ∉ ps) (h0 : ps ≠ []) (e1 : leftUp ps t ps.length = none) (e2 : rightUp ps t ps.length = none) : False := by
  rw [left_same h] at e1
  rw [right_same h] at e2
  have a := (left_is ps t).none_ e1 0 (List.length_pos_iff.mpr h0)
  have b := (right_is ps t).none_ e2 0 (List.length_pos_iff.mpr h0)
  omega
theorem inV_n (t : Nat) : ∀ ps : List Nat, inV (.int (t : Int)) (nV ps) = decide (t ∈ ps)
  | [] => by simp [inV, nV]
  | a :: ps => by
    have ih := inV_n t ps
    have e : inV (.int (t : Int)) (nV (a :: ps)) = (((a : Int) == (t : Int)) || inV (.int (t : Int)) (nV ps)) := rfl
    rw [e, ih]
    by_cases c : a = t
    · subst c
      simp
    · have h1 : ((a : Int) == (t : Int)) = false := by
        rw [beq_eq_false_iff_ne]
        omega
      have c' : ¬ t = a := fun z => c z.symm
      rw [h1]
      simp [c']
theorem flat_n : ∀ ps : List Nat, (nV ps).all flatV = true
  | [] => rfl
  | a :: ps => flat_n ps
theorem ixN_nat {n i : Nat} (h : i < n) : ixN n (i : Int) = some i := by
  unfold ixN
  rw [if_pos (Int.natCast_nonneg i), if_pos (by omega), Int.toNat_natCast]
abbrev sCov : Stmt := top 8
theorem scCov : FnScope ["positions", "target", "after", "left", "right", "step"] ["positions", "target"] (defScope sCov) := ⟨rfl, rfl, rfl, by decide +kernel, rfl, by decide +kernel, by decide +kernel⟩
section
variable {P : Program} {w : World} {K : PySem.W.Frag} {mg : Str → Option Value} {base : Heap}
def spCov (K : PySem.W.Frag) : Sp := fun vs H Q _ => ∃ (a : Addr) (ps : List Nat) (t : Nat), vs = [.ref a, .int (t : Int)] ∧ SqL K H a (nV ps) ∧ ps ≠ [] ∧ ps.length ≤ 1000 ∧ NewL H (Km559.doubleCoverageStep ps t) Q
theorem ok_cov {f fL fR : Addr} {fd fdL fdR : FuncData} {k : Nat} (F : Fun K "covered" "covered" sCov f fd) (mLi : mg "list" = none) (mMi : mg "min" = none)
    (GL : FnOk P w K mg base CX0 k fL fdL ["positions", "target"] (spLeft K)) (bL : Binds K fdL ["positions", "target"] []) (kL : PySem.W.keepIn K (.ref fL) = true) (gL : mg "left_neighbour" = some (.ref fL))
    (GR : FnOk P w K mg base CX0 k fR fdR ["positions", "target"] (spRight K)) (bR : Binds K fdR ["positions", "target"] []) (kR : PySem.W.keepIn K (.ref fR) = true) (gR : mg "right_neighbour" = some (.ref fR)) :
    FnOk P w K mg base CX0 (k + 1) f fd ["positions", "target"] (spCov K) := by
  refine F.ok scCov (fun vs H Q E h => ?_) (fun cdv A outer s H vs Q E hr h => ?_)
  · obtain ⟨a, ps, t, rfl, _⟩ := h
    rfl
  · obtain ⟨a, ps, t, rfl, hA, h0, hlen, q⟩ := h
    refine ⟨_, pss_cons (ps_set (i := 2) scCov.nd rfl (.inl rfl) (pe_callTy call_list_of (by rfl) mLi (by decide +kernel) (pa_cons (pv 0) pa_nil)))
      (pss_cons (ps_if (pt_cmpR op_in_seq (pv 1) (pv 0) (by rfl)) (pss_one (ps_ret (pv 2))) pss_nil)
      (pss_cons (ps_set (i := 3) scCov.nd rfl (.inl rfl) (pe_call GL hr (by rfl) gL kL bL .nil pass0 (pa_cons (pv 0) (pa_cons (pv 1) pa_nil))))
      (pss_cons (ps_set (i := 4) scCov.nd rfl (.inl rfl) (pe_call GR hr (by rfl) gR kR bR .nil pass0 (pa_cons (pv 0) (pa_cons (pv 1) pa_nil))))
      (pss_cons (ps_if (pt_cmpR op_isN (pv 3) pe_non (nomark _)) (pss_one (ps_asg (pv 1) (pg_sub (pv 2) (pv 4) set_list)))
        (pss_one (ps_if (pt_cmpR op_isN (pv 4) pe_non (nomark _)) (pss_one (ps_asg (pv 1) (pg_sub (pv 2) (pv 3) set_list)))
          (pss_cons (ps_set (i := 5) scCov.nd rfl (.inl rfl) (pe_callB (call_min2 rfl) (by rfl) mMi (by decide +kernel) (pa_cons (pe_op op_sub (pv 1) (pe_ix ix_list (pv 0) (pv 3) (fun _ _ => rfl))) (pa_cons (pe_op op_sub (pe_ix ix_list (pv 0) (pv 4) (fun _ _ => rfl)) (pv 1)) pa_nil))))
          (pss_cons (ps_asg (pe_op op_add (pe_ix ix_list (pv 0) (pv 3) (fun _ _ => rfl)) (pv 5)) (pg_sub (pv 2) (pv 3) set_list))
          (pss_one (ps_asg (pe_op op_sub (pe_ix ix_list (pv 0) (pv 4) (fun _ _ => rfl)) (pv 5)) (pg_sub (pv 2) (pv 4) set_list))))))))
      (pss_one (ps_ret (pv 2))))))), ?_⟩
    -- after = list(positions)
    refine ⟨_, rfl, a, nV ps, rfl, .inl hA, fun p np => ?_⟩
    have s1 : Same H (upd H p (.lst (nV ps))) := same_upd np
    -- if target in positions
    refine ⟨_, rfl, _, rfl, a, nV ps, rfl, .inl (s1.seq hA), rfl, flat_n ps, _, rfl, ?_⟩
    by_cases c : t ∈ ps
    · refine ifT ((inV_n t ps).trans (decide_eq_true c)) ⟨_, rfl, ?_⟩
      refine q _ p s1 np ?_
      rw [step_in c]
      exact upd_same
    refine ifF ((inV_n t ps).trans (decide_eq_false c)) ?_
    have hq := step_out c
    -- left, right
    refine ⟨_, rfl, _, rfl, a, ps, t, rfl, s1.seq hA, fun H1 s2 => ?_⟩
    have s12 := s1.trans s2
    refine ⟨_, rfl, _, rfl, a, ps, t, rfl, s12.seq hA, fun H2 s3 => ?_⟩
    have s13 := s12.trans s3
    have hp : H2 p = some (.lst (nV ps)) := s3 _ _ (s2 _ _ upd_same)
    have hA2 := s13.seq hA
    have fin : ∀ {r : List Nat} {H3 : Hp}, (∀ b o, H2 b = some o → b ≠ p → H3 b = some o) → H3 p = some (.lst (nV r)) → Km559.doubleCoverageStep ps t = r → Q (.ref p) H3 := by
      intro r H3 k e1 e2
      refine q H3 p (fun b o e => k b o (s13 _ _ e) (ne_of_none e np)) np ?_
      rw [e2]
      exact e1
    cases eL : leftUp ps t ps.length with
    | none =>
      rw [eL] at hq
      refine ⟨_, rfl, rfl, _, rfl, ifT (decide_eq_true rfl) ?_⟩
      cases eR : rightUp ps t ps.length with
      | none => exact (some_side c h0 eL eR).elim
      | some j =>
        rw [eR] at hq
        have hj := (rightUp_lt ps t _ j eR).1
        refine ⟨_, rfl, .ref p, rfl, _, rfl, p, _, _, j, rfl, rfl, hp, by rw [nV_length]; exact ixN_nat hj, ?_⟩
        exact ⟨_, rfl, fin (r := ps.set j t) (fun b o e hb => by rw [upd_ne hb]; exact e) (by rw [upd_same, nV_set]) hq⟩
    | some i =>
      rw [eL] at hq
      have hi := leftUp_lt ps t _ i eL
      refine ⟨_, rfl, rfl, _, rfl, ifF (decide_eq_false (by intro z; cases z)) ?_⟩
      cases eR : rightUp ps t ps.length with
      | none =>
        rw [eR] at hq
        refine ⟨_, rfl, rfl, _, rfl, ifT (decide_eq_true rfl) ?_⟩
        refine ⟨_, rfl, .ref p, rfl, _, rfl, p, _, _, i, rfl, rfl, hp, by rw [nV_length]; exact ixN_nat hi.1, ?_⟩
        exact ⟨_, rfl, fin (r := ps.set i t) (fun b o e hb => by rw [upd_ne hb]; exact e) (by rw [upd_same, nV_set]) hq⟩
      | some j =>
        rw [eR] at hq
        have hj := rightUp_lt ps t _ j eR
        refine ⟨_, rfl, rfl, _, rfl, ifF (decide_eq_false (by intro z; cases z)) ?_⟩
        -- step
        refine ⟨_, rfl, .ref a, rfl, _, rfl, a, _, _, _, rfl, rfl, hA2, atI_nat (nV_at hi.1), _, _, rfl, rfl, .ref a, rfl, _, rfl, a, _, _, _, rfl, rfl, hA2, atI_nat (nV_at hj.1), _, rfl, _, _, rfl, rfl, _, _, rfl, ?_⟩
        have em : (if ((ps.getD j 0 : Nat) : Int) - (t : Int) < (t : Int) - ((ps.getD i 0 : Nat) : Int) then ((ps.getD j 0 : Nat) : Int) - (t : Int) else (t : Int) - ((ps.getD i 0 : Nat) : Int)) = ((min (t - ps.getD i 0) (ps.getD j 0 - t) : Nat) : Int) := by
          have := hi.2
          have := hj.2
          split <;> omega
        rw [em]
        replace hq : Km559.doubleCoverageStep ps t = (ps.set i (ps.getD i 0 + min (t - ps.getD i 0) (ps.getD j 0 - t))).set j (ps.getD j 0 - min (t - ps.getD i 0) (ps.getD j 0 - t)) := hq
        generalize hm : min (t - ps.getD i 0) (ps.getD j 0 - t) = m at hq ⊢
        have hmj : m ≤ ps.getD j 0 := by omega
        have e1 : ((ps.getD i 0 : Nat) : Int) + (m : Int) = ((ps.getD i 0 + m : Nat) : Int) := by omega
        have e2 : ((ps.getD j 0 : Nat) : Int) - (m : Int) = ((ps.getD j 0 - m : Nat) : Int) := by omega
        -- after[left] = ..
        refine ⟨.ref a, rfl, _, rfl, a, _, _, _, rfl, rfl, hA2, atI_nat (nV_at hi.1), _, rfl, _, _, rfl, rfl, .ref p, rfl, _, rfl, p, _, _, i, rfl, rfl, hp, by rw [nV_length]; exact ixN_nat hi.1, ?_⟩
        have sp : ∀ {o : HO} {b : Addr} {x : HO}, H2 b = some x → b ≠ p → upd H2 p o b = some x := fun e hb => by rw [upd_ne hb]; exact e
        have hap : ∀ {o : HO}, SqL K (upd H2 p o) a (nV ps) := by
          intro o
          refine Same.seq (H := H) (fun b x e => ?_) hA
          rw [upd_ne (ne_of_none e np)]
          exact s13 _ _ e
        dsimp only
        rw [e1, nV_set]
        -- after[right] = ..
        refine ⟨.ref a, rfl, _, rfl, a, _, _, _, rfl, rfl, hap, atI_nat (nV_at hj.1), _, rfl, _, _, rfl, rfl, .ref p, rfl, _, rfl, p, _, _, j, rfl, rfl, upd_same, by rw [nV_length, List.length_set]; exact ixN_nat hj.1, ?_⟩
        dsimp only
        rw [e2, nV_set]
        exact ⟨_, rfl, fin (r := (ps.set i (ps.getD i 0 + m)).set j (ps.getD j 0 - m)) (fun b o e hb => by rw [upd_ne hb, upd_ne hb]; exact e) upd_same hq⟩
end
end Ice
/-! coverage_course, nearest, greedy_course -/
namespace Ice
open PySem PySem.Spec PyProof.Rows L2
/-! ### the mathematics -/
/-- the start, then what each request leaves -/
def courseOf (f : List Nat → Nat → List Nat) (ps : List Nat) : List Nat → List (List Nat)
  | [] => [ps]
  | t :: ts => ps :: courseOf f (f ps t) ts
theorem course_len (f : List Nat → Nat → List Nat) : ∀ (ts ps : List Nat), (courseOf f ps ts).length = ts.length + 1
  | [], _ => rfl
  | t :: ts, ps => by
    show (courseOf f (f ps t) ts).length + 1 = _
    rw [course_len f ts]; rfl
theorem course_snoc (f : List Nat → Nat → List Nat) : ∀ (ts ps : List Nat) (t : Nat), courseOf f ps (ts ++ [t]) = courseOf f ps ts ++ [f (ts.foldl f ps) t]
  | [], ps, t => rfl
  | x :: ts, ps, t => by
    show ps :: courseOf f (f ps x) (ts ++ [t]) = ps :: (courseOf f (f ps x) ts ++ [f (ts.foldl f (f ps x)) t])
    rw [course_snoc f ts]
theorem course_last (f : List Nat → Nat → List Nat) : ∀ (ts ps : List Nat), (courseOf f ps ts)[ts.length]? = some (ts.foldl f ps)
  | [], _ => rfl
  | t :: ts, ps => course_last f ts (f ps t)
def moveTo (ps : List Nat) (t : Nat) : List Nat := ps.set (Km559.nearest ps t) t
theorem dc_fold : ∀ (ts ps : List Nat), (Km559.doubleCoverage ps ts).2 = ts.foldl Km559.doubleCoverageStep ps
  | [], _ => rfl
  | t :: ts, ps => dc_fold ts _
theorem greedy_fold : ∀ (ts ps : List Nat), (Km559.greedy ps ts).2 = ts.foldl moveTo ps
  | [], _ => rfl
  | t :: ts, ps => greedy_fold ts _
theorem courseDist_cons (f : List Nat → Nat → List Nat) (ts : List Nat) (ps b : List Nat) : courseDist (ps :: courseOf f b ts) = shift ps b + courseDist (courseOf f b ts) := by
  cases ts <;> rfl
theorem dc_dist : ∀ (ts ps : List Nat), courseDist (courseOf Km559.doubleCoverageStep ps ts) = (Km559.doubleCoverage ps ts).1
  | [], _ => rfl
  | t :: ts, ps => by
    show courseDist (ps :: courseOf _ (Km559.doubleCoverageStep ps t) ts) = Km559.distanceMoved ps (Km559.doubleCoverageStep ps t) + _
    rw [courseDist_cons, dc_dist ts, moved_shift (step_length ps t).symm]
theorem greedy_dist : ∀ (ts : List Nat) {ps : List Nat}, ps ≠ [] → courseDist (courseOf moveTo ps ts) = (Km559.greedy ps ts).1
  | [], _, _ => rfl
  | t :: ts, ps, h => by
    show courseDist (ps :: courseOf _ (moveTo ps t) ts) = Km559.distance (ps.getD (Km559.nearest ps t) 0) t + (Km559.greedy (moveTo ps t) ts).1
    rw [courseDist_cons, greedy_dist ts (ps := moveTo ps t) (by unfold moveTo; simpa using h)]
    unfold moveTo
    rw [shift_set_left t (nearest_lt h t)]
theorem fold_len {f : List Nat → Nat → List Nat} (hf : ∀ ps t, (f ps t).length = ps.length) : ∀ (ts ps : List Nat), (ts.foldl f ps).length = ps.length
  | [], _ => rfl
  | t :: ts, ps => by
    rw [List.foldl_cons, fold_len hf ts, hf]
theorem course_row {f : List Nat → Nat → List Nat} (hf : ∀ ps t, (f ps t).length = ps.length) : ∀ (ts ps : List Nat), ∀ l ∈ courseOf f ps ts, l.length = ps.length
  | [], ps, l, h => by
    have e : l = ps := by simpa [courseOf] using h
    rw [e]
  | t :: ts, ps, l, h => by
    rcases List.mem_cons.mp h with h | h
    · rw [h]
    · rw [course_row hf ts _ l h, hf]
theorem step_len (ps : List Nat) (t : Nat) : (Km559.doubleCoverageStep ps t).length = ps.length := step_length ps t
theorem move_len (ps : List Nat) (t : Nat) : (moveTo ps t).length = ps.length := by unfold moveTo; simp
def nearUp (ps : List Nat) (t n : Nat) : Nat := (List.range n).foldl (fun (best i : Nat) =>
    if Km559.distance (ps.getD i 0) t < Km559.distance (ps.getD best 0) t then i else best) 0
theorem nearUp_succ (ps : List Nat) (t n : Nat) : nearUp ps t (n + 1) = if Km559.distance (ps.getD n 0) t < Km559.distance (ps.getD (nearUp ps t n) 0) t then n else nearUp ps t n := range_fold _ _ _
theorem nearUp_lt {ps : List Nat} (h : ps ≠ []) (t : Nat) : ∀ n, n ≤ ps.length → nearUp ps t n < ps.length
  | 0, _ => List.length_pos_iff.mpr h
  | n + 1, hn => by
    rw [nearUp_succ]
    split
    · omega
    · exact nearUp_lt h t n (by omega)
theorem Rows.snoc {H : Hp} {as : List Addr} {ls : List (List Nat)} (r : Rows H as ls) {p : Addr} {l : List Nat} (h : H p = some (.lst (nV l))) : Rows H (as ++ [p]) (ls ++ [l]) := by
  refine ⟨by rw [List.length_append, List.length_append, r.len]; rfl, fun i q m e1 e2 => ?_⟩
  by_cases c : i < as.length
  · rw [List.getElem?_append_left c] at e1
    rw [List.getElem?_append_left (by rw [← r.len]; exact c)] at e2
    exact r.at_ i q m e1 e2
  · have hi : i = as.length := by
      have := lt_of_get e1
      rw [List.length_append, List.length_singleton] at this
      omega
    subst hi
    rw [List.getElem?_append_right (Nat.le_refl _)] at e1
    rw [List.getElem?_append_right (by rw [r.len]; exact Nat.le_refl _)] at e2
    rw [Nat.sub_self] at e1
    rw [r.len, Nat.sub_self] at e2
    have q1 : p = q := Option.some.inj e1
    have q2 : l = m := Option.some.inj e2
    rw [← q1, ← q2]
    exact h
/-- behind a change of the list of rows itself -/
theorem Rows.upd {H : Hp} {as : List Addr} {ls : List (List Nat)} (r : Rows H as ls) {o : Addr} {bs : List Addr} (hb : bs ≠ []) (ho : H o = some (.lst (rV bs))) (x : HO) : Rows (L2.upd H o x) as ls := by
  refine ⟨r.len, fun i p l e1 e2 => ?_⟩
  have h := r.at_ i p l e1 e2
  have ne : p ≠ o := by
    intro z
    subst z
    rw [ho] at h
    have e : rV bs = nV l := by
      have := Option.some.inj h
      injection this
    cases bs with
    | nil => exact hb rfl
    | cons b bs =>
      cases l with
      | nil => cases e
      | cons m l =>
        have := (List.cons.inj e).1
        cases this
  rw [upd_ne ne]
  exact h
theorem take_snocN {l : List Nat} {i z : Nat} (h : l[i]? = some z) : l.take (i + 1) = l.take i ++ [z] := by
  rw [List.take_add_one, h]; rfl
abbrev sCCourse : Stmt := top 9
abbrev sNear : Stmt := top 11
abbrev sGCourse : Stmt := top 12
theorem scCCourse : FnScope ["starts", "targets", "course", "target"] ["starts", "targets"] (defScope sCCourse) := ⟨rfl, rfl, rfl, by decide +kernel, rfl, by decide +kernel, by decide +kernel⟩
theorem scNear : FnScope ["positions", "target", "found", "icebreaker", "position"] ["positions", "target"] (defScope sNear) := ⟨rfl, rfl, rfl, by decide +kernel, rfl, by decide +kernel, by decide +kernel⟩
theorem scGCourse : FnScope ["starts", "targets", "course", "target", "after"] ["starts", "targets"] (defScope sGCourse) := ⟨rfl, rfl, rfl, by decide +kernel, rfl, by decide +kernel, by decide +kernel⟩
section
variable {P : Program} {w : World} {K : PySem.W.Frag} {mg : Str → Option Value} {base : Heap}
/-- hands back a new list of new lists of numbers -/
def NewC (H : Hp) (ls : List (List Nat)) (Q : VK) : Prop := ∀ H' p as, Same H H' → H p = none → H' p = some (.lst (rV as)) → Rows H' as ls → (∀ x ∈ as, H x = none) → Q (.ref p) H'
def spCourseOf (K : PySem.W.Frag) (f : List Nat → Nat → List Nat) : Sp := fun vs H Q _ => ∃ (a b : Addr) (ps ts : List Nat), vs = [.ref a, .ref b] ∧ SqL K H a (nV ps) ∧ SqL K H b (nV ts) ∧ ps.length ≤ 1000 ∧ ts.length ≤ 900 ∧ (ts ≠ [] → ps ≠ []) ∧ NewC H (courseOf f ps ts) Q
theorem ok_ccourse {f fC : Addr} {fd fdC : FuncData} {k : Nat} (F : Fun K "coverage_course" "coverage_course" sCCourse f fd) (mLi : mg "list" = none)
    (GC : FnOk P w K mg base CX0 k fC fdC ["positions", "target"] (spCov K)) (bC : Binds K fdC ["positions", "target"] []) (kC : PySem.W.keepIn K (.ref fC) = true) (gC : mg "covered" = some (.ref fC)) :
    FnOk P w K mg base CX0 (k + 1) f fd ["starts", "targets"] (spCourseOf K Km559.doubleCoverageStep) := by
  refine F.ok scCCourse (fun vs H Q E h => ?_) (fun cdv A outer s H vs Q E hr h => ?_)
  · obtain ⟨a, b, ps, ts, rfl, _⟩ := h
    rfl
  · obtain ⟨a, b, ps, ts, rfl, hA, hB, hlp, hlt, hne, q⟩ := h
    refine ⟨_, pss_cons (ps_set (i := 2) scCCourse.nd rfl (.inl rfl) (pe_lst (pa_cons (pe_callTy call_list_of (by rfl) mLi (by decide +kernel) (pa_cons (pv 0) pa_nil)) pa_nil)))
      (pss_cons (ps_for PassesOwn.never rfl (pi_list (pv 1)) (pg_name (i := 3) scCCourse.nd rfl (Or.inl rfl))
        (pss_one (ps_expr (pe_bm PySem.F.plainAttrs_list PySem.F.slot_list_append PySem.F.type_list_append mt_append (pv 2)
          (pa_cons (pe_call GC hr (by rfl) gC kC bC .nil pass0 (pa_cons (pe_ix ix_list (pv 2) (pe_un un_neg pe_int) (fun _ _ => rfl)) (pa_cons (pv 3) pa_nil))) pa_nil)))))
      (pss_one (ps_ret (pv 2)))), ?_⟩
    -- course = [list(starts)]
    refine ⟨_, rfl, a, nV ps, rfl, .inl hA, fun c nc => ?_⟩
    have s1 : Same H (L2.upd H c (.lst (nV ps))) := same_upd nc
    refine ⟨by show 1 ≤ sizeLine; decide, fun o no => ?_⟩
    have s2 : Same (L2.upd H c (.lst (nV ps))) (L2.upd (L2.upd H c (.lst (nV ps))) o (.lst [.ref c])) := same_upd no
    have noH : H o = none := Same.free s1 no
    refine ⟨_, rfl, b, rfl, ⟨_, s2.seq (s1.seq hB)⟩, for_list (K := K) (a := b) (xs := nV ts) (fun i σ H' => ∃ v as, σ = [some (.ref a), some (.ref b), some (.ref o), v] ∧ (∀ x y, H x = some y → x ≠ o → H' x = some y) ∧ H' o = some (.lst (rV as)) ∧ as ≠ [] ∧ Rows H' as (courseOf Km559.doubleCoverageStep ps (ts.take i)) ∧ ∀ x ∈ as, H x = none)
      ?_ ?_ ?_ ?_⟩
    · refine ⟨none, [c], rfl, fun x y e hx => by rw [upd_ne hx]; exact s1 _ _ e, upd_same, by simp, ⟨rfl, fun i p l e1 e2 => ?_⟩, fun x hx => by rw [List.mem_singleton.mp hx]; exact nc⟩
      cases i with
      | zero =>
        obtain rfl := Option.some.inj e1
        obtain rfl := Option.some.inj e2
        exact s2 _ _ upd_same
      | succ i => simp at e1
    · rintro i σ H' _ ⟨v, as, _, sm, ho, _⟩
      exact Same.seq (H := H) (fun x y e => sm x y e (ne_of_none e noH)) hB
    · rintro i x σ H' hi ⟨v, as, rfl, sm, ho, has, rows, fresh⟩
      obtain ⟨t, et, rfl⟩ := nV_get hi
      have hil := lt_of_get et
      obtain ⟨as0, p, rfl⟩ : ∃ as0 p, as = as0 ++ [p] := ⟨as.dropLast, as.getLast has, (List.dropLast_concat_getLast has).symm⟩
      have hlen : as0.length = i := by
        have := rows.len
        rw [course_len, List.length_append, List.length_singleton, List.length_take] at this
        omega
      have hcl := course_last Km559.doubleCoverageStep (ts.take i) ps
      rw [List.length_take, Nat.min_eq_left (by omega)] at hcl
      have hrow := rows.at_ i p _ (by rw [← hlen]; simp) hcl
      have rvs : rV (as0 ++ [p]) = rV as0 ++ [V.ref p] := List.map_append
      have hfl := fold_len step_len (ts.take i) ps
      have hne' : ps ≠ [] := hne (by intro z; rw [z] at hil; simp at hil)
      refine ⟨.ref o, rfl, .inl ⟨rfl, _, SqL.of ho⟩, .ref o, rfl, 1, rfl, o, _, _, .ref p, rfl, rfl, SqL.of ho, by rw [rvs]; exact atI_last _ _, _, rfl, ?_⟩
      refine ⟨p, _, t, rfl, SqL.of hrow, ?_, by rw [hfl]; exact hlp, fun H2 r sm2 nr er => ?_⟩
      · intro z
        rw [z] at hfl
        exact hne' (List.eq_nil_of_length_eq_zero hfl.symm)
      have ho2 := sm2 _ _ ho
      refine ⟨o, _, _, rfl, rfl, ho2, ?_, ?_⟩
      · unfold rV
        rw [List.length_map, List.length_append, List.length_singleton]
        exact small1000 (by omega)
      have nrH : H r = none := by
        cases z : H r with
        | none => rfl
        | some y =>
          rw [sm r y z (ne_of_none z noH)] at nr
          cases nr
      refine ⟨_, as0 ++ [p] ++ [r], rfl, fun x y e hx => ?_, ?_, by simp, ?_, fun x hx => ?_⟩
      · rw [upd_ne hx]
        exact sm2 _ _ (sm x y e hx)
      · rw [upd_same]
        simp [rV]
      · rw [take_snocN et, course_snoc]
        exact ((rows.same sm2).snoc er).upd has ho2 _
      · rcases List.mem_append.mp hx with hx | hx
        · exact fresh x hx
        · rw [List.mem_singleton.mp hx]; exact nrH
    · rintro σ H' ⟨v, as, rfl, sm, ho, has, rows, fresh⟩
      rw [nV_length, List.take_length] at rows
      exact ⟨_, rfl, q H' o as (fun x y e => sm x y e (ne_of_none e noH)) noH ho rows fresh⟩
def spNear (K : PySem.W.Frag) : Sp := fun vs H Q _ => ∃ (a : Addr) (ps : List Nat) (t : Nat), vs = [.ref a, .int (t : Int)] ∧ SqL K H a (nV ps) ∧ ps ≠ [] ∧ ∀ H', Same H H' → Q (.int (Km559.nearest ps t : Nat)) H'
theorem ok_near {f : Addr} {fd : FuncData} {k : Nat} (F : Fun K "nearest" "nearest" sNear f fd) (mE : mg "enumerate" = none) (mA : mg "abs" = none) : FnOk P w K mg base CX0 (k + 1) f fd ["positions", "target"] (spNear K) := by
  refine F.ok scNear (fun vs H Q E h => ?_) (fun cdv A outer s H vs Q E hr h => ?_)
  · obtain ⟨a, ps, t, rfl, _⟩ := h
    rfl
  · obtain ⟨a, ps, t, rfl, hA, h0, q⟩ := h
    refine ⟨_, pss_cons (ps_set (i := 2) scNear.nd rfl (.inl rfl) pe_int)
      (pss_cons (ps_for PassesOwn.never rfl (pi_enum (by rfl) mE (pa_cons (pv 0) pa_nil)) (pg_tup rfl (pgs_cons (pg_name (i := 3) scNear.nd rfl (Or.inl rfl)) (pgs_cons (pg_name (i := 4) scNear.nd rfl (Or.inl rfl)) pgs_nil)))
        (pss_one (ps_if (pt_cmpR op_lt (pe_callB call_abs (by rfl) mA (by decide +kernel) (pa_cons (pe_op op_sub (pv 4) (pv 1)) pa_nil)) (pe_callB call_abs (by rfl) mA (by decide +kernel) (pa_cons (pe_op op_sub (pe_ix ix_list (pv 0) (pv 2) (fun _ _ => rfl)) (pv 1)) pa_nil)) (nomark _))
          (pss_one (ps_set (i := 2) scNear.nd rfl (.inl rfl) (pv 3))) pss_nil)))
      (pss_one (ps_ret (pv 2)))), ?_⟩
    refine ⟨.ref a, rfl, a, nV ps, rfl, hA, ?_⟩
    refine for_it walk_enum (fun i σ H' => ∃ v v', σ = [some (.ref a), some (.int (t : Int)), some (.int (nearUp ps t i : Nat)), v, v'] ∧ Same H H') ⟨none, none, rfl, Same.refl H⟩ (fun i σ H' _ ⟨_, _, _, sm⟩ => sm.seq hA) ?_ ?_
    · rintro i x σ H' H'' hi ⟨v, v', rfl, sm⟩ ⟨T, x1, x2, rfl, nT, rfl, g1, g2⟩
      obtain rfl := Option.some.inj g1
      obtain ⟨n2, e2, rfl⟩ := nV_get g2
      have sm2 : Same H (L2.upd H' T (.tup [V.int (i : Int), V.int (n2 : Int)])) := sm.trans (same_upd nT)
      have hil := lt_of_get e2
      have hj := nearUp_lt h0 t i (by omega)
      refine ⟨T, _, rfl, .inl (.inl upd_same), rfl, _, _, rfl, _, [], rfl, rfl, ?_⟩
      have hn : ps.getD i 0 = n2 := getD_of e2
      have up := nearUp_succ ps t i
      rw [hn] at up
      refine ⟨_, rfl, _, rfl, _, _, rfl, rfl, _, rfl, .ref a, rfl, _, rfl, a, _, _, _, rfl, rfl, sm2.seq hA, atI_nat (nV_at hj), _, rfl, _, _, rfl, rfl, _, rfl, _, _, rfl, rfl, _, rfl, ?_⟩
      by_cases d : Km559.distance n2 t < Km559.distance (ps.getD (nearUp ps t i) 0) t
      · rw [if_pos d] at up
        refine ifT (decide_eq_true ?_) ⟨_, rfl, ?_⟩
        · rw [abs_dist, abs_dist]; omega
        · rw [up]
          exact ⟨_, _, rfl, sm2⟩
      · rw [if_neg d] at up
        refine ifF (decide_eq_false ?_) ?_
        · rw [abs_dist, abs_dist]; omega
        · refine ⟨some (.int (i : Int)), some (.int (n2 : Int)), ?_, sm2⟩
          rw [up]
          rfl
    · rintro σ H' ⟨v, v', rfl, sm⟩
      refine ⟨_, rfl, ?_⟩
      rw [nV_length]
      exact q H' sm
theorem ok_gcourse {f fC : Addr} {fd fdC : FuncData} {k : Nat} (F : Fun K "greedy_course" "greedy_course" sGCourse f fd) (mLi : mg "list" = none)
    (GC : FnOk P w K mg base CX0 k fC fdC ["positions", "target"] (spNear K)) (bC : Binds K fdC ["positions", "target"] []) (kC : PySem.W.keepIn K (.ref fC) = true) (gC : mg "nearest" = some (.ref fC)) :
    FnOk P w K mg base CX0 (k + 1) f fd ["starts", "targets"] (spCourseOf K moveTo) := by
  refine F.ok scGCourse (fun vs H Q E h => ?_) (fun cdv A outer s H vs Q E hr h => ?_)
  · obtain ⟨a, b, ps, ts, rfl, _⟩ := h
    rfl
  · obtain ⟨a, b, ps, ts, rfl, hA, hB, hlp, hlt, hne, q⟩ := h
    refine ⟨_, pss_cons (ps_set (i := 2) scGCourse.nd rfl (.inl rfl) (pe_lst (pa_cons (pe_callTy call_list_of (by rfl) mLi (by decide +kernel) (pa_cons (pv 0) pa_nil)) pa_nil)))
      (pss_cons (ps_for PassesOwn.never rfl (pi_list (pv 1)) (pg_name (i := 3) scGCourse.nd rfl (Or.inl rfl))
        (pss_cons (ps_set (i := 4) scGCourse.nd rfl (.inl rfl) (pe_callTy call_list_of (by rfl) mLi (by decide +kernel) (pa_cons (pe_ix ix_list (pv 2) (pe_un un_neg pe_int) (fun _ _ => rfl)) pa_nil)))
        (pss_cons (ps_asg (pv 3) (pg_sub (pv 4) (pe_call GC hr (by rfl) gC kC bC .nil pass0 (pa_cons (pv 4) (pa_cons (pv 3) pa_nil))) set_list))
        (pss_one (ps_expr (pe_bm PySem.F.plainAttrs_list PySem.F.slot_list_append PySem.F.type_list_append mt_append (pv 2) (pa_cons (pv 4) pa_nil)))))))
      (pss_one (ps_ret (pv 2)))), ?_⟩
    -- course = [list(starts)]
    refine ⟨_, rfl, a, nV ps, rfl, .inl hA, fun c nc => ?_⟩
    have s1 : Same H (L2.upd H c (.lst (nV ps))) := same_upd nc
    refine ⟨by show 1 ≤ sizeLine; decide, fun o no => ?_⟩
    have s2 : Same (L2.upd H c (.lst (nV ps))) (L2.upd (L2.upd H c (.lst (nV ps))) o (.lst [.ref c])) := same_upd no
    have noH : H o = none := Same.free s1 no
    refine ⟨_, rfl, b, rfl, ⟨_, s2.seq (s1.seq hB)⟩, for_list (K := K) (a := b) (xs := nV ts) (fun i σ H' => ∃ v v' as, σ = [some (.ref a), some (.ref b), some (.ref o), v, v'] ∧ (∀ x y, H x = some y → x ≠ o → H' x = some y) ∧ H' o = some (.lst (rV as)) ∧ as ≠ [] ∧ Rows H' as (courseOf moveTo ps (ts.take i)) ∧ ∀ x ∈ as, H x = none)
      ?_ ?_ ?_ ?_⟩
    · refine ⟨none, none, [c], rfl, fun x y e hx => by rw [upd_ne hx]; exact s1 _ _ e, upd_same, by simp, ⟨rfl, fun i p l e1 e2 => ?_⟩, fun x hx => by rw [List.mem_singleton.mp hx]; exact nc⟩
      cases i with
      | zero =>
        obtain rfl := Option.some.inj e1
        obtain rfl := Option.some.inj e2
        exact s2 _ _ upd_same
      | succ i => simp at e1
    · rintro i σ H' _ ⟨v, v', as, _, sm, ho, _⟩
      exact Same.seq (H := H) (fun x y e => sm x y e (ne_of_none e noH)) hB
    · rintro i x σ H' hi ⟨v, v', as, rfl, sm, ho, has, rows, fresh⟩
      obtain ⟨t, et, rfl⟩ := nV_get hi
      have hil := lt_of_get et
      obtain ⟨as0, p, rfl⟩ : ∃ as0 p, as = as0 ++ [p] := ⟨as.dropLast, as.getLast has, (List.dropLast_concat_getLast has).symm⟩
      have hlen : as0.length = i := by
        have := rows.len
        rw [course_len, List.length_append, List.length_singleton, List.length_take] at this
        omega
      have hcl := course_last moveTo (ts.take i) ps
      rw [List.length_take, Nat.min_eq_left (by omega)] at hcl
      have hrow := rows.at_ i p _ (by rw [← hlen]; simp) hcl
      have rvs : rV (as0 ++ [p]) = rV as0 ++ [V.ref p] := List.map_append
      have hfl := fold_len move_len (ts.take i) ps
      have hne' : ps ≠ [] := hne (by intro z; rw [z] at hil; simp at hil)
      generalize hcur : (ts.take i).foldl moveTo ps = cur at hrow hfl
      have hcur0 : cur ≠ [] := fun z => hne' (by rw [z] at hfl; exact List.eq_nil_of_length_eq_zero hfl.symm)
      -- after = list(course[-1])
      refine ⟨.ref o, rfl, 1, rfl, o, _, _, .ref p, rfl, rfl, SqL.of ho, by rw [rvs]; exact atI_last _ _, p, _, rfl, .inl (SqL.of hrow), fun r nr => ?_⟩
      have s3 : Same H' (L2.upd H' r (.lst (nV cur))) := same_upd nr
      -- after[nearest(after, target)] = target
      refine ⟨_, rfl, .ref r, rfl, _, rfl, _, rfl, r, cur, t, rfl, SqL.of upd_same, hcur0, fun H2 sm2 => ?_⟩
      have er := sm2 _ _ (upd_same (H := H') (a := r) (o := .lst (nV cur)))
      have ho2 := sm2 _ _ (s3 _ _ ho)
      have ror : o ≠ r := ne_of_none ho nr
      refine ⟨r, _, _, _, rfl, rfl, er, by rw [nV_length]; exact ixN_nat (nearest_lt hcur0 t), ?_⟩
      -- course.append(after)
      refine ⟨.ref o, rfl, .inl ⟨rfl, _, SqL.of (by rw [upd_ne ror]; exact ho2)⟩, _, rfl, o, _, _, rfl, rfl, by rw [upd_ne ror]; exact ho2, ?_, ?_⟩
      · unfold rV
        rw [List.length_map, List.length_append, List.length_singleton]
        exact small1000 (by omega)
      have nrH : H r = none := by
        cases z : H r with
        | none => rfl
        | some y =>
          rw [sm r y z (ne_of_none z noH)] at nr
          cases nr
      refine ⟨_, _, as0 ++ [p] ++ [r], rfl, fun x y e hx => ?_, ?_, by simp, ?_, fun x hx => ?_⟩
      · have hxr : x ≠ r := ne_of_none (sm x y e hx) nr
        rw [upd_ne hx, upd_ne hxr]
        exact sm2 _ _ (s3 _ _ (sm x y e hx))
      · rw [upd_same]
        simp [rV]
      · rw [take_snocN et, course_snoc, hcur, nV_set]
        refine Rows.upd ?_ has (by rw [upd_ne ror]; exact ho2) _
        refine Rows.snoc ⟨rows.len, fun j p' l e1 e2 => ?_⟩ upd_same
        have hh := rows.at_ j p' l e1 e2
        rw [upd_ne (ne_of_none hh nr)]
        exact sm2 _ _ (s3 _ _ hh)
      · rcases List.mem_append.mp hx with hx | hx
        · exact fresh x hx
        · rw [List.mem_singleton.mp hx]; exact nrH
    · rintro σ H' ⟨v, v', as, rfl, sm, ho, has, rows, fresh⟩
      rw [nV_length, List.take_length] at rows
      exact ⟨_, rfl, q H' o as (fun x y e => sm x y e (ne_of_none e noH)) noH ho rows fresh⟩
end
end Ice
/-! iceline.operations: the instance, current, counted -/
namespace Ice
open PySem PySem.Spec PyProof.Rows L2
open Km559 (Dispatch)
def iF (ls lt : Addr) : List (Str × V) := [("starts", .ref ls), ("targets", .ref lt)]
theorem lk_here {k : Str} {v : V} {r : List (Str × V)} : List.lookup k ((k, v) :: r) = some v := by
  have e : (k == k) = true := beq_self_eq_true k
  simp only [List.lookup, e]
theorem lk_past {k g : Str} {v : V} {r : List (Str × V)} (h : (k == g) = false) : List.lookup k ((g, v) :: r) = List.lookup k r := by
  simp only [List.lookup, h]
theorem put_here {f : Str} {v x : V} {r : List (Str × V)} : putF f v ((f, x) :: r) = (f, v) :: r := if_pos rfl
theorem put_past {f g : Str} {v x : V} {r : List (Str × V)} (h : ¬ g = f) : putF f v ((g, x) :: r) = (g, x) :: putF f v r := if_neg h
theorem iF_s (ls lt : Addr) : (iF ls lt).lookup ("starts" : Str) = some (.ref ls) := lk_here
theorem iF_t (ls lt : Addr) : (iF ls lt).lookup ("targets" : Str) = some (.ref lt) := (lk_past (by decide +kernel)).trans lk_here
theorem iF_putT (ls lt x : Addr) : putF "targets" (.ref x) (iF ls lt) = iF ls x := (put_past (by decide +kernel)).trans (congrArg _ put_here)
theorem iF_new (ls lt : Addr) : putF "targets" (.ref lt) (putF "starts" (.ref ls) []) = iF ls lt := (put_past (by decide +kernel)).trans rfl
/-- an instance at a: its two lists at ls, lt -/
structure InstAt (C : Addr) (H : Hp) (a ls lt : Addr) (d : Dispatch) : Prop where
  obj : ∃ dx, H a = some (.ins C dx (iF ls lt))
  hs : H ls = some (.lst (nV d.starts))
  ht : H lt = some (.lst (nV d.requests))
  ne : ls ≠ lt
theorem InstAt.same {C : Addr} {H H' : Hp} {a ls lt : Addr} {d : Dispatch} (I : InstAt C H a ls lt d) (s : Same H H') : InstAt C H' a ls lt d := by
  obtain ⟨⟨dx, h⟩, h1, h2, h3⟩ := I
  exact ⟨⟨dx, s _ _ h⟩, s _ _ h1, s _ _ h2, h3⟩
/-- what the top has written of the class and of the names -/
structure Txt (K : PySem.W.Frag) (mg : Str → Option Value) (C : Addr) : Prop where
  cl : Cls K C
  nS : NoAttr K C "starts"
  nT : NoAttr K C "targets"
def NewI (H : Hp) (r : List Int) (Q : VK) : Prop := ∀ H' p, Same H H' → H p = none → H' p = some (.lst (r.map V.int)) → Q (.ref p) H'
/-- a number that the top has bound -/
def NumAt (mg : Str → Option Value) (x : Str) (n : Int) : Prop := ∃ t, mg x = some (.int n t)
abbrev sInit : Stmt := inClass (top 26) 0
abbrev sCur : Stmt := top 27
abbrev sCnt : Stmt := top 31
theorem scInit : FnScope ["self"] ["self"] (defScope sInit) := ⟨rfl, rfl, rfl, by decide +kernel, rfl, by decide +kernel, by decide +kernel⟩
theorem scCur : FnScope ["instance"] ["instance"] (defScope sCur) := ⟨rfl, rfl, rfl, by decide +kernel, rfl, by decide +kernel, by decide +kernel⟩
theorem scCnt : FnScope ["numbers"] ["numbers"] (defScope sCnt) := ⟨rfl, rfl, rfl, by decide +kernel, rfl, by decide +kernel, by decide +kernel⟩
section
variable {P : Program} {w : World} {K : PySem.W.Frag} {mg : Str → Option Value} {base : Heap} {C : Addr}
def spInit (C : Addr) : Sp := fun vs H Q _ => ∃ (p dx : Addr), vs = [.ref p] ∧ H p = some (.ins C dx []) ∧
  ∀ (H' : Hp) (ls lt : Addr), InstAt C H' p ls lt ⟨[], []⟩ → H ls = none → H lt = none → (∀ b o, H b = some o → b ≠ p → H' b = some o) → Q .non H'
theorem ok_init (T : Txt K mg C) {f : Addr} {fd : FuncData} {k : Nat} (F : Fun K "__init__" "Instance.__init__" sInit f fd) : FnOk P w K mg base CX0 (k + 1) f fd ["self"] (spInit C) := by
  refine F.ok scInit (fun vs H Q E h => ?_) (fun cdv A outer s H vs Q E hr h => ?_)
  · obtain ⟨p, dx, rfl, _⟩ := h
    rfl
  · obtain ⟨p, dx, rfl, hp, q⟩ := h
    refine ⟨_, pss_cons (ps_fld (pv 0) (pe_lst pa_nil) rfl) (pss_one (ps_fld (pv 0) (pe_lst pa_nil) rfl)), ?_⟩
    refine ⟨Nat.zero_le _, fun ls nls => ?_⟩
    have hp1 : p ≠ ls := ne_of_none hp nls
    refine ⟨_, rfl, p, C, dx, [], rfl, by rw [upd_ne hp1]; exact hp, T.cl, T.nS, (by show 0 < 1000; decide), ?_⟩
    refine ⟨Nat.zero_le _, fun lt nlt => ?_⟩
    have n1 : lt ≠ p := by
      intro z
      rw [z, upd_same] at nlt
      cases nlt
    have n2 : lt ≠ ls := by
      intro z
      rw [z, upd_ne hp1.symm, upd_same] at nlt
      cases nlt
    have nlt0 : H lt = none := by
      rw [upd_ne n1, upd_ne n2] at nlt
      exact nlt
    refine ⟨_, rfl, p, C, dx, _, rfl, by rw [upd_ne n1.symm, upd_same], T.cl, T.nT, (by show 1 < 1000; decide), ?_⟩
    refine q _ ls lt ⟨⟨dx, ?_⟩, ?_, ?_, n2.symm⟩ nls nlt0 fun b o e hb => ?_
    · rw [upd_same, iF_new]
    · rw [upd_ne hp1.symm, upd_ne n2.symm, upd_ne hp1.symm, upd_same]; rfl
    · rw [upd_ne n1, upd_same]; rfl
    · rw [upd_ne hb, upd_ne (ne_of_none e nlt0), upd_ne hb, upd_ne (ne_of_none e nls)]
      exact e
def spCur (C : Addr) : Sp := fun vs H Q _ => ∃ (a ls lt : Addr) (d : Dispatch), vs = [.ref a] ∧ InstAt C H a ls lt d ∧ Good d ∧ NewL H (Km559.currentPositions d) Q
theorem ok_cur (T : Txt K mg C) {f fC : Addr} {fd fdC : FuncData} {k : Nat} (F : Fun K "current" "current" sCur f fd)
    (GC : FnOk P w K mg base CX0 k fC fdC ["starts", "targets"] (spCourseOf K Km559.doubleCoverageStep)) (bC : Binds K fdC ["starts", "targets"] []) (kC : PySem.W.keepIn K (.ref fC) = true) (gC : mg "coverage_course" = some (.ref fC)) :
    FnOk P w K mg base CX0 (k + 1) f fd ["instance"] (spCur C) := by
  refine F.ok scCur (fun vs H Q E h => ?_) (fun cdv A outer s H vs Q E hr h => ?_)
  · obtain ⟨a, ls, lt, d, rfl, _⟩ := h
    rfl
  · obtain ⟨a, ls, lt, d, rfl, ⟨⟨dx, ho⟩, hs, ht, hne⟩, g, q⟩ := h
    refine ⟨_, pss_one (ps_ret (pe_ix ix_list (pe_call GC hr (by rfl) gC kC bC .nil pass0 (pa_cons (pe_fld (pv 0) rfl) (pa_cons (pe_fld (pv 0) rfl) pa_nil))) (pe_un un_neg pe_int) (fun _ _ => rfl))), ?_⟩
    refine ⟨_, rfl, a, C, dx, _, _, rfl, ho, T.cl, T.nS, iF_s ls lt, _, rfl, a, C, dx, _, _, rfl, ho, T.cl, T.nT, iF_t ls lt, ?_⟩
    have := g.len
    have := g.rlen
    refine ⟨ls, lt, d.starts, d.requests, rfl, SqL.of hs, SqL.of ht, by omega, by omega, g.some_, fun H' p as sm np hp rows fresh => ?_⟩
    have has : as ≠ [] := by
      intro z
      have := rows.len
      rw [z, course_len] at this
      simp at this
    obtain ⟨as0, r, rfl⟩ : ∃ as0 r, as = as0 ++ [r] := ⟨as.dropLast, as.getLast has, (List.dropLast_concat_getLast has).symm⟩
    have hlen : as0.length = d.requests.length := by
      have := rows.len
      rw [course_len, List.length_append, List.length_singleton] at this
      omega
    have hcl := course_last Km559.doubleCoverageStep d.requests d.starts
    have hrow := rows.at_ d.requests.length r _ (by rw [← hlen]; simp) hcl
    refine ⟨1, rfl, p, _, _, .ref r, rfl, rfl, SqL.of hp, by rw [show rV (as0 ++ [r]) = rV as0 ++ [V.ref r] from List.map_append]; exact atI_last _ _, ?_⟩
    refine q H' r sm (fresh r (by simp)) ?_
    rw [hrow]
    unfold Km559.currentPositions
    rw [dc_fold]
def spCnt : Sp := fun vs H Q _ => ∃ (a : Addr) (l : List Nat), vs = [.ref a] ∧ H a = some (.lst (nV l)) ∧ l.length ≤ 1000 ∧ NewI H ((l.length : Int) :: Km559.toInts l) Q
theorem ok_cnt {f : Addr} {fd : FuncData} {k : Nat} (F : Fun K "counted" "counted" sCnt f fd) (mL : mg "len" = none) : FnOk P w K mg base CX0 (k + 1) f fd ["numbers"] spCnt := by
  refine F.ok scCnt (fun vs H Q E h => ?_) (fun cdv A outer s H vs Q E hr h => ?_)
  · obtain ⟨a, l, rfl, _⟩ := h
    rfl
  · obtain ⟨a, l, rfl, ha, hl, q⟩ := h
    refine ⟨_, pss_one (ps_ret (pe_op op_cat (pe_lst (pa_cons (pe_callB call_len_seq (by rfl) mL PySem.boot_len (pa_cons (pv 0) pa_nil)) pa_nil)) (pv 0))), ?_⟩
    refine ⟨_, rfl, a, _, rfl, .inl (SqL.of ha), by show 1 ≤ sizeLine; decide, fun o no => ?_⟩
    have nao : a ≠ o := ne_of_none ha no
    refine ⟨_, rfl, o, a, _, _, rfl, rfl, upd_same, by rw [upd_ne nao]; exact ha, ?_, fun p np => ?_⟩
    · rw [nV_length, List.length_singleton]
      exact Nat.le_of_lt (Nat.lt_of_le_of_lt (show 1 + l.length ≤ 1001 by omega) (by decide))
    · have s1 : Same H (L2.upd H o (.lst [.int ((nV l).length : Nat)])) := same_upd no
      refine q _ p (s1.trans (same_upd np)) (Same.free s1 np) ?_
      rw [upd_same, nV_length]
      show some (HO.lst (V.int (l.length : Int) :: nV l)) = _
      rw [nV_ints]
      rfl
end
end Ice
/-! iceline.operations: what several operations share -/
namespace Ice
open PySem PySem.Spec PyProof.Rows L2
open Km559 (Dispatch Call)
theorem NewI.one {H : Hp} {n : Int} {Q : VK} (q : NewI H [n] Q) : 1 ≤ sizeLine ∧ ∀ p, H p = none → Q (.ref p) (L2.upd H p (.lst [.int n])) :=
  ⟨by decide, fun p np => q _ p (same_upd np) np upd_same⟩
abbrev sCT : Stmt := top 28
abbrev sGT : Stmt := top 29
abbrev sSrv : Stmt := top 30
abbrev sSR : Stmt := top 32
abbrev sTR : Stmt := top 33
theorem scCT : FnScope ["starts", "targets"] ["starts", "targets"] (defScope sCT) := ⟨rfl, rfl, rfl, by decide +kernel, rfl, by decide +kernel, by decide +kernel⟩
theorem scGT : FnScope ["starts", "targets"] ["starts", "targets"] (defScope sGT) := ⟨rfl, rfl, rfl, by decide +kernel, rfl, by decide +kernel, by decide +kernel⟩
theorem scSrv : FnScope ["instance", "target", "before", "after"] ["instance", "target"] (defScope sSrv) := ⟨rfl, rfl, rfl, by decide +kernel, rfl, by decide +kernel, by decide +kernel⟩
theorem scSR : FnScope ["instance", "position"] ["instance", "position"] (defScope sSR) := ⟨rfl, rfl, rfl, by decide +kernel, rfl, by decide +kernel, by decide +kernel⟩
theorem scTR : FnScope ["instance", "target"] ["instance", "target"] (defScope sTR) := ⟨rfl, rfl, rfl, by decide +kernel, rfl, by decide +kernel, by decide +kernel⟩
/-- a refusal's list, or None -/
def RefI (H : Hp) (r : Option Int) (Q : VK) : Prop := match r with
  | some c => NewI H [c] Q
  | none => Q .non H
def refS (d : Dispatch) (x : Nat) : Option Int := if 99 < x then some (-22) else if 3 ≤ d.starts.length then some (-28) else none
def refT (d : Dispatch) (t : Nat) : Option Int := if 99 < t then some (-22) else if d.starts.length = 0 then some (-6) else none
section
variable {P : Program} {w : World} {K : PySem.W.Frag} {mg : Str → Option Value} {base : Heap} {C : Addr}
/-- the distance of a whole course -/
def spTotal (K : PySem.W.Frag) (f : List Nat → Nat → List Nat) : Sp := fun vs H Q _ => ∃ (a b : Addr) (ps ts : List Nat), vs = [.ref a, .ref b] ∧ SqL K H a (nV ps) ∧ SqL K H b (nV ts) ∧ ps.length ≤ 1000 ∧ ts.length ≤ 800 ∧ (ts ≠ [] → ps ≠ []) ∧
  ∀ H', Same H H' → Q (.int (courseDist (courseOf f ps ts) : Nat)) H'
theorem ok_ct {f fC fD : Addr} {fd fdC fdD : FuncData} {k : Nat} (F : Fun K "coverage_total" "coverage_total" sCT f fd)
    (GC : FnOk P w K mg base CX0 k fC fdC ["starts", "targets"] (spCourseOf K Km559.doubleCoverageStep)) (bC : Binds K fdC ["starts", "targets"] []) (kC : PySem.W.keepIn K (.ref fC) = true) (gC : mg "coverage_course" = some (.ref fC))
    (GD : FnOk P w K mg base CX0 k fD fdD ["course"] (spCourse K)) (bD : Binds K fdD ["course"] []) (kD : PySem.W.keepIn K (.ref fD) = true) (gD : mg "course_distance" = some (.ref fD)) :
    FnOk P w K mg base CX0 (k + 1) f fd ["starts", "targets"] (spTotal K Km559.doubleCoverageStep) := by
  refine F.ok scCT (fun vs H Q E h => ?_) (fun cdv A outer s H vs Q E hr h => ?_)
  · obtain ⟨a, b, ps, ts, rfl, _⟩ := h
    rfl
  · obtain ⟨a, b, ps, ts, rfl, hA, hB, hps, hts, hne, q⟩ := h
    refine ⟨_, pss_one (ps_ret (pe_call GD hr (by rfl) gD kD bD .nil pass0 (pa_cons (pe_call GC hr (by rfl) gC kC bC .nil pass0 (pa_cons (pv 0) (pa_cons (pv 1) pa_nil))) pa_nil))), ?_⟩
    refine ⟨.ref a, rfl, .ref b, rfl, a, b, ps, ts, rfl, hA, hB, hps, by omega, hne, fun H1 p as s1 n1 e1 rows fresh => ?_⟩
    exact ⟨p, as, _, rfl, SqL.of e1, rows, by rw [course_len]; omega, fun l hl => by rw [course_row step_len _ _ l hl]; omega, fun H2 s2 => q H2 (s1.trans s2)⟩
theorem ok_gt {f fC fD : Addr} {fd fdC fdD : FuncData} {k : Nat} (F : Fun K "greedy_total" "greedy_total" sGT f fd)
    (GC : FnOk P w K mg base CX0 k fC fdC ["starts", "targets"] (spCourseOf K moveTo)) (bC : Binds K fdC ["starts", "targets"] []) (kC : PySem.W.keepIn K (.ref fC) = true) (gC : mg "greedy_course" = some (.ref fC))
    (GD : FnOk P w K mg base CX0 k fD fdD ["course"] (spCourse K)) (bD : Binds K fdD ["course"] []) (kD : PySem.W.keepIn K (.ref fD) = true) (gD : mg "course_distance" = some (.ref fD)) :
    FnOk P w K mg base CX0 (k + 1) f fd ["starts", "targets"] (spTotal K moveTo) := by
  refine F.ok scGT (fun vs H Q E h => ?_) (fun cdv A outer s H vs Q E hr h => ?_)
  · obtain ⟨a, b, ps, ts, rfl, _⟩ := h
    rfl
  · obtain ⟨a, b, ps, ts, rfl, hA, hB, hps, hts, hne, q⟩ := h
    refine ⟨_, pss_one (ps_ret (pe_call GD hr (by rfl) gD kD bD .nil pass0 (pa_cons (pe_call GC hr (by rfl) gC kC bC .nil pass0 (pa_cons (pv 0) (pa_cons (pv 1) pa_nil))) pa_nil))), ?_⟩
    refine ⟨.ref a, rfl, .ref b, rfl, a, b, ps, ts, rfl, hA, hB, hps, by omega, hne, fun H1 p as s1 n1 e1 rows fresh => ?_⟩
    exact ⟨p, as, _, rfl, SqL.of e1, rows, by rw [course_len]; omega, fun l hl => by rw [course_row move_len _ _ l hl]; omega, fun H2 s2 => q H2 (s1.trans s2)⟩
/-- what a request answers -/
def spSrv (C : Addr) : Sp := fun vs H Q _ => ∃ (a ls lt : Addr) (d : Dispatch) (t : Nat), vs = [.ref a, .int (t : Int)] ∧ InstAt C H a ls lt d ∧ Good d ∧ d.starts.length ≠ 0 ∧
  NewI H ((Km559.distanceMoved (Km559.currentPositions d) (Km559.doubleCoverageStep (Km559.currentPositions d) t) : Int) :: Km559.toInts (Km559.doubleCoverageStep (Km559.currentPositions d) t)) Q
theorem ok_srv {f fU fV fM : Addr} {fd fdU fdV fdM : FuncData} {k : Nat} (F : Fun K "served" "served" sSrv f fd)
    (GU : FnOk P w K mg base CX0 k fU fdU ["instance"] (spCur C)) (bU : Binds K fdU ["instance"] []) (kU : PySem.W.keepIn K (.ref fU) = true) (gU : mg "current" = some (.ref fU))
    (GV : FnOk P w K mg base CX0 k fV fdV ["positions", "target"] (spCov K)) (bV : Binds K fdV ["positions", "target"] []) (kV : PySem.W.keepIn K (.ref fV) = true) (gV : mg "covered" = some (.ref fV))
    (GM : FnOk P w K mg base CX0 k fM fdM ["before", "after"] (spMoved K)) (bM : Binds K fdM ["before", "after"] []) (kM : PySem.W.keepIn K (.ref fM) = true) (gM : mg "moved_between" = some (.ref fM)) :
    FnOk P w K mg base CX0 (k + 1) f fd ["instance", "target"] (spSrv C) := by
  refine F.ok scSrv (fun vs H Q E h => ?_) (fun cdv A outer s H vs Q E hr h => ?_)
  · obtain ⟨a, ls, lt, d, t, rfl, _⟩ := h
    rfl
  · obtain ⟨a, ls, lt, d, x, rfl, I, gd, c2, q⟩ := h
    refine ⟨_, pss_cons (ps_set (i := 2) scSrv.nd rfl (.inl rfl) (pe_call GU hr (by rfl) gU kU bU .nil pass0 (pa_cons (pv 0) pa_nil)))
      (pss_cons (ps_set (i := 3) scSrv.nd rfl (.inl rfl) (pe_call GV hr (by rfl) gV kV bV .nil pass0 (pa_cons (pv 2) (pa_cons (pv 1) pa_nil))))
      (pss_one (ps_ret (pe_op op_cat (pe_lst (pa_cons (pe_call GM hr (by rfl) gM kM bM .nil pass0 (pa_cons (pv 2) (pa_cons (pv 3) pa_nil))) pa_nil)) (pv 3))))), ?_⟩
    have hcl := cur_len d
    have hsl := step_length (Km559.currentPositions d) x
    have hgl := gd.len
    rw [moved_shift hsl.symm] at q
    refine ⟨_, rfl, a, ls, lt, d, rfl, I, gd, fun H1 p1 s1 n1 e1 => ?_⟩
    refine ⟨_, rfl, _, rfl, p1, _, x, rfl, SqL.of e1, ?_, by omega, fun H2 p2 s2 n2 e2 => ?_⟩
    · intro z
      rw [z] at hcl
      exact c2 hcl.symm
    have s12 := s1.trans s2
    have e12 := s2 _ _ e1
    refine ⟨_, rfl, _, rfl, p1, p2, _, _, rfl, SqL.of e12, SqL.of e2, by omega, fun H4 s4 => ?_⟩
    refine ⟨by show 1 ≤ sizeLine; decide, fun o no => ?_⟩
    have e24 := s4 _ _ e2
    refine ⟨_, rfl, o, p2, _, _, rfl, rfl, upd_same, by rw [upd_ne (ne_of_none e24 no)]; exact e24, ?_, fun r nr => ?_⟩
    · rw [nV_length, List.length_singleton]
      exact Nat.le_of_lt (Nat.lt_of_le_of_lt (show 1 + _ ≤ 4 by omega) (by decide))
    have s5 : Same H4 (L2.upd H4 o (.lst [.int (shift (Km559.currentPositions d) (Km559.doubleCoverageStep (Km559.currentPositions d) x) : Nat)])) := same_upd no
    refine q _ r (((s12.trans s4).trans s5).trans (same_upd nr)) (((s12.trans s4).trans s5).free nr) ?_
    rw [upd_same]
    show some (HO.lst (V.int _ :: nV _)) = _
    rw [nV_ints]
    rfl
def spSR (C : Addr) : Sp := fun vs H Q _ => ∃ (a ls lt : Addr) (d : Dispatch) (x : Nat), vs = [.ref a, .int (x : Int)] ∧ InstAt C H a ls lt d ∧ RefI H (refS d x) Q
theorem ok_sr (T : Txt K mg C) {f : Addr} {fd : FuncData} {k : Nat} (F : Fun K "start_refusal" "start_refusal" sSR f fd) (mL : mg "len" = none)
    (nLast : NumAt mg "LAST_POSITION" 99) (nOff : NumAt mg "OFF_THE_COAST" (-22)) (nMost : NumAt mg "MOST_ICEBREAKERS" 3) (nFull : NumAt mg "FULL" (-28)) :
    FnOk P w K mg base CX0 (k + 1) f fd ["instance", "position"] (spSR C) := by
  obtain ⟨t1, g1⟩ := nLast
  obtain ⟨t2, g2⟩ := nOff
  obtain ⟨t3, g3⟩ := nMost
  obtain ⟨t4, g4⟩ := nFull
  refine F.ok scSR (fun vs H Q E h => ?_) (fun cdv A outer s H vs Q E hr h => ?_)
  · obtain ⟨a, ls, lt, d, x, rfl, _⟩ := h
    rfl
  · obtain ⟨a, ls, lt, d, x, rfl, ⟨⟨dx, ho⟩, hs, ht, hne⟩, q⟩ := h
    refine ⟨_, pss_cons (ps_if (pt_cmpR op_gt (pv 1) (pe_glob (v := .int 99) rfl g1 ⟨_, rfl⟩) (nomark _)) (pss_one (ps_ret (pe_lst (pa_cons (pe_glob (v := .int (-22)) rfl g2 ⟨_, rfl⟩) pa_nil)))) pss_nil)
      (pss_cons (ps_if (pt_cmpR op_ge (pe_callB call_len_seq (by rfl) mL PySem.boot_len (pa_cons (pe_fld (pv 0) rfl) pa_nil)) (pe_glob (v := .int 3) rfl g3 ⟨_, rfl⟩) (nomark _)) (pss_one (ps_ret (pe_lst (pa_cons (pe_glob (v := .int (-28)) rfl g4 ⟨_, rfl⟩) pa_nil)))) pss_nil)
      (pss_one (ps_ret pe_non))), ?_⟩
    unfold refS at q
    refine ⟨_, rfl, _, _, rfl, rfl, _, rfl, ?_⟩
    by_cases c1 : 99 < x
    · rw [if_pos c1] at q
      exact ifT (decide_eq_true (by omega)) (NewI.one q)
    refine ifF (decide_eq_false (by omega)) ?_
    rw [if_neg c1] at q
    refine ⟨_, rfl, a, C, dx, _, _, rfl, ho, T.cl, T.nS, iF_s ls lt, ls, _, rfl, .inl (SqL.of hs), _, _, rfl, rfl, _, rfl, ?_⟩
    by_cases c2 : 3 ≤ d.starts.length
    · rw [if_pos c2] at q
      exact ifT (decide_eq_true (by rw [nV_length]; omega)) (NewI.one q)
    refine ifF (decide_eq_false (by rw [nV_length]; omega)) ?_
    rw [if_neg c2] at q
    exact q
def spTR (C : Addr) : Sp := fun vs H Q _ => ∃ (a ls lt : Addr) (d : Dispatch) (x : Nat), vs = [.ref a, .int (x : Int)] ∧ InstAt C H a ls lt d ∧ RefI H (refT d x) Q
theorem ok_tr (T : Txt K mg C) {f : Addr} {fd : FuncData} {k : Nat} (F : Fun K "target_refusal" "target_refusal" sTR f fd) (mL : mg "len" = none)
    (nLast : NumAt mg "LAST_POSITION" 99) (nOff : NumAt mg "OFF_THE_COAST" (-22)) (nNone : NumAt mg "NONE_YET" (-6)) :
    FnOk P w K mg base CX0 (k + 1) f fd ["instance", "target"] (spTR C) := by
  obtain ⟨t1, g1⟩ := nLast
  obtain ⟨t2, g2⟩ := nOff
  obtain ⟨t3, g3⟩ := nNone
  refine F.ok scTR (fun vs H Q E h => ?_) (fun cdv A outer s H vs Q E hr h => ?_)
  · obtain ⟨a, ls, lt, d, x, rfl, _⟩ := h
    rfl
  · obtain ⟨a, ls, lt, d, x, rfl, ⟨⟨dx, ho⟩, hs, ht, hne⟩, q⟩ := h
    refine ⟨_, pss_cons (ps_if (pt_cmpR op_gt (pv 1) (pe_glob (v := .int 99) rfl g1 ⟨_, rfl⟩) (nomark _)) (pss_one (ps_ret (pe_lst (pa_cons (pe_glob (v := .int (-22)) rfl g2 ⟨_, rfl⟩) pa_nil)))) pss_nil)
      (pss_cons (ps_if (pt_cmpR op_eq (pe_callB call_len_seq (by rfl) mL PySem.boot_len (pa_cons (pe_fld (pv 0) rfl) pa_nil)) pe_int (nomark _)) (pss_one (ps_ret (pe_lst (pa_cons (pe_glob (v := .int (-6)) rfl g3 ⟨_, rfl⟩) pa_nil)))) pss_nil)
      (pss_one (ps_ret pe_non))), ?_⟩
    unfold refT at q
    refine ⟨_, rfl, _, _, rfl, rfl, _, rfl, ?_⟩
    by_cases c1 : 99 < x
    · rw [if_pos c1] at q
      exact ifT (decide_eq_true (by omega)) (NewI.one q)
    refine ifF (decide_eq_false (by omega)) ?_
    rw [if_neg c1] at q
    refine ⟨_, rfl, a, C, dx, _, _, rfl, ho, T.cl, T.nS, iF_s ls lt, ls, _, rfl, .inl (SqL.of hs), rfl, _, rfl, ?_⟩
    by_cases c2 : d.starts.length = 0
    · rw [if_pos c2] at q
      exact ifT (decide_eq_true (by rw [nV_length, c2]; rfl)) (NewI.one q)
    refine ifF (decide_eq_false (by
      rw [nV_length]
      intro z
      injection z with z
      exact c2 (by omega))) ?_
    rw [if_neg c2] at q
    exact q
end
end Ice
/-! iceline.operations: what each call answers, by the specification's step -/
namespace Ice
open PySem PySem.Spec PyProof.Rows L2
open Km559 (Dispatch Call)
/-! ### the promise of an operation -/
/-- all else stands, and is none of the instance's own -/
def Frm (H H' : Hp) (a ls lt ls' lt' : Addr) : Prop := ∀ b o, H b = some o → b ≠ a → b ≠ ls → b ≠ lt → H' b = some o ∧ b ≠ ls' ∧ b ≠ lt'
def AnsI (C : Addr) (H : Hp) (a ls lt : Addr) (r : Dispatch × List Int) (Q : VK) : Prop := ∀ H' p ls' lt', InstAt C H' a ls' lt' r.1 → H' p = some (.lst (r.2.map V.int)) → H p = none → Frm H H' a ls lt ls' lt' → Q (.ref p) H'
theorem AnsI.new {C : Addr} {H : Hp} {a ls lt : Addr} {d : Dispatch} {r : List Int} {Q : VK} (q : AnsI C H a ls lt (d, r) Q) (I : InstAt C H a ls lt d) : NewI H r Q :=
  fun H' p sm np hp => q H' p ls lt (I.same sm) hp np fun b o e _ h1 h2 => ⟨sm _ _ e, h1, h2⟩
/-- nothing that was there is gone -/
def Dom (H H' : Hp) : Prop := ∀ p, H' p = none → H p = none
theorem Dom.refl (H : Hp) : Dom H H := fun _ h => h
theorem Dom.upd {H H' : Hp} (d : Dom H H') {a : Addr} {o : HO} : Dom H (L2.upd H' a o) := fun p h => by
  by_cases e : p = a
  · rw [e, upd_same] at h
    cases h
  · rw [upd_ne e] at h
    exact d p h
theorem Dom.same {H H' : Hp} (s : Same H H') : Dom H H' := fun _ h => s.free h
theorem Dom.trans {H H1 H' : Hp} (a : Dom H H1) (b : Dom H1 H') : Dom H H' := fun p h => a p (b p h)
/-- the answer's list of one number, behind what has changed -/
theorem AnsI.fin {C : Addr} {H H3 : Hp} {a ls lt ls' lt' : Addr} {d : Dispatch} {n : Int} {Q : VK} (q : AnsI C H a ls lt (d, [n]) Q) (I : InstAt C H3 a ls' lt' d) (F : Frm H H3 a ls lt ls' lt') (D : Dom H H3) :
    1 ≤ sizeLine ∧ ∀ p, H3 p = none → Q (.ref p) (L2.upd H3 p (.lst [.int n])) :=
  ⟨by decide, fun p np => q _ p ls' lt' (I.same (same_upd np)) upd_same (D p np) fun b o e h0 h1 h2 =>
    let z := F b o e h0 h1 h2
    ⟨same_upd np _ _ z.1, z.2⟩⟩
/-- instance.targets = [], the starts standing at ls -/
theorem inst_clear {C : Addr} {H1 : Hp} {a ls l lt dx : Addr} {S : List Nat} (ho : H1 a = some (.ins C dx (iF ls lt))) (hs : H1 ls = some (.lst (nV S))) (nl : H1 l = none) :
    InstAt C (L2.upd (L2.upd H1 l (.lst [])) a (.ins C dx (iF ls l))) a ls l ⟨S, []⟩ := by
  have n1 : ls ≠ a := ne_of hs ho (by intro z; cases z)
  have n2 : ls ≠ l := ne_of_none hs nl
  have n3 : a ≠ l := ne_of_none ho nl
  refine ⟨⟨dx, upd_same⟩, ?_, ?_, n2⟩
  · rw [upd_ne n1, upd_ne n2]; exact hs
  · rw [upd_ne n3.symm, upd_same]; rfl
theorem frm_clear {H H1 : Hp} {a ls l lt dx : Addr} {x y : HO} (F : ∀ b o, H b = some o → b ≠ a → b ≠ ls → b ≠ lt → H1 b = some o) (nl : H1 l = none) :
    Frm H (L2.upd (L2.upd H1 l x) a y) a ls lt ls l := fun b o e h0 h1 h2 => by
  have z := F b o e h0 h1 h2
  have n : b ≠ l := ne_of_none z nl
  refine ⟨?_, h1, n⟩
  rw [upd_ne h0, upd_ne n]
  exact z
def spOp (K : PySem.W.Frag) (C : Addr) (n : Nat) (c : List Nat → Call) : Sp := fun vs H Q _ => ∃ (a g ls lt : Addr) (d : Dispatch) (xs : List Nat), vs = [.ref a, .ref g] ∧ InstAt C H a ls lt d ∧ Good d ∧ SqL K H g (nV xs) ∧ xs.length = n ∧
  AnsI C H a ls lt (opRes d (c xs)) Q
abbrev sOp (n : Nat) : Stmt := top (33 + n)
theorem scAdd : FnScope ["instance", "given", "position", "refusal"] ["instance", "given"] (defScope (sOp 1)) := ⟨rfl, rfl, rfl, by decide +kernel, rfl, by decide +kernel, by decide +kernel⟩
section
variable {P : Program} {w : World} {K : PySem.W.Frag} {mg : Str → Option Value} {base : Heap} {C : Addr}
theorem ok_add (T : Txt K mg C) {f fR : Addr} {fd fdR : FuncData} {k : Nat} (F : Fun K "add_icebreaker" "add_icebreaker" (sOp 1) f fd) (mL : mg "len" = none)
    (GR : FnOk P w K mg base CX0 k fR fdR ["instance", "position"] (spSR C)) (bR : Binds K fdR ["instance", "position"] []) (kR : PySem.W.keepIn K (.ref fR) = true) (gR : mg "start_refusal" = some (.ref fR)) :
    FnOk P w K mg base CX0 (k + 1) f fd ["instance", "given"] (spOp K C 1 fun xs => .addIcebreaker (xs.getD 0 0)) := by
  refine F.ok scAdd (fun vs H Q E h => ?_) (fun cdv A outer s H vs Q E hr h => ?_)
  · obtain ⟨a, g, ls, lt, d, xs, rfl, _⟩ := h
    rfl
  · obtain ⟨a, g, ls, lt, d, xs, rfl, I, gd, hG, hx, q⟩ := h
    have I' := I
    obtain ⟨⟨dx, ho⟩, hs, ht, hne⟩ := I'
    refine ⟨_, pss_cons (ps_set (i := 2) scAdd.nd rfl (.inl rfl) (pe_ix ix_list (pv 1) pe_int (fun _ _ => rfl)))
      (pss_cons (ps_set (i := 3) scAdd.nd rfl (.inl rfl) (pe_call GR hr (by rfl) gR kR bR .nil pass0 (pa_cons (pv 0) (pa_cons (pv 2) pa_nil))))
      (pss_cons (ps_if (pt_cmpR op_notN (pv 3) pe_non (nomark _)) (pss_one (ps_ret (pv 3))) pss_nil)
      (pss_cons (ps_expr (pe_bm PySem.F.plainAttrs_list PySem.F.slot_list_append PySem.F.type_list_append mt_append (pe_fld (pv 0) rfl) (pa_cons (pv 2) pa_nil)))
      (pss_cons (ps_fld (pv 0) (pe_lst pa_nil) rfl)
      (pss_one (ps_ret (pe_lst (pa_cons (pe_op op_sub (pe_callB call_len_seq (by rfl) mL PySem.boot_len (pa_cons (pe_fld (pv 0) rfl) pa_nil)) pe_int) pa_nil)))))))), ?_⟩
    simp only [sr_add] at q
    generalize hxx : xs.getD 0 0 = x at q
    refine ⟨_, rfl, g, _, _, _, rfl, rfl, hG, atI_nat (j := 0) (nV_at (by omega)), ?_⟩
    rw [hxx]
    refine ⟨_, rfl, _, rfl, a, ls, lt, d, x, rfl, I, ?_⟩
    unfold refS
    by_cases c1 : 99 < x
    · rw [if_pos c1] at q ⊢
      intro H' p sm np hp
      exact ⟨_, rfl, rfl, _, rfl, ifT rfl ⟨_, rfl, q.new I H' p sm np hp⟩⟩
    rw [if_neg c1] at q ⊢
    by_cases c2 : 3 ≤ d.starts.length
    · rw [if_pos c2] at q ⊢
      intro H' p sm np hp
      exact ⟨_, rfl, rfl, _, rfl, ifT rfl ⟨_, rfl, q.new I H' p sm np hp⟩⟩
    rw [if_neg c2] at q ⊢
    refine ⟨_, rfl, rfl, _, rfl, ifF rfl ?_⟩
    -- instance.starts.append(position)
    refine ⟨_, rfl, a, C, dx, _, _, rfl, ho, T.cl, T.nS, iF_s ls lt, .inl ⟨rfl, _, SqL.of hs⟩, _, rfl, ls, _, _, rfl, rfl, hs, ?_, ?_⟩
    · rw [nV_length]
      exact small1000 (by omega)
    -- instance.targets = []
    have las : a ≠ ls := ne_of ho hs (by intro z; cases z)
    refine ⟨Nat.zero_le _, fun l nl => ?_⟩
    have ho1 : L2.upd H ls (.lst (nV d.starts ++ [.int (x : Int)])) a = some (.ins C dx (iF ls lt)) := by rw [upd_ne las]; exact ho
    refine ⟨_, rfl, a, C, dx, _, rfl, by rw [upd_ne (ne_of_none ho1 nl)]; exact ho1, T.cl, T.nT, (by show 2 < 1000; decide), ?_⟩
    rw [iF_putT]
    have I3 := inst_clear (S := d.starts ++ [x]) (lt := lt) ho1 (by rw [upd_same, nV_app]; rfl) nl
    have F3 : Frm H (L2.upd (L2.upd (L2.upd H ls (.lst (nV d.starts ++ [.int (x : Int)]))) l (.lst [])) a (.ins C dx (iF ls l))) a ls lt ls l :=
      frm_clear (dx := dx) (fun b o e _ h1 _ => by rw [upd_ne h1]; exact e) nl
    generalize hH3 : L2.upd (L2.upd (L2.upd H ls (.lst (nV d.starts ++ [.int (x : Int)]))) l (.lst [])) a (.ins C dx (iF ls l)) = H3 at I3 F3 ⊢
    have D3 : Dom H H3 := by rw [← hH3]; exact (Dom.refl H).upd.upd.upd
    obtain ⟨⟨dx', ho'⟩, hs', ht', hne'⟩ := I3
    refine ⟨_, rfl, a, C, dx', _, _, rfl, ho', T.cl, T.nS, iF_s ls l, ls, _, rfl, .inl (SqL.of hs'), _, _, rfl, rfl, ?_⟩
    have en : (((nV (d.starts ++ [x])).length : Nat) : Int) - 1 = (d.starts.length : Int) := by
      rw [nV_length, List.length_append, List.length_singleton]; omega
    dsimp only
    rw [en]
    exact q.fin ⟨⟨dx', ho'⟩, hs', ht', hne'⟩ F3 D3
end
end Ice
/-! iceline.operations: the other operations -/
namespace Ice
open PySem PySem.Spec PyProof.Rows L2
open Km559 (Dispatch Call)
theorem seq_nat {i n : Nat} (h : i < n) : seqIndex? (i : Int) n = some i := by
  have h0 : ¬ ((i : Int) < 0) := by omega
  unfold seqIndex?
  simp only [if_neg h0]
  rw [if_pos (by simp; omega), Int.toNat_natCast]
theorem nV_erase : ∀ (l : List Nat) (i : Nat), (nV l).eraseIdx i = nV (l.eraseIdx i)
  | [], _ => rfl
  | a :: l, 0 => rfl
  | a :: l, i + 1 => by
    show V.int (a : Int) :: (nV l).eraseIdx i = V.int (a : Int) :: nV (l.eraseIdx i)
    rw [nV_erase l i]
/-- the last row of a course -/
theorem Rows.last {H : Hp} {p : Addr} {as : List Addr} {f : List Nat → Nat → List Nat} {ps ts : List Nat} (r : Rows H as (courseOf f ps ts)) (_ : H p = some (.lst (rV as))) :
    ∃ x, H x = some (.lst (nV (ts.foldl f ps))) ∧ atI (rV as) (-1) = some (.ref x) := by
  have has : as ≠ [] := by
    intro z
    have := r.len
    rw [z, course_len] at this
    simp at this
  obtain ⟨as0, x, rfl⟩ : ∃ as0 x, as = as0 ++ [x] := ⟨as.dropLast, as.getLast has, (List.dropLast_concat_getLast has).symm⟩
  have hlen : as0.length = ts.length := by
    have := r.len
    rw [course_len, List.length_append, List.length_singleton] at this
    omega
  exact ⟨x, r.at_ ts.length x _ (by rw [← hlen]; simp) (course_last f ts ps), by rw [show rV (as0 ++ [x]) = rV as0 ++ [V.ref x] from List.map_append]; exact atI_last _ _⟩
theorem scRem : FnScope ["instance", "given", "icebreaker"] ["instance", "given"] (defScope (sOp 2)) := ⟨rfl, rfl, rfl, by decide +kernel, rfl, by decide +kernel, by decide +kernel⟩
theorem scSet : FnScope ["instance", "given", "icebreaker", "position", "old"] ["instance", "given"] (defScope (sOp 3)) := ⟨rfl, rfl, rfl, by decide +kernel, rfl, by decide +kernel, by decide +kernel⟩
theorem scReq : FnScope ["instance", "given", "target", "refusal", "answer"] ["instance", "given"] (defScope (sOp 4)) := ⟨rfl, rfl, rfl, by decide +kernel, rfl, by decide +kernel, by decide +kernel⟩
theorem scUndo : FnScope ["instance", "given"] ["instance", "given"] (defScope (sOp 5)) := ⟨rfl, rfl, rfl, by decide +kernel, rfl, by decide +kernel, by decide +kernel⟩
theorem scClear : FnScope ["instance", "given", "old"] ["instance", "given"] (defScope (sOp 6)) := ⟨rfl, rfl, rfl, by decide +kernel, rfl, by decide +kernel, by decide +kernel⟩
theorem scTwo {n : Nat} (h1 : (defScope (sOp n)).kind = .function := by rfl) (h2 : (defScope (sOp n)).isCoroutine = false := by rfl) (h3 : (defScope (sOp n)).isGenerator = false := by rfl)
    (h4 : ∀ x ∈ (["instance", "given"] : List Str), (defScope (sOp n)).names.lookup x = some .local ∨ (defScope (sOp n)).names.lookup x = some .cell := by decide +kernel) (h5 : ∀ y ∈ (defScope (sOp n)).names, y.2 ≠ .free := by decide +kernel) :
    FnScope ["instance", "given"] ["instance", "given"] (defScope (sOp n)) := ⟨h1, h2, h3, by decide +kernel, rfl, h4, h5⟩
section
variable {P : Program} {w : World} {K : PySem.W.Frag} {mg : Str → Option Value} {base : Heap} {C : Addr}
theorem ok_rem (T : Txt K mg C) {f : Addr} {fd : FuncData} {k : Nat} (F : Fun K "remove_icebreaker" "remove_icebreaker" (sOp 2) f fd) (mL : mg "len" = none) (nNot : NumAt mg "NOT_THERE" (-2)) :
    FnOk P w K mg base CX0 (k + 1) f fd ["instance", "given"] (spOp K C 1 fun xs => .removeIcebreaker (xs.getD 0 0)) := by
  obtain ⟨t1, g1⟩ := nNot
  refine F.ok scRem (fun vs H Q E h => ?_) (fun cdv A outer s H vs Q E hr h => ?_)
  · obtain ⟨a, g, ls, lt, d, xs, rfl, _⟩ := h
    rfl
  · obtain ⟨a, g, ls, lt, d, xs, rfl, I, gd, hG, hx, q⟩ := h
    have I' := I
    obtain ⟨⟨dx, ho⟩, hs, ht, hne⟩ := I'
    refine ⟨_, pss_cons (ps_set (i := 2) scRem.nd rfl (.inl rfl) (pe_ix ix_list (pv 1) pe_int (fun _ _ => rfl)))
      (pss_cons (ps_if (pt_cmpR op_ge (pv 2) (pe_callB call_len_seq (by rfl) mL PySem.boot_len (pa_cons (pe_fld (pv 0) rfl) pa_nil)) (nomark _)) (pss_one (ps_ret (pe_lst (pa_cons (pe_glob (v := .int (-2)) rfl g1 ⟨_, rfl⟩) pa_nil)))) pss_nil)
      (pss_cons (ps_expr (pe_bm PySem.F.plainAttrs_list PySem.F.slot_list_pop PySem.F.type_list_pop mt_popAt (pe_fld (pv 0) rfl) (pa_cons (pv 2) pa_nil)))
      (pss_cons (ps_fld (pv 0) (pe_lst pa_nil) rfl)
      (pss_one (ps_ret (pe_lst (pa_cons (pe_callB call_len_seq (by rfl) mL PySem.boot_len (pa_cons (pe_fld (pv 0) rfl) pa_nil)) pa_nil))))))), ?_⟩
    simp only [sr_rem] at q
    generalize hxx : xs.getD 0 0 = x at q
    refine ⟨_, rfl, g, _, _, _, rfl, rfl, hG, atI_nat (j := 0) (nV_at (by omega)), ?_⟩
    rw [hxx]
    refine ⟨_, rfl, _, rfl, a, C, dx, _, _, rfl, ho, T.cl, T.nS, iF_s ls lt, ls, _, rfl, .inl (SqL.of hs), _, _, rfl, rfl, _, rfl, ?_⟩
    by_cases c1 : d.starts.length ≤ x
    · rw [if_pos c1] at q
      exact ifT (decide_eq_true (by rw [nV_length]; omega)) (q.new I).one
    refine ifF (decide_eq_false (by rw [nV_length]; omega)) ?_
    rw [if_neg c1] at q
    have := gd.len
    -- instance.starts.pop(icebreaker)
    refine ⟨_, rfl, a, C, dx, _, _, rfl, ho, T.cl, T.nS, iF_s ls lt, .inl ⟨rfl, _, SqL.of hs⟩, _, rfl, ls, _, (x : Int), x, _, rfl, rfl, hs, by omega, by omega, ?_, nV_at (by omega), ?_⟩
    · rw [nV_length]
      exact seq_nat (by omega)
    -- instance.targets = []
    have las : a ≠ ls := ne_of ho hs (by intro z; cases z)
    refine ⟨Nat.zero_le _, fun l nl => ?_⟩
    have ho1 : L2.upd H ls (.lst ((nV d.starts).eraseIdx x)) a = some (.ins C dx (iF ls lt)) := by rw [upd_ne las]; exact ho
    refine ⟨_, rfl, a, C, dx, _, rfl, by rw [upd_ne (ne_of_none ho1 nl)]; exact ho1, T.cl, T.nT, (by show 2 < 1000; decide), ?_⟩
    rw [iF_putT]
    have I3 := inst_clear (S := d.starts.eraseIdx x) (lt := lt) ho1 (by rw [upd_same, nV_erase]) nl
    have F3 : Frm H (L2.upd (L2.upd (L2.upd H ls (.lst ((nV d.starts).eraseIdx x))) l (.lst [])) a (.ins C dx (iF ls l))) a ls lt ls l :=
      frm_clear (dx := dx) (fun b o e _ h1 _ => by rw [upd_ne h1]; exact e) nl
    generalize hH3 : L2.upd (L2.upd (L2.upd H ls (.lst ((nV d.starts).eraseIdx x))) l (.lst [])) a (.ins C dx (iF ls l)) = H3 at I3 F3 ⊢
    have D3 : Dom H H3 := by rw [← hH3]; exact (Dom.refl H).upd.upd.upd
    have I3' := I3
    obtain ⟨⟨dx', ho'⟩, hs', ht', hne'⟩ := I3'
    refine ⟨_, rfl, a, C, dx', _, _, rfl, ho', T.cl, T.nS, iF_s ls l, ls, _, rfl, .inl (SqL.of hs'), ?_⟩
    have en : (((nV (d.starts.eraseIdx x)).length : Nat) : Int) = ((d.starts.length - 1 : Nat) : Int) := by
      rw [nV_length, List.length_eraseIdx, if_pos (by omega)]
    rw [en]
    exact q.fin I3 F3 D3
theorem ok_set (T : Txt K mg C) {f : Addr} {fd : FuncData} {k : Nat} (F : Fun K "set_start" "set_start" (sOp 3) f fd) (mL : mg "len" = none) (nNot : NumAt mg "NOT_THERE" (-2)) (nLast : NumAt mg "LAST_POSITION" 99) (nOff : NumAt mg "OFF_THE_COAST" (-22)) :
    FnOk P w K mg base CX0 (k + 1) f fd ["instance", "given"] (spOp K C 2 fun xs => .setStart (xs.getD 0 0) (xs.getD 1 0)) := by
  obtain ⟨t1, g1⟩ := nNot
  obtain ⟨t2, g2⟩ := nLast
  obtain ⟨t3, g3⟩ := nOff
  refine F.ok scSet (fun vs H Q E h => ?_) (fun cdv A outer s H vs Q E hr h => ?_)
  · obtain ⟨a, g, ls, lt, d, xs, rfl, _⟩ := h
    rfl
  · obtain ⟨a, g, ls, lt, d, xs, rfl, I, gd, hG, hx, q⟩ := h
    have I' := I
    obtain ⟨⟨dx, ho⟩, hs, ht, hne⟩ := I'
    refine ⟨_, pss_cons (ps_set (i := 2) scSet.nd rfl (.inl rfl) (pe_ix ix_list (pv 1) pe_int (fun _ _ => rfl)))
      (pss_cons (ps_set (i := 3) scSet.nd rfl (.inl rfl) (pe_ix ix_list (pv 1) pe_int (fun _ _ => rfl)))
      (pss_cons (ps_if (pt_cmpR op_ge (pv 2) (pe_callB call_len_seq (by rfl) mL PySem.boot_len (pa_cons (pe_fld (pv 0) rfl) pa_nil)) (nomark _)) (pss_one (ps_ret (pe_lst (pa_cons (pe_glob (v := .int (-2)) rfl g1 ⟨_, rfl⟩) pa_nil)))) pss_nil)
      (pss_cons (ps_if (pt_cmpR op_gt (pv 3) (pe_glob (v := .int 99) rfl g2 ⟨_, rfl⟩) (nomark _)) (pss_one (ps_ret (pe_lst (pa_cons (pe_glob (v := .int (-22)) rfl g3 ⟨_, rfl⟩) pa_nil)))) pss_nil)
      (pss_cons (ps_set (i := 4) scSet.nd rfl (.inl rfl) (pe_ix ix_list (pe_fld (pv 0) rfl) (pv 2) (fun _ _ => rfl)))
      (pss_cons (ps_asg (pv 3) (pg_sub (pe_fld (pv 0) rfl) (pv 2) set_list))
      (pss_cons (ps_fld (pv 0) (pe_lst pa_nil) rfl)
      (pss_one (ps_ret (pe_lst (pa_cons (pv 4) pa_nil)))))))))), ?_⟩
    simp only [sr_set] at q
    generalize hxx : xs.getD 0 0 = x at q
    generalize hyy : xs.getD 1 0 = y at q
    refine ⟨_, rfl, g, _, _, _, rfl, rfl, hG, atI_nat (j := 0) (nV_at (by omega)), _, rfl, g, _, _, _, rfl, rfl, hG, atI_nat (j := 1) (nV_at (by omega)), ?_⟩
    rw [hxx, hyy]
    refine ⟨_, rfl, _, rfl, a, C, dx, _, _, rfl, ho, T.cl, T.nS, iF_s ls lt, ls, _, rfl, .inl (SqL.of hs), _, _, rfl, rfl, _, rfl, ?_⟩
    by_cases c1 : d.starts.length ≤ x
    · rw [if_pos c1] at q
      exact ifT (decide_eq_true (by rw [nV_length]; omega)) (q.new I).one
    refine ifF (decide_eq_false (by rw [nV_length]; omega)) ?_
    rw [if_neg c1] at q
    refine ⟨_, rfl, _, _, rfl, rfl, _, rfl, ?_⟩
    by_cases c2 : 99 < y
    · rw [if_pos c2] at q
      exact ifT (decide_eq_true (by omega)) (q.new I).one
    refine ifF (decide_eq_false (by omega)) ?_
    rw [if_neg c2] at q
    have hxl : x < d.starts.length := by omega
    -- old; instance.starts[icebreaker] = position
    refine ⟨_, rfl, a, C, dx, _, _, rfl, ho, T.cl, T.nS, iF_s ls lt, _, rfl, ls, _, _, _, rfl, rfl, SqL.of hs, atI_nat (nV_at hxl), ?_⟩
    refine ⟨_, rfl, _, rfl, a, C, dx, _, _, rfl, ho, T.cl, T.nS, iF_s ls lt, _, rfl, ls, _, _, x, rfl, rfl, hs, by rw [nV_length]; exact ixN_nat hxl, ?_⟩
    rw [nV_set]
    -- instance.targets = []
    have las : a ≠ ls := ne_of ho hs (by intro z; cases z)
    refine ⟨Nat.zero_le _, fun l nl => ?_⟩
    have ho1 : L2.upd H ls (.lst (nV (d.starts.set x y))) a = some (.ins C dx (iF ls lt)) := by rw [upd_ne las]; exact ho
    refine ⟨_, rfl, a, C, dx, _, rfl, by rw [upd_ne (ne_of_none ho1 nl)]; exact ho1, T.cl, T.nT, (by show 2 < 1000; decide), ?_⟩
    rw [iF_putT]
    have I3 := inst_clear (S := d.starts.set x y) (lt := lt) ho1 upd_same nl
    have F3 : Frm H (L2.upd (L2.upd (L2.upd H ls (.lst (nV (d.starts.set x y)))) l (.lst [])) a (.ins C dx (iF ls l))) a ls lt ls l :=
      frm_clear (dx := dx) (fun b o e _ h1 _ => by rw [upd_ne h1]; exact e) nl
    generalize hH3 : L2.upd (L2.upd (L2.upd H ls (.lst (nV (d.starts.set x y)))) l (.lst [])) a (.ins C dx (iF ls l)) = H3 at I3 F3 ⊢
    have D3 : Dom H H3 := by rw [← hH3]; exact (Dom.refl H).upd.upd.upd
    exact ⟨_, rfl, q.fin I3 F3 D3⟩
theorem ok_req (T : Txt K mg C) {f fR fV : Addr} {fd fdR fdV : FuncData} {k : Nat} (F : Fun K "request" "request" (sOp 4) f fd) (mL : mg "len" = none)
    (nMost : NumAt mg "MOST_REQUESTS" 8) (nFull : NumAt mg "FULL" (-28))
    (GR : FnOk P w K mg base CX0 k fR fdR ["instance", "target"] (spTR C)) (bR : Binds K fdR ["instance", "target"] []) (kR : PySem.W.keepIn K (.ref fR) = true) (gR : mg "target_refusal" = some (.ref fR))
    (GV : FnOk P w K mg base CX0 k fV fdV ["instance", "target"] (spSrv C)) (bV : Binds K fdV ["instance", "target"] []) (kV : PySem.W.keepIn K (.ref fV) = true) (gV : mg "served" = some (.ref fV)) :
    FnOk P w K mg base CX0 (k + 1) f fd ["instance", "given"] (spOp K C 1 fun xs => .request (xs.getD 0 0)) := by
  obtain ⟨t4, g4⟩ := nMost
  obtain ⟨t5, g5⟩ := nFull
  refine F.ok scReq (fun vs H Q E h => ?_) (fun cdv A outer s H vs Q E hr h => ?_)
  · obtain ⟨a, g, ls, lt, d, xs, rfl, _⟩ := h
    rfl
  · obtain ⟨a, g, ls, lt, d, xs, rfl, I, gd, hG, hx, q⟩ := h
    have I' := I
    obtain ⟨⟨dx, ho⟩, hs, ht, hne⟩ := I'
    refine ⟨_, pss_cons (ps_set (i := 2) scReq.nd rfl (.inl rfl) (pe_ix ix_list (pv 1) pe_int (fun _ _ => rfl)))
      (pss_cons (ps_set (i := 3) scReq.nd rfl (.inl rfl) (pe_call GR hr (by rfl) gR kR bR .nil pass0 (pa_cons (pv 0) (pa_cons (pv 2) pa_nil))))
      (pss_cons (ps_if (pt_cmpR op_notN (pv 3) pe_non (nomark _)) (pss_one (ps_ret (pv 3))) pss_nil)
      (pss_cons (ps_if (pt_cmpR op_ge (pe_callB call_len_seq (by rfl) mL PySem.boot_len (pa_cons (pe_fld (pv 0) rfl) pa_nil)) (pe_glob (v := .int 8) rfl g4 ⟨_, rfl⟩) (nomark _)) (pss_one (ps_ret (pe_lst (pa_cons (pe_glob (v := .int (-28)) rfl g5 ⟨_, rfl⟩) pa_nil)))) pss_nil)
      (pss_cons (ps_set (i := 4) scReq.nd rfl (.inl rfl) (pe_call GV hr (by rfl) gV kV bV .nil pass0 (pa_cons (pv 0) (pa_cons (pv 2) pa_nil))))
      (pss_cons (ps_expr (pe_bm PySem.F.plainAttrs_list PySem.F.slot_list_append PySem.F.type_list_append mt_append (pe_fld (pv 0) rfl) (pa_cons (pv 2) pa_nil)))
      (pss_one (ps_ret (pv 4)))))))), ?_⟩
    simp only [sr_req] at q
    generalize hxx : xs.getD 0 0 = x at q
    refine ⟨_, rfl, g, _, _, _, rfl, rfl, hG, atI_nat (j := 0) (nV_at (by omega)), ?_⟩
    rw [hxx]
    refine ⟨_, rfl, _, rfl, a, ls, lt, d, x, rfl, I, ?_⟩
    unfold refT
    by_cases c1 : 99 < x
    · rw [if_pos c1] at q ⊢
      intro H' p sm np hp
      exact ⟨_, rfl, rfl, _, rfl, ifT rfl ⟨_, rfl, q.new I H' p sm np hp⟩⟩
    rw [if_neg c1] at q ⊢
    by_cases c2 : d.starts.length = 0
    · rw [if_pos c2] at q ⊢
      intro H' p sm np hp
      exact ⟨_, rfl, rfl, _, rfl, ifT rfl ⟨_, rfl, q.new I H' p sm np hp⟩⟩
    rw [if_neg c2] at q ⊢
    refine ⟨_, rfl, rfl, _, rfl, ifF rfl ?_⟩
    refine ⟨_, rfl, a, C, dx, _, _, rfl, ho, T.cl, T.nT, iF_t ls lt, lt, _, rfl, .inl (SqL.of ht), _, _, rfl, rfl, _, rfl, ?_⟩
    by_cases c3 : 8 ≤ d.requests.length
    · rw [if_pos c3] at q
      exact ifT (decide_eq_true (by rw [nV_length]; omega)) (q.new I).one
    refine ifF (decide_eq_false (by rw [nV_length]; omega)) ?_
    rw [if_neg c3] at q
    refine ⟨_, rfl, _, rfl, a, ls, lt, d, x, rfl, I, gd, c2, fun H2 p2 s2 n2 e2 => ?_⟩
    obtain ⟨⟨dx2, ho2⟩, hs2, ht2, _⟩ := I.same s2
    -- instance.targets.append(target)
    refine ⟨_, rfl, a, C, dx2, _, _, rfl, ho2, T.cl, T.nT, iF_t ls lt, .inl ⟨rfl, _, SqL.of ht2⟩, _, rfl, lt, _, _, rfl, rfl, ht2, ?_, ?_⟩
    · rw [nV_length]
      exact small1000 (by omega)
    have nal : a ≠ lt := ne_of ho2 ht2 (by intro z; cases z)
    have n2l : p2 ≠ lt := fun z => by rw [z, ht] at n2; cases n2
    rw [show nV d.requests ++ [V.int (x : Int)] = nV (d.requests ++ [x]) by rw [nV_app]; rfl]
    refine ⟨_, rfl, q _ p2 ls lt ⟨⟨dx2, by rw [upd_ne nal]; exact ho2⟩, by rw [upd_ne hne]; exact hs2, upd_same, hne⟩ (by rw [upd_ne n2l]; exact e2) n2 fun b o e h0 h1 h2 => ⟨by rw [upd_ne h2]; exact s2 _ _ e, h1, h2⟩⟩
theorem ok_undo (T : Txt K mg C) {f : Addr} {fd : FuncData} {k : Nat} (F : Fun K "undo_request" "undo_request" (sOp 5) f fd) (mL : mg "len" = none) (nNone : NumAt mg "NONE_YET" (-6)) :
    FnOk P w K mg base CX0 (k + 1) f fd ["instance", "given"] (spOp K C 0 fun _ => .undoRequest) := by
  obtain ⟨t1, g1⟩ := nNone
  refine F.ok scUndo (fun vs H Q E h => ?_) (fun cdv A outer s H vs Q E hr h => ?_)
  · obtain ⟨a, g, ls, lt, d, xs, rfl, _⟩ := h
    rfl
  · obtain ⟨a, g, ls, lt, d, xs, rfl, I, gd, hG, hx, q⟩ := h
    have I' := I
    obtain ⟨⟨dx, ho⟩, hs, ht, hne⟩ := I'
    refine ⟨_, pss_cons (ps_if (pt_cmpR op_eq (pe_callB call_len_seq (by rfl) mL PySem.boot_len (pa_cons (pe_fld (pv 0) rfl) pa_nil)) pe_int (nomark _)) (pss_one (ps_ret (pe_lst (pa_cons (pe_glob (v := .int (-6)) rfl g1 ⟨_, rfl⟩) pa_nil)))) pss_nil)
      (pss_one (ps_ret (pe_lst (pa_cons (pe_bm0 PySem.F.plainAttrs_list PySem.F.slot_list_pop PySem.F.type_list_pop mt_pop (pe_fld (pv 0) rfl)) pa_nil)))), ?_⟩
    simp only [sr_undo] at q
    refine ⟨_, rfl, a, C, dx, _, _, rfl, ho, T.cl, T.nT, iF_t ls lt, lt, _, rfl, .inl (SqL.of ht), rfl, _, rfl, ?_⟩
    by_cases c : d.requests = []
    · rw [dif_pos c] at q
      exact ifT (decide_eq_true (by rw [nV_length, c]; rfl)) (q.new I).one
    refine ifF (decide_eq_false (by
      rw [nV_length]
      intro z
      injection z with z
      exact c (List.eq_nil_of_length_eq_zero (by omega)))) ?_
    rw [dif_neg c] at q
    have hpos : 0 < d.requests.length := List.length_pos_iff.mpr c
    have hlast : (nV d.requests)[(nV d.requests).length - 1]? = some (.int (d.requests.getLast c : Nat)) := by
      rw [nV_length, nV_at (by omega), List.getLast_eq_getElem, List.getD_eq_getElem?_getD, List.getElem?_eq_getElem (by omega)]
      rfl
    refine ⟨_, rfl, a, C, dx, _, _, rfl, ho, T.cl, T.nT, iF_t ls lt, .inl ⟨rfl, _, SqL.of ht⟩, lt, _, _, rfl, rfl, ht, hlast, ?_⟩
    have nal : a ≠ lt := ne_of ho ht (by intro z; cases z)
    have hd : (nV d.requests).dropLast = nV d.requests.dropLast := List.map_dropLast.symm
    refine q.fin (ls' := ls) (lt' := lt) ⟨⟨dx, by rw [upd_ne nal]; exact ho⟩, by rw [upd_ne hne]; exact hs, by rw [upd_same, hd], hne⟩ (fun b o e h0 h1 h2 => ⟨by rw [upd_ne h2]; exact e, h1, h2⟩) (Dom.refl H).upd
theorem ok_clear (T : Txt K mg C) {f : Addr} {fd : FuncData} {k : Nat} (F : Fun K "clear_requests" "clear_requests" (sOp 6) f fd) (mL : mg "len" = none) :
    FnOk P w K mg base CX0 (k + 1) f fd ["instance", "given"] (spOp K C 0 fun _ => .clearRequests) := by
  refine F.ok scClear (fun vs H Q E h => ?_) (fun cdv A outer s H vs Q E hr h => ?_)
  · obtain ⟨a, g, ls, lt, d, xs, rfl, _⟩ := h
    rfl
  · obtain ⟨a, g, ls, lt, d, xs, rfl, I, gd, hG, hx, q⟩ := h
    have I' := I
    obtain ⟨⟨dx, ho⟩, hs, ht, hne⟩ := I'
    refine ⟨_, pss_cons (ps_set (i := 2) scClear.nd rfl (.inl rfl) (pe_callB call_len_seq (by rfl) mL PySem.boot_len (pa_cons (pe_fld (pv 0) rfl) pa_nil)))
      (pss_cons (ps_fld (pv 0) (pe_lst pa_nil) rfl)
      (pss_one (ps_ret (pe_lst (pa_cons (pv 2) pa_nil))))), ?_⟩
    simp only [sr_clear] at q
    refine ⟨_, rfl, a, C, dx, _, _, rfl, ho, T.cl, T.nT, iF_t ls lt, lt, _, rfl, .inl (SqL.of ht), ?_⟩
    refine ⟨Nat.zero_le _, fun l nl => ?_⟩
    refine ⟨_, rfl, a, C, dx, _, rfl, by rw [upd_ne (ne_of_none ho nl)]; exact ho, T.cl, T.nT, (by show 2 < 1000; decide), ?_⟩
    rw [iF_putT]
    have I3 := inst_clear (S := d.starts) (lt := lt) ho hs nl
    have F3 : Frm H (L2.upd (L2.upd H l (.lst [])) a (.ins C dx (iF ls l))) a ls lt ls l := frm_clear (dx := dx) (fun b o e _ _ _ => e) nl
    generalize hH3 : L2.upd (L2.upd H l (.lst [])) a (.ins C dx (iF ls l)) = H3 at I3 F3 ⊢
    have D3 : Dom H H3 := by rw [← hH3]; exact (Dom.refl H).upd.upd
    rw [nV_length]
    exact ⟨_, rfl, q.fin I3 F3 D3⟩
/-- return counted(instance.targets), counted(instance.starts) -/
theorem ok_list (T : Txt K mg C) {f fN : Addr} {fd fdN : FuncData} {k : Nat} (F : Fun K "list_requests" "list_requests" (sOp 7) f fd)
    (GN : FnOk P w K mg base CX0 k fN fdN ["numbers"] spCnt) (bN : Binds K fdN ["numbers"] []) (kN : PySem.W.keepIn K (.ref fN) = true) (gN : mg "counted" = some (.ref fN)) :
    FnOk P w K mg base CX0 (k + 1) f fd ["instance", "given"] (spOp K C 0 fun _ => .listRequests) := by
  have sc := scTwo (n := 7)
  refine F.ok sc (fun vs H Q E h => ?_) (fun cdv A outer s H vs Q E hr h => ?_)
  · obtain ⟨a, g, ls, lt, d, xs, rfl, _⟩ := h
    rfl
  · obtain ⟨a, g, ls, lt, d, xs, rfl, I, gd, hG, hx, q⟩ := h
    have I' := I
    obtain ⟨⟨dx, ho⟩, hs, ht, hne⟩ := I'
    refine ⟨_, pss_one (ps_ret (pe_call GN hr (by rfl) gN kN bN .nil pass0 (pa_cons (pe_fld (pv 0) rfl) pa_nil))), ?_⟩
    simp only [sr_list] at q
    have := gd.rlen
    exact ⟨_, rfl, a, C, dx, _, _, rfl, ho, T.cl, T.nT, iF_t ls lt, lt, _, rfl, ht, by omega, q.new I⟩
theorem ok_start (T : Txt K mg C) {f fN : Addr} {fd fdN : FuncData} {k : Nat} (F : Fun K "start_positions" "start_positions" (sOp 9) f fd)
    (GN : FnOk P w K mg base CX0 k fN fdN ["numbers"] spCnt) (bN : Binds K fdN ["numbers"] []) (kN : PySem.W.keepIn K (.ref fN) = true) (gN : mg "counted" = some (.ref fN)) :
    FnOk P w K mg base CX0 (k + 1) f fd ["instance", "given"] (spOp K C 0 fun _ => .startPositions) := by
  have sc := scTwo (n := 9)
  refine F.ok sc (fun vs H Q E h => ?_) (fun cdv A outer s H vs Q E hr h => ?_)
  · obtain ⟨a, g, ls, lt, d, xs, rfl, _⟩ := h
    rfl
  · obtain ⟨a, g, ls, lt, d, xs, rfl, I, gd, hG, hx, q⟩ := h
    have I' := I
    obtain ⟨⟨dx, ho⟩, hs, ht, hne⟩ := I'
    refine ⟨_, pss_one (ps_ret (pe_call GN hr (by rfl) gN kN bN .nil pass0 (pa_cons (pe_fld (pv 0) rfl) pa_nil))), ?_⟩
    simp only [sr_start] at q
    have := gd.len
    exact ⟨_, rfl, a, C, dx, _, _, rfl, ho, T.cl, T.nS, iF_s ls lt, ls, _, rfl, hs, by omega, q.new I⟩
theorem ok_curp (T : Txt K mg C) {f fN fU : Addr} {fd fdN fdU : FuncData} {k : Nat} (F : Fun K "current_positions" "current_positions" (sOp 8) f fd)
    (GN : FnOk P w K mg base CX0 k fN fdN ["numbers"] spCnt) (bN : Binds K fdN ["numbers"] []) (kN : PySem.W.keepIn K (.ref fN) = true) (gN : mg "counted" = some (.ref fN))
    (GU : FnOk P w K mg base CX0 k fU fdU ["instance"] (spCur C)) (bU : Binds K fdU ["instance"] []) (kU : PySem.W.keepIn K (.ref fU) = true) (gU : mg "current" = some (.ref fU)) :
    FnOk P w K mg base CX0 (k + 1) f fd ["instance", "given"] (spOp K C 0 fun _ => .currentPositions) := by
  have sc := scTwo (n := 8)
  refine F.ok sc (fun vs H Q E h => ?_) (fun cdv A outer s H vs Q E hr h => ?_)
  · obtain ⟨a, g, ls, lt, d, xs, rfl, _⟩ := h
    rfl
  · obtain ⟨a, g, ls, lt, d, xs, rfl, I, gd, hG, hx, q⟩ := h
    refine ⟨_, pss_one (ps_ret (pe_call GN hr (by rfl) gN kN bN .nil pass0 (pa_cons (pe_call GU hr (by rfl) gU kU bU .nil pass0 (pa_cons (pv 0) pa_nil)) pa_nil))), ?_⟩
    simp only [sr_cur] at q
    have := gd.len
    have hcl := cur_len d
    refine ⟨_, rfl, a, ls, lt, d, rfl, I, gd, fun H1 p1 s1 n1 e1 => ?_⟩
    exact ⟨p1, _, rfl, e1, by omega, fun H2 p2 s2 n2 e2 => q.new I H2 p2 (s1.trans s2) (s1.free n2) e2⟩
theorem ok_tot (T : Txt K mg C) {f fC : Addr} {fd fdC : FuncData} {k : Nat} (F : Fun K "total_distance" "total_distance" (sOp 10) f fd)
    (GC : FnOk P w K mg base CX0 k fC fdC ["starts", "targets"] (spTotal K Km559.doubleCoverageStep)) (bC : Binds K fdC ["starts", "targets"] []) (kC : PySem.W.keepIn K (.ref fC) = true) (gC : mg "coverage_total" = some (.ref fC)) :
    FnOk P w K mg base CX0 (k + 1) f fd ["instance", "given"] (spOp K C 0 fun _ => .totalDistance) := by
  have sc := scTwo (n := 10)
  refine F.ok sc (fun vs H Q E h => ?_) (fun cdv A outer s H vs Q E hr h => ?_)
  · obtain ⟨a, g, ls, lt, d, xs, rfl, _⟩ := h
    rfl
  · obtain ⟨a, g, ls, lt, d, xs, rfl, I, gd, hG, hx, q⟩ := h
    have I' := I
    obtain ⟨⟨dx, ho⟩, hs, ht, hne⟩ := I'
    refine ⟨_, pss_one (ps_ret (pe_lst (pa_cons (pe_call GC hr (by rfl) gC kC bC .nil pass0 (pa_cons (pe_fld (pv 0) rfl) (pa_cons (pe_fld (pv 0) rfl) pa_nil))) pa_nil))), ?_⟩
    simp only [sr_tot] at q
    have := gd.len
    have := gd.rlen
    refine ⟨_, rfl, a, C, dx, _, _, rfl, ho, T.cl, T.nS, iF_s ls lt, _, rfl, a, C, dx, _, _, rfl, ho, T.cl, T.nT, iF_t ls lt, ?_⟩
    refine ⟨ls, lt, _, _, rfl, SqL.of hs, SqL.of ht, by omega, by omega, gd.some_, fun H2 s2 => ?_⟩
    rw [dc_dist]
    refine NewI.one fun H3 p3 s3 n3 e3 => q.new I H3 p3 (s2.trans s3) (s2.free n3) e3
theorem ok_gd (T : Txt K mg C) {f fC : Addr} {fd fdC : FuncData} {k : Nat} (F : Fun K "greedy_distance" "greedy_distance" (sOp 11) f fd) (mL : mg "len" = none) (nNone : NumAt mg "NONE_YET" (-6))
    (GC : FnOk P w K mg base CX0 k fC fdC ["starts", "targets"] (spTotal K moveTo)) (bC : Binds K fdC ["starts", "targets"] []) (kC : PySem.W.keepIn K (.ref fC) = true) (gC : mg "greedy_total" = some (.ref fC)) :
    FnOk P w K mg base CX0 (k + 1) f fd ["instance", "given"] (spOp K C 0 fun _ => .greedyDistance) := by
  obtain ⟨t1, g1⟩ := nNone
  have sc := scTwo (n := 11)
  refine F.ok sc (fun vs H Q E h => ?_) (fun cdv A outer s H vs Q E hr h => ?_)
  · obtain ⟨a, g, ls, lt, d, xs, rfl, _⟩ := h
    rfl
  · obtain ⟨a, g, ls, lt, d, xs, rfl, I, gd, hG, hx, q⟩ := h
    have I' := I
    obtain ⟨⟨dx, ho⟩, hs, ht, hne⟩ := I'
    refine ⟨_, pss_cons (ps_if (pt_cmpR op_eq (pe_callB call_len_seq (by rfl) mL PySem.boot_len (pa_cons (pe_fld (pv 0) rfl) pa_nil)) pe_int (nomark _)) (pss_one (ps_ret (pe_lst (pa_cons (pe_glob (v := .int (-6)) rfl g1 ⟨_, rfl⟩) pa_nil)))) pss_nil)
      (pss_one (ps_ret (pe_lst (pa_cons (pe_call GC hr (by rfl) gC kC bC .nil pass0 (pa_cons (pe_fld (pv 0) rfl) (pa_cons (pe_fld (pv 0) rfl) pa_nil))) pa_nil)))), ?_⟩
    simp only [sr_gd] at q
    have := gd.len
    have := gd.rlen
    refine ⟨_, rfl, a, C, dx, _, _, rfl, ho, T.cl, T.nS, iF_s ls lt, ls, _, rfl, .inl (SqL.of hs), rfl, _, rfl, ?_⟩
    by_cases c2 : d.starts.length = 0
    · rw [if_pos c2] at q
      exact ifT (decide_eq_true (by rw [nV_length, c2]; rfl)) (q.new I).one
    refine ifF (decide_eq_false (by
      rw [nV_length]
      intro z
      injection z with z
      exact c2 (by omega))) ?_
    rw [if_neg c2] at q
    refine ⟨_, rfl, a, C, dx, _, _, rfl, ho, T.cl, T.nS, iF_s ls lt, _, rfl, a, C, dx, _, _, rfl, ho, T.cl, T.nT, iF_t ls lt, ?_⟩
    refine ⟨ls, lt, _, _, rfl, SqL.of hs, SqL.of ht, by omega, by omega, gd.some_, fun H2 s2 => ?_⟩
    rw [greedy_dist _ (show d.starts ≠ [] from fun z => c2 (by rw [z]; rfl))]
    refine NewI.one fun H3 p3 s3 n3 e3 => q.new I H3 p3 (s2.trans s3) (s2.free n3) e3
theorem ok_gp (T : Txt K mg C) {f fC fN : Addr} {fd fdC fdN : FuncData} {k : Nat} (F : Fun K "greedy_positions" "greedy_positions" (sOp 12) f fd) (mL : mg "len" = none) (nNone : NumAt mg "NONE_YET" (-6))
    (GC : FnOk P w K mg base CX0 k fC fdC ["starts", "targets"] (spCourseOf K moveTo)) (bC : Binds K fdC ["starts", "targets"] []) (kC : PySem.W.keepIn K (.ref fC) = true) (gC : mg "greedy_course" = some (.ref fC))
    (GN : FnOk P w K mg base CX0 k fN fdN ["numbers"] spCnt) (bN : Binds K fdN ["numbers"] []) (kN : PySem.W.keepIn K (.ref fN) = true) (gN : mg "counted" = some (.ref fN)) :
    FnOk P w K mg base CX0 (k + 1) f fd ["instance", "given"] (spOp K C 0 fun _ => .greedyPositions) := by
  obtain ⟨t1, g1⟩ := nNone
  have sc := scTwo (n := 12)
  refine F.ok sc (fun vs H Q E h => ?_) (fun cdv A outer s H vs Q E hr h => ?_)
  · obtain ⟨a, g, ls, lt, d, xs, rfl, _⟩ := h
    rfl
  · obtain ⟨a, g, ls, lt, d, xs, rfl, I, gd, hG, hx, q⟩ := h
    have I' := I
    obtain ⟨⟨dx, ho⟩, hs, ht, hne⟩ := I'
    refine ⟨_, pss_cons (ps_if (pt_cmpR op_eq (pe_callB call_len_seq (by rfl) mL PySem.boot_len (pa_cons (pe_fld (pv 0) rfl) pa_nil)) pe_int (nomark _)) (pss_one (ps_ret (pe_lst (pa_cons (pe_glob (v := .int (-6)) rfl g1 ⟨_, rfl⟩) pa_nil)))) pss_nil)
      (pss_one (ps_ret (pe_call GN hr (by rfl) gN kN bN .nil pass0 (pa_cons (pe_ix ix_list (pe_call GC hr (by rfl) gC kC bC .nil pass0 (pa_cons (pe_fld (pv 0) rfl) (pa_cons (pe_fld (pv 0) rfl) pa_nil))) (pe_un un_neg pe_int) (fun _ _ => rfl)) pa_nil)))), ?_⟩
    simp only [sr_gp] at q
    have := gd.len
    have := gd.rlen
    refine ⟨_, rfl, a, C, dx, _, _, rfl, ho, T.cl, T.nS, iF_s ls lt, ls, _, rfl, .inl (SqL.of hs), rfl, _, rfl, ?_⟩
    by_cases c2 : d.starts.length = 0
    · rw [if_pos c2] at q
      exact ifT (decide_eq_true (by rw [nV_length, c2]; rfl)) (q.new I).one
    refine ifF (decide_eq_false (by
      rw [nV_length]
      intro z
      injection z with z
      exact c2 (by omega))) ?_
    rw [if_neg c2] at q
    refine ⟨_, rfl, a, C, dx, _, _, rfl, ho, T.cl, T.nS, iF_s ls lt, _, rfl, a, C, dx, _, _, rfl, ho, T.cl, T.nT, iF_t ls lt, ?_⟩
    refine ⟨ls, lt, _, _, rfl, SqL.of hs, SqL.of ht, by omega, by omega, gd.some_, fun H1 p as s1 n1 e1 rows fresh => ?_⟩
    obtain ⟨r, hrow, hat⟩ := rows.last e1
    refine ⟨1, rfl, p, _, _, .ref r, rfl, rfl, SqL.of e1, hat, ?_⟩
    have hgl := greedy_length d.requests d.starts
    refine ⟨r, _, rfl, by rw [hrow, ← greedy_fold], by omega, fun H2 p2 s2 n2 e2 => q.new I H2 p2 (s1.trans s2) (s1.free n2) e2⟩
end
end Ice
/-! iceline.operations: the calls 13 to 24 -/
namespace Ice
open PySem PySem.Spec PyProof.Rows L2
open Km559 (Dispatch Call)
theorem NewI.later {H H2 : Hp} {r : List Int} {Q : VK} (q : NewI H r Q) (s : Same H H2) : NewI H2 r Q := fun H3 p s3 n3 e3 => q H3 p (s.trans s3) (s.free n3) e3
theorem NewI.two {H : Hp} {m n : Int} {Q : VK} (q : NewI H [m, n] Q) : 2 ≤ sizeLine ∧ ∀ p, H p = none → Q (.ref p) (L2.upd H p (.lst [.int m, .int n])) :=
  ⟨by decide, fun p np => q _ p (same_upd np) np upd_same⟩
theorem NewI.three {H : Hp} {m n o : Int} {Q : VK} (q : NewI H [m, n, o] Q) : 3 ≤ sizeLine ∧ ∀ p, H p = none → Q (.ref p) (L2.upd H p (.lst [.int m, .int n, .int o])) :=
  ⟨by decide, fun p np => q _ p (same_upd np) np upd_same⟩
theorem scBound : FnScope ["instance", "given", "icebreakers", "optimum"] ["instance", "given"] (defScope (sOp 15)) := ⟨rfl, rfl, rfl, by decide +kernel, rfl, by decide +kernel, by decide +kernel⟩
theorem scExc : FnScope ["instance", "given", "starts", "targets", "optimum"] ["instance", "given"] (defScope (sOp 17)) := ⟨rfl, rfl, rfl, by decide +kernel, rfl, by decide +kernel, by decide +kernel⟩
theorem scPrev : FnScope ["instance", "given", "target", "refusal"] ["instance", "given"] (defScope (sOp 18)) := ⟨rfl, rfl, rfl, by decide +kernel, rfl, by decide +kernel, by decide +kernel⟩
theorem scOptw : FnScope ["instance", "given", "target", "refusal"] ["instance", "given"] (defScope (sOp 19)) := ⟨rfl, rfl, rfl, by decide +kernel, rfl, by decide +kernel, by decide +kernel⟩
theorem scResp : FnScope ["instance", "given", "target", "refusal", "before", "after", "moved", "icebreaker"] ["instance", "given"] (defScope (sOp 20)) := ⟨rfl, rfl, rfl, by decide +kernel, rfl, by decide +kernel, by decide +kernel⟩
theorem scSav : FnScope ["instance", "given", "index", "targets", "distance"] ["instance", "given"] (defScope (sOp 22)) := ⟨rfl, rfl, rfl, by decide +kernel, rfl, by decide +kernel, by decide +kernel⟩
theorem scDwi : FnScope ["instance", "given", "position", "refusal", "starts"] ["instance", "given"] (defScope (sOp 23)) := ⟨rfl, rfl, rfl, by decide +kernel, rfl, by decide +kernel, by decide +kernel⟩
theorem scSum : FnScope ["instance", "given", "total"] ["instance", "given"] (defScope (sOp 24)) := ⟨rfl, rfl, rfl, by decide +kernel, rfl, by decide +kernel, by decide +kernel⟩
/-! ### mathematics -/
def moversUp (l m : List Nat) (n : Nat) : List Nat := (List.range n).filter fun i => l.getD i 0 != m.getD i 0
theorem moversUp_succ (l m : List Nat) (n : Nat) : moversUp l m (n + 1) = if l.getD n 0 = m.getD n 0 then moversUp l m n else moversUp l m n ++ [n] := by
  unfold moversUp
  rw [List.range_succ, List.filter_append]
  by_cases c : l.getD n 0 = m.getD n 0
  · rw [if_pos c]
    have : (l.getD n 0 != m.getD n 0) = false := by simpa using c
    rw [List.filter_cons, if_neg (by rw [this]; decide)]
    simp
  · rw [if_neg c]
    have : (l.getD n 0 != m.getD n 0) = true := by simpa using c
    rw [List.filter_cons, if_pos this]
    rfl
theorem moversUp_len (l m : List Nat) (n : Nat) : (moversUp l m n).length ≤ n := by
  have := List.length_filter_le (fun i => l.getD i 0 != m.getD i 0) (List.range n)
  rw [List.length_range] at this
  exact this
theorem steps_course (ps : List Nat) : ∀ (ts ps : List Nat), courseSteps (courseOf Km559.doubleCoverageStep ps ts) = (List.range ts.length).map fun i => shift ((ts.take i).foldl Km559.doubleCoverageStep ps) ((ts.take (i + 1)).foldl Km559.doubleCoverageStep ps)
  | [], _ => rfl
  | t :: ts, ps => by
    have ih := steps_course ps ts (Km559.doubleCoverageStep ps t)
    have e : courseSteps (courseOf Km559.doubleCoverageStep ps (t :: ts)) = shift ps (Km559.doubleCoverageStep ps t) :: courseSteps (courseOf Km559.doubleCoverageStep (Km559.doubleCoverageStep ps t) ts) := by
      cases ts <;> rfl
    rw [e, ih, List.length_cons, List.range_succ_eq_map, List.map_cons, List.map_map]
    rfl
theorem not0 {l : List Nat} (h : ¬ l.length = 0) : ¬ (V.int ((nV l).length : Nat) = V.int 0) := by
  rw [nV_length]
  intro z
  injection z with z
  exact h (by omega)
section
variable {P : Program} {w : World} {K : PySem.W.Frag} {mg : Str → Option Value} {base : Heap} {C : Addr}
theorem ok_opt (T : Txt K mg C) {f fS : Addr} {fd fdS : FuncData} {k : Nat} (F : Fun K "optimal_distance" "optimal_distance" (sOp 13) f fd) (mL : mg "len" = none) (nNone : NumAt mg "NONE_YET" (-6))
    (GS : FnOk P w K mg base CX0 k fS fdS ["starts", "targets"] (spSd K)) (bS : Binds K fdS ["starts", "targets"] []) (kS : PySem.W.keepIn K (.ref fS) = true) (gS : mg "smallest_distance" = some (.ref fS)) :
    FnOk P w K mg base CX0 (k + 1) f fd ["instance", "given"] (spOp K C 0 fun _ => .optimalDistance) := by
  obtain ⟨t1, g1⟩ := nNone
  have sc := scTwo (n := 13)
  refine F.ok sc (fun vs H Q E h => ?_) (fun cdv A outer s H vs Q E hr h => ?_)
  · obtain ⟨a, g, ls, lt, d, xs, rfl, _⟩ := h
    rfl
  · obtain ⟨a, g, ls, lt, d, xs, rfl, I, gd, hG, hx, q⟩ := h
    have I' := I
    obtain ⟨⟨dx, ho⟩, hs, ht, hne⟩ := I'
    refine ⟨_, pss_cons (ps_if (pt_cmpR op_eq (pe_callB call_len_seq (by rfl) mL PySem.boot_len (pa_cons (pe_fld (pv 0) rfl) pa_nil)) pe_int (nomark _)) (pss_one (ps_ret (pe_lst (pa_cons (pe_glob (v := .int (-6)) rfl g1 ⟨_, rfl⟩) pa_nil)))) pss_nil)
      (pss_one (ps_ret (pe_lst (pa_cons (pe_call GS hr (by rfl) gS kS bS .nil pass0 (pa_cons (pe_fld (pv 0) rfl) (pa_cons (pe_fld (pv 0) rfl) pa_nil))) pa_nil)))), ?_⟩
    simp only [sr_opt] at q
    have := gd.len
    have := gd.rlen
    refine ⟨_, rfl, a, C, dx, _, _, rfl, ho, T.cl, T.nS, iF_s ls lt, ls, _, rfl, .inl (SqL.of hs), rfl, _, rfl, ?_⟩
    by_cases c2 : d.starts.length = 0
    · rw [if_pos c2] at q
      exact ifT (decide_eq_true (by rw [nV_length, c2]; rfl)) (q.new I).one
    refine ifF (decide_eq_false (not0 c2)) ?_
    rw [if_neg c2] at q
    refine ⟨_, rfl, a, C, dx, _, _, rfl, ho, T.cl, T.nS, iF_s ls lt, _, rfl, a, C, dx, _, _, rfl, ho, T.cl, T.nT, iF_t ls lt, ?_⟩
    refine ⟨ls, lt, _, _, rfl, SqL.of hs, SqL.of ht, ne_of_len c2, by omega, by omega, fun H2 s2 => ((q.new I).later s2).one⟩
theorem ok_plan (T : Txt K mg C) {f fS fN : Addr} {fd fdS fdN : FuncData} {k : Nat} (F : Fun K "optimal_plan" "optimal_plan" (sOp 14) f fd) (mL : mg "len" = none) (nNone : NumAt mg "NONE_YET" (-6))
    (GS : FnOk P w K mg base CX0 k fS fdS ["starts", "targets"] (spSp K)) (bS : Binds K fdS ["starts", "targets"] []) (kS : PySem.W.keepIn K (.ref fS) = true) (gS : mg "smallest_plan" = some (.ref fS))
    (GN : FnOk P w K mg base CX0 k fN fdN ["numbers"] spCnt) (bN : Binds K fdN ["numbers"] []) (kN : PySem.W.keepIn K (.ref fN) = true) (gN : mg "counted" = some (.ref fN)) :
    FnOk P w K mg base CX0 (k + 1) f fd ["instance", "given"] (spOp K C 0 fun _ => .optimalPlan) := by
  obtain ⟨t1, g1⟩ := nNone
  have sc := scTwo (n := 14)
  refine F.ok sc (fun vs H Q E h => ?_) (fun cdv A outer s H vs Q E hr h => ?_)
  · obtain ⟨a, g, ls, lt, d, xs, rfl, _⟩ := h
    rfl
  · obtain ⟨a, g, ls, lt, d, xs, rfl, I, gd, hG, hx, q⟩ := h
    have I' := I
    obtain ⟨⟨dx, ho⟩, hs, ht, hne⟩ := I'
    refine ⟨_, pss_cons (ps_if (pt_cmpR op_eq (pe_callB call_len_seq (by rfl) mL PySem.boot_len (pa_cons (pe_fld (pv 0) rfl) pa_nil)) pe_int (nomark _)) (pss_one (ps_ret (pe_lst (pa_cons (pe_glob (v := .int (-6)) rfl g1 ⟨_, rfl⟩) pa_nil)))) pss_nil)
      (pss_one (ps_ret (pe_call GN hr (by rfl) gN kN bN .nil pass0 (pa_cons (pe_call GS hr (by rfl) gS kS bS .nil pass0 (pa_cons (pe_fld (pv 0) rfl) (pa_cons (pe_fld (pv 0) rfl) pa_nil))) pa_nil)))), ?_⟩
    simp only [sr_plan] at q
    have := gd.len
    have := gd.rlen
    refine ⟨_, rfl, a, C, dx, _, _, rfl, ho, T.cl, T.nS, iF_s ls lt, ls, _, rfl, .inl (SqL.of hs), rfl, _, rfl, ?_⟩
    by_cases c2 : d.starts.length = 0
    · rw [if_pos c2] at q
      exact ifT (decide_eq_true (by rw [nV_length, c2]; rfl)) (q.new I).one
    refine ifF (decide_eq_false (not0 c2)) ?_
    rw [if_neg c2] at q
    refine ⟨_, rfl, a, C, dx, _, _, rfl, ho, T.cl, T.nS, iF_s ls lt, _, rfl, a, C, dx, _, _, rfl, ho, T.cl, T.nT, iF_t ls lt, ?_⟩
    have hpl := (plan_is d.requests (ne_of_len c2)).1.1
    refine ⟨ls, lt, _, _, rfl, SqL.of hs, SqL.of ht, ne_of_len c2, by omega, by omega, fun H2 p2 s2 n2 e2 => ?_⟩
    exact ⟨p2, _, rfl, e2, by omega, (q.new I).later s2⟩
theorem ok_bound (T : Txt K mg C) {f fS fP : Addr} {fd fdS fdP : FuncData} {k : Nat} (F : Fun K "competitive_bound" "competitive_bound" (sOp 15) f fd) (mL : mg "len" = none) (nNone : NumAt mg "NONE_YET" (-6))
    (GS : FnOk P w K mg base CX0 k fS fdS ["starts", "targets"] (spSd K)) (bS : Binds K fdS ["starts", "targets"] []) (kS : PySem.W.keepIn K (.ref fS) = true) (gS : mg "smallest_distance" = some (.ref fS))
    (GP : FnOk P w K mg base CX0 k fP fdP ["positions"] (spPair K)) (bP : Binds K fdP ["positions"] []) (kP : PySem.W.keepIn K (.ref fP) = true) (gP : mg "pair_distances" = some (.ref fP)) :
    FnOk P w K mg base CX0 (k + 1) f fd ["instance", "given"] (spOp K C 0 fun _ => .competitiveBound) := by
  obtain ⟨t1, g1⟩ := nNone
  refine F.ok scBound (fun vs H Q E h => ?_) (fun cdv A outer s H vs Q E hr h => ?_)
  · obtain ⟨a, g, ls, lt, d, xs, rfl, _⟩ := h
    rfl
  · obtain ⟨a, g, ls, lt, d, xs, rfl, I, gd, hG, hx, q⟩ := h
    have I' := I
    obtain ⟨⟨dx, ho⟩, hs, ht, hne⟩ := I'
    refine ⟨_, pss_cons (ps_set (i := 2) scBound.nd rfl (.inl rfl) (pe_callB call_len_seq (by rfl) mL PySem.boot_len (pa_cons (pe_fld (pv 0) rfl) pa_nil)))
      (pss_cons (ps_if (pt_cmpR op_eq (pv 2) pe_int (nomark _)) (pss_one (ps_ret (pe_lst (pa_cons (pe_glob (v := .int (-6)) rfl g1 ⟨_, rfl⟩) pa_nil)))) pss_nil)
      (pss_cons (ps_set (i := 3) scBound.nd rfl (.inl rfl) (pe_call GS hr (by rfl) gS kS bS .nil pass0 (pa_cons (pe_fld (pv 0) rfl) (pa_cons (pe_fld (pv 0) rfl) pa_nil))))
      (pss_one (ps_ret (pe_lst (pa_cons (pe_op op_add (pe_op op_mul (pv 2) (pv 3)) (pe_call GP hr (by rfl) gP kP bP .nil pass0 (pa_cons (pe_fld (pv 0) rfl) pa_nil))) pa_nil)))))), ?_⟩
    simp only [sr_bound] at q
    have := gd.len
    have := gd.rlen
    refine ⟨_, rfl, a, C, dx, _, _, rfl, ho, T.cl, T.nS, iF_s ls lt, ls, _, rfl, .inl (SqL.of hs), ?_⟩
    refine ⟨_, rfl, rfl, _, rfl, ?_⟩
    by_cases c2 : d.starts.length = 0
    · rw [if_pos c2] at q
      exact ifT (decide_eq_true (by rw [nV_length, c2]; rfl)) (q.new I).one
    refine ifF (decide_eq_false (not0 c2)) ?_
    rw [if_neg c2] at q
    refine ⟨_, rfl, a, C, dx, _, _, rfl, ho, T.cl, T.nS, iF_s ls lt, _, rfl, a, C, dx, _, _, rfl, ho, T.cl, T.nT, iF_t ls lt, ?_⟩
    refine ⟨ls, lt, _, _, rfl, SqL.of hs, SqL.of ht, ne_of_len c2, by omega, by omega, fun H2 s2 => ?_⟩
    obtain ⟨⟨dx2, ho2⟩, hs2, _, _⟩ := I.same s2
    refine ⟨_, rfl, _, rfl, _, _, rfl, rfl, .inl (by rw [nV_length]; omega), _, rfl, a, C, dx2, _, _, rfl, ho2, T.cl, T.nS, iF_s ls lt, ls, _, rfl, SqL.of hs2, fun H3 s3 => ?_⟩
    refine ⟨_, _, rfl, rfl, ?_⟩
    have e : ((nV d.starts).length : Int) * ((opt d.starts d.requests : Nat) : Int) + ((Km559.spread d.starts : Nat) : Int) = ((d.starts.length * opt d.starts d.requests + Km559.spread d.starts : Nat) : Int) := by
      rw [nV_length, Int.natCast_add, Int.natCast_mul]
    dsimp only
    rw [e]
    exact ((q.new I).later (s2.trans s3)).one
theorem ok_spread (T : Txt K mg C) {f fU fP : Addr} {fd fdU fdP : FuncData} {k : Nat} (F : Fun K "spread" "spread" (sOp 16) f fd)
    (GU : FnOk P w K mg base CX0 k fU fdU ["instance"] (spCur C)) (bU : Binds K fdU ["instance"] []) (kU : PySem.W.keepIn K (.ref fU) = true) (gU : mg "current" = some (.ref fU))
    (GP : FnOk P w K mg base CX0 k fP fdP ["positions"] (spPair K)) (bP : Binds K fdP ["positions"] []) (kP : PySem.W.keepIn K (.ref fP) = true) (gP : mg "pair_distances" = some (.ref fP)) :
    FnOk P w K mg base CX0 (k + 1) f fd ["instance", "given"] (spOp K C 0 fun _ => .spread) := by
  have sc := scTwo (n := 16)
  refine F.ok sc (fun vs H Q E h => ?_) (fun cdv A outer s H vs Q E hr h => ?_)
  · obtain ⟨a, g, ls, lt, d, xs, rfl, _⟩ := h
    rfl
  · obtain ⟨a, g, ls, lt, d, xs, rfl, I, gd, hG, hx, q⟩ := h
    have I' := I
    obtain ⟨⟨dx, ho⟩, hs, ht, hne⟩ := I'
    refine ⟨_, pss_one (ps_ret (pe_lst (pa_cons (pe_call GP hr (by rfl) gP kP bP .nil pass0 (pa_cons (pe_fld (pv 0) rfl) pa_nil))
      (pa_cons (pe_call GP hr (by rfl) gP kP bP .nil pass0 (pa_cons (pe_call GU hr (by rfl) gU kU bU .nil pass0 (pa_cons (pv 0) pa_nil)) pa_nil)) pa_nil)))), ?_⟩
    simp only [sr_spread] at q
    refine ⟨_, rfl, a, C, dx, _, _, rfl, ho, T.cl, T.nS, iF_s ls lt, ls, _, rfl, SqL.of hs, fun H1 s1 => ?_⟩
    refine ⟨_, rfl, a, ls, lt, d, rfl, I.same s1, gd, fun H2 p2 s2 n2 e2 => ?_⟩
    exact ⟨p2, _, rfl, SqL.of e2, fun H3 s3 => ((q.new I).later ((s1.trans s2).trans s3)).two⟩
theorem ok_excess (T : Txt K mg C) {f fS fC fG : Addr} {fd fdS fdC fdG : FuncData} {k : Nat} (F : Fun K "excess" "excess" (sOp 17) f fd) (mL : mg "len" = none) (nNone : NumAt mg "NONE_YET" (-6))
    (GS : FnOk P w K mg base CX0 k fS fdS ["starts", "targets"] (spSd K)) (bS : Binds K fdS ["starts", "targets"] []) (kS : PySem.W.keepIn K (.ref fS) = true) (gS : mg "smallest_distance" = some (.ref fS))
    (GC : FnOk P w K mg base CX0 k fC fdC ["starts", "targets"] (spTotal K Km559.doubleCoverageStep)) (bC : Binds K fdC ["starts", "targets"] []) (kC : PySem.W.keepIn K (.ref fC) = true) (gC : mg "coverage_total" = some (.ref fC))
    (GG : FnOk P w K mg base CX0 k fG fdG ["starts", "targets"] (spTotal K moveTo)) (bG : Binds K fdG ["starts", "targets"] []) (kG : PySem.W.keepIn K (.ref fG) = true) (gG : mg "greedy_total" = some (.ref fG)) :
    FnOk P w K mg base CX0 (k + 1) f fd ["instance", "given"] (spOp K C 0 fun _ => .excess) := by
  obtain ⟨t1, g1⟩ := nNone
  refine F.ok scExc (fun vs H Q E h => ?_) (fun cdv A outer s H vs Q E hr h => ?_)
  · obtain ⟨a, g, ls, lt, d, xs, rfl, _⟩ := h
    rfl
  · obtain ⟨a, g, ls, lt, d, xs, rfl, I, gd, hG, hx, q⟩ := h
    have I' := I
    obtain ⟨⟨dx, ho⟩, hs, ht, hne⟩ := I'
    refine ⟨_, pss_cons (ps_set (i := 2) scExc.nd rfl (.inl rfl) (pe_fld (pv 0) rfl))
      (pss_cons (ps_set (i := 3) scExc.nd rfl (.inl rfl) (pe_fld (pv 0) rfl))
      (pss_cons (ps_if (pt_cmpR op_eq (pe_callB call_len_seq (by rfl) mL PySem.boot_len (pa_cons (pv 2) pa_nil)) pe_int (nomark _)) (pss_one (ps_ret (pe_lst (pa_cons (pe_glob (v := .int (-6)) rfl g1 ⟨_, rfl⟩) pa_nil)))) pss_nil)
      (pss_cons (ps_set (i := 4) scExc.nd rfl (.inl rfl) (pe_call GS hr (by rfl) gS kS bS .nil pass0 (pa_cons (pv 2) (pa_cons (pv 3) pa_nil))))
      (pss_one (ps_ret (pe_lst (pa_cons (pe_op op_sub (pe_call GC hr (by rfl) gC kC bC .nil pass0 (pa_cons (pv 2) (pa_cons (pv 3) pa_nil))) (pv 4))
        (pa_cons (pe_op op_sub (pe_call GG hr (by rfl) gG kG bG .nil pass0 (pa_cons (pv 2) (pa_cons (pv 3) pa_nil))) (pv 4)) pa_nil)))))))), ?_⟩
    simp only [sr_excess] at q
    have := gd.len
    have := gd.rlen
    refine ⟨_, rfl, a, C, dx, _, _, rfl, ho, T.cl, T.nS, iF_s ls lt, _, rfl, a, C, dx, _, _, rfl, ho, T.cl, T.nT, iF_t ls lt, ?_⟩
    refine ⟨_, rfl, ls, _, rfl, .inl (SqL.of hs), rfl, _, rfl, ?_⟩
    by_cases c2 : d.starts.length = 0
    · rw [if_pos c2] at q
      exact ifT (decide_eq_true (by rw [nV_length, c2]; rfl)) (q.new I).one
    refine ifF (decide_eq_false (not0 c2)) ?_
    rw [if_neg c2] at q
    refine ⟨_, rfl, _, rfl, ls, lt, _, _, rfl, SqL.of hs, SqL.of ht, ne_of_len c2, by omega, by omega, fun H1 s1 => ?_⟩
    obtain ⟨_, hs1, ht1, _⟩ := I.same s1
    refine ⟨_, rfl, _, rfl, ls, lt, _, _, rfl, SqL.of hs1, SqL.of ht1, by omega, by omega, gd.some_, fun H2 s2 => ?_⟩
    obtain ⟨_, hs2, ht2, _⟩ := I.same (s1.trans s2)
    refine ⟨_, rfl, _, _, rfl, rfl, _, rfl, _, rfl, ls, lt, _, _, rfl, SqL.of hs2, SqL.of ht2, by omega, by omega, gd.some_, fun H3 s3 => ?_⟩
    refine ⟨_, rfl, _, _, rfl, rfl, ?_⟩
    rw [dc_dist, greedy_dist _ (ne_of_len c2)]
    exact ((q.new I).later ((s1.trans s2).trans s3)).two
theorem ok_prev (T : Txt K mg C) {f fR fV : Addr} {fd fdR fdV : FuncData} {k : Nat} (F : Fun K "preview_request" "preview_request" (sOp 18) f fd)
    (GR : FnOk P w K mg base CX0 k fR fdR ["instance", "target"] (spTR C)) (bR : Binds K fdR ["instance", "target"] []) (kR : PySem.W.keepIn K (.ref fR) = true) (gR : mg "target_refusal" = some (.ref fR))
    (GV : FnOk P w K mg base CX0 k fV fdV ["instance", "target"] (spSrv C)) (bV : Binds K fdV ["instance", "target"] []) (kV : PySem.W.keepIn K (.ref fV) = true) (gV : mg "served" = some (.ref fV)) :
    FnOk P w K mg base CX0 (k + 1) f fd ["instance", "given"] (spOp K C 1 fun xs => .previewRequest (xs.getD 0 0)) := by
  refine F.ok scPrev (fun vs H Q E h => ?_) (fun cdv A outer s H vs Q E hr h => ?_)
  · obtain ⟨a, g, ls, lt, d, xs, rfl, _⟩ := h
    rfl
  · obtain ⟨a, g, ls, lt, d, xs, rfl, I, gd, hG, hx, q⟩ := h
    refine ⟨_, pss_cons (ps_set (i := 2) scPrev.nd rfl (.inl rfl) (pe_ix ix_list (pv 1) pe_int (fun _ _ => rfl)))
      (pss_cons (ps_set (i := 3) scPrev.nd rfl (.inl rfl) (pe_call GR hr (by rfl) gR kR bR .nil pass0 (pa_cons (pv 0) (pa_cons (pv 2) pa_nil))))
      (pss_cons (ps_if (pt_cmpR op_notN (pv 3) pe_non (nomark _)) (pss_one (ps_ret (pv 3))) pss_nil)
      (pss_one (ps_ret (pe_call GV hr (by rfl) gV kV bV .nil pass0 (pa_cons (pv 0) (pa_cons (pv 2) pa_nil))))))), ?_⟩
    simp only [sr_prev] at q
    generalize hxx : xs.getD 0 0 = x at q
    refine ⟨_, rfl, g, _, _, _, rfl, rfl, hG, atI_nat (j := 0) (nV_at (by omega)), ?_⟩
    rw [hxx]
    refine ⟨_, rfl, _, rfl, a, ls, lt, d, x, rfl, I, ?_⟩
    unfold refT
    by_cases c1 : 99 < x
    · rw [if_pos c1] at q ⊢
      intro H' p sm np hp
      exact ⟨_, rfl, rfl, _, rfl, ifT rfl ⟨_, rfl, q.new I H' p sm np hp⟩⟩
    rw [if_neg c1] at q ⊢
    by_cases c2 : d.starts.length = 0
    · rw [if_pos c2] at q ⊢
      intro H' p sm np hp
      exact ⟨_, rfl, rfl, _, rfl, ifT rfl ⟨_, rfl, q.new I H' p sm np hp⟩⟩
    rw [if_neg c2] at q ⊢
    refine ⟨_, rfl, rfl, _, rfl, ifF rfl ?_⟩
    exact ⟨_, rfl, _, rfl, a, ls, lt, d, x, rfl, I, gd, c2, q.new I⟩
theorem ok_optw (T : Txt K mg C) {f fR fS : Addr} {fd fdR fdS : FuncData} {k : Nat} (F : Fun K "optimal_distance_with_request" "optimal_distance_with_request" (sOp 19) f fd)
    (GR : FnOk P w K mg base CX0 k fR fdR ["instance", "target"] (spTR C)) (bR : Binds K fdR ["instance", "target"] []) (kR : PySem.W.keepIn K (.ref fR) = true) (gR : mg "target_refusal" = some (.ref fR))
    (GS : FnOk P w K mg base CX0 k fS fdS ["starts", "targets"] (spSd K)) (bS : Binds K fdS ["starts", "targets"] []) (kS : PySem.W.keepIn K (.ref fS) = true) (gS : mg "smallest_distance" = some (.ref fS)) :
    FnOk P w K mg base CX0 (k + 1) f fd ["instance", "given"] (spOp K C 1 fun xs => .optimalDistanceWithRequest (xs.getD 0 0)) := by
  refine F.ok scOptw (fun vs H Q E h => ?_) (fun cdv A outer s H vs Q E hr h => ?_)
  · obtain ⟨a, g, ls, lt, d, xs, rfl, _⟩ := h
    rfl
  · obtain ⟨a, g, ls, lt, d, xs, rfl, I, gd, hG, hx, q⟩ := h
    have I' := I
    obtain ⟨⟨dx, ho⟩, hs, ht, hne⟩ := I'
    refine ⟨_, pss_cons (ps_set (i := 2) scOptw.nd rfl (.inl rfl) (pe_ix ix_list (pv 1) pe_int (fun _ _ => rfl)))
      (pss_cons (ps_set (i := 3) scOptw.nd rfl (.inl rfl) (pe_call GR hr (by rfl) gR kR bR .nil pass0 (pa_cons (pv 0) (pa_cons (pv 2) pa_nil))))
      (pss_cons (ps_if (pt_cmpR op_notN (pv 3) pe_non (nomark _)) (pss_one (ps_ret (pv 3))) pss_nil)
      (pss_one (ps_ret (pe_lst (pa_cons (pe_call GS hr (by rfl) gS kS bS .nil pass0 (pa_cons (pe_fld (pv 0) rfl) (pa_cons (pe_op op_cat (pe_fld (pv 0) rfl) (pe_lst (pa_cons (pv 2) pa_nil))) pa_nil))) pa_nil)))))), ?_⟩
    simp only [sr_optw] at q
    generalize hxx : xs.getD 0 0 = x at q
    refine ⟨_, rfl, g, _, _, _, rfl, rfl, hG, atI_nat (j := 0) (nV_at (by omega)), ?_⟩
    rw [hxx]
    refine ⟨_, rfl, _, rfl, a, ls, lt, d, x, rfl, I, ?_⟩
    unfold refT
    by_cases c1 : 99 < x
    · rw [if_pos c1] at q ⊢
      intro H' p sm np hp
      exact ⟨_, rfl, rfl, _, rfl, ifT rfl ⟨_, rfl, q.new I H' p sm np hp⟩⟩
    rw [if_neg c1] at q ⊢
    by_cases c2 : d.starts.length = 0
    · rw [if_pos c2] at q ⊢
      intro H' p sm np hp
      exact ⟨_, rfl, rfl, _, rfl, ifT rfl ⟨_, rfl, q.new I H' p sm np hp⟩⟩
    rw [if_neg c2] at q ⊢
    refine ⟨_, rfl, rfl, _, rfl, ifF rfl ?_⟩
    have := gd.len
    have := gd.rlen
    refine ⟨_, rfl, a, C, dx, _, _, rfl, ho, T.cl, T.nS, iF_s ls lt, _, rfl, a, C, dx, _, _, rfl, ho, T.cl, T.nT, iF_t ls lt, _, rfl, by show 1 ≤ sizeLine; decide, fun o no => ?_⟩
    have s1 : Same H (L2.upd H o (.lst [.int (x : Int)])) := same_upd no
    refine ⟨lt, o, _, _, rfl, rfl, s1 _ _ ht, upd_same, ?_, fun r nr => ?_⟩
    · rw [nV_length, List.length_singleton]
      exact Nat.le_of_lt (Nat.lt_of_le_of_lt (show _ + 1 ≤ 9 by omega) (by decide))
    have s2 := s1.trans (same_upd (o := .lst (nV d.requests ++ [.int (x : Int)])) nr)
    refine ⟨ls, r, d.starts, d.requests ++ [x], rfl, SqL.of (s2 _ _ hs), SqL.of (by rw [upd_same, nV_app]; rfl), ne_of_len c2, by omega, by rw [List.length_append, List.length_singleton]; omega, fun H3 s3 => ?_⟩
    exact ((q.new I).later (s2.trans s3)).one
theorem ok_resp (T : Txt K mg C) {f fR fU fV fN : Addr} {fd fdR fdU fdV fdN : FuncData} {k : Nat} (F : Fun K "responders" "responders" (sOp 20) f fd) (mL : mg "len" = none) (mR : mg "range" = none)
    (GR : FnOk P w K mg base CX0 k fR fdR ["instance", "target"] (spTR C)) (bR : Binds K fdR ["instance", "target"] []) (kR : PySem.W.keepIn K (.ref fR) = true) (gR : mg "target_refusal" = some (.ref fR))
    (GU : FnOk P w K mg base CX0 k fU fdU ["instance"] (spCur C)) (bU : Binds K fdU ["instance"] []) (kU : PySem.W.keepIn K (.ref fU) = true) (gU : mg "current" = some (.ref fU))
    (GV : FnOk P w K mg base CX0 k fV fdV ["positions", "target"] (spCov K)) (bV : Binds K fdV ["positions", "target"] []) (kV : PySem.W.keepIn K (.ref fV) = true) (gV : mg "covered" = some (.ref fV))
    (GN : FnOk P w K mg base CX0 k fN fdN ["numbers"] spCnt) (bN : Binds K fdN ["numbers"] []) (kN : PySem.W.keepIn K (.ref fN) = true) (gN : mg "counted" = some (.ref fN)) :
    FnOk P w K mg base CX0 (k + 1) f fd ["instance", "given"] (spOp K C 1 fun xs => .responders (xs.getD 0 0)) := by
  refine F.ok scResp (fun vs H Q E h => ?_) (fun cdv A outer s H vs Q E hr h => ?_)
  · obtain ⟨a, g, ls, lt, d, xs, rfl, _⟩ := h
    rfl
  · obtain ⟨a, g, ls, lt, d, xs, rfl, I, gd, hG, hx, q⟩ := h
    refine ⟨_, pss_cons (ps_set (i := 2) scResp.nd rfl (.inl rfl) (pe_ix ix_list (pv 1) pe_int (fun _ _ => rfl)))
      (pss_cons (ps_set (i := 3) scResp.nd rfl (.inl rfl) (pe_call GR hr (by rfl) gR kR bR .nil pass0 (pa_cons (pv 0) (pa_cons (pv 2) pa_nil))))
      (pss_cons (ps_if (pt_cmpR op_notN (pv 3) pe_non (nomark _)) (pss_one (ps_ret (pv 3))) pss_nil)
      (pss_cons (ps_set (i := 4) scResp.nd rfl (.inr rfl) (pe_call GU hr (by rfl) gU kU bU .nil pass0 (pa_cons (pv 0) pa_nil)))
      (pss_cons (ps_set (i := 5) scResp.nd rfl (.inr rfl) (pe_call GV hr (by rfl) gV kV bV .nil pass0 (pa_cons (pv 4) (pa_cons (pv 2) pa_nil))))
      (pss_cons (ps_setLc (i := 6) (own := [("icebreaker", 7)]) (g := gName 7) rfl scResp.nd rfl rfl (sw_true rfl rfl rfl (by decide +kernel)) (pi_range1 (by rfl) mR (pa_cons (pe_callB call_len_seq (by rfl) mL PySem.boot_len (pa_cons (pv 4) pa_nil)) pa_nil))
          (blkOk_by (N := ["instance", "given", "target", "refusal", "before", "after", "moved", "icebreaker"]) (sc := defScope (sOp 20)) (by decide +kernel))
          (fun _ _ _ _ _ => pg_name (i := 7) scResp.nd rfl (Or.inl rfl) (Or.inr rfl))
          (fun _ _ _ _ _ => pts_one (pt_cmpR op_ne (pe_ix (r := rIxL K) ix_list (pv 4) (pv 7) (fun _ _ => rfl)) (pe_ix (r := rIxL K) ix_list (pv 5) (pv 7) (fun _ _ => rfl)) (nomark _)))
          (fun _ _ _ _ _ => pv 7))
      (pss_one (ps_ret (pe_call GN hr (by rfl) gN kN bN .nil pass0 (pa_cons (pv 6) pa_nil))))))))), ?_⟩
    simp only [sr_resp] at q
    generalize hxx : xs.getD 0 0 = x at q
    refine ⟨_, rfl, g, _, _, _, rfl, rfl, hG, atI_nat (j := 0) (nV_at (by omega)), ?_⟩
    rw [hxx]
    refine ⟨_, rfl, _, rfl, a, ls, lt, d, x, rfl, I, ?_⟩
    unfold refT
    by_cases c1 : 99 < x
    · rw [if_pos c1] at q ⊢
      intro H' p sm np hp
      exact ⟨_, rfl, rfl, _, rfl, ifT rfl ⟨_, rfl, q.new I H' p sm np hp⟩⟩
    rw [if_neg c1] at q ⊢
    by_cases c2 : d.starts.length = 0
    · rw [if_pos c2] at q ⊢
      intro H' p sm np hp
      exact ⟨_, rfl, rfl, _, rfl, ifT rfl ⟨_, rfl, q.new I H' p sm np hp⟩⟩
    rw [if_neg c2] at q ⊢
    refine ⟨_, rfl, rfl, _, rfl, ifF rfl ?_⟩
    have hcl := cur_len d
    have hsl := step_length (Km559.currentPositions d) x
    have hgl := gd.len
    refine ⟨_, rfl, a, ls, lt, d, rfl, I, gd, fun H1 p1 s1 n1 e1 => ?_⟩
    refine ⟨_, rfl, _, rfl, p1, _, x, rfl, SqL.of e1, ?_, by omega, fun H2 p2 s2 n2 e2 => ?_⟩
    · intro z
      rw [z] at hcl
      exact c2 hcl.symm
    have e12 := s2 _ _ e1
    have s12 := s1.trans s2
    replace q := (q.new I).later s12
    generalize Km559.currentPositions d = ps at *
    generalize Km559.doubleCoverageStep ps x = ms at *
    refine ⟨_, rfl, p1, _, rfl, .inl (SqL.of e12), _, rfl, by rw [nV_length]; omega, by rw [nV_length]; omega, ?_⟩
    intro D nD
    have sD : Same H2 (L2.upd H2 D (.lst [])) := same_upd nD
    refine lc_it (walk_range (lo := 0) (n := (nV ps).length)) (fun i H' => Same H2 H' ∧ H' D = some (.lst (nV (moversUp ps ms i)))) ⟨sD, upd_same⟩ (fun _ _ _ _ => trivial) ?_ ?_
    · rintro i y H' H'' hi ⟨sm, hD⟩ ⟨rfl, rfl⟩
      rw [nV_length] at hi
      refine ⟨rfl, ?_⟩
      have f1 := sm _ _ e12
      have f2 := sm _ _ e2
      refine ⟨.ref p1, rfl, _, rfl, p1, _, _, _, rfl, rfl, SqL.of f1, at_of (j := i) (by omega) (nV_at hi), .ref p2, rfl, _, rfl, p2, _, _, _, rfl, rfl, SqL.of f2, at_of (j := i) (by omega) (nV_at (by omega)), rfl, _, rfl, ?_⟩
      have up := moversUp_succ ps ms i
      by_cases c : ps.getD i 0 = ms.getD i 0
      · rw [if_pos c] at up
        refine ifF (by rw [c]; simp) ⟨sm, by rw [up]; exact hD⟩
      · rw [if_neg c] at up
        refine ifT (by
          have : ¬ (V.int ((ps.getD i 0 : Nat) : Int) = V.int ((ms.getD i 0 : Nat) : Int)) := fun z => by injection z with z; exact c (by omega)
          rw [decide_eq_false this]; rfl) ?_
        refine ⟨_, rfl, _, hD, ?_, ?_, ?_⟩
        · rw [nV_length]
          have := moversUp_len ps ms i
          exact small1000 (by omega)
        · intro b o e
          rw [upd_ne (ne_of_none e nD)]
          exact sm _ _ e
        · rw [upd_same, up, nV_app]
          dsimp only
          rw [Int.zero_add]
          rfl
    · rintro H' ⟨sm, hD⟩
      rw [nV_length] at hD
      have hm : moversUp ps ms ps.length = movers ps ms := rfl
      rw [hm] at hD
      have hl : (movers ps ms).length ≤ ps.length := moversUp_len ps ms ps.length
      exact ⟨_, rfl, D, _, rfl, hD, by omega, q.later sm⟩
theorem ok_dpr (T : Txt K mg C) {f fC fD fN : Addr} {fd fdC fdD fdN : FuncData} {k : Nat} (F : Fun K "distances_per_request" "distances_per_request" (sOp 21) f fd)
    (GC : FnOk P w K mg base CX0 k fC fdC ["starts", "targets"] (spCourseOf K Km559.doubleCoverageStep)) (bC : Binds K fdC ["starts", "targets"] []) (kC : PySem.W.keepIn K (.ref fC) = true) (gC : mg "coverage_course" = some (.ref fC))
    (GD : FnOk P w K mg base CX0 k fD fdD ["course"] (spCds K)) (bD : Binds K fdD ["course"] []) (kD : PySem.W.keepIn K (.ref fD) = true) (gD : mg "course_distances" = some (.ref fD))
    (GN : FnOk P w K mg base CX0 k fN fdN ["numbers"] spCnt) (bN : Binds K fdN ["numbers"] []) (kN : PySem.W.keepIn K (.ref fN) = true) (gN : mg "counted" = some (.ref fN)) :
    FnOk P w K mg base CX0 (k + 1) f fd ["instance", "given"] (spOp K C 0 fun _ => .distancesPerRequest) := by
  have sc := scTwo (n := 21)
  refine F.ok sc (fun vs H Q E h => ?_) (fun cdv A outer s H vs Q E hr h => ?_)
  · obtain ⟨a, g, ls, lt, d, xs, rfl, _⟩ := h
    rfl
  · obtain ⟨a, g, ls, lt, d, xs, rfl, I, gd, hG, hx, q⟩ := h
    have I' := I
    obtain ⟨⟨dx, ho⟩, hs, ht, hne⟩ := I'
    refine ⟨_, pss_one (ps_ret (pe_call GN hr (by rfl) gN kN bN .nil pass0 (pa_cons (pe_call GD hr (by rfl) gD kD bD .nil pass0 (pa_cons (pe_call GC hr (by rfl) gC kC bC .nil pass0 (pa_cons (pe_fld (pv 0) rfl) (pa_cons (pe_fld (pv 0) rfl) pa_nil))) pa_nil)) pa_nil))), ?_⟩
    simp only [sr_dpr] at q
    have := gd.len
    have := gd.rlen
    refine ⟨_, rfl, a, C, dx, _, _, rfl, ho, T.cl, T.nS, iF_s ls lt, _, rfl, a, C, dx, _, _, rfl, ho, T.cl, T.nT, iF_t ls lt, ?_⟩
    refine ⟨ls, lt, _, _, rfl, SqL.of hs, SqL.of ht, by omega, by omega, gd.some_, fun H1 p as s1 n1 e1 rows fresh => ?_⟩
    refine ⟨p, as, _, rfl, SqL.of e1, rows, by rw [course_len]; omega, fun l hl => by rw [course_row step_len _ _ l hl]; omega, fun H2 p2 s2 n2 e2 => ?_⟩
    rw [steps_course d.starts] at e2
    refine ⟨p2, _, rfl, e2, by rw [List.length_map, List.length_range]; omega, ?_⟩
    rw [List.length_map]
    exact (q.new I).later (s1.trans s2)
theorem ok_sav (T : Txt K mg C) {f fS : Addr} {fd fdS : FuncData} {k : Nat} (F : Fun K "saving_without_request" "saving_without_request" (sOp 22) f fd) (mL : mg "len" = none) (nNot : NumAt mg "NOT_THERE" (-2))
    (GS : FnOk P w K mg base CX0 k fS fdS ["starts", "targets"] (spSd K)) (bS : Binds K fdS ["starts", "targets"] []) (kS : PySem.W.keepIn K (.ref fS) = true) (gS : mg "smallest_distance" = some (.ref fS)) :
    FnOk P w K mg base CX0 (k + 1) f fd ["instance", "given"] (spOp K C 1 fun xs => .savingWithoutRequest (xs.getD 0 0)) := by
  obtain ⟨t1, g1⟩ := nNot
  refine F.ok scSav (fun vs H Q E h => ?_) (fun cdv A outer s H vs Q E hr h => ?_)
  · obtain ⟨a, g, ls, lt, d, xs, rfl, _⟩ := h
    rfl
  · obtain ⟨a, g, ls, lt, d, xs, rfl, I, gd, hG, hx, q⟩ := h
    have I' := I
    obtain ⟨⟨dx, ho⟩, hs, ht, hne⟩ := I'
    refine ⟨_, pss_cons (ps_set (i := 2) scSav.nd rfl (.inl rfl) (pe_ix ix_list (pv 1) pe_int (fun _ _ => rfl)))
      (pss_cons (ps_set (i := 3) scSav.nd rfl (.inl rfl) (pe_fld (pv 0) rfl))
      (pss_cons (ps_if (pt_cmpR op_ge (pv 2) (pe_callB call_len_seq (by rfl) mL PySem.boot_len (pa_cons (pv 3) pa_nil)) (nomark _)) (pss_one (ps_ret (pe_lst (pa_cons (pe_glob (v := .int (-2)) rfl g1 ⟨_, rfl⟩) pa_nil)))) pss_nil)
      (pss_cons (ps_set (i := 4) scSav.nd rfl (.inl rfl) (pe_call GS hr (by rfl) gS kS bS .nil pass0 (pa_cons (pe_fld (pv 0) rfl) (pa_cons (pe_op op_cat (pe_slice sl_list (pv 3) po_none (po_some (pv 2))) (pe_slice sl_list (pv 3) (po_some (pe_op op_add (pv 2) pe_int)) po_none)) pa_nil))))
      (pss_one (ps_ret (pe_lst (pa_cons (pe_op op_sub (pe_call GS hr (by rfl) gS kS bS .nil pass0 (pa_cons (pe_fld (pv 0) rfl) (pa_cons (pv 3) pa_nil))) (pv 4)) (pa_cons (pv 4) pa_nil)))))))), ?_⟩
    rw [sr_sav d gd] at q
    generalize hxx : xs.getD 0 0 = x at q
    have := gd.len
    have := gd.rlen
    refine ⟨_, rfl, g, _, _, _, rfl, rfl, hG, atI_nat (j := 0) (nV_at (by omega)), ?_⟩
    rw [hxx]
    refine ⟨_, rfl, a, C, dx, _, _, rfl, ho, T.cl, T.nT, iF_t ls lt, _, rfl, _, rfl, lt, _, rfl, .inl (SqL.of ht), _, _, rfl, rfl, _, rfl, ?_⟩
    by_cases c1 : d.requests.length ≤ x
    · rw [if_pos c1] at q
      exact ifT (decide_eq_true (by rw [nV_length]; omega)) (q.new I).one
    refine ifF (decide_eq_false (by rw [nV_length]; omega)) ?_
    rw [if_neg c1] at q
    have hn : d.starts ≠ [] := gd.some_ fun z => c1 (by rw [z]; exact Nat.zero_le _)
    have hxl : x < d.requests.length := by omega
    refine ⟨_, rfl, a, C, dx, _, _, rfl, ho, T.cl, T.nS, iF_s ls lt, .ref lt, rfl, _, rfl, (x : Int), rfl, lt, _, rfl, SqL.of ht, fun p1 n1 => ?_⟩
    rw [cut_to (by omega)]
    have s1 : Same H (L2.upd H p1 (.lst (nV (d.requests.take x)))) := same_upd n1
    have e1 : (L2.upd H p1 (.lst (nV (d.requests.take x)))) p1 = some (.lst (nV (d.requests.take x))) := upd_same
    generalize L2.upd H p1 (.lst (nV (d.requests.take x))) = H1 at s1 e1
    refine ⟨.ref lt, rfl, _, rfl, _, _, rfl, rfl, ((x + 1 : Nat) : Int), rfl, lt, _, rfl, SqL.of (s1 _ _ ht), fun p2 n2 => ?_⟩
    have ec : cutV (nV d.requests) (some (((x + 1 : Nat)) : Int)) none = nV (d.requests.drop (x + 1)) := by
      unfold cutV
      rw [HT.sIx_nat, nV_length, Nat.min_eq_left (by omega)]
      show ((nV d.requests).drop (x + 1)).take (d.requests.length - (x + 1)) = _
      rw [List.take_of_length_le (by rw [List.length_drop, nV_length]; exact Nat.le_refl _)]
      unfold nV
      rw [List.map_drop]
    rw [ec]
    have s2 : Same H1 (L2.upd H1 p2 (.lst (nV (d.requests.drop (x + 1))))) := same_upd n2
    have e2 : (L2.upd H1 p2 (.lst (nV (d.requests.drop (x + 1))))) p2 = some (.lst (nV (d.requests.drop (x + 1)))) := upd_same
    generalize L2.upd H1 p2 (.lst (nV (d.requests.drop (x + 1)))) = H2 at s2 e2
    refine ⟨p1, p2, _, _, rfl, rfl, s2 _ _ e1, e2, ?_, fun r nr => ?_⟩
    · rw [nV_length, nV_length, List.length_take, List.length_drop]
      exact Nat.le_of_lt (Nat.lt_of_le_of_lt (show _ ≤ 8 by omega) (by decide))
    rw [← nV_app, ← List.eraseIdx_eq_take_drop_succ]
    have s3 : Same H2 (L2.upd H2 r (.lst (nV (d.requests.eraseIdx x)))) := same_upd nr
    have e3 : (L2.upd H2 r (.lst (nV (d.requests.eraseIdx x)))) r = some (.lst (nV (d.requests.eraseIdx x))) := upd_same
    generalize L2.upd H2 r (.lst (nV (d.requests.eraseIdx x))) = H3 at s3 e3
    have s13 := (s1.trans s2).trans s3
    refine ⟨ls, r, d.starts, d.requests.eraseIdx x, rfl, SqL.of (s13 _ _ hs), SqL.of e3, hn, by omega, by rw [List.length_eraseIdx]; split <;> omega, fun H4 s4 => ?_⟩
    obtain ⟨⟨dx4, ho4⟩, hs4, ht4, _⟩ := I.same (s13.trans s4)
    refine ⟨_, rfl, a, C, dx4, _, _, rfl, ho4, T.cl, T.nS, iF_s ls lt, .ref lt, rfl, ls, lt, _, _, rfl, SqL.of hs4, SqL.of ht4, hn, by omega, by omega, fun H5 s5 => ?_⟩
    refine ⟨_, rfl, _, _, rfl, rfl, _, rfl, ?_⟩
    exact ((q.new I).later ((s13.trans s4).trans s5)).two
theorem ok_dwi (T : Txt K mg C) {f fR fS fC : Addr} {fd fdR fdS fdC : FuncData} {k : Nat} (F : Fun K "distances_with_icebreaker" "distances_with_icebreaker" (sOp 23) f fd)
    (GR : FnOk P w K mg base CX0 k fR fdR ["instance", "position"] (spSR C)) (bR : Binds K fdR ["instance", "position"] []) (kR : PySem.W.keepIn K (.ref fR) = true) (gR : mg "start_refusal" = some (.ref fR))
    (GS : FnOk P w K mg base CX0 k fS fdS ["starts", "targets"] (spSd K)) (bS : Binds K fdS ["starts", "targets"] []) (kS : PySem.W.keepIn K (.ref fS) = true) (gS : mg "smallest_distance" = some (.ref fS))
    (GC : FnOk P w K mg base CX0 k fC fdC ["starts", "targets"] (spTotal K Km559.doubleCoverageStep)) (bC : Binds K fdC ["starts", "targets"] []) (kC : PySem.W.keepIn K (.ref fC) = true) (gC : mg "coverage_total" = some (.ref fC)) :
    FnOk P w K mg base CX0 (k + 1) f fd ["instance", "given"] (spOp K C 1 fun xs => .distancesWithIcebreaker (xs.getD 0 0)) := by
  refine F.ok scDwi (fun vs H Q E h => ?_) (fun cdv A outer s H vs Q E hr h => ?_)
  · obtain ⟨a, g, ls, lt, d, xs, rfl, _⟩ := h
    rfl
  · obtain ⟨a, g, ls, lt, d, xs, rfl, I, gd, hG, hx, q⟩ := h
    have I' := I
    obtain ⟨⟨dx, ho⟩, hs, ht, hne⟩ := I'
    refine ⟨_, pss_cons (ps_set (i := 2) scDwi.nd rfl (.inl rfl) (pe_ix ix_list (pv 1) pe_int (fun _ _ => rfl)))
      (pss_cons (ps_set (i := 3) scDwi.nd rfl (.inl rfl) (pe_call GR hr (by rfl) gR kR bR .nil pass0 (pa_cons (pv 0) (pa_cons (pv 2) pa_nil))))
      (pss_cons (ps_if (pt_cmpR op_notN (pv 3) pe_non (nomark _)) (pss_one (ps_ret (pv 3))) pss_nil)
      (pss_cons (ps_set (i := 4) scDwi.nd rfl (.inl rfl) (pe_op op_cat (pe_fld (pv 0) rfl) (pe_lst (pa_cons (pv 2) pa_nil))))
      (pss_one (ps_ret (pe_lst (pa_cons (pe_call GS hr (by rfl) gS kS bS .nil pass0 (pa_cons (pv 4) (pa_cons (pe_fld (pv 0) rfl) pa_nil))) (pa_cons (pe_call GC hr (by rfl) gC kC bC .nil pass0 (pa_cons (pv 4) (pa_cons (pe_fld (pv 0) rfl) pa_nil))) pa_nil)))))))), ?_⟩
    simp only [sr_dwi] at q
    generalize hxx : xs.getD 0 0 = x at q
    refine ⟨_, rfl, g, _, _, _, rfl, rfl, hG, atI_nat (j := 0) (nV_at (by omega)), ?_⟩
    rw [hxx]
    refine ⟨_, rfl, _, rfl, a, ls, lt, d, x, rfl, I, ?_⟩
    unfold refS
    by_cases c1 : 99 < x
    · rw [if_pos c1] at q ⊢
      intro H' p sm np hp
      exact ⟨_, rfl, rfl, _, rfl, ifT rfl ⟨_, rfl, q.new I H' p sm np hp⟩⟩
    rw [if_neg c1] at q ⊢
    by_cases c2 : 3 ≤ d.starts.length
    · rw [if_pos c2] at q ⊢
      intro H' p sm np hp
      exact ⟨_, rfl, rfl, _, rfl, ifT rfl ⟨_, rfl, q.new I H' p sm np hp⟩⟩
    rw [if_neg c2] at q ⊢
    refine ⟨_, rfl, rfl, _, rfl, ifF rfl ?_⟩
    have := gd.len
    have := gd.rlen
    refine ⟨_, rfl, a, C, dx, _, _, rfl, ho, T.cl, T.nS, iF_s ls lt, _, rfl, by show 1 ≤ sizeLine; decide, fun o no => ?_⟩
    have s1 : Same H (L2.upd H o (.lst [.int (x : Int)])) := same_upd no
    refine ⟨ls, o, _, _, rfl, rfl, s1 _ _ hs, upd_same, ?_, fun r nr => ?_⟩
    · rw [nV_length, List.length_singleton]
      exact Nat.le_of_lt (Nat.lt_of_le_of_lt (show _ + 1 ≤ 4 by omega) (by decide))
    rw [show nV d.starts ++ [V.int (x : Int)] = nV (d.starts ++ [x]) by rw [nV_app]; rfl]
    have s2 := s1.trans (same_upd (o := .lst (nV (d.starts ++ [x]))) nr)
    have e2 : (L2.upd (L2.upd H o (.lst [.int (x : Int)])) r (.lst (nV (d.starts ++ [x])))) r = some (.lst (nV (d.starts ++ [x]))) := upd_same
    generalize L2.upd (L2.upd H o (.lst [.int (x : Int)])) r (.lst (nV (d.starts ++ [x]))) = H2 at s2 e2
    obtain ⟨⟨dx2, ho2⟩, hs2, ht2, _⟩ := I.same s2
    have hl : (d.starts ++ [x]).length ≤ 3 := by rw [List.length_append, List.length_singleton]; omega
    refine ⟨.ref r, rfl, _, rfl, a, C, dx2, _, _, rfl, ho2, T.cl, T.nT, iF_t ls lt, r, lt, d.starts ++ [x], d.requests, rfl, SqL.of e2, SqL.of ht2, by simp, hl, by omega, fun H3 s3 => ?_⟩
    obtain ⟨⟨dx3, ho3⟩, hs3, ht3, _⟩ := I.same (s2.trans s3)
    refine ⟨.ref r, rfl, _, rfl, a, C, dx3, _, _, rfl, ho3, T.cl, T.nT, iF_t ls lt, r, lt, d.starts ++ [x], d.requests, rfl, SqL.of (s3 _ _ e2), SqL.of ht3, by omega, by omega, fun _ => by simp, fun H4 s4 => ?_⟩
    rw [dc_dist]
    exact ((q.new I).later ((s2.trans s3).trans s4)).two
theorem ok_sum (T : Txt K mg C) {f fC : Addr} {fd fdC : FuncData} {k : Nat} (F : Fun K "summary" "summary" (sOp 24) f fd) (mL : mg "len" = none)
    (GC : FnOk P w K mg base CX0 k fC fdC ["starts", "targets"] (spTotal K Km559.doubleCoverageStep)) (bC : Binds K fdC ["starts", "targets"] []) (kC : PySem.W.keepIn K (.ref fC) = true) (gC : mg "coverage_total" = some (.ref fC)) :
    FnOk P w K mg base CX0 (k + 1) f fd ["instance", "given"] (spOp K C 0 fun _ => .summary) := by
  refine F.ok scSum (fun vs H Q E h => ?_) (fun cdv A outer s H vs Q E hr h => ?_)
  · obtain ⟨a, g, ls, lt, d, xs, rfl, _⟩ := h
    rfl
  · obtain ⟨a, g, ls, lt, d, xs, rfl, I, gd, hG, hx, q⟩ := h
    have I' := I
    obtain ⟨⟨dx, ho⟩, hs, ht, hne⟩ := I'
    refine ⟨_, pss_cons (ps_set (i := 2) scSum.nd rfl (.inl rfl) (pe_call GC hr (by rfl) gC kC bC .nil pass0 (pa_cons (pe_fld (pv 0) rfl) (pa_cons (pe_fld (pv 0) rfl) pa_nil))))
      (pss_one (ps_ret (pe_lst (pa_cons (pe_callB call_len_seq (by rfl) mL PySem.boot_len (pa_cons (pe_fld (pv 0) rfl) pa_nil)) (pa_cons (pe_callB call_len_seq (by rfl) mL PySem.boot_len (pa_cons (pe_fld (pv 0) rfl) pa_nil)) (pa_cons (pv 2) pa_nil)))))), ?_⟩
    simp only [sr_sum] at q
    have := gd.len
    have := gd.rlen
    refine ⟨_, rfl, a, C, dx, _, _, rfl, ho, T.cl, T.nS, iF_s ls lt, _, rfl, a, C, dx, _, _, rfl, ho, T.cl, T.nT, iF_t ls lt, ?_⟩
    refine ⟨ls, lt, _, _, rfl, SqL.of hs, SqL.of ht, by omega, by omega, gd.some_, fun H2 s2 => ?_⟩
    obtain ⟨⟨dx2, ho2⟩, hs2, ht2, _⟩ := I.same s2
    refine ⟨_, rfl, a, C, dx2, _, _, rfl, ho2, T.cl, T.nS, iF_s ls lt, ls, _, rfl, .inl (SqL.of hs2), _, rfl, a, C, dx2, _, _, rfl, ho2, T.cl, T.nT, iF_t ls lt, lt, _, rfl, .inl (SqL.of ht2), _, rfl, ?_⟩
    rw [dc_dist, nV_length, nV_length]
    exact ((q.new I).later s2).three
end
end Ice
/-! A written dict of defs, by whole numbers; operate; answers. -/
namespace Ice
open PySem PySem.Spec PyProof.Rows L2
open Km559 (Dispatch Call)
/-! ### d[k] of a written dict with whole numbers for keys -/
def KeysInt : List DictEntry → Prop
  | [] => True
  | e :: r => (∃ k t, e.key = .int k t ∧ e.hash = hashInt k) ∧ KeysInt r
theorem KeysInt.all : ∀ {l : List DictEntry}, KeysInt l → ∀ e ∈ l, ∃ k t, e.key = .int k t ∧ e.hash = hashInt k
  | _ :: _, ⟨h, _⟩, _, .head _ => h
  | _ :: _, ⟨_, r⟩, _, .tail _ m => r.all _ m
def KIDct (K : PySem.W.Frag) (a : Addr) (k : Int) (v : V) : Prop :=
  ∃ es n u, K.lookup a = some ⟨.type "dict", none, .dict es n, #[]⟩ ∧ KeysInt es.toList ∧ findBy Value.isInt es k = some u ∧ RelV v u
def rIxK (K : PySem.W.Frag) : R2 := fun x y H Q => ∃ p k v, x = .ref p ∧ y = .int k ∧ KIDct K p k v ∧ Q v H
section
variable {X : Cx}
theorem ix_kint : IxR X (rIxK X.K) := by
  intro value slice pins s σ H x y v u Q I rx ry h hs
  obtain ⟨p, k, r, rfl, rfl, ⟨es, n, u0, hl, hk, e, ru⟩, q⟩ := h
  obtain rfl : v = Value.ref p := rx
  obtain ⟨t, rfl⟩ := ry
  have hm : s.heap.MapOf (intKind X.prog X.w) p (fun k => findBy Value.isInt es k) :=
    ⟨_, es, n, I.kIn _ _ hl, ⟨rfl, rfl, rfl⟩, rfl, fun e he => by
      obtain ⟨k, t, e1, e2⟩ := hk.all e (Array.mem_toList_iff.mpr he)
      exact ⟨k, by rw [e1]; exact intKind_is X.prog X.w k t, e2⟩, fun _ => rfl⟩
  exact tail_any hm.typeIs slot_dict_getitem.lookup (wpAny_getItem_of (intKind_is X.prog X.w k t) hm e ⟨r, H, I.tok _, ru, q⟩) hs
end
/-! ### fe(e, ..): what fe gives is a def, which keeps a promise -/
def tCallF (P : Program) (w : World) (K : PySem.W.Frag) (mg : Str → Option Value) (base : Heap) (k : Nat) (tf : TE) (t : TA) : TE := fun σ H Q => tf σ H fun v H1 => ∃ f sp, v = .ref f ∧ Held P w K mg base k f sp ∧ t σ H1 fun vs H2 => sp vs H2 Q (fun _ _ _ => False)
section
variable {X : Cx} {k : Nat} {pos : Pos} {fe e : Expr} {es : List Expr} {tf : TE} {t : TA}
theorem pe_callF (hr : Room k X.A) (hf : PE X fe tf) (ha : PA X (e :: es) t)
    (he : starEach (e :: es) X.env = (false, eval e X.env) :: starEach es X.env := by rfl) (hpl : (backTo pos (starEach es X.env)).any (·.1) = false := by rfl)
    (ht : eval (.Call fe (e :: es) [] pos) X.env = (do
      callWith pos (← eval fe X.env) [] (backTo pos (starEach (e :: es) X.env)) (backToKw pos (keywordEach [] X.env))) := by rfl) :
    PE X (.Call fe (e :: es) [] pos) (tCallF X.prog X.w X.K X.mg X.base k tf t) := by
  refine ⟨fun pins s σ H Q I h => ?_⟩
  rw [ht]
  refine wpAny_bind (thn (hf.run pins s σ H _ I h) fun u s1 ⟨x, H1, I1, rx, f, sp, ex, hh, q⟩ => ?_)
  subst ex
  obtain rfl : u = Value.ref f := rx
  obtain ⟨fd, ps, F, hk, hb⟩ := hh.ex
  refine PySem.W.callWith_K (h₀ := X.base) I1.ok.mod.kin hk (thn (ha.run pos pins s1 σ H1 _ I1 q) fun us s2 ⟨vs, H2, I2, r, q2⟩ => ⟨I2.kIn, ?_⟩) he hpl
  exact run_fn (dvs := []) (ds := []) (CX := fun _ _ _ _ _ _ => False) (E := fun _ _ _ => False) F hr hb .nil (fun _ _ _ _ _ _ _ z => z.elim) I2 r (by rw [List.append_nil]; exact q2)
end
abbrev sOpr : Stmt := top 59
theorem scOpr : FnScope ["instance", "call", "given"] ["instance", "call", "given"] (defScope sOpr) := ⟨rfl, rfl, rfl, by decide +kernel, rfl, by decide +kernel, by decide +kernel⟩
section
variable {P : Program} {w : World} {K : PySem.W.Frag} {mg : Str → Option Value} {base : Heap} {C : Addr}
/-- the greatest number of a call that is written -/
def lastCall : Nat := 24
/-- the dict of the operations, at D -/
def OpsAt (P : Program) (w : World) (K : PySem.W.Frag) (mg : Str → Option Value) (base : Heap) (C : Addr) (k : Nat) (D : Addr) : Prop :=
  ∀ c : Nat, 1 ≤ c → c ≤ lastCall → ∃ f, KIDct K D (c : Int) (.ref f) ∧ Held P w K mg base k f (spOp K C (cnt c) (mkCall c))
def spOpr (K : PySem.W.Frag) (C : Addr) : Sp := fun vs H Q _ => ∃ (a g ls lt : Addr) (d : Dispatch) (c : Nat) (xs : List Nat), vs = [.ref a, .int (c : Int), .ref g] ∧ 1 ≤ c ∧ c ≤ lastCall ∧ InstAt C H a ls lt d ∧ Good d ∧ SqL K H g (nV xs) ∧ xs.length = cnt c ∧
  AnsI C H a ls lt (opRes d (mkCall c xs)) Q
theorem ok_opr {f D : Addr} {fd : FuncData} {k : Nat} (F : Fun K "operate" "operate" sOpr f fd) (gD : mg "OPERATIONS" = some (.ref D)) (O : OpsAt P w K mg base C k D) :
    FnOk P w K mg base CX0 (k + 1) f fd ["instance", "call", "given"] (spOpr K C) := by
  refine F.ok scOpr (fun vs H Q E h => ?_) (fun cdv A outer s H vs Q E hr h => ?_)
  · obtain ⟨a, g, ls, lt, d, c, xs, rfl, _⟩ := h
    rfl
  · obtain ⟨a, g, ls, lt, d, c, xs, rfl, h1, h2, I, gd, hG, hx, q⟩ := h
    refine ⟨_, pss_one (ps_ret (pe_callF hr (pe_ix ix_kint (pe_glob (v := .ref D) rfl gD rfl) (pv 1) (fun _ _ => rfl)) (pa_cons (pv 0) (pa_cons (pv 2) pa_nil)))), ?_⟩
    obtain ⟨fo, hd, hh⟩ := O c h1 h2
    exact ⟨_, rfl, D, (c : Int), _, rfl, rfl, hd, fo, _, rfl, hh, _, rfl, _, rfl, a, g, ls, lt, d, xs, rfl, I, gd, hG, hx, q⟩
end
end Ice
/-! iceline.coast -/
namespace Ice
open PySem PySem.Spec PyProof.Rows L2
open Km559 (Dispatch Call)
def zs (l : List Nat) : List Int := l.map fun (n : Nat) => (n : Int)
theorem zs_V (l : List Nat) : (zs l).map V.int = nV l := (nV_ints l).symm
theorem cut_n {l : List Nat} {i j : Nat} (hij : i ≤ j) (hj : j ≤ l.length) : cutV (nV l) (some (i : Int)) (some (j : Int)) = nV ((l.drop i).take (j - i)) := by
  unfold cutV
  rw [HT.sIx_nat, HT.sIx_nat, nV_length, Nat.min_eq_left (show i ≤ l.length by omega), Nat.min_eq_left hj]
  unfold nV
  rw [List.map_take, List.map_drop]
theorem zs_back {l : List Int} (h : ∀ x ∈ l, 0 ≤ x) : zs (l.map Int.toNat) = l := by
  unfold zs
  rw [List.map_map]
  conv => rhs; rw [← List.map_id l]
  exact List.map_congr_left fun x hx => Int.toNat_of_nonneg (h x hx)
def keyOk (e : DictEntry) : Bool := match e.key with
  | .int k _ => e.hash == hashInt k
  | _ => false
theorem keysInt_of : ∀ {l : List DictEntry}, l.all keyOk = true → KeysInt l
  | [], _ => trivial
  | e :: r, h => by
    rw [List.all_cons, Bool.and_eq_true] at h
    refine ⟨?_, keysInt_of h.2⟩
    have h1 := h.1
    unfold keyOk at h1
    split at h1
    · next k t ek => exact ⟨k, t, ek, eq_of_beq h1⟩
    · cases h1
def valsB : List Nat → List Value → Bool
  | [], [] => true
  | n :: l, .int i _ :: us => i == (n : Int) && valsB l us
  | _, _ => false
theorem vals_of : ∀ {l : List Nat} {us : List Value}, valsB l us = true → Vals (nV l) us
  | [], [], _ => .nil
  | [], _ :: _, h => by simp [valsB] at h
  | _ :: _, [], h => by simp [valsB] at h
  | n :: l, u :: us, h => by
    cases u with
    | int i t =>
      simp only [valsB, Bool.and_eq_true] at h
      have e := eq_of_beq h.1
      subst e
      exact .cons ⟨t, rfl⟩ (vals_of h.2)
    | _ => simp [valsB] at h
/-- the instance, as the name `instance` holds it; D: what is none of its own -/
def StAt (C : Addr) (H : Hp) (v : V) (st : Option Dispatch) (D : Addr → Prop) : Prop := match st with
  | none => v = .non
  | some d => ∃ ia ls lt, v = .ref ia ∧ InstAt C H ia ls lt d ∧ Good d ∧ ∀ x, D x → x ≠ ia ∧ x ≠ ls ∧ x ≠ lt
theorem StAt.upd {C : Addr} {H : Hp} {v : V} {st : Option Dispatch} {D : Addr → Prop} (h : StAt C H v st D) {b : Addr} {o : HO} (hb : D b) : StAt C (L2.upd H b o) v st D := by
  cases st with
  | none => exact h
  | some d =>
    obtain ⟨ia, ls, lt, e1, ⟨⟨dx, e2⟩, e3, e4, e5⟩, e6, e7⟩ := h
    obtain ⟨n1, n2, n3⟩ := e7 b hb
    exact ⟨ia, ls, lt, e1, ⟨⟨dx, by rw [upd_ne n1.symm]; exact e2⟩, by rw [upd_ne n2.symm]; exact e3, by rw [upd_ne n3.symm]; exact e4, e5⟩, e6, e7⟩
theorem mkCall_ne {c : Nat} (h : c ≠ 0) (h2 : c ≤ 24) (ys : List Nat) : mkCall c ys ≠ .create := by
  have all : c = 0 ∨ c = 1 ∨ c = 2 ∨ c = 3 ∨ c = 4 ∨ c = 5 ∨ c = 6 ∨ c = 7 ∨ c = 8 ∨ c = 9 ∨ c = 10 ∨ c = 11 ∨ c = 12 ∨ c = 13 ∨ c = 14 ∨ c = 15 ∨ c = 16 ∨ c = 17 ∨ c = 18 ∨ c = 19 ∨ c = 20 ∨ c = 21 ∨ c = 22 ∨ c = 23 ∨ c = 24 := by omega
  rcases all with rfl | rfl | rfl | rfl | rfl | rfl | rfl | rfl | rfl | rfl | rfl | rfl | rfl | rfl | rfl | rfl | rfl | rfl | rfl | rfl | rfl | rfl | rfl | rfl | rfl <;> first | exact absurd rfl h | (intro z; cases z)
abbrev sAns : Stmt := top 64
theorem scAns : FnScope ["calls", "instance", "told", "place", "call", "behind", "given", "answer"] ["calls"] (defScope sAns) := ⟨rfl, rfl, rfl, by decide +kernel, rfl, by decide +kernel, by decide +kernel⟩
/-- the loop's invariant -/
structure Turn (K : PySem.W.Frag) (C : Addr) (m : List Nat) (a to : Addr) (H H' : Hp) (i : Nat) (v : V) (tl : List Int) : Prop where
  le : i ≤ m.length
  keep : ∀ x y, H x = some y → H' x = some y
  here : H' to = some (.lst (tl.map V.int))
  rest : ∃ f cs st, PyFlat.calls PyKm559.shape f (zs (m.drop i)) = some cs ∧ tl ++ PyFlat.told (PyFlat.played Km559Neutral.step st (cs.map PyKm559.whole)) = PyKm559.answers (zs m) ∧ StAt C H' v st (fun x => x = to ∨ H x ≠ none)
section
variable {P : Program} {w : World} {K : PySem.W.Frag} {mg : Str → Option Value} {base : Heap} {C : Addr}
def TupAt (K : PySem.W.Frag) (p : Addr) (l : List Nat) : Prop := ∃ (o : Obj) (its : Array Value) (n : Nat), K.lookup p = some o ∧ o.cls = .type "tuple" ∧ o.data = .seq its n ∧ its.size ≤ sizeLine ∧ Vals (nV l) its.toList
def counts : List Nat := (List.range (lastCall + 1)).map cnt
theorem counts_at {c : Nat} (h : c ≤ lastCall) : atI (nV counts) (c : Int) = some (.int (cnt c : Nat)) := by
  refine atI_nat ?_
  have hl : c < counts.length := by unfold counts; simp; omega
  rw [nV_at hl]
  have : counts.getD c 0 = cnt c := by
    unfold counts
    rw [List.getD_eq_getElem?_getD, List.getElem?_map, List.getElem?_range (by omega)]
    rfl
  rw [this]
def spAns (K : PySem.W.Frag) : Sp := fun vs H Q _ => ∃ (a : Addr) (m : List Nat), vs = [.ref a] ∧ SqL K H a (nV m) ∧ m.length ≤ 120 ∧ PyKm559.answers_asked (zs m) = true ∧
  ∀ (H' : Hp) (p : Addr), H' p = some (.lst ((PyKm559.answers (zs m)).map V.int)) → Q (.ref p) H'
theorem ok_ans (hlast : ∀ c : Nat, c ≤ 24 → c ≤ lastCall) {f fI fO pc : Addr} {fd fdI fdO : FuncData} {k : Nat} (F : Fun K "answers" "answers" sAns f fd) (mL : mg "len" = none)
    (nCre : NumAt mg "CREATE" 0) (nNo : NumAt mg "NO_INSTANCE" (-11)) (gPC : mg "PARAMETER_COUNTS" = some (.ref pc)) (tPC : TupAt K pc counts)
    (M : Mk K C fI) (GI : FnOk P w K mg base CX0 k fI fdI ["self"] (spInit C)) (bI : Binds K fdI ["self"] []) (gI : mg "Instance" = some (.ref C))
    (GO : FnOk P w K mg base CX0 (k + 1) fO fdO ["instance", "call", "given"] (spOpr K C)) (bO : Binds K fdO ["instance", "call", "given"] []) (kO : PySem.W.keepIn K (.ref fO) = true) (gO : mg "operate" = some (.ref fO)) :
    FnOk P w K mg base CX0 (k + 2) f fd ["calls"] (spAns K) := by
  obtain ⟨t1, g1⟩ := nCre
  obtain ⟨t2, g2⟩ := nNo
  refine F.ok scAns (fun vs H Q E h => ?_) (fun cdv A outer s H vs Q E hr h => ?_)
  · obtain ⟨a, m, rfl, _⟩ := h
    rfl
  · obtain ⟨a, m, rfl, hA, hm, hask, q⟩ := h
    refine ⟨_, pss_cons (ps_set (i := 1) scAns.nd rfl (.inl rfl) pe_non)
      (pss_cons (ps_set (i := 2) scAns.nd rfl (.inl rfl) (pe_lst pa_nil))
      (pss_cons (ps_set (i := 3) scAns.nd rfl (.inl rfl) pe_int)
      (pss_cons (ps_while PassesOwn.never (pt_cmpR op_lt (pv 3) (pe_callB call_len_seq (by rfl) mL PySem.boot_len (pa_cons (pv 0) pa_nil)) (nomark _))
        (pss_cons (ps_set (i := 4) scAns.nd rfl (.inl rfl) (pe_ix ix_list (pv 0) (pv 3) (fun _ _ => rfl)))
        (pss_cons (ps_set (i := 5) scAns.nd rfl (.inl rfl) (pe_op op_add (pe_op op_add (pv 3) pe_int) (pe_ix ix_tup (pe_glob (v := .ref pc) rfl gPC rfl) (pv 4) (fun _ _ => rfl))))
        (pss_cons (ps_set (i := 6) scAns.nd rfl (.inl rfl) (pe_slice sl_list (pv 0) (po_some (pe_op op_add (pv 3) pe_int)) (po_some (pv 5))))
        (C8.pss_cut (ps_if (pt_cmpR op_eq (pv 4) (pe_glob (v := .int 0) rfl g1 ⟨_, rfl⟩) (nomark _))
          (pss_cons (ps_set (i := 1) scAns.nd rfl (.inl rfl) (pe_make0 M GI hr (by rfl) gI bI .nil pass0))
          (pss_one (ps_set (i := 7) scAns.nd rfl (.inl rfl) (pe_lst (pa_cons pe_int pa_nil)))))
          (pss_one (ps_if (pt_cmpR op_isN (pv 1) pe_non (nomark _))
            (pss_one (ps_set (i := 7) scAns.nd rfl (.inl rfl) (pe_lst (pa_cons (pe_glob (v := .int (-11)) rfl g2 ⟨_, rfl⟩) pa_nil))))
            (pss_one (ps_set (i := 7) scAns.nd rfl (.inl rfl) (pe_call GO hr (by rfl) gO kO bO .nil pass0 (pa_cons (pv 1) (pa_cons (pv 4) (pa_cons (pv 6) pa_nil)))))))))
        (pss_cons (ps_expr (pe_bm PySem.F.plainAttrs_list PySem.F.slot_list_append PySem.F.type_list_append mt_append (pv 2) (pa_cons (pe_callB call_len_seq (by rfl) mL PySem.boot_len (pa_cons (pv 7) pa_nil)) pa_nil)))
        (pss_cons (ps_expr (pe_bm PySem.F.plainAttrs_list PySem.F.slot_list_extend PySem.F.type_list_extend mt_extend (pv 2) (pa_cons (pv 7) pa_nil)))
        (pss_one (ps_set (i := 3) scAns.nd rfl (.inl rfl) (pv 5))))))))))
      (pss_one (ps_ret (pv 2)))))), ?_⟩
    refine ⟨Nat.zero_le _, fun to nto => ?_⟩
    refine while_by (fun σ H' => ∃ (i : Nat) (v : V) (tl : List Int) (v4 v5 v6 v7 : Option V), σ = [some (.ref a), some v, some (.ref to), some (.int (i : Int)), v4, v5, v6, v7] ∧ Turn K C m a to H H' i v tl)
      (fun σ _ => match σ[3]? with
        | some (some (V.int i)) => m.length - i.toNat
        | _ => 0) ?_ ?_ ?_
    · refine ⟨0, .non, [], none, none, none, none, rfl, Nat.zero_le _, same_upd nto, upd_same, ?_⟩
      have hask' := hask
      unfold PyKm559.answers_asked at hask'
      cases hc : PyFlat.calls PyKm559.shape (zs m).length (zs m) with
      | none => rw [hc] at hask'; cases hask'
      | some raw =>
        refine ⟨_, raw, none, hc, ?_, rfl⟩
        unfold PyKm559.answers PyKm559.calls
        rw [hc]
        rfl
    · have hbig : (PyKm559.answers (zs m)).length ≤ 10000000 := by
        have hask' := hask
        unfold PyKm559.answers_asked at hask'
        cases hc : PyFlat.calls PyKm559.shape (zs m).length (zs m) with
        | none => rw [hc] at hask'; cases hask'
        | some raw =>
          rw [hc] at hask'
          simp only [Bool.and_eq_true, PyFlat.short, decide_eq_true_eq] at hask'
          exact hask'.2
      rintro σ H' ⟨i, v, tl, v4, v5, v6, v7, rfl, hi, keep, here, f0, cs, st, hcs, htl, hst⟩
      have hA' : SqL K H' a (nV m) := Same.seq (H := H) keep hA
      refine ⟨_, rfl, _, rfl, a, _, rfl, .inl hA', _, _, rfl, rfl, _, rfl, ?_⟩
      by_cases hlt : i < m.length
      · refine ifT (decide_eq_true (by rw [nV_length]; omega)) ?_
        -- the call
        have hdrop : m.drop i = m.getD i 0 :: m.drop (i + 1) := by
          rw [List.drop_eq_getElem_cons hlt, List.getD_eq_getElem?_getD, List.getElem?_eq_getElem hlt]
          rfl
        rw [hdrop] at hcs
        obtain ⟨c, xs, rest, cs', f', hc, hc24, hr', hx, rfl, hcs'⟩ := calls_cons hcs
        have hci : m.getD i 0 = c := Int.ofNat.inj hc
        have hcl := hlast c hc24
        have hr2 : (zs (m.drop (i + 1))) = xs ++ rest := hr'
        generalize hn : cnt c = n at hx
        have hxs : xs = zs ((m.drop (i + 1)).take n) := by
          have := congrArg (List.take n) hr2
          rw [List.take_left' hx] at this
          rw [← this]
          unfold zs
          rw [List.map_take]
        have hrs : rest = zs (m.drop (i + 1 + n)) := by
          have := congrArg (List.drop n) hr2
          rw [List.drop_left' hx] at this
          rw [← this]
          unfold zs
          rw [← List.map_drop, List.drop_drop]
        have hle : i + 1 + n ≤ m.length := by
          have := congrArg List.length hr2
          unfold zs at this
          rw [List.length_map, List.length_drop, List.length_append, hx] at this
          omega
        rw [hrs] at hcs'
        generalize hys : (m.drop (i + 1)).take n = ys at hxs
        have hyl : ys.length = cnt c := by
          rw [← hys, List.length_take, List.length_drop, hn]
          omega
        have hpl : ([((m.getD i 0 : Nat) : Int) :: xs] : List (List Int)) = [(c : Int) :: ys.map fun (n : Nat) => (n : Int)] := by
          rw [hci, hxs]
          rfl
        have htl' : tl ++ PyFlat.told (PyFlat.played Km559Neutral.step st (([((m.getD i 0 : Nat) : Int) :: xs] :: cs').map PyKm559.whole)) = PyKm559.answers (zs m) := htl
        rw [hpl, told_cons st c hc24 ys hyl] at htl'
        -- call, behind, given
        refine ⟨_, rfl, _, rfl, a, _, _, _, rfl, rfl, hA', atI_nat (nV_at hlt), ?_⟩
        rw [hci]
        refine ⟨_, rfl, _, _, rfl, rfl, _, rfl, pc, _, _, _, rfl, rfl, .inr tPC, counts_at hcl, _, _, rfl, rfl, ?_⟩
        rw [hn]
        refine ⟨_, rfl, _, rfl, _, _, rfl, rfl, ((i + 1 : Nat) : Int), rfl, _, rfl, ((i + 1 + n : Nat) : Int), rfl, a, _, rfl, hA', fun g ng => ?_⟩
        rw [cut_n (by omega) hle, show i + 1 + n - (i + 1) = n by omega, hys]
        have s1 : Same H' (L2.upd H' g (.lst (nV ys))) := same_upd ng
        have hg : (L2.upd H' g (.lst (nV ys))) g = some (.lst (nV ys)) := upd_same
        have here1 := s1 _ _ here
        have hst1 : StAt C (L2.upd H' g (.lst (nV ys))) v st (fun x => x = to ∨ H x ≠ none) := by
          cases st with
          | none => exact hst
          | some d =>
            obtain ⟨ia, ls, lt, e1, e2, e3, e4⟩ := hst
            exact ⟨ia, ls, lt, e1, e2.same s1, e3, e4⟩
        have keep1 : ∀ x y, H x = some y → (L2.upd H' g (.lst (nV ys))) x = some y := fun x y e => s1 _ _ (keep x y e)
        generalize L2.upd H' g (.lst (nV ys)) = H1 at hg here1 hst1 keep1
        refine ⟨fun σ' H3 => ∃ (v' : V) (p : Addr) (r : List Int) (st' : Option Dispatch), σ' = [some (.ref a), some v', some (.ref to), some (.int (i : Int)), some (.int (c : Int)), some (.int ((i + 1 + n : Nat) : Int)), some (.ref g), some (.ref p)] ∧
          H3 p = some (.lst (r.map V.int)) ∧ p ≠ to ∧ H3 to = some (.lst (tl.map V.int)) ∧ (∀ x y, H x = some y → H3 x = some y) ∧ StAt C H3 v' st' (fun x => x = to ∨ H x ≠ none) ∧
          (tl ++ ((r.length : Int) :: r)) ++ PyFlat.told (PyFlat.played Km559Neutral.step st' (cs'.map PyKm559.whole)) = PyKm559.answers (zs m), ?_, ?_⟩
        · -- the three ways
          refine ⟨_, rfl, rfl, _, rfl, ?_⟩
          by_cases c0 : c = 0
          · -- create
            subst c0
            refine ifT (decide_eq_true rfl) ?_
            intro x dx nx ndx nex
            refine ⟨x, dx, rfl, upd_same, fun H2 ls lt I nls nlt kp => ⟨rfl, ?_⟩⟩
            have s2 : Same H1 H2 := Same.made nx ndx kp
            have dom : Dom H1 (L2.upd (L2.upd H1 dx (.own x)) x (.ins C dx [])) := (Dom.refl H1).upd.upd
            refine ⟨by decide, fun p np => ?_⟩
            have s3 : Same H2 (L2.upd H2 p (.lst [.int 0])) := same_upd np
            refine ⟨.ref x, p, [0], some ⟨[], []⟩, rfl, upd_same, (ne_of_none (s2 _ _ here1) np).symm, s3 _ _ (s2 _ _ here1), fun y z e => s3 _ _ (s2 _ _ (keep1 y z e)), ⟨x, ls, lt, rfl, I.same s3, good_new, fun y hy => ?_⟩, ?_⟩
            · have hy1 : ∃ o, H1 y = some o := by
                rcases hy with rfl | hy
                · exact ⟨_, here1⟩
                · cases e : H y with
                  | none => exact absurd e hy
                  | some o => exact ⟨o, keep1 y o e⟩
              obtain ⟨o, ho⟩ := hy1
              exact ⟨ne_of_none ho nx, ne_of_none ho (dom _ nls), ne_of_none ho (dom _ nlt)⟩
            · have e : Km559.step st (mkCall 0 ys) = (some ⟨[], []⟩, Km559.number 0) := step_create st
              rw [e] at htl'
              rw [List.append_assoc]
              exact htl'
          · refine ifF (decide_eq_false (by intro z; injection z with z; omega)) ?_
            have hne : mkCall c ys ≠ .create := mkCall_ne c0 hc24 ys
            cases st with
            | none =>
              obtain rfl : v = .non := hst1
              refine ⟨_, rfl, rfl, _, rfl, ifT (decide_eq_true rfl) ?_⟩
              refine ⟨by decide, fun p np => ?_⟩
              have s3 : Same H1 (L2.upd H1 p (.lst [.int (-11)])) := same_upd np
              refine ⟨.non, p, [-11], none, rfl, upd_same, (ne_of_none here1 np).symm, s3 _ _ here1, fun y z e => s3 _ _ (keep1 y z e), rfl, ?_⟩
              rw [step_none hne] at htl'
              rw [List.append_assoc]
              exact htl'
            | some d =>
              obtain ⟨ia, ls, lt, rfl, I, gd, hD⟩ := hst1
              refine ⟨_, rfl, rfl, _, rfl, ifF (decide_eq_false (by intro z; cases z)) ?_⟩
              refine ⟨_, rfl, _, rfl, _, rfl, ia, g, ls, lt, d, c, ys, rfl, by omega, hcl, I, gd, SqL.of hg, hyl, fun H2 p ls' lt' I2 hp np F2 => ?_⟩
              have inD : ∀ y, (y = to ∨ H y ≠ none) → ∃ o, H1 y = some o := fun y hy => by
                rcases hy with rfl | hy
                · exact ⟨_, here1⟩
                · cases e : H y with
                  | none => exact absurd e hy
                  | some o => exact ⟨o, keep1 y o e⟩
              obtain ⟨n1, n2, n3⟩ := hD to (.inl rfl)
              refine ⟨.ref ia, p, (opRes d (mkCall c ys)).2, some (opRes d (mkCall c ys)).1, rfl, hp, (ne_of_none here1 np).symm, (F2 _ _ here1 n1 n2 n3).1, fun y z e => ?_, ⟨ia, ls', lt', rfl, I2, good_op gd _, fun y hy => ?_⟩, ?_⟩
              · obtain ⟨m1, m2, m3⟩ := hD y (.inr (by rw [e]; exact Option.some_ne_none _))
                exact (F2 _ _ (keep1 y z e) m1 m2 m3).1
              · obtain ⟨o, ho⟩ := inD y hy
                obtain ⟨m1, m2, m3⟩ := hD y hy
                exact ⟨m1, (F2 _ _ ho m1 m2 m3).2⟩
              · obtain ⟨r, e1, e2⟩ := step_some d (mkCall c ys)
                rw [e1] at htl'
                rw [← e2, List.append_assoc]
                exact htl'
        · -- told
          rintro σ' H3 ⟨v', p, r, st', rfl, hp, hpt, ht, keep3, hst3, htl3⟩
          have hlen : tl.length + (r.length + 1) ≤ 10000000 := by
            have h1 := congrArg List.length htl3
            rw [List.length_append, List.length_append, List.length_cons] at h1
            omega
          have hsz : (10000000 : Nat) < sizeLine := by decide
          refine ⟨_, rfl, .inl ⟨rfl, _, SqL.of ht⟩, _, rfl, p, _, rfl, .inl (SqL.of hp), to, _, _, rfl, rfl, ht, ?_, ?_⟩
          · rw [List.length_map]
            exact Nat.lt_of_le_of_lt (by omega) hsz
          refine ⟨_, rfl, .inl ⟨rfl, _, SqL.of upd_same⟩, _, rfl, to, p, _, _, rfl, rfl, upd_same, by rw [upd_ne hpt]; exact hp, ?_, ?_⟩
          · rw [List.length_append, List.length_map, List.length_map, List.length_singleton]
            exact Nat.le_of_lt (Nat.lt_of_le_of_lt (by omega) hsz)
          refine ⟨_, rfl, ⟨i + 1 + n, v', tl ++ ((r.length : Int) :: r), _, _, _, _, rfl, hle, fun x y e => ?_, ?_, f', cs', st', hcs', htl3, (hst3.upd (.inl rfl)).upd (.inl rfl)⟩, ?_⟩
          · have hx' : x ≠ to := ne_of_none e nto
            rw [upd_ne hx', upd_ne hx']
            exact keep3 x y e
          · rw [upd_same]
            simp
          · show m.length - ((i + 1 + n : Nat) : Int).toNat < m.length - ((i : Nat) : Int).toNat
            rw [Int.toNat_natCast, Int.toNat_natCast]
            omega
      · refine ifF (decide_eq_false (by rw [nV_length]; omega)) ?_
        have hd : m.drop i = [] := List.drop_eq_nil_of_le (by omega)
        rw [hd] at hcs
        have := calls_nil hcs
        subst this
        refine ⟨_, rfl, ?_⟩
        refine q H' to ?_
        rw [here, ← htl]
        show _ = some (HO.lst ((tl ++ []).map V.int))
        rw [List.append_nil]
    · rintro σ H' Q1 Q2 k ⟨x1, e1, x2, e2, p, ys, e3, e4, y1, y2, e5, e6, b, e7, h⟩
      exact ⟨x1, e1, x2, e2, p, ys, e3, e4, y1, y2, e5, e6, b, e7, k _ _ h⟩
end
end Ice
/-! The end: what the top has written -/
namespace Ice
open PySem PySem.Spec PyProof.Rows L2
open PySem.W (Codec)
theorem all_mk {P : Program} {w : World} {K : PySem.W.Frag} {h : Heap} {mg : Str → Option Value} {fa C fI D pc : Addr} {f_m f_cs f_cd f_pr f_l f_r f_cv f_cc f_ne f_gc f_ex f_be f_sd f_sn f_cu f_ct f_gt f_sv f_cn f_sr f_tr f_o1 f_o2 f_o3 f_o4 f_o5 f_o6 f_o7 f_o8 f_o9 f_o10 f_o11 f_o12 f_o13 f_o14 f_o15 f_o16 f_o17 f_o18 f_o19 f_o20 f_o21 f_o22 f_o23 f_o24 f_op f_an : Addr} (X : K.In h) (G : h.Ns mainGlobals mg) (hfa : mg "answers" = some (.ref fa))
    {od_m an_m od_cs an_cs od_cd an_cd od_pr an_pr od_l an_l od_r an_r od_cv an_cv od_cc an_cc od_ne an_ne od_gc an_gc od_ex an_ex od_be an_be od_sd an_sd od_sn an_sn od_cu an_cu od_ct an_ct od_gt an_gt od_sv an_sv od_cn an_cn od_sr an_sr od_tr an_tr od_o1 an_o1 od_o2 an_o2 od_o3 an_o3 od_o4 an_o4 od_o5 an_o5 od_o6 an_o6 od_o7 an_o7 od_o8 an_o8 od_o9 an_o9 od_o10 an_o10 od_o11 an_o11 od_o12 an_o12 od_o13 an_o13 od_o14 an_o14 od_o15 an_o15 od_o16 an_o16 od_o17 an_o17 od_o18 an_o18 od_o19 an_o19 od_o20 an_o20 od_o21 an_o21 od_o22 an_o22 od_o23 an_o23 od_o24 an_o24 od_op an_op od_an an_an od_i an_i : Option Addr} {sl_m sl_cs sl_cd sl_pr sl_l sl_r sl_cv sl_cc sl_ne sl_gc sl_ex sl_be sl_sd sl_sn sl_cu sl_ct sl_gt sl_sv sl_cn sl_sr sl_tr sl_o1 sl_o2 sl_o3 sl_o4 sl_o5 sl_o6 sl_o7 sl_o8 sl_o9 sl_o10 sl_o11 sl_o12 sl_o13 sl_o14 sl_o15 sl_o16 sl_o17 sl_o18 sl_o19 sl_o20 sl_o21 sl_o22 sl_o23 sl_o24 sl_op sl_an sl_i : Array (Option Value)}
    {oc_m kV_m dc_m pm_m cd_m ct_m oc_cs kV_cs dc_cs pm_cs cd_cs ct_cs oc_cd kV_cd dc_cd pm_cd cd_cd ct_cd oc_pr kV_pr dc_pr pm_pr cd_pr ct_pr oc_l kV_l dc_l pm_l cd_l ct_l oc_r kV_r dc_r pm_r cd_r ct_r oc_cv kV_cv dc_cv pm_cv cd_cv ct_cv oc_cc kV_cc dc_cc pm_cc cd_cc ct_cc oc_ne kV_ne dc_ne pm_ne cd_ne ct_ne oc_gc kV_gc dc_gc pm_gc cd_gc ct_gc oc_ex kV_ex dc_ex pm_ex cd_ex ct_ex oc_be kV_be dc_be pm_be cd_be ct_be oc_sd kV_sd dc_sd pm_sd cd_sd ct_sd oc_sn kV_sn dc_sn pm_sn cd_sn ct_sn oc_cu kV_cu dc_cu pm_cu cd_cu ct_cu oc_ct kV_ct dc_ct pm_ct cd_ct ct_ct oc_gt kV_gt dc_gt pm_gt cd_gt ct_gt oc_sv kV_sv dc_sv pm_sv cd_sv ct_sv oc_cn kV_cn dc_cn pm_cn cd_cn ct_cn oc_sr kV_sr dc_sr pm_sr cd_sr ct_sr oc_tr kV_tr dc_tr pm_tr cd_tr ct_tr oc_o1 kV_o1 dc_o1 pm_o1 cd_o1 ct_o1 oc_o2 kV_o2 dc_o2 pm_o2 cd_o2 ct_o2 oc_o3 kV_o3 dc_o3 pm_o3 cd_o3 ct_o3 oc_o4 kV_o4 dc_o4 pm_o4 cd_o4 ct_o4 oc_o5 kV_o5 dc_o5 pm_o5 cd_o5 ct_o5 oc_o6 kV_o6 dc_o6 pm_o6 cd_o6 ct_o6 oc_o7 kV_o7 dc_o7 pm_o7 cd_o7 ct_o7 oc_o8 kV_o8 dc_o8 pm_o8 cd_o8 ct_o8 oc_o9 kV_o9 dc_o9 pm_o9 cd_o9 ct_o9 oc_o10 kV_o10 dc_o10 pm_o10 cd_o10 ct_o10 oc_o11 kV_o11 dc_o11 pm_o11 cd_o11 ct_o11 oc_o12 kV_o12 dc_o12 pm_o12 cd_o12 ct_o12 oc_o13 kV_o13 dc_o13 pm_o13 cd_o13 ct_o13 oc_o14 kV_o14 dc_o14 pm_o14 cd_o14 ct_o14 oc_o15 kV_o15 dc_o15 pm_o15 cd_o15 ct_o15 oc_o16 kV_o16 dc_o16 pm_o16 cd_o16 ct_o16 oc_o17 kV_o17 dc_o17 pm_o17 cd_o17 ct_o17 oc_o18 kV_o18 dc_o18 pm_o18 cd_o18 ct_o18 oc_o19 kV_o19 dc_o19 pm_o19 cd_o19 ct_o19 oc_o20 kV_o20 dc_o20 pm_o20 cd_o20 ct_o20 oc_o21 kV_o21 dc_o21 pm_o21 cd_o21 ct_o21 oc_o22 kV_o22 dc_o22 pm_o22 cd_o22 ct_o22 oc_o23 kV_o23 dc_o23 pm_o23 cd_o23 ct_o23 oc_o24 kV_o24 dc_o24 pm_o24 cd_o24 ct_o24 oc_op kV_op dc_op pm_op cd_op ct_op oc_an kV_an dc_an pm_an cd_an ct_an oc_i kV_i dc_i pm_i cd_i ct_i : Value}
    {t_0 t_1 t_2 t_3 t_4 t_5 t_6 t_7 t_8 : Tok} {es : Array DictEntry} {nD : Nat} {oT : Obj} {itsT : Array Value} {nT : Nat}
    (aC : PySem.W.nsIn K mainGlobals "Instance" = some (some (.ref C)))
    (a_i : PySem.W.findIn K (.ref C) "__init__" = some (some (.ref fI)))
    (i_i : PySem.W.isFn K (.ref fI) = true)
    (l_i : K.lookup fI = some ⟨oc_i, od_i, .func (PySem.W.fnOf "__init__" "Instance.__init__" (defArgs sInit) (defBody sInit) (defScope sInit) .none kV_i dc_i pm_i an_i cd_i ct_i), sl_i⟩)
    (c_i : PySem.W.codeIn K cd_i "Instance.__init__" = true)
    (k_i : PySem.W.keepIn K (.ref fI) = true)
    (a_m : PySem.W.nsIn K mainGlobals "moved_between" = some (some (.ref f_m)))
    (l_m : K.lookup f_m = some ⟨oc_m, od_m, .func (PySem.W.fnOf "moved_between" "moved_between" (defArgs sMoved) (defBody sMoved) (defScope sMoved) .none kV_m dc_m pm_m an_m cd_m ct_m), sl_m⟩)
    (c_m : PySem.W.codeIn K cd_m "moved_between" = true)
    (k_m : PySem.W.keepIn K (.ref f_m) = true)
    (a_cs : PySem.W.nsIn K mainGlobals "course_distances" = some (some (.ref f_cs)))
    (l_cs : K.lookup f_cs = some ⟨oc_cs, od_cs, .func (PySem.W.fnOf "course_distances" "course_distances" (defArgs sCds) (defBody sCds) (defScope sCds) .none kV_cs dc_cs pm_cs an_cs cd_cs ct_cs), sl_cs⟩)
    (c_cs : PySem.W.codeIn K cd_cs "course_distances" = true)
    (k_cs : PySem.W.keepIn K (.ref f_cs) = true)
    (a_cd : PySem.W.nsIn K mainGlobals "course_distance" = some (some (.ref f_cd)))
    (l_cd : K.lookup f_cd = some ⟨oc_cd, od_cd, .func (PySem.W.fnOf "course_distance" "course_distance" (defArgs sCourse) (defBody sCourse) (defScope sCourse) .none kV_cd dc_cd pm_cd an_cd cd_cd ct_cd), sl_cd⟩)
    (c_cd : PySem.W.codeIn K cd_cd "course_distance" = true)
    (k_cd : PySem.W.keepIn K (.ref f_cd) = true)
    (a_pr : PySem.W.nsIn K mainGlobals "pair_distances" = some (some (.ref f_pr)))
    (l_pr : K.lookup f_pr = some ⟨oc_pr, od_pr, .func (PySem.W.fnOf "pair_distances" "pair_distances" (defArgs sPair) (defBody sPair) (defScope sPair) .none kV_pr dc_pr pm_pr an_pr cd_pr ct_pr), sl_pr⟩)
    (c_pr : PySem.W.codeIn K cd_pr "pair_distances" = true)
    (k_pr : PySem.W.keepIn K (.ref f_pr) = true)
    (a_l : PySem.W.nsIn K mainGlobals "left_neighbour" = some (some (.ref f_l)))
    (l_l : K.lookup f_l = some ⟨oc_l, od_l, .func (PySem.W.fnOf "left_neighbour" "left_neighbour" (defArgs sLeft) (defBody sLeft) (defScope sLeft) .none kV_l dc_l pm_l an_l cd_l ct_l), sl_l⟩)
    (c_l : PySem.W.codeIn K cd_l "left_neighbour" = true)
    (k_l : PySem.W.keepIn K (.ref f_l) = true)
    (a_r : PySem.W.nsIn K mainGlobals "right_neighbour" = some (some (.ref f_r)))
    (l_r : K.lookup f_r = some ⟨oc_r, od_r, .func (PySem.W.fnOf "right_neighbour" "right_neighbour" (defArgs sRight) (defBody sRight) (defScope sRight) .none kV_r dc_r pm_r an_r cd_r ct_r), sl_r⟩)
    (c_r : PySem.W.codeIn K cd_r "right_neighbour" = true)
    (k_r : PySem.W.keepIn K (.ref f_r) = true)
    (a_cv : PySem.W.nsIn K mainGlobals "covered" = some (some (.ref f_cv)))
    (l_cv : K.lookup f_cv = some ⟨oc_cv, od_cv, .func (PySem.W.fnOf "covered" "covered" (defArgs sCov) (defBody sCov) (defScope sCov) .none kV_cv dc_cv pm_cv an_cv cd_cv ct_cv), sl_cv⟩)
    (c_cv : PySem.W.codeIn K cd_cv "covered" = true)
    (k_cv : PySem.W.keepIn K (.ref f_cv) = true)
    (a_cc : PySem.W.nsIn K mainGlobals "coverage_course" = some (some (.ref f_cc)))
    (l_cc : K.lookup f_cc = some ⟨oc_cc, od_cc, .func (PySem.W.fnOf "coverage_course" "coverage_course" (defArgs sCCourse) (defBody sCCourse) (defScope sCCourse) .none kV_cc dc_cc pm_cc an_cc cd_cc ct_cc), sl_cc⟩)
    (c_cc : PySem.W.codeIn K cd_cc "coverage_course" = true)
    (k_cc : PySem.W.keepIn K (.ref f_cc) = true)
    (a_ne : PySem.W.nsIn K mainGlobals "nearest" = some (some (.ref f_ne)))
    (l_ne : K.lookup f_ne = some ⟨oc_ne, od_ne, .func (PySem.W.fnOf "nearest" "nearest" (defArgs sNear) (defBody sNear) (defScope sNear) .none kV_ne dc_ne pm_ne an_ne cd_ne ct_ne), sl_ne⟩)
    (c_ne : PySem.W.codeIn K cd_ne "nearest" = true)
    (k_ne : PySem.W.keepIn K (.ref f_ne) = true)
    (a_gc : PySem.W.nsIn K mainGlobals "greedy_course" = some (some (.ref f_gc)))
    (l_gc : K.lookup f_gc = some ⟨oc_gc, od_gc, .func (PySem.W.fnOf "greedy_course" "greedy_course" (defArgs sGCourse) (defBody sGCourse) (defScope sGCourse) .none kV_gc dc_gc pm_gc an_gc cd_gc ct_gc), sl_gc⟩)
    (c_gc : PySem.W.codeIn K cd_gc "greedy_course" = true)
    (k_gc : PySem.W.keepIn K (.ref f_gc) = true)
    (a_ex : PySem.W.nsIn K mainGlobals "extended" = some (some (.ref f_ex)))
    (l_ex : K.lookup f_ex = some ⟨oc_ex, od_ex, .func (PySem.W.fnOf "extended" "extended" (defArgs sExt) (defBody sExt) (defScope sExt) .none kV_ex dc_ex pm_ex an_ex cd_ex ct_ex), sl_ex⟩)
    (c_ex : PySem.W.codeIn K cd_ex "extended" = true)
    (k_ex : PySem.W.keepIn K (.ref f_ex) = true)
    (a_be : PySem.W.nsIn K mainGlobals "best_pair" = some (some (.ref f_be)))
    (l_be : K.lookup f_be = some ⟨oc_be, od_be, .func (PySem.W.fnOf "best_pair" "best_pair" (defArgs sBest) (defBody sBest) (defScope sBest) .none kV_be dc_be pm_be an_be cd_be ct_be), sl_be⟩)
    (c_be : PySem.W.codeIn K cd_be "best_pair" = true)
    (k_be : PySem.W.keepIn K (.ref f_be) = true)
    (a_sd : PySem.W.nsIn K mainGlobals "smallest_distance" = some (some (.ref f_sd)))
    (l_sd : K.lookup f_sd = some ⟨oc_sd, od_sd, .func (PySem.W.fnOf "smallest_distance" "smallest_distance" (defArgs sSd) (defBody sSd) (defScope sSd) .none kV_sd dc_sd pm_sd an_sd cd_sd ct_sd), sl_sd⟩)
    (c_sd : PySem.W.codeIn K cd_sd "smallest_distance" = true)
    (k_sd : PySem.W.keepIn K (.ref f_sd) = true)
    (a_sn : PySem.W.nsIn K mainGlobals "smallest_plan" = some (some (.ref f_sn)))
    (l_sn : K.lookup f_sn = some ⟨oc_sn, od_sn, .func (PySem.W.fnOf "smallest_plan" "smallest_plan" (defArgs sSp) (defBody sSp) (defScope sSp) .none kV_sn dc_sn pm_sn an_sn cd_sn ct_sn), sl_sn⟩)
    (c_sn : PySem.W.codeIn K cd_sn "smallest_plan" = true)
    (k_sn : PySem.W.keepIn K (.ref f_sn) = true)
    (a_cu : PySem.W.nsIn K mainGlobals "current" = some (some (.ref f_cu)))
    (l_cu : K.lookup f_cu = some ⟨oc_cu, od_cu, .func (PySem.W.fnOf "current" "current" (defArgs sCur) (defBody sCur) (defScope sCur) .none kV_cu dc_cu pm_cu an_cu cd_cu ct_cu), sl_cu⟩)
    (c_cu : PySem.W.codeIn K cd_cu "current" = true)
    (k_cu : PySem.W.keepIn K (.ref f_cu) = true)
    (a_ct : PySem.W.nsIn K mainGlobals "coverage_total" = some (some (.ref f_ct)))
    (l_ct : K.lookup f_ct = some ⟨oc_ct, od_ct, .func (PySem.W.fnOf "coverage_total" "coverage_total" (defArgs sCT) (defBody sCT) (defScope sCT) .none kV_ct dc_ct pm_ct an_ct cd_ct ct_ct), sl_ct⟩)
    (c_ct : PySem.W.codeIn K cd_ct "coverage_total" = true)
    (k_ct : PySem.W.keepIn K (.ref f_ct) = true)
    (a_gt : PySem.W.nsIn K mainGlobals "greedy_total" = some (some (.ref f_gt)))
    (l_gt : K.lookup f_gt = some ⟨oc_gt, od_gt, .func (PySem.W.fnOf "greedy_total" "greedy_total" (defArgs sGT) (defBody sGT) (defScope sGT) .none kV_gt dc_gt pm_gt an_gt cd_gt ct_gt), sl_gt⟩)
    (c_gt : PySem.W.codeIn K cd_gt "greedy_total" = true)
    (k_gt : PySem.W.keepIn K (.ref f_gt) = true)
    (a_sv : PySem.W.nsIn K mainGlobals "served" = some (some (.ref f_sv)))
    (l_sv : K.lookup f_sv = some ⟨oc_sv, od_sv, .func (PySem.W.fnOf "served" "served" (defArgs sSrv) (defBody sSrv) (defScope sSrv) .none kV_sv dc_sv pm_sv an_sv cd_sv ct_sv), sl_sv⟩)
    (c_sv : PySem.W.codeIn K cd_sv "served" = true)
    (k_sv : PySem.W.keepIn K (.ref f_sv) = true)
    (a_cn : PySem.W.nsIn K mainGlobals "counted" = some (some (.ref f_cn)))
    (l_cn : K.lookup f_cn = some ⟨oc_cn, od_cn, .func (PySem.W.fnOf "counted" "counted" (defArgs sCnt) (defBody sCnt) (defScope sCnt) .none kV_cn dc_cn pm_cn an_cn cd_cn ct_cn), sl_cn⟩)
    (c_cn : PySem.W.codeIn K cd_cn "counted" = true)
    (k_cn : PySem.W.keepIn K (.ref f_cn) = true)
    (a_sr : PySem.W.nsIn K mainGlobals "start_refusal" = some (some (.ref f_sr)))
    (l_sr : K.lookup f_sr = some ⟨oc_sr, od_sr, .func (PySem.W.fnOf "start_refusal" "start_refusal" (defArgs sSR) (defBody sSR) (defScope sSR) .none kV_sr dc_sr pm_sr an_sr cd_sr ct_sr), sl_sr⟩)
    (c_sr : PySem.W.codeIn K cd_sr "start_refusal" = true)
    (k_sr : PySem.W.keepIn K (.ref f_sr) = true)
    (a_tr : PySem.W.nsIn K mainGlobals "target_refusal" = some (some (.ref f_tr)))
    (l_tr : K.lookup f_tr = some ⟨oc_tr, od_tr, .func (PySem.W.fnOf "target_refusal" "target_refusal" (defArgs sTR) (defBody sTR) (defScope sTR) .none kV_tr dc_tr pm_tr an_tr cd_tr ct_tr), sl_tr⟩)
    (c_tr : PySem.W.codeIn K cd_tr "target_refusal" = true)
    (k_tr : PySem.W.keepIn K (.ref f_tr) = true)
    (a_o1 : PySem.W.nsIn K mainGlobals "add_icebreaker" = some (some (.ref f_o1)))
    (l_o1 : K.lookup f_o1 = some ⟨oc_o1, od_o1, .func (PySem.W.fnOf "add_icebreaker" "add_icebreaker" (defArgs (sOp 1)) (defBody (sOp 1)) (defScope (sOp 1)) .none kV_o1 dc_o1 pm_o1 an_o1 cd_o1 ct_o1), sl_o1⟩)
    (c_o1 : PySem.W.codeIn K cd_o1 "add_icebreaker" = true)
    (k_o1 : PySem.W.keepIn K (.ref f_o1) = true)
    (a_o2 : PySem.W.nsIn K mainGlobals "remove_icebreaker" = some (some (.ref f_o2)))
    (l_o2 : K.lookup f_o2 = some ⟨oc_o2, od_o2, .func (PySem.W.fnOf "remove_icebreaker" "remove_icebreaker" (defArgs (sOp 2)) (defBody (sOp 2)) (defScope (sOp 2)) .none kV_o2 dc_o2 pm_o2 an_o2 cd_o2 ct_o2), sl_o2⟩)
    (c_o2 : PySem.W.codeIn K cd_o2 "remove_icebreaker" = true)
    (k_o2 : PySem.W.keepIn K (.ref f_o2) = true)
    (a_o3 : PySem.W.nsIn K mainGlobals "set_start" = some (some (.ref f_o3)))
    (l_o3 : K.lookup f_o3 = some ⟨oc_o3, od_o3, .func (PySem.W.fnOf "set_start" "set_start" (defArgs (sOp 3)) (defBody (sOp 3)) (defScope (sOp 3)) .none kV_o3 dc_o3 pm_o3 an_o3 cd_o3 ct_o3), sl_o3⟩)
    (c_o3 : PySem.W.codeIn K cd_o3 "set_start" = true)
    (k_o3 : PySem.W.keepIn K (.ref f_o3) = true)
    (a_o4 : PySem.W.nsIn K mainGlobals "request" = some (some (.ref f_o4)))
    (l_o4 : K.lookup f_o4 = some ⟨oc_o4, od_o4, .func (PySem.W.fnOf "request" "request" (defArgs (sOp 4)) (defBody (sOp 4)) (defScope (sOp 4)) .none kV_o4 dc_o4 pm_o4 an_o4 cd_o4 ct_o4), sl_o4⟩)
    (c_o4 : PySem.W.codeIn K cd_o4 "request" = true)
    (k_o4 : PySem.W.keepIn K (.ref f_o4) = true)
    (a_o5 : PySem.W.nsIn K mainGlobals "undo_request" = some (some (.ref f_o5)))
    (l_o5 : K.lookup f_o5 = some ⟨oc_o5, od_o5, .func (PySem.W.fnOf "undo_request" "undo_request" (defArgs (sOp 5)) (defBody (sOp 5)) (defScope (sOp 5)) .none kV_o5 dc_o5 pm_o5 an_o5 cd_o5 ct_o5), sl_o5⟩)
    (c_o5 : PySem.W.codeIn K cd_o5 "undo_request" = true)
    (k_o5 : PySem.W.keepIn K (.ref f_o5) = true)
    (a_o6 : PySem.W.nsIn K mainGlobals "clear_requests" = some (some (.ref f_o6)))
    (l_o6 : K.lookup f_o6 = some ⟨oc_o6, od_o6, .func (PySem.W.fnOf "clear_requests" "clear_requests" (defArgs (sOp 6)) (defBody (sOp 6)) (defScope (sOp 6)) .none kV_o6 dc_o6 pm_o6 an_o6 cd_o6 ct_o6), sl_o6⟩)
    (c_o6 : PySem.W.codeIn K cd_o6 "clear_requests" = true)
    (k_o6 : PySem.W.keepIn K (.ref f_o6) = true)
    (a_o7 : PySem.W.nsIn K mainGlobals "list_requests" = some (some (.ref f_o7)))
    (l_o7 : K.lookup f_o7 = some ⟨oc_o7, od_o7, .func (PySem.W.fnOf "list_requests" "list_requests" (defArgs (sOp 7)) (defBody (sOp 7)) (defScope (sOp 7)) .none kV_o7 dc_o7 pm_o7 an_o7 cd_o7 ct_o7), sl_o7⟩)
    (c_o7 : PySem.W.codeIn K cd_o7 "list_requests" = true)
    (k_o7 : PySem.W.keepIn K (.ref f_o7) = true)
    (a_o8 : PySem.W.nsIn K mainGlobals "current_positions" = some (some (.ref f_o8)))
    (l_o8 : K.lookup f_o8 = some ⟨oc_o8, od_o8, .func (PySem.W.fnOf "current_positions" "current_positions" (defArgs (sOp 8)) (defBody (sOp 8)) (defScope (sOp 8)) .none kV_o8 dc_o8 pm_o8 an_o8 cd_o8 ct_o8), sl_o8⟩)
    (c_o8 : PySem.W.codeIn K cd_o8 "current_positions" = true)
    (k_o8 : PySem.W.keepIn K (.ref f_o8) = true)
    (a_o9 : PySem.W.nsIn K mainGlobals "start_positions" = some (some (.ref f_o9)))
    (l_o9 : K.lookup f_o9 = some ⟨oc_o9, od_o9, .func (PySem.W.fnOf "start_positions" "start_positions" (defArgs (sOp 9)) (defBody (sOp 9)) (defScope (sOp 9)) .none kV_o9 dc_o9 pm_o9 an_o9 cd_o9 ct_o9), sl_o9⟩)
    (c_o9 : PySem.W.codeIn K cd_o9 "start_positions" = true)
    (k_o9 : PySem.W.keepIn K (.ref f_o9) = true)
    (a_o10 : PySem.W.nsIn K mainGlobals "total_distance" = some (some (.ref f_o10)))
    (l_o10 : K.lookup f_o10 = some ⟨oc_o10, od_o10, .func (PySem.W.fnOf "total_distance" "total_distance" (defArgs (sOp 10)) (defBody (sOp 10)) (defScope (sOp 10)) .none kV_o10 dc_o10 pm_o10 an_o10 cd_o10 ct_o10), sl_o10⟩)
    (c_o10 : PySem.W.codeIn K cd_o10 "total_distance" = true)
    (k_o10 : PySem.W.keepIn K (.ref f_o10) = true)
    (a_o11 : PySem.W.nsIn K mainGlobals "greedy_distance" = some (some (.ref f_o11)))
    (l_o11 : K.lookup f_o11 = some ⟨oc_o11, od_o11, .func (PySem.W.fnOf "greedy_distance" "greedy_distance" (defArgs (sOp 11)) (defBody (sOp 11)) (defScope (sOp 11)) .none kV_o11 dc_o11 pm_o11 an_o11 cd_o11 ct_o11), sl_o11⟩)
    (c_o11 : PySem.W.codeIn K cd_o11 "greedy_distance" = true)
    (k_o11 : PySem.W.keepIn K (.ref f_o11) = true)
    (a_o12 : PySem.W.nsIn K mainGlobals "greedy_positions" = some (some (.ref f_o12)))
    (l_o12 : K.lookup f_o12 = some ⟨oc_o12, od_o12, .func (PySem.W.fnOf "greedy_positions" "greedy_positions" (defArgs (sOp 12)) (defBody (sOp 12)) (defScope (sOp 12)) .none kV_o12 dc_o12 pm_o12 an_o12 cd_o12 ct_o12), sl_o12⟩)
    (c_o12 : PySem.W.codeIn K cd_o12 "greedy_positions" = true)
    (k_o12 : PySem.W.keepIn K (.ref f_o12) = true)
    (a_o13 : PySem.W.nsIn K mainGlobals "optimal_distance" = some (some (.ref f_o13)))
    (l_o13 : K.lookup f_o13 = some ⟨oc_o13, od_o13, .func (PySem.W.fnOf "optimal_distance" "optimal_distance" (defArgs (sOp 13)) (defBody (sOp 13)) (defScope (sOp 13)) .none kV_o13 dc_o13 pm_o13 an_o13 cd_o13 ct_o13), sl_o13⟩)
    (c_o13 : PySem.W.codeIn K cd_o13 "optimal_distance" = true)
    (k_o13 : PySem.W.keepIn K (.ref f_o13) = true)
    (a_o14 : PySem.W.nsIn K mainGlobals "optimal_plan" = some (some (.ref f_o14)))
    (l_o14 : K.lookup f_o14 = some ⟨oc_o14, od_o14, .func (PySem.W.fnOf "optimal_plan" "optimal_plan" (defArgs (sOp 14)) (defBody (sOp 14)) (defScope (sOp 14)) .none kV_o14 dc_o14 pm_o14 an_o14 cd_o14 ct_o14), sl_o14⟩)
    (c_o14 : PySem.W.codeIn K cd_o14 "optimal_plan" = true)
    (k_o14 : PySem.W.keepIn K (.ref f_o14) = true)
    (a_o15 : PySem.W.nsIn K mainGlobals "competitive_bound" = some (some (.ref f_o15)))
    (l_o15 : K.lookup f_o15 = some ⟨oc_o15, od_o15, .func (PySem.W.fnOf "competitive_bound" "competitive_bound" (defArgs (sOp 15)) (defBody (sOp 15)) (defScope (sOp 15)) .none kV_o15 dc_o15 pm_o15 an_o15 cd_o15 ct_o15), sl_o15⟩)
    (c_o15 : PySem.W.codeIn K cd_o15 "competitive_bound" = true)
    (k_o15 : PySem.W.keepIn K (.ref f_o15) = true)
    (a_o16 : PySem.W.nsIn K mainGlobals "spread" = some (some (.ref f_o16)))
    (l_o16 : K.lookup f_o16 = some ⟨oc_o16, od_o16, .func (PySem.W.fnOf "spread" "spread" (defArgs (sOp 16)) (defBody (sOp 16)) (defScope (sOp 16)) .none kV_o16 dc_o16 pm_o16 an_o16 cd_o16 ct_o16), sl_o16⟩)
    (c_o16 : PySem.W.codeIn K cd_o16 "spread" = true)
    (k_o16 : PySem.W.keepIn K (.ref f_o16) = true)
    (a_o17 : PySem.W.nsIn K mainGlobals "excess" = some (some (.ref f_o17)))
    (l_o17 : K.lookup f_o17 = some ⟨oc_o17, od_o17, .func (PySem.W.fnOf "excess" "excess" (defArgs (sOp 17)) (defBody (sOp 17)) (defScope (sOp 17)) .none kV_o17 dc_o17 pm_o17 an_o17 cd_o17 ct_o17), sl_o17⟩)
    (c_o17 : PySem.W.codeIn K cd_o17 "excess" = true)
    (k_o17 : PySem.W.keepIn K (.ref f_o17) = true)
    (a_o18 : PySem.W.nsIn K mainGlobals "preview_request" = some (some (.ref f_o18)))
    (l_o18 : K.lookup f_o18 = some ⟨oc_o18, od_o18, .func (PySem.W.fnOf "preview_request" "preview_request" (defArgs (sOp 18)) (defBody (sOp 18)) (defScope (sOp 18)) .none kV_o18 dc_o18 pm_o18 an_o18 cd_o18 ct_o18), sl_o18⟩)
    (c_o18 : PySem.W.codeIn K cd_o18 "preview_request" = true)
    (k_o18 : PySem.W.keepIn K (.ref f_o18) = true)
    (a_o19 : PySem.W.nsIn K mainGlobals "optimal_distance_with_request" = some (some (.ref f_o19)))
    (l_o19 : K.lookup f_o19 = some ⟨oc_o19, od_o19, .func (PySem.W.fnOf "optimal_distance_with_request" "optimal_distance_with_request" (defArgs (sOp 19)) (defBody (sOp 19)) (defScope (sOp 19)) .none kV_o19 dc_o19 pm_o19 an_o19 cd_o19 ct_o19), sl_o19⟩)
    (c_o19 : PySem.W.codeIn K cd_o19 "optimal_distance_with_request" = true)
    (k_o19 : PySem.W.keepIn K (.ref f_o19) = true)
    (a_o20 : PySem.W.nsIn K mainGlobals "responders" = some (some (.ref f_o20)))
    (l_o20 : K.lookup f_o20 = some ⟨oc_o20, od_o20, .func (PySem.W.fnOf "responders" "responders" (defArgs (sOp 20)) (defBody (sOp 20)) (defScope (sOp 20)) .none kV_o20 dc_o20 pm_o20 an_o20 cd_o20 ct_o20), sl_o20⟩)
    (c_o20 : PySem.W.codeIn K cd_o20 "responders" = true)
    (k_o20 : PySem.W.keepIn K (.ref f_o20) = true)
    (a_o21 : PySem.W.nsIn K mainGlobals "distances_per_request" = some (some (.ref f_o21)))
    (l_o21 : K.lookup f_o21 = some ⟨oc_o21, od_o21, .func (PySem.W.fnOf "distances_per_request" "distances_per_request" (defArgs (sOp 21)) (defBody (sOp 21)) (defScope (sOp 21)) .none kV_o21 dc_o21 pm_o21 an_o21 cd_o21 ct_o21), sl_o21⟩)
    (c_o21 : PySem.W.codeIn K cd_o21 "distances_per_request" = true)
    (k_o21 : PySem.W.keepIn K (.ref f_o21) = true)
    (a_o22 : PySem.W.nsIn K mainGlobals "saving_without_request" = some (some (.ref f_o22)))
    (l_o22 : K.lookup f_o22 = some ⟨oc_o22, od_o22, .func (PySem.W.fnOf "saving_without_request" "saving_without_request" (defArgs (sOp 22)) (defBody (sOp 22)) (defScope (sOp 22)) .none kV_o22 dc_o22 pm_o22 an_o22 cd_o22 ct_o22), sl_o22⟩)
    (c_o22 : PySem.W.codeIn K cd_o22 "saving_without_request" = true)
    (k_o22 : PySem.W.keepIn K (.ref f_o22) = true)
    (a_o23 : PySem.W.nsIn K mainGlobals "distances_with_icebreaker" = some (some (.ref f_o23)))
    (l_o23 : K.lookup f_o23 = some ⟨oc_o23, od_o23, .func (PySem.W.fnOf "distances_with_icebreaker" "distances_with_icebreaker" (defArgs (sOp 23)) (defBody (sOp 23)) (defScope (sOp 23)) .none kV_o23 dc_o23 pm_o23 an_o23 cd_o23 ct_o23), sl_o23⟩)
    (c_o23 : PySem.W.codeIn K cd_o23 "distances_with_icebreaker" = true)
    (k_o23 : PySem.W.keepIn K (.ref f_o23) = true)
    (a_o24 : PySem.W.nsIn K mainGlobals "summary" = some (some (.ref f_o24)))
    (l_o24 : K.lookup f_o24 = some ⟨oc_o24, od_o24, .func (PySem.W.fnOf "summary" "summary" (defArgs (sOp 24)) (defBody (sOp 24)) (defScope (sOp 24)) .none kV_o24 dc_o24 pm_o24 an_o24 cd_o24 ct_o24), sl_o24⟩)
    (c_o24 : PySem.W.codeIn K cd_o24 "summary" = true)
    (k_o24 : PySem.W.keepIn K (.ref f_o24) = true)
    (a_op : PySem.W.nsIn K mainGlobals "operate" = some (some (.ref f_op)))
    (l_op : K.lookup f_op = some ⟨oc_op, od_op, .func (PySem.W.fnOf "operate" "operate" (defArgs sOpr) (defBody sOpr) (defScope sOpr) .none kV_op dc_op pm_op an_op cd_op ct_op), sl_op⟩)
    (c_op : PySem.W.codeIn K cd_op "operate" = true)
    (k_op : PySem.W.keepIn K (.ref f_op) = true)
    (a_an : PySem.W.nsIn K mainGlobals "answers" = some (some (.ref f_an)))
    (l_an : K.lookup f_an = some ⟨oc_an, od_an, .func (PySem.W.fnOf "answers" "answers" (defArgs sAns) (defBody sAns) (defScope sAns) .none kV_an dc_an pm_an an_an cd_an ct_an), sl_an⟩)
    (c_an : PySem.W.codeIn K cd_an "answers" = true)
    (k_an : PySem.W.keepIn K (.ref f_an) = true)
    (n_0 : PySem.W.nsIn K mainGlobals "LAST_POSITION" = some (some (.int (99) t_0)))
    (n_1 : PySem.W.nsIn K mainGlobals "MOST_ICEBREAKERS" = some (some (.int (3) t_1)))
    (n_2 : PySem.W.nsIn K mainGlobals "MOST_REQUESTS" = some (some (.int (8) t_2)))
    (n_3 : PySem.W.nsIn K mainGlobals "NOT_THERE" = some (some (.int (-2) t_3)))
    (n_4 : PySem.W.nsIn K mainGlobals "NONE_YET" = some (some (.int (-6) t_4)))
    (n_5 : PySem.W.nsIn K mainGlobals "OFF_THE_COAST" = some (some (.int (-22) t_5)))
    (n_6 : PySem.W.nsIn K mainGlobals "FULL" = some (some (.int (-28) t_6)))
    (n_7 : PySem.W.nsIn K mainGlobals "CREATE" = some (some (.int (0) t_7)))
    (n_8 : PySem.W.nsIn K mainGlobals "NO_INSTANCE" = some (some (.int (-11) t_8)))
    (z_sum : PySem.W.nsIn K mainGlobals "sum" = some none)
    (z_abs : PySem.W.nsIn K mainGlobals "abs" = some none)
    (z_zip : PySem.W.nsIn K mainGlobals "zip" = some none)
    (z_len : PySem.W.nsIn K mainGlobals "len" = some none)
    (z_range : PySem.W.nsIn K mainGlobals "range" = some none)
    (z_enumerate : PySem.W.nsIn K mainGlobals "enumerate" = some none)
    (z_list : PySem.W.nsIn K mainGlobals "list" = some none)
    (z_min : PySem.W.nsIn K mainGlobals "min" = some none)
    (z_tuple : PySem.W.nsIn K mainGlobals "tuple" = some none)
    (aD : PySem.W.nsIn K mainGlobals "OPERATIONS" = some (some (.ref D)))
    (lD : K.lookup D = some ⟨.type "dict", none, .dict es nD, #[]⟩)
    (kD : KeysInt es.toList)
    (d_1 : findBy Value.isInt es 1 = some (.ref f_o1))
    (d_2 : findBy Value.isInt es 2 = some (.ref f_o2))
    (d_3 : findBy Value.isInt es 3 = some (.ref f_o3))
    (d_4 : findBy Value.isInt es 4 = some (.ref f_o4))
    (d_5 : findBy Value.isInt es 5 = some (.ref f_o5))
    (d_6 : findBy Value.isInt es 6 = some (.ref f_o6))
    (d_7 : findBy Value.isInt es 7 = some (.ref f_o7))
    (d_8 : findBy Value.isInt es 8 = some (.ref f_o8))
    (d_9 : findBy Value.isInt es 9 = some (.ref f_o9))
    (d_10 : findBy Value.isInt es 10 = some (.ref f_o10))
    (d_11 : findBy Value.isInt es 11 = some (.ref f_o11))
    (d_12 : findBy Value.isInt es 12 = some (.ref f_o12))
    (d_13 : findBy Value.isInt es 13 = some (.ref f_o13))
    (d_14 : findBy Value.isInt es 14 = some (.ref f_o14))
    (d_15 : findBy Value.isInt es 15 = some (.ref f_o15))
    (d_16 : findBy Value.isInt es 16 = some (.ref f_o16))
    (d_17 : findBy Value.isInt es 17 = some (.ref f_o17))
    (d_18 : findBy Value.isInt es 18 = some (.ref f_o18))
    (d_19 : findBy Value.isInt es 19 = some (.ref f_o19))
    (d_20 : findBy Value.isInt es 20 = some (.ref f_o20))
    (d_21 : findBy Value.isInt es 21 = some (.ref f_o21))
    (d_22 : findBy Value.isInt es 22 = some (.ref f_o22))
    (d_23 : findBy Value.isInt es 23 = some (.ref f_o23))
    (d_24 : findBy Value.isInt es 24 = some (.ref f_o24))
    (aP : PySem.W.nsIn K mainGlobals "PARAMETER_COUNTS" = some (some (.ref pc)))
    (lP : K.lookup pc = some oT)
    (cP : oT.cls = .type "tuple")
    (dP : oT.data = .seq itsT nT)
    (sP : itsT.size ≤ sizeLine)
    (vP : Vals (nV counts) itsT.toList)
    (pg : PySem.W.plainGet K C Str.empty = true)
    (hd : PySem.W.hasDictIn K C = true)
    (po : PySem.W.plainOver K C = true)
    (sa : PySem.W.findIn K (.ref C) "__setattr__" = some (some (.builtin "object.__setattr__")))
    (mk : PySem.W.makesIn K C = true)
    (kc : PySem.W.keepIn K (.ref C) = true)
    (nS : PySem.W.findIn K (.ref C) "starts" = some none)
    (nT2 : PySem.W.findIn K (.ref C) "targets" = some none) :
    ∃ fd : FuncData, (∀ (s : Shared) (us : List Value), us.length = (["calls"] : List Str).length → BindsTo s fd ⟨us, []⟩ ((["calls"] : List Str).zip us)) ∧ ∀ base : Heap, K.In base → base.Ns mainGlobals mg → FnOk P w K mg base CX0 8 fa fd ["calls"] (spAns K) := by
  have e := hfa.symm.trans (PySem.W.mg_of X G a_an)
  cases e
  have T : Txt K mg C := ⟨⟨pg, hd, po, sa⟩, nS, nT2⟩
  have F_i := fun_mk (st := sInit) l_i c_i k_i
  have b_i := F_i.binds (ps := ["self"]) fun _ _ _ _ _ _ us hl => match us, hl with | [_], _ => rfl
  have F_m := fun_mk (st := sMoved) l_m c_m k_m
  have b_m := F_m.binds (ps := ["before", "after"]) fun _ _ _ _ _ _ us hl => match us, hl with | [_, _], _ => rfl
  have g_m := PySem.W.mg_of X G a_m
  have F_cs := fun_mk (st := sCds) l_cs c_cs k_cs
  have b_cs := F_cs.binds (ps := ["course"]) fun _ _ _ _ _ _ us hl => match us, hl with | [_], _ => rfl
  have g_cs := PySem.W.mg_of X G a_cs
  have F_cd := fun_mk (st := sCourse) l_cd c_cd k_cd
  have b_cd := F_cd.binds (ps := ["course"]) fun _ _ _ _ _ _ us hl => match us, hl with | [_], _ => rfl
  have g_cd := PySem.W.mg_of X G a_cd
  have F_pr := fun_mk (st := sPair) l_pr c_pr k_pr
  have b_pr := F_pr.binds (ps := ["positions"]) fun _ _ _ _ _ _ us hl => match us, hl with | [_], _ => rfl
  have g_pr := PySem.W.mg_of X G a_pr
  have F_l := fun_mk (st := sLeft) l_l c_l k_l
  have b_l := F_l.binds (ps := ["positions", "target"]) fun _ _ _ _ _ _ us hl => match us, hl with | [_, _], _ => rfl
  have g_l := PySem.W.mg_of X G a_l
  have F_r := fun_mk (st := sRight) l_r c_r k_r
  have b_r := F_r.binds (ps := ["positions", "target"]) fun _ _ _ _ _ _ us hl => match us, hl with | [_, _], _ => rfl
  have g_r := PySem.W.mg_of X G a_r
  have F_cv := fun_mk (st := sCov) l_cv c_cv k_cv
  have b_cv := F_cv.binds (ps := ["positions", "target"]) fun _ _ _ _ _ _ us hl => match us, hl with | [_, _], _ => rfl
  have g_cv := PySem.W.mg_of X G a_cv
  have F_cc := fun_mk (st := sCCourse) l_cc c_cc k_cc
  have b_cc := F_cc.binds (ps := ["starts", "targets"]) fun _ _ _ _ _ _ us hl => match us, hl with | [_, _], _ => rfl
  have g_cc := PySem.W.mg_of X G a_cc
  have F_ne := fun_mk (st := sNear) l_ne c_ne k_ne
  have b_ne := F_ne.binds (ps := ["positions", "target"]) fun _ _ _ _ _ _ us hl => match us, hl with | [_, _], _ => rfl
  have g_ne := PySem.W.mg_of X G a_ne
  have F_gc := fun_mk (st := sGCourse) l_gc c_gc k_gc
  have b_gc := F_gc.binds (ps := ["starts", "targets"]) fun _ _ _ _ _ _ us hl => match us, hl with | [_, _], _ => rfl
  have g_gc := PySem.W.mg_of X G a_gc
  have F_ex := fun_mk (st := sExt) l_ex c_ex k_ex
  have b_ex := F_ex.binds (ps := ["best", "target"]) fun _ _ _ _ _ _ us hl => match us, hl with | [_, _], _ => rfl
  have g_ex := PySem.W.mg_of X G a_ex
  have F_be := fun_mk (st := sBest) l_be c_be k_be
  have b_be := F_be.binds (ps := ["starts", "targets"]) fun _ _ _ _ _ _ us hl => match us, hl with | [_, _], _ => rfl
  have g_be := PySem.W.mg_of X G a_be
  have F_sd := fun_mk (st := sSd) l_sd c_sd k_sd
  have b_sd := F_sd.binds (ps := ["starts", "targets"]) fun _ _ _ _ _ _ us hl => match us, hl with | [_, _], _ => rfl
  have g_sd := PySem.W.mg_of X G a_sd
  have F_sn := fun_mk (st := sSp) l_sn c_sn k_sn
  have b_sn := F_sn.binds (ps := ["starts", "targets"]) fun _ _ _ _ _ _ us hl => match us, hl with | [_, _], _ => rfl
  have g_sn := PySem.W.mg_of X G a_sn
  have F_cu := fun_mk (st := sCur) l_cu c_cu k_cu
  have b_cu := F_cu.binds (ps := ["instance"]) fun _ _ _ _ _ _ us hl => match us, hl with | [_], _ => rfl
  have g_cu := PySem.W.mg_of X G a_cu
  have F_ct := fun_mk (st := sCT) l_ct c_ct k_ct
  have b_ct := F_ct.binds (ps := ["starts", "targets"]) fun _ _ _ _ _ _ us hl => match us, hl with | [_, _], _ => rfl
  have g_ct := PySem.W.mg_of X G a_ct
  have F_gt := fun_mk (st := sGT) l_gt c_gt k_gt
  have b_gt := F_gt.binds (ps := ["starts", "targets"]) fun _ _ _ _ _ _ us hl => match us, hl with | [_, _], _ => rfl
  have g_gt := PySem.W.mg_of X G a_gt
  have F_sv := fun_mk (st := sSrv) l_sv c_sv k_sv
  have b_sv := F_sv.binds (ps := ["instance", "target"]) fun _ _ _ _ _ _ us hl => match us, hl with | [_, _], _ => rfl
  have g_sv := PySem.W.mg_of X G a_sv
  have F_cn := fun_mk (st := sCnt) l_cn c_cn k_cn
  have b_cn := F_cn.binds (ps := ["numbers"]) fun _ _ _ _ _ _ us hl => match us, hl with | [_], _ => rfl
  have g_cn := PySem.W.mg_of X G a_cn
  have F_sr := fun_mk (st := sSR) l_sr c_sr k_sr
  have b_sr := F_sr.binds (ps := ["instance", "position"]) fun _ _ _ _ _ _ us hl => match us, hl with | [_, _], _ => rfl
  have g_sr := PySem.W.mg_of X G a_sr
  have F_tr := fun_mk (st := sTR) l_tr c_tr k_tr
  have b_tr := F_tr.binds (ps := ["instance", "target"]) fun _ _ _ _ _ _ us hl => match us, hl with | [_, _], _ => rfl
  have g_tr := PySem.W.mg_of X G a_tr
  have F_o1 := fun_mk (st := (sOp 1)) l_o1 c_o1 k_o1
  have b_o1 := F_o1.binds (ps := ["instance", "given"]) fun _ _ _ _ _ _ us hl => match us, hl with | [_, _], _ => rfl
  have g_o1 := PySem.W.mg_of X G a_o1
  have F_o2 := fun_mk (st := (sOp 2)) l_o2 c_o2 k_o2
  have b_o2 := F_o2.binds (ps := ["instance", "given"]) fun _ _ _ _ _ _ us hl => match us, hl with | [_, _], _ => rfl
  have g_o2 := PySem.W.mg_of X G a_o2
  have F_o3 := fun_mk (st := (sOp 3)) l_o3 c_o3 k_o3
  have b_o3 := F_o3.binds (ps := ["instance", "given"]) fun _ _ _ _ _ _ us hl => match us, hl with | [_, _], _ => rfl
  have g_o3 := PySem.W.mg_of X G a_o3
  have F_o4 := fun_mk (st := (sOp 4)) l_o4 c_o4 k_o4
  have b_o4 := F_o4.binds (ps := ["instance", "given"]) fun _ _ _ _ _ _ us hl => match us, hl with | [_, _], _ => rfl
  have g_o4 := PySem.W.mg_of X G a_o4
  have F_o5 := fun_mk (st := (sOp 5)) l_o5 c_o5 k_o5
  have b_o5 := F_o5.binds (ps := ["instance", "given"]) fun _ _ _ _ _ _ us hl => match us, hl with | [_, _], _ => rfl
  have g_o5 := PySem.W.mg_of X G a_o5
  have F_o6 := fun_mk (st := (sOp 6)) l_o6 c_o6 k_o6
  have b_o6 := F_o6.binds (ps := ["instance", "given"]) fun _ _ _ _ _ _ us hl => match us, hl with | [_, _], _ => rfl
  have g_o6 := PySem.W.mg_of X G a_o6
  have F_o7 := fun_mk (st := (sOp 7)) l_o7 c_o7 k_o7
  have b_o7 := F_o7.binds (ps := ["instance", "given"]) fun _ _ _ _ _ _ us hl => match us, hl with | [_, _], _ => rfl
  have g_o7 := PySem.W.mg_of X G a_o7
  have F_o8 := fun_mk (st := (sOp 8)) l_o8 c_o8 k_o8
  have b_o8 := F_o8.binds (ps := ["instance", "given"]) fun _ _ _ _ _ _ us hl => match us, hl with | [_, _], _ => rfl
  have g_o8 := PySem.W.mg_of X G a_o8
  have F_o9 := fun_mk (st := (sOp 9)) l_o9 c_o9 k_o9
  have b_o9 := F_o9.binds (ps := ["instance", "given"]) fun _ _ _ _ _ _ us hl => match us, hl with | [_, _], _ => rfl
  have g_o9 := PySem.W.mg_of X G a_o9
  have F_o10 := fun_mk (st := (sOp 10)) l_o10 c_o10 k_o10
  have b_o10 := F_o10.binds (ps := ["instance", "given"]) fun _ _ _ _ _ _ us hl => match us, hl with | [_, _], _ => rfl
  have g_o10 := PySem.W.mg_of X G a_o10
  have F_o11 := fun_mk (st := (sOp 11)) l_o11 c_o11 k_o11
  have b_o11 := F_o11.binds (ps := ["instance", "given"]) fun _ _ _ _ _ _ us hl => match us, hl with | [_, _], _ => rfl
  have g_o11 := PySem.W.mg_of X G a_o11
  have F_o12 := fun_mk (st := (sOp 12)) l_o12 c_o12 k_o12
  have b_o12 := F_o12.binds (ps := ["instance", "given"]) fun _ _ _ _ _ _ us hl => match us, hl with | [_, _], _ => rfl
  have g_o12 := PySem.W.mg_of X G a_o12
  have F_o13 := fun_mk (st := (sOp 13)) l_o13 c_o13 k_o13
  have b_o13 := F_o13.binds (ps := ["instance", "given"]) fun _ _ _ _ _ _ us hl => match us, hl with | [_, _], _ => rfl
  have g_o13 := PySem.W.mg_of X G a_o13
  have F_o14 := fun_mk (st := (sOp 14)) l_o14 c_o14 k_o14
  have b_o14 := F_o14.binds (ps := ["instance", "given"]) fun _ _ _ _ _ _ us hl => match us, hl with | [_, _], _ => rfl
  have g_o14 := PySem.W.mg_of X G a_o14
  have F_o15 := fun_mk (st := (sOp 15)) l_o15 c_o15 k_o15
  have b_o15 := F_o15.binds (ps := ["instance", "given"]) fun _ _ _ _ _ _ us hl => match us, hl with | [_, _], _ => rfl
  have g_o15 := PySem.W.mg_of X G a_o15
  have F_o16 := fun_mk (st := (sOp 16)) l_o16 c_o16 k_o16
  have b_o16 := F_o16.binds (ps := ["instance", "given"]) fun _ _ _ _ _ _ us hl => match us, hl with | [_, _], _ => rfl
  have g_o16 := PySem.W.mg_of X G a_o16
  have F_o17 := fun_mk (st := (sOp 17)) l_o17 c_o17 k_o17
  have b_o17 := F_o17.binds (ps := ["instance", "given"]) fun _ _ _ _ _ _ us hl => match us, hl with | [_, _], _ => rfl
  have g_o17 := PySem.W.mg_of X G a_o17
  have F_o18 := fun_mk (st := (sOp 18)) l_o18 c_o18 k_o18
  have b_o18 := F_o18.binds (ps := ["instance", "given"]) fun _ _ _ _ _ _ us hl => match us, hl with | [_, _], _ => rfl
  have g_o18 := PySem.W.mg_of X G a_o18
  have F_o19 := fun_mk (st := (sOp 19)) l_o19 c_o19 k_o19
  have b_o19 := F_o19.binds (ps := ["instance", "given"]) fun _ _ _ _ _ _ us hl => match us, hl with | [_, _], _ => rfl
  have g_o19 := PySem.W.mg_of X G a_o19
  have F_o20 := fun_mk (st := (sOp 20)) l_o20 c_o20 k_o20
  have b_o20 := F_o20.binds (ps := ["instance", "given"]) fun _ _ _ _ _ _ us hl => match us, hl with | [_, _], _ => rfl
  have g_o20 := PySem.W.mg_of X G a_o20
  have F_o21 := fun_mk (st := (sOp 21)) l_o21 c_o21 k_o21
  have b_o21 := F_o21.binds (ps := ["instance", "given"]) fun _ _ _ _ _ _ us hl => match us, hl with | [_, _], _ => rfl
  have g_o21 := PySem.W.mg_of X G a_o21
  have F_o22 := fun_mk (st := (sOp 22)) l_o22 c_o22 k_o22
  have b_o22 := F_o22.binds (ps := ["instance", "given"]) fun _ _ _ _ _ _ us hl => match us, hl with | [_, _], _ => rfl
  have g_o22 := PySem.W.mg_of X G a_o22
  have F_o23 := fun_mk (st := (sOp 23)) l_o23 c_o23 k_o23
  have b_o23 := F_o23.binds (ps := ["instance", "given"]) fun _ _ _ _ _ _ us hl => match us, hl with | [_, _], _ => rfl
  have g_o23 := PySem.W.mg_of X G a_o23
  have F_o24 := fun_mk (st := (sOp 24)) l_o24 c_o24 k_o24
  have b_o24 := F_o24.binds (ps := ["instance", "given"]) fun _ _ _ _ _ _ us hl => match us, hl with | [_, _], _ => rfl
  have g_o24 := PySem.W.mg_of X G a_o24
  have F_op := fun_mk (st := sOpr) l_op c_op k_op
  have b_op := F_op.binds (ps := ["instance", "call", "given"]) fun _ _ _ _ _ _ us hl => match us, hl with | [_, _, _], _ => rfl
  have g_op := PySem.W.mg_of X G a_op
  have F_an := fun_mk (st := sAns) l_an c_an k_an
  have g_an := PySem.W.mg_of X G a_an
  have N_LAST_POSITION : NumAt mg "LAST_POSITION" (99) := ⟨t_0, PySem.W.mg_of X G n_0⟩
  have N_MOST_ICEBREAKERS : NumAt mg "MOST_ICEBREAKERS" (3) := ⟨t_1, PySem.W.mg_of X G n_1⟩
  have N_MOST_REQUESTS : NumAt mg "MOST_REQUESTS" (8) := ⟨t_2, PySem.W.mg_of X G n_2⟩
  have N_NOT_THERE : NumAt mg "NOT_THERE" (-2) := ⟨t_3, PySem.W.mg_of X G n_3⟩
  have N_NONE_YET : NumAt mg "NONE_YET" (-6) := ⟨t_4, PySem.W.mg_of X G n_4⟩
  have N_OFF_THE_COAST : NumAt mg "OFF_THE_COAST" (-22) := ⟨t_5, PySem.W.mg_of X G n_5⟩
  have N_FULL : NumAt mg "FULL" (-28) := ⟨t_6, PySem.W.mg_of X G n_6⟩
  have N_CREATE : NumAt mg "CREATE" (0) := ⟨t_7, PySem.W.mg_of X G n_7⟩
  have N_NO_INSTANCE : NumAt mg "NO_INSTANCE" (-11) := ⟨t_8, PySem.W.mg_of X G n_8⟩
  have m_sum := PySem.W.mg_none_of X G z_sum
  have m_abs := PySem.W.mg_none_of X G z_abs
  have m_zip := PySem.W.mg_none_of X G z_zip
  have m_len := PySem.W.mg_none_of X G z_len
  have m_range := PySem.W.mg_none_of X G z_range
  have m_enumerate := PySem.W.mg_none_of X G z_enumerate
  have m_list := PySem.W.mg_none_of X G z_list
  have m_min := PySem.W.mg_none_of X G z_min
  have m_tuple := PySem.W.mg_none_of X G z_tuple
  refine ⟨PySem.W.fnOf "answers" "answers" (defArgs sAns) (defBody sAns) (defScope sAns) .none kV_an dc_an pm_an an_an cd_an ct_an, fun s us hu => match us, hu with | [_], _ => .of_eq rfl, fun base _ _ => ?_⟩
  have Mv := fun k => ok_moved (P := P) (w := w) (base := base) (k := k) F_m m_sum m_abs m_zip
  have Cs := fun k => ok_cds (k := k + 1) F_cs m_len m_range (Mv k) b_m k_m g_m
  have Cd := fun k => ok_course (k := k + 2) F_cd m_sum (Cs k) b_cs k_cs g_cs
  have Pr := fun k => ok_pair (P := P) (w := w) (base := base) (k := k) F_pr m_enumerate m_abs
  have Le := fun k => ok_left (P := P) (w := w) (base := base) (k := k) F_l m_enumerate
  have Ri := fun k => ok_right (P := P) (w := w) (base := base) (k := k) F_r m_enumerate
  have Cv := fun k => ok_cov (k := k + 1) F_cv m_list m_min (Le k) b_l k_l g_l (Ri k) b_r k_r g_r
  have Cc := fun k => ok_ccourse (k := k + 2) F_cc m_list (Cv k) b_cv k_cv g_cv
  have Ne := fun k => ok_near (P := P) (w := w) (base := base) (k := k) F_ne m_enumerate m_abs
  have Gc := fun k => ok_gcourse (k := k + 1) F_gc m_list (Ne k) b_ne k_ne g_ne
  have Ex := fun k => ok_ext (P := P) (w := w) (base := base) (k := k) F_ex m_enumerate m_abs
  have Be := fun k => ok_best (k := k + 1) F_be m_tuple m_min (Ex k) b_ex k_ex g_ex
  have Sd := fun k => ok_sd (k := k + 2) F_sd (Be k) b_be k_be g_be
  have Sn := fun k => ok_sp (k := k + 2) F_sn m_list (Be k) b_be k_be g_be
  have Cu := fun k => ok_cur (k := k + 3) T F_cu (Cc k) b_cc k_cc g_cc
  have Ct := fun k => ok_ct (k := k + 3) F_ct (Cc k) b_cc k_cc g_cc (Cd k) b_cd k_cd g_cd
  have Gt := fun k => ok_gt (k := k + 3) F_gt (Gc (k + 1)) b_gc k_gc g_gc (Cd k) b_cd k_cd g_cd
  have Sv := fun k => ok_srv (k := k + 4) F_sv (Cu k) b_cu k_cu g_cu (Cv (k + 2)) b_cv k_cv g_cv (Mv (k + 3)) b_m k_m g_m
  have Cn := fun k => ok_cnt (P := P) (w := w) (base := base) (k := k) F_cn m_len
  have Sr := fun k => ok_sr (P := P) (w := w) (base := base) (k := k) T F_sr m_len N_LAST_POSITION N_OFF_THE_COAST N_MOST_ICEBREAKERS N_FULL
  have Tr := fun k => ok_tr (P := P) (w := w) (base := base) (k := k) T F_tr m_len N_LAST_POSITION N_OFF_THE_COAST N_NONE_YET
  have In := fun k => ok_init (P := P) (w := w) (base := base) (k := k) T F_i
  have O : OpsAt P w K mg base C 6 D := by
    intro c h1 h2
    have all : c = 1 ∨ c = 2 ∨ c = 3 ∨ c = 4 ∨ c = 5 ∨ c = 6 ∨ c = 7 ∨ c = 8 ∨ c = 9 ∨ c = 10 ∨ c = 11 ∨ c = 12 ∨ c = 13 ∨ c = 14 ∨ c = 15 ∨ c = 16 ∨ c = 17 ∨ c = 18 ∨ c = 19 ∨ c = 20 ∨ c = 21 ∨ c = 22 ∨ c = 23 ∨ c = 24 := by unfold lastCall at h2; omega
    rcases all with rfl | rfl | rfl | rfl | rfl | rfl | rfl | rfl | rfl | rfl | rfl | rfl | rfl | rfl | rfl | rfl | rfl | rfl | rfl | rfl | rfl | rfl | rfl | rfl
    · exact ⟨f_o1, ⟨es, nD, _, lD, kD, d_1, rfl⟩, ⟨_, _, ok_add (k := 5) T F_o1 m_len (Sr 4) b_sr k_sr g_sr, k_o1, b_o1⟩⟩
    · exact ⟨f_o2, ⟨es, nD, _, lD, kD, d_2, rfl⟩, ⟨_, _, ok_rem (k := 5) T F_o2 m_len N_NOT_THERE, k_o2, b_o2⟩⟩
    · exact ⟨f_o3, ⟨es, nD, _, lD, kD, d_3, rfl⟩, ⟨_, _, ok_set (k := 5) T F_o3 m_len N_NOT_THERE N_LAST_POSITION N_OFF_THE_COAST, k_o3, b_o3⟩⟩
    · exact ⟨f_o4, ⟨es, nD, _, lD, kD, d_4, rfl⟩, ⟨_, _, ok_req (k := 5) T F_o4 m_len N_MOST_REQUESTS N_FULL (Tr 4) b_tr k_tr g_tr (Sv 0) b_sv k_sv g_sv, k_o4, b_o4⟩⟩
    · exact ⟨f_o5, ⟨es, nD, _, lD, kD, d_5, rfl⟩, ⟨_, _, ok_undo (k := 5) T F_o5 m_len N_NONE_YET, k_o5, b_o5⟩⟩
    · exact ⟨f_o6, ⟨es, nD, _, lD, kD, d_6, rfl⟩, ⟨_, _, ok_clear (k := 5) T F_o6 m_len, k_o6, b_o6⟩⟩
    · exact ⟨f_o7, ⟨es, nD, _, lD, kD, d_7, rfl⟩, ⟨_, _, ok_list (k := 5) T F_o7 (Cn 4) b_cn k_cn g_cn, k_o7, b_o7⟩⟩
    · exact ⟨f_o8, ⟨es, nD, _, lD, kD, d_8, rfl⟩, ⟨_, _, ok_curp (k := 5) T F_o8 (Cn 4) b_cn k_cn g_cn (Cu 1) b_cu k_cu g_cu, k_o8, b_o8⟩⟩
    · exact ⟨f_o9, ⟨es, nD, _, lD, kD, d_9, rfl⟩, ⟨_, _, ok_start (k := 5) T F_o9 (Cn 4) b_cn k_cn g_cn, k_o9, b_o9⟩⟩
    · exact ⟨f_o10, ⟨es, nD, _, lD, kD, d_10, rfl⟩, ⟨_, _, ok_tot (k := 5) T F_o10 (Ct 1) b_ct k_ct g_ct, k_o10, b_o10⟩⟩
    · exact ⟨f_o11, ⟨es, nD, _, lD, kD, d_11, rfl⟩, ⟨_, _, ok_gd (k := 5) T F_o11 m_len N_NONE_YET (Gt 1) b_gt k_gt g_gt, k_o11, b_o11⟩⟩
    · exact ⟨f_o12, ⟨es, nD, _, lD, kD, d_12, rfl⟩, ⟨_, _, ok_gp (k := 5) T F_o12 m_len N_NONE_YET (Gc 3) b_gc k_gc g_gc (Cn 4) b_cn k_cn g_cn, k_o12, b_o12⟩⟩
    · exact ⟨f_o13, ⟨es, nD, _, lD, kD, d_13, rfl⟩, ⟨_, _, ok_opt (k := 5) T F_o13 m_len N_NONE_YET (Sd 2) b_sd k_sd g_sd, k_o13, b_o13⟩⟩
    · exact ⟨f_o14, ⟨es, nD, _, lD, kD, d_14, rfl⟩, ⟨_, _, ok_plan (k := 5) T F_o14 m_len N_NONE_YET (Sn 2) b_sn k_sn g_sn (Cn 4) b_cn k_cn g_cn, k_o14, b_o14⟩⟩
    · exact ⟨f_o15, ⟨es, nD, _, lD, kD, d_15, rfl⟩, ⟨_, _, ok_bound (k := 5) T F_o15 m_len N_NONE_YET (Sd 2) b_sd k_sd g_sd (Pr 4) b_pr k_pr g_pr, k_o15, b_o15⟩⟩
    · exact ⟨f_o16, ⟨es, nD, _, lD, kD, d_16, rfl⟩, ⟨_, _, ok_spread (k := 5) T F_o16 (Cu 1) b_cu k_cu g_cu (Pr 4) b_pr k_pr g_pr, k_o16, b_o16⟩⟩
    · exact ⟨f_o17, ⟨es, nD, _, lD, kD, d_17, rfl⟩, ⟨_, _, ok_excess (k := 5) T F_o17 m_len N_NONE_YET (Sd 2) b_sd k_sd g_sd (Ct 1) b_ct k_ct g_ct (Gt 1) b_gt k_gt g_gt, k_o17, b_o17⟩⟩
    · exact ⟨f_o18, ⟨es, nD, _, lD, kD, d_18, rfl⟩, ⟨_, _, ok_prev (k := 5) T F_o18 (Tr 4) b_tr k_tr g_tr (Sv 0) b_sv k_sv g_sv, k_o18, b_o18⟩⟩
    · exact ⟨f_o19, ⟨es, nD, _, lD, kD, d_19, rfl⟩, ⟨_, _, ok_optw (k := 5) T F_o19 (Tr 4) b_tr k_tr g_tr (Sd 2) b_sd k_sd g_sd, k_o19, b_o19⟩⟩
    · exact ⟨f_o20, ⟨es, nD, _, lD, kD, d_20, rfl⟩, ⟨_, _, ok_resp (k := 5) T F_o20 m_len m_range (Tr 4) b_tr k_tr g_tr (Cu 1) b_cu k_cu g_cu (Cv 3) b_cv k_cv g_cv (Cn 4) b_cn k_cn g_cn, k_o20, b_o20⟩⟩
    · exact ⟨f_o21, ⟨es, nD, _, lD, kD, d_21, rfl⟩, ⟨_, _, ok_dpr (k := 5) T F_o21 (Cc 2) b_cc k_cc g_cc (Cs 3) b_cs k_cs g_cs (Cn 4) b_cn k_cn g_cn, k_o21, b_o21⟩⟩
    · exact ⟨f_o22, ⟨es, nD, _, lD, kD, d_22, rfl⟩, ⟨_, _, ok_sav (k := 5) T F_o22 m_len N_NOT_THERE (Sd 2) b_sd k_sd g_sd, k_o22, b_o22⟩⟩
    · exact ⟨f_o23, ⟨es, nD, _, lD, kD, d_23, rfl⟩, ⟨_, _, ok_dwi (k := 5) T F_o23 (Sr 4) b_sr k_sr g_sr (Sd 2) b_sd k_sd g_sd (Ct 1) b_ct k_ct g_ct, k_o23, b_o23⟩⟩
    · exact ⟨f_o24, ⟨es, nD, _, lD, kD, d_24, rfl⟩, ⟨_, _, ok_sum (k := 5) T F_o24 m_len (Ct 1) b_ct k_ct g_ct, k_o24, b_o24⟩⟩
  have Op := ok_opr F_op (PySem.W.mg_of X G aD) O
  exact ok_ans (k := 6) (fun _ h => h) F_an m_len N_CREATE N_NO_INSTANCE (PySem.W.mg_of X G aP) ⟨oT, itsT, nT, lP, cP, dP, sP, vP⟩ ⟨mk, a_i, i_i, kc⟩ (In 5) b_i (PySem.W.mg_of X G aC) Op b_op k_op g_op
end Ice
open PySem PySem.W PyProof.Rows
set_option maxRecDepth 100000 in
set_option maxHeartbeats 8000000 in
theorem PySem.Challenge.cw_iceline_s01_answers_holds : PySem.Challenge.rw_iceline_s01_answers.Holds := by
  w_on; k_headS; (case hw => exact ⟨[.list [.int 0]], by decide +kernel, by decide +kernel⟩)
  k_fillS
  refine L2.walk_specK (r := PySem.Challenge.rw_iceline_s01_answers) (k := 8) (CX := L2.CX0) (ps := ["calls"]) (sp := Ice.spAns) (by decide +kernel) rfl rfl ⟨rfl, by decide, by decide⟩ (fun w h Y => PySem.W.kIn_of Y) ?F ?S (fun _ _ _ _ z => z)
  case F =>
    intro w mg fa h Y KX G hmg
    refine' Ice.all_mk KX G hmg ?aC ?a_i ?i_i ?l_i ?c_i ?k_i ?a_m ?l_m ?c_m ?k_m ?a_cs ?l_cs ?c_cs ?k_cs ?a_cd ?l_cd ?c_cd ?k_cd ?a_pr ?l_pr ?c_pr ?k_pr ?a_l ?l_l ?c_l ?k_l ?a_r ?l_r ?c_r ?k_r ?a_cv ?l_cv ?c_cv ?k_cv ?a_cc ?l_cc ?c_cc ?k_cc ?a_ne ?l_ne ?c_ne ?k_ne ?a_gc ?l_gc ?c_gc ?k_gc ?a_ex ?l_ex ?c_ex ?k_ex ?a_be ?l_be ?c_be ?k_be ?a_sd ?l_sd ?c_sd ?k_sd ?a_sn ?l_sn ?c_sn ?k_sn ?a_cu ?l_cu ?c_cu ?k_cu ?a_ct ?l_ct ?c_ct ?k_ct ?a_gt ?l_gt ?c_gt ?k_gt ?a_sv ?l_sv ?c_sv ?k_sv ?a_cn ?l_cn ?c_cn ?k_cn ?a_sr ?l_sr ?c_sr ?k_sr ?a_tr ?l_tr ?c_tr ?k_tr ?a_o1 ?l_o1 ?c_o1 ?k_o1 ?a_o2 ?l_o2 ?c_o2 ?k_o2 ?a_o3 ?l_o3 ?c_o3 ?k_o3 ?a_o4 ?l_o4 ?c_o4 ?k_o4 ?a_o5 ?l_o5 ?c_o5 ?k_o5 ?a_o6 ?l_o6 ?c_o6 ?k_o6 ?a_o7 ?l_o7 ?c_o7 ?k_o7 ?a_o8 ?l_o8 ?c_o8 ?k_o8 ?a_o9 ?l_o9 ?c_o9 ?k_o9 ?a_o10 ?l_o10 ?c_o10 ?k_o10 ?a_o11 ?l_o11 ?c_o11 ?k_o11 ?a_o12 ?l_o12 ?c_o12 ?k_o12 ?a_o13 ?l_o13 ?c_o13 ?k_o13 ?a_o14 ?l_o14 ?c_o14 ?k_o14 ?a_o15 ?l_o15 ?c_o15 ?k_o15 ?a_o16 ?l_o16 ?c_o16 ?k_o16 ?a_o17 ?l_o17 ?c_o17 ?k_o17 ?a_o18 ?l_o18 ?c_o18 ?k_o18 ?a_o19 ?l_o19 ?c_o19 ?k_o19 ?a_o20 ?l_o20 ?c_o20 ?k_o20 ?a_o21 ?l_o21 ?c_o21 ?k_o21 ?a_o22 ?l_o22 ?c_o22 ?k_o22 ?a_o23 ?l_o23 ?c_o23 ?k_o23 ?a_o24 ?l_o24 ?c_o24 ?k_o24 ?a_op ?l_op ?c_op ?k_op ?a_an ?l_an ?c_an ?k_an ?n_0 ?n_1 ?n_2 ?n_3 ?n_4 ?n_5 ?n_6 ?n_7 ?n_8 ?z_sum ?z_abs ?z_zip ?z_len ?z_range ?z_enumerate ?z_list ?z_min ?z_tuple ?aD ?lD ?kD ?d_1 ?d_2 ?d_3 ?d_4 ?d_5 ?d_6 ?d_7 ?d_8 ?d_9 ?d_10 ?d_11 ?d_12 ?d_13 ?d_14 ?d_15 ?d_16 ?d_17 ?d_18 ?d_19 ?d_20 ?d_21 ?d_22 ?d_23 ?d_24 ?aP ?lP ?cP ?dP ?sP ?vP ?pg ?hd ?po ?sa ?mk ?kc ?nS ?nT2
    (case aC => k_is)
    (case a_i => k_is)
    (case i_i => k_is)
    (case l_i => k_is)
    (case c_i => k_is)
    (case k_i => k_is)
    (case a_m => k_is)
    (case l_m => k_is)
    (case c_m => k_is)
    (case k_m => k_is)
    (case a_cs => k_is)
    (case l_cs => k_is)
    (case c_cs => k_is)
    (case k_cs => k_is)
    (case a_cd => k_is)
    (case l_cd => k_is)
    (case c_cd => k_is)
    (case k_cd => k_is)
    (case a_pr => k_is)
    (case l_pr => k_is)
    (case c_pr => k_is)
    (case k_pr => k_is)
    (case a_l => k_is)
    (case l_l => k_is)
    (case c_l => k_is)
    (case k_l => k_is)
    (case a_r => k_is)
    (case l_r => k_is)
    (case c_r => k_is)
    (case k_r => k_is)
    (case a_cv => k_is)
    (case l_cv => k_is)
    (case c_cv => k_is)
    (case k_cv => k_is)
    (case a_cc => k_is)
    (case l_cc => k_is)
    (case c_cc => k_is)
    (case k_cc => k_is)
    (case a_ne => k_is)
    (case l_ne => k_is)
    (case c_ne => k_is)
    (case k_ne => k_is)
    (case a_gc => k_is)
    (case l_gc => k_is)
    (case c_gc => k_is)
    (case k_gc => k_is)
    (case a_ex => k_is)
    (case l_ex => k_is)
    (case c_ex => k_is)
    (case k_ex => k_is)
    (case a_be => k_is)
    (case l_be => k_is)
    (case c_be => k_is)
    (case k_be => k_is)
    (case a_sd => k_is)
    (case l_sd => k_is)
    (case c_sd => k_is)
    (case k_sd => k_is)
    (case a_sn => k_is)
    (case l_sn => k_is)
    (case c_sn => k_is)
    (case k_sn => k_is)
    (case a_cu => k_is)
    (case l_cu => k_is)
    (case c_cu => k_is)
    (case k_cu => k_is)
    (case a_ct => k_is)
    (case l_ct => k_is)
    (case c_ct => k_is)
    (case k_ct => k_is)
    (case a_gt => k_is)
    (case l_gt => k_is)
    (case c_gt => k_is)
    (case k_gt => k_is)
    (case a_sv => k_is)
    (case l_sv => k_is)
    (case c_sv => k_is)
    (case k_sv => k_is)
    (case a_cn => k_is)
    (case l_cn => k_is)
    (case c_cn => k_is)
    (case k_cn => k_is)
    (case a_sr => k_is)
    (case l_sr => k_is)
    (case c_sr => k_is)
    (case k_sr => k_is)
    (case a_tr => k_is)
    (case l_tr => k_is)
    (case c_tr => k_is)
    (case k_tr => k_is)
    (case a_o1 => k_is)
    (case l_o1 => k_is)
    (case c_o1 => k_is)
    (case k_o1 => k_is)
    (case a_o2 => k_is)
    (case l_o2 => k_is)
    (case c_o2 => k_is)
    (case k_o2 => k_is)
    (case a_o3 => k_is)
    (case l_o3 => k_is)
    (case c_o3 => k_is)
    (case k_o3 => k_is)
    (case a_o4 => k_is)
    (case l_o4 => k_is)
    (case c_o4 => k_is)
    (case k_o4 => k_is)
    (case a_o5 => k_is)
    (case l_o5 => k_is)
    (case c_o5 => k_is)
    (case k_o5 => k_is)
    (case a_o6 => k_is)
    (case l_o6 => k_is)
    (case c_o6 => k_is)
    (case k_o6 => k_is)
    (case a_o7 => k_is)
    (case l_o7 => k_is)
    (case c_o7 => k_is)
    (case k_o7 => k_is)
    (case a_o8 => k_is)
    (case l_o8 => k_is)
    (case c_o8 => k_is)
    (case k_o8 => k_is)
    (case a_o9 => k_is)
    (case l_o9 => k_is)
    (case c_o9 => k_is)
    (case k_o9 => k_is)
    (case a_o10 => k_is)
    (case l_o10 => k_is)
    (case c_o10 => k_is)
    (case k_o10 => k_is)
    (case a_o11 => k_is)
    (case l_o11 => k_is)
    (case c_o11 => k_is)
    (case k_o11 => k_is)
    (case a_o12 => k_is)
    (case l_o12 => k_is)
    (case c_o12 => k_is)
    (case k_o12 => k_is)
    (case a_o13 => k_is)
    (case l_o13 => k_is)
    (case c_o13 => k_is)
    (case k_o13 => k_is)
    (case a_o14 => k_is)
    (case l_o14 => k_is)
    (case c_o14 => k_is)
    (case k_o14 => k_is)
    (case a_o15 => k_is)
    (case l_o15 => k_is)
    (case c_o15 => k_is)
    (case k_o15 => k_is)
    (case a_o16 => k_is)
    (case l_o16 => k_is)
    (case c_o16 => k_is)
    (case k_o16 => k_is)
    (case a_o17 => k_is)
    (case l_o17 => k_is)
    (case c_o17 => k_is)
    (case k_o17 => k_is)
    (case a_o18 => k_is)
    (case l_o18 => k_is)
    (case c_o18 => k_is)
    (case k_o18 => k_is)
    (case a_o19 => k_is)
    (case l_o19 => k_is)
    (case c_o19 => k_is)
    (case k_o19 => k_is)
    (case a_o20 => k_is)
    (case l_o20 => k_is)
    (case c_o20 => k_is)
    (case k_o20 => k_is)
    (case a_o21 => k_is)
    (case l_o21 => k_is)
    (case c_o21 => k_is)
    (case k_o21 => k_is)
    (case a_o22 => k_is)
    (case l_o22 => k_is)
    (case c_o22 => k_is)
    (case k_o22 => k_is)
    (case a_o23 => k_is)
    (case l_o23 => k_is)
    (case c_o23 => k_is)
    (case k_o23 => k_is)
    (case a_o24 => k_is)
    (case l_o24 => k_is)
    (case c_o24 => k_is)
    (case k_o24 => k_is)
    (case a_op => k_is)
    (case l_op => k_is)
    (case c_op => k_is)
    (case k_op => k_is)
    (case a_an => k_is)
    (case l_an => k_is)
    (case c_an => k_is)
    (case k_an => k_is)
    (case n_0 => k_is)
    (case n_1 => k_is)
    (case n_2 => k_is)
    (case n_3 => k_is)
    (case n_4 => k_is)
    (case n_5 => k_is)
    (case n_6 => k_is)
    (case n_7 => k_is)
    (case n_8 => k_is)
    (case z_sum => k_is)
    (case z_abs => k_is)
    (case z_zip => k_is)
    (case z_len => k_is)
    (case z_range => k_is)
    (case z_enumerate => k_is)
    (case z_list => k_is)
    (case z_min => k_is)
    (case z_tuple => k_is)
    (case aD => k_is)
    (case lD => k_is)
    (case kD => exact Ice.keysInt_of (by rfl))
    (case d_1 => rfl)
    (case d_2 => rfl)
    (case d_3 => rfl)
    (case d_4 => rfl)
    (case d_5 => rfl)
    (case d_6 => rfl)
    (case d_7 => rfl)
    (case d_8 => rfl)
    (case d_9 => rfl)
    (case d_10 => rfl)
    (case d_11 => rfl)
    (case d_12 => rfl)
    (case d_13 => rfl)
    (case d_14 => rfl)
    (case d_15 => rfl)
    (case d_16 => rfl)
    (case d_17 => rfl)
    (case d_18 => rfl)
    (case d_19 => rfl)
    (case d_20 => rfl)
    (case d_21 => rfl)
    (case d_22 => rfl)
    (case d_23 => rfl)
    (case d_24 => rfl)
    (case aP => k_is)
    (case lP => k_is)
    (case cP => rfl)
    (case dP => rfl)
    (case sP => decide)
    (case vP => exact Ice.vals_of (by decide +kernel))
    (case pg => k_is)
    (case hd => k_is)
    (case po => k_is)
    (case sa => k_is)
    (case mk => k_is)
    (case kc => k_is)
    (case nS => k_is)
    (case nT2 => k_is)
  case S =>
    intro K H xs a hO hwi hask hx
    cases hx with
    | cons h1 h2 =>
      cases h2
      cases h1 with
      | lst hs ha =>
        have e := L2.ints_dw a.1 _ ha
        subst e
        have q : ((Codec.inLen 0 120 a.1 && a.1.all (Codec.inInt 0 4294967295)) && true) = true := hwi
        rw [Bool.and_eq_true, Bool.and_eq_true] at q
        have ez : Ice.zs (a.1.map Int.toNat) = a.1 := Ice.zs_back fun x hx => (Codec.inInt_iff.mp (List.all_eq_true.mp q.1.2 x hx)).1
        refine ⟨_, a.1.map Int.toNat, rfl, ?_, ?_, ?_, fun H' p hp => ?_⟩
        · rw [← Ice.zs_V, ez]; exact hs
        · rw [List.length_map]; exact (Codec.inNat_iff.mp q.1.1).2
        · rw [ez]; exact hask
        · rw [ez] at hp
          exact .lst (L2.SqL.of hp) (L2.dw_ints _)
