import PyProof.Rows.All
import Wide.All
import OpenK.AllK
import Wide.FinOn
import Open.SpecLaws
import KE.OsGo
import HandS.ForSpec
import HandS.Comp
import HandS.Iter
import HandS.Dict
import HandS.Codes
import HandS.Evl
import HandS.SortKw
import HandS.Rev
import HandS.More
import HandS.Walk
import KE.KMinKey
import KE.KEqDeep
import PySem.Challenge.RW_knittext_s01_answers
import HandS.Zip
set_option Elab.async false
set_option linter.all false
set_option maxRecDepth 100000
set_option maxHeartbeats 4000000
/-! # The table, the told text: the mathematics, plain lists -/
namespace Kt
open Vbktaf

theorem part_length {l : List Nat} {i n : Nat} (h : i + n ≤ l.length) : (part l i n).length = n := by
  unfold part
  rw [List.length_take, List.length_drop]
  omega

theorem part_part {l : List Nat} {i n a m : Nat} (h : a + m ≤ n) : part (part l i n) a m = part l (i + a) m := by
  unfold part
  rw [List.drop_take, List.take_take, List.drop_drop]
  congr 1
  omega

theorem part_all (l : List Nat) : part l 0 l.length = l := by
  unfold part
  simp

/-- ways look up shorter stretches alone -/
theorem ways_congr {w : Weights} {l : List Nat} {f g : Nat → Nat → Nat}
    (h : ∀ a m, 1 ≤ m → m < l.length → a + m ≤ l.length → f a m = g a m) : ways w l f = ways w l g := by
  unfold ways
  dsimp only
  have h1 : ((List.range l.length).filter (hasPeriod l)).map (fun p => ((Way.group p, w.bracket + w.number + f 0 p) : Way × Nat)) = ((List.range l.length).filter (hasPeriod l)).map (fun p => (Way.group p, w.bracket + w.number + g 0 p)) := by
    apply List.map_congr_left
    intro p hp
    rw [List.mem_filter] at hp
    have hq := hp.2
    unfold hasPeriod at hq
    simp only [Bool.and_eq_true, decide_eq_true_eq] at hq
    rw [h 0 p hq.1 hq.2.1 (by omega)]
  have h2 : ((List.range l.length).filter (fun k => k != 0)).map (fun k => ((Way.split k, f 0 k + f k (l.length - k)) : Way × Nat)) = ((List.range l.length).filter (fun k => k != 0)).map (fun k => (Way.split k, g 0 k + g k (l.length - k))) := by
    apply List.map_congr_left
    intro k hk
    rw [List.mem_filter, List.mem_range] at hk
    have hk0 : k ≠ 0 := by simpa using hk.2
    rw [h 0 k (by omega) hk.1 (by omega), h k (l.length - k) (by omega) (by omega) (by omega)]
  rw [h1, h2]
  congr 2
  congr 1
  · split
    · rename_i c
      simp only [Bool.and_eq_true, beq_iff_eq, bne_iff_ne] at c
      rw [h 0 (l.length / 2) (by omega) (by omega) (by omega)]
    · rfl
  · congr 1
    split
    · rename_i c
      simp only [Bool.and_eq_true, beq_iff_eq, bne_iff_ne] at c
      rw [h 0 ((l.length + 1) / 2) (by omega) (by omega) (by omega)]
    · rfl

theorem firstBest_none {l : List (Way × Nat)} (h : firstBest l = none) : l = [] := by
  cases l with
  | nil => rfl
  | cons x r =>
    unfold firstBest at h
    split at h
    · cases h
    · split at h <;> cases h

theorem firstBest_some {l : List (Way × Nat)} (h : l ≠ []) : ∃ y, firstBest l = some y := by
  cases e : firstBest l with
  | none => exact absurd (firstBest_none e) h
  | some y => exact ⟨y, rfl⟩

theorem firstBest_mem : ∀ {l : List (Way × Nat)} {y : Way × Nat}, firstBest l = some y → y ∈ l
  | [], y, h => by cases h
  | x :: r, y, h => by
    unfold firstBest at h
    split at h
    · cases h
      exact List.mem_cons_self
    · rename_i z e
      split at h
      · cases h
        exact List.mem_cons_of_mem _ (firstBest_mem e)
      · cases h
        exact List.mem_cons_self

theorem firstBest_least : ∀ {l : List (Way × Nat)} {y : Way × Nat}, firstBest l = some y → ∀ x ∈ l, y.2 ≤ x.2
  | [], y, h => by cases h
  | x :: r, y, h => by
    unfold firstBest at h
    split at h
    · rename_i e
      cases h
      intro z hz
      rw [firstBest_none e] at hz
      simp at hz
      rw [hz]
      exact Nat.le_refl _
    · rename_i z e
      have ih := firstBest_least e
      split at h
      · rename_i c
        cases h
        intro u hu
        rcases List.mem_cons.mp hu with rfl | hu
        · omega
        · exact ih u hu
      · rename_i c
        cases h
        intro u hu
        rcases List.mem_cons.mp hu with rfl | hu
        · exact Nat.le_refl _
        · have := ih u hu
          omega

/-- the first of the least: all ahead of it cost more -/
theorem firstBest_first : ∀ {l : List (Way × Nat)} {j : Nat} {y : Way × Nat}, l[j]? = some y → (∀ x ∈ l, y.2 ≤ x.2) → (∀ i x, i < j → l[i]? = some x → y.2 < x.2) → firstBest l = some y
  | [], j, y, h, _, _ => by simp at h
  | x :: r, 0, y, h, h1, _ => by
    simp only [List.getElem?_cons_zero, Option.some.injEq] at h
    subst h
    unfold firstBest
    split
    · rfl
    · rename_i z e
      have := h1 z (List.mem_cons_of_mem _ (firstBest_mem e))
      rw [if_neg (by omega)]
  | x :: r, j + 1, y, h, h1, h2 => by
    have ih := firstBest_first (l := r) (j := j) (y := y) (by simpa using h) (fun u hu => h1 u (List.mem_cons_of_mem _ hu)) (fun i u hi hu => h2 (i + 1) u (by omega) (by simpa using hu))
    unfold firstBest
    rw [ih]
    dsimp only
    have := h2 0 x (by omega) (by simp)
    rw [if_pos this]

theorem allAlike_one {l : List Nat} (h : l.length = 1) : allAlike l = true := by
  match l, h with
  | [a], _ => simp [allAlike]

theorem ways_ne_nil {w : Weights} {l : List Nat} {f : Nat → Nat → Nat} (h : l ≠ []) : ways w l f ≠ [] := by
  have hl : 0 < l.length := List.length_pos_iff.mpr h
  unfold ways
  dsimp only
  by_cases h1 : l.length = 1
  · rw [if_pos (allAlike_one h1)]
    simp
  · have : ((List.range l.length).filter (fun k => k != 0)).map (fun k => ((Way.split k, f 0 k + f k (l.length - k)) : Way × Nat)) ≠ [] := by
      intro e
      have h1 : 1 ∈ ((List.range l.length).filter (fun k => k != 0)) := by
        rw [List.mem_filter, List.mem_range]
        exact ⟨by omega, by decide⟩
      rw [List.map_eq_nil_iff] at e
      rw [e] at h1
      cases h1
    intro e
    simp only [List.append_eq_nil_iff] at e
    exact this e.2.2.2.2

/-- what stands in the list of ways is one of them: their facts -/
theorem mem_ways {w : Weights} {l : List Nat} {f : Nat → Nat → Nat} {x : Way × Nat} (h : x ∈ ways w l f) :
    match x.1 with
    | .run => allAlike l = true ∧ x.2 = (if l.length = 1 then w.letter else w.letter + w.number)
    | .group p => hasPeriod l p = true ∧ x.2 = w.bracket + w.number + f 0 p
    | .mirror => isMirror l = true ∧ l.length % 2 = 0 ∧ l.length ≠ 0 ∧ x.2 = w.mirror + f 0 (l.length / 2)
    | .odd => isMirror l = true ∧ l.length % 2 = 1 ∧ l.length ≠ 1 ∧ x.2 = w.mirror + f 0 ((l.length + 1) / 2)
    | .split k => k ≠ 0 ∧ k < l.length ∧ x.2 = f 0 k + f k (l.length - k) := by
  unfold ways at h
  dsimp only at h
  simp only [List.mem_append] at h
  rcases h with h | h | h | h | h
  · split at h
    · rename_i c
      simp only [List.mem_singleton] at h
      subst h
      exact ⟨c, rfl⟩
    · cases h
  · simp only [List.mem_map, List.mem_filter] at h
    obtain ⟨p, ⟨_, hp⟩, rfl⟩ := h
    exact ⟨hp, rfl⟩
  · split at h
    · rename_i c
      simp only [List.mem_singleton] at h
      simp only [Bool.and_eq_true, beq_iff_eq, bne_iff_ne] at c
      subst h
      exact ⟨c.1, c.2.1, c.2.2, rfl⟩
    · cases h
  · split at h
    · rename_i c
      simp only [List.mem_singleton] at h
      simp only [Bool.and_eq_true, beq_iff_eq, bne_iff_ne] at c
      subst h
      exact ⟨c.1, c.2.1, c.2.2, rfl⟩
    · cases h
  · simp only [List.mem_map, List.mem_filter, List.mem_range] at h
    obtain ⟨k, ⟨hk, hk0⟩, rfl⟩ := h
    exact ⟨by simpa using hk0, hk, rfl⟩

/-! ## the table, length by length -/
def tbl (w : Weights) (l : List Nat) (k : Nat) : Table := (List.range k).foldl (fun t k => t ++ [rowOf w l t (k + 1)]) []

theorem tbl_zero (w : Weights) (l : List Nat) : tbl w l 0 = [] := rfl
theorem tbl_succ (w : Weights) (l : List Nat) (k : Nat) : tbl w l (k + 1) = tbl w l k ++ [rowOf w l (tbl w l k) (k + 1)] := by
  unfold tbl
  rw [List.range_succ, List.foldl_append]
  rfl
theorem tbl_all (w : Weights) (l : List Nat) : tbl w l l.length = table w l := rfl
theorem tbl_length (w : Weights) (l : List Nat) : ∀ k, (tbl w l k).length = k
  | 0 => rfl
  | k + 1 => by rw [tbl_succ, List.length_append, tbl_length w l k]; rfl
theorem tbl_pre (w : Weights) (l : List Nat) : ∀ {n k : Nat}, k ≤ n → (tbl w l n).take k = tbl w l k
  | 0, k, h => by
    have : k = 0 := by omega
    subst this
    rfl
  | n + 1, k, h => by
    by_cases e : k = n + 1
    · subst e
      rw [List.take_of_length_le]
      rw [tbl_length]
      exact Nat.le_refl _
    · rw [tbl_succ, List.take_append_of_le_length (by rw [tbl_length]; omega)]
      exact tbl_pre w l (by omega)
theorem look_pre (w : Weights) (l : List Nat) {n k i m : Nat} (h : k ≤ n) (h1 : 1 ≤ m) (h2 : m ≤ k) : look (tbl w l n) i m = look (tbl w l k) i m := by
  unfold look
  rw [← tbl_pre w l h]
  congr 1
  rw [List.getD_eq_getElem?_getD, List.getD_eq_getElem?_getD, List.getElem?_take, if_pos (by omega)]

/-- the ways of a stretch, by the whole table -/
def wy (w : Weights) (l : List Nat) (i n : Nat) : List (Way × Nat) := ways w (part l i n) fun a m => look (table w l) (i + a) m
/-- its first best way -/
def bw (w : Weights) (l : List Nat) (i n : Nat) : Way × Nat := (firstBest (wy w l i n)).getD (.run, 0)

theorem part_ne {l : List Nat} {i n : Nat} (h1 : 1 ≤ n) (h : i + n ≤ l.length) : part l i n ≠ [] := by
  intro e
  have := part_length h
  rw [e] at this
  simp at this
  omega

theorem bw_some {w : Weights} {l : List Nat} {i n : Nat} (h1 : 1 ≤ n) (h : i + n ≤ l.length) : firstBest (wy w l i n) = some (bw w l i n) := by
  obtain ⟨y, e⟩ := firstBest_some (ways_ne_nil (w := w) (f := fun a m => look (table w l) (i + a) m) (part_ne h1 h))
  unfold bw
  rw [show firstBest (wy w l i n) = some y from e]
  rfl
theorem bw_mem {w : Weights} {l : List Nat} {i n : Nat} (h1 : 1 ≤ n) (h : i + n ≤ l.length) : bw w l i n ∈ wy w l i n := firstBest_mem (bw_some h1 h)

/-- while the table is made, lengths below n stand in it -/
theorem wy_tbl {w : Weights} {l : List Nat} {i n k : Nat} (h : i + n ≤ l.length) (hk : n ≤ k + 1) (hl : k ≤ l.length) :
    (ways w (part l i n) fun a m => look (tbl w l k) (i + a) m) = wy w l i n := by
  unfold wy
  apply ways_congr
  intro a m h1 h2 _
  rw [part_length h] at h2
  rw [← tbl_all, look_pre w l hl h1 (by omega)]

theorem rowOf_eq {w : Weights} {l : List Nat} {k : Nat} (hk : k < l.length) : rowOf w l (tbl w l k) (k + 1) = (List.range (l.length - k)).map fun i => (bw w l i (k + 1)).2 := by
  unfold rowOf
  rw [show l.length + 1 - (k + 1) = l.length - k by omega]
  apply List.map_congr_left
  intro i hi
  rw [List.mem_range] at hi
  rw [wy_tbl (by omega) (Nat.le_refl _) (by omega), bw_some (by omega) (by omega)]
  rfl

theorem tbl_row {w : Weights} {l : List Nat} {k : Nat} (hk : k < l.length) : (table w l)[k]? = some ((List.range (l.length - k)).map fun i => (bw w l i (k + 1)).2) := by
  have e := tbl_pre w l (n := l.length) (k := k + 1) (by omega)
  rw [tbl_succ, rowOf_eq hk] at e
  rw [← tbl_all]
  have e2 : ((tbl w l l.length).take (k + 1))[k]? = some ((List.range (l.length - k)).map fun i => (bw w l i (k + 1)).2) := by
    rw [e, List.getElem?_append_right (by rw [tbl_length]; exact Nat.le_refl _), tbl_length]
    simp
  rw [List.getElem?_take, if_pos (by omega)] at e2
  exact e2

theorem table_length (w : Weights) (l : List Nat) : (table w l).length = l.length := by rw [← tbl_all, tbl_length]

theorem table_eq (w : Weights) (l : List Nat) : table w l = (List.range l.length).map fun k => (List.range (l.length - k)).map fun i => (bw w l i (k + 1)).2 := by
  apply List.ext_getElem?
  intro k
  by_cases hk : k < l.length
  · rw [tbl_row hk, List.getElem?_map, List.getElem?_range hk]
    rfl
  · rw [List.getElem?_eq_none (by rw [table_length]; omega), List.getElem?_eq_none (by simp; omega)]

theorem look_bw {w : Weights} {l : List Nat} {i n : Nat} (h1 : 1 ≤ n) (h : i + n ≤ l.length) : look (table w l) i n = (bw w l i n).2 := by
  unfold look
  rw [List.getD_eq_getElem?_getD (l := table w l), tbl_row (by omega)]
  simp only [Option.getD_some]
  rw [List.getD_eq_getElem?_getD, List.getElem?_map, List.getElem?_range (by omega)]
  simp only [Option.map_some, Option.getD_some]
  rw [show n - 1 + 1 = n by omega]

/-! ## the told text -/
theorem hasPeriod_facts {l : List Nat} {p : Nat} (h : hasPeriod l p = true) : 0 < p ∧ p < l.length ∧ l.length % p = 0 := by
  unfold hasPeriod at h
  simp only [Bool.and_eq_true, decide_eq_true_eq, beq_iff_eq] at h
  exact ⟨h.1, h.2.1, h.2.2.1⟩

/-- fuel beyond the stretch's length changes nothing -/
theorem told_fuel {w : Weights} {l : List Nat} : ∀ {n : Nat}, 1 ≤ n → ∀ {i f g : Nat}, i + n ≤ l.length → n < f → n < g → told w l (table w l) f i n = told w l (table w l) g i n := by
  intro n
  induction n using Nat.strongRecOn with
  | _ n ih =>
    intro h1 i f g h hf hg
    obtain ⟨f, rfl⟩ : ∃ f', f = f' + 1 := ⟨f - 1, by omega⟩
    obtain ⟨g, rfl⟩ : ∃ g', g = g' + 1 := ⟨g - 1, by omega⟩
    have e := bw_some (w := w) h1 h
    have m := mem_ways (bw_mem (w := w) h1 h)
    rw [part_length h] at m
    unfold wy at e
    unfold told
    rw [e]
    generalize bw w l i n = b at m
    obtain ⟨b1, b2⟩ := b
    cases b1 with
    | run => rfl
    | group p =>
      dsimp only at m ⊢
      have q := hasPeriod_facts m.1
      rw [part_length h] at q
      rw [ih p q.2.1 q.1 (by omega) (show p < f by omega) (show p < g by omega)]
    | mirror =>
      dsimp only at m ⊢
      rw [ih (n / 2) (by omega) (by omega) (by omega) (show n / 2 < f by omega) (show n / 2 < g by omega)]
    | odd =>
      dsimp only at m ⊢
      rw [ih ((n + 1) / 2) (by omega) (by omega) (by omega) (show (n + 1) / 2 < f by omega) (show (n + 1) / 2 < g by omega)]
    | split k =>
      dsimp only at m ⊢
      rw [ih k (by omega) (by omega) (by omega) (show k < f by omega) (show k < g by omega), ih (n - k) (by omega) (by omega) (by omega) (show n - k < f by omega) (show n - k < g by omega)]

/-- the told text of a stretch -/
def tx (w : Weights) (l : List Nat) (i n : Nat) : Ex := told w l (table w l) (n + 1) i n

theorem tx_eq {w : Weights} {l : List Nat} {i n : Nat} (h1 : 1 ≤ n) (h : i + n ≤ l.length) :
    tx w l i n = match (bw w l i n).1 with
      | .run => .run ((part l i 1).headD 0) n
      | .group p => .group (tx w l i p) (n / p)
      | .mirror => .mirror false (tx w l i (n / 2))
      | .odd => .mirror true (tx w l i ((n + 1) / 2))
      | .split k => .seq (tx w l i k) (tx w l (i + k) (n - k)) := by
  have e := bw_some (w := w) h1 h
  have m := mem_ways (bw_mem (w := w) h1 h)
  rw [part_length h] at m
  unfold wy at e
  unfold tx
  rw [told.eq_def]
  dsimp only
  rw [e]
  generalize bw w l i n = b at m
  obtain ⟨b1, b2⟩ := b
  cases b1 with
  | run => rfl
  | group p =>
    dsimp only at m ⊢
    have q := hasPeriod_facts m.1
    rw [part_length h] at q
    rw [told_fuel q.1 (by omega) (show p < n by omega) (show p < p + 1 by omega)]
  | mirror =>
    dsimp only at m ⊢
    rw [told_fuel (by omega) (by omega) (show n / 2 < n by omega) (show n / 2 < n / 2 + 1 by omega)]
  | odd =>
    dsimp only at m ⊢
    rw [told_fuel (by omega) (by omega) (show (n + 1) / 2 < n by omega) (show (n + 1) / 2 < (n + 1) / 2 + 1 by omega)]
  | split k =>
    dsimp only at m ⊢
    rw [told_fuel (by omega) (by omega) (show k < n by omega) (show k < k + 1 by omega), told_fuel (by omega) (by omega) (show n - k < n by omega) (show n - k < n - k + 1 by omega)]

theorem shortest_eq (w : Weights) (l : List Nat) : shortest w l = tx w l 0 l.length := rfl

/-- the bytes of the told text, by the first best way -/
def bt (w : Weights) (l : List Nat) (i n : Nat) : Bytes := shown (tx w l i n)
theorem bt_eq {w : Weights} {l : List Nat} {i n : Nat} (h1 : 1 ≤ n) (h : i + n ≤ l.length) :
    bt w l i n = match (bw w l i n).1 with
      | .run => (97 + (part l i 1).headD 0) :: (if n = 1 then [] else dec n)
      | .group p => 40 :: (bt w l i p ++ 41 :: dec (n / p))
      | .mirror => 60 :: (bt w l i (n / 2) ++ [62])
      | .odd => 91 :: (bt w l i ((n + 1) / 2) ++ [93])
      | .split k => bt w l i k ++ bt w l (i + k) (n - k) := by
  unfold bt
  rw [tx_eq h1 h]
  cases (bw w l i n).1 <;> rfl

/-- promise 1: the told text costs what the table says -/
theorem cost_tx {w : Weights} {l : List Nat} : ∀ {n : Nat}, 1 ≤ n → ∀ {i : Nat}, i + n ≤ l.length → cost w (tx w l i n) = (bw w l i n).2 := by
  intro n
  induction n using Nat.strongRecOn with
  | _ n ih =>
    intro h1 i h
    have m := mem_ways (bw_mem (w := w) h1 h)
    rw [part_length h] at m
    rw [tx_eq h1 h]
    generalize bw w l i n = b at m
    obtain ⟨b1, b2⟩ := b
    cases b1 with
    | run =>
      dsimp only at m ⊢
      rw [m.2]
      rfl
    | group p =>
      dsimp only at m ⊢
      have q := hasPeriod_facts m.1
      rw [part_length h] at q
      rw [m.2]
      show w.bracket + w.number + cost w (tx w l i p) = _
      rw [ih p q.2.1 q.1 (by omega), Nat.add_zero, look_bw q.1 (by omega)]
    | mirror =>
      dsimp only at m ⊢
      rw [m.2.2.2]
      show w.mirror + cost w (tx w l i (n / 2)) = _
      rw [ih (n / 2) (by omega) (by omega) (by omega), Nat.add_zero, look_bw (by omega) (by omega)]
    | odd =>
      dsimp only at m ⊢
      rw [m.2.2.2]
      show w.mirror + cost w (tx w l i ((n + 1) / 2)) = _
      rw [ih ((n + 1) / 2) (by omega) (by omega) (by omega), Nat.add_zero i, look_bw (by omega) (by omega)]
    | split k =>
      dsimp only at m ⊢
      rw [m.2.2]
      show cost w (tx w l i k) + cost w (tx w l (i + k) (n - k)) = _
      rw [ih k (by omega) (by omega) (by omega), ih (n - k) (by omega) (by omega) (by omega), Nat.add_zero, look_bw (by omega) (by omega), look_bw (by omega) (by omega)]

/-! ## a stretch as a row by itself -/
theorem wy_part {w : Weights} {l : List Nat} {i n : Nat} (h : i + n ≤ l.length) : ∀ {m : Nat}, 1 ≤ m → ∀ {a : Nat}, a + m ≤ n → wy w (part l i n) a m = wy w l (i + a) m := by
  intro m
  induction m using Nat.strongRecOn with
  | _ m ih =>
    intro h1 a ha
    unfold wy
    rw [part_part ha]
    apply ways_congr
    intro b k hk1 hk2 hk3
    rw [part_length (show i + a + m ≤ l.length by omega)] at hk2 hk3
    rw [look_bw hk1 (by rw [part_length h]; omega), look_bw hk1 (by omega)]
    unfold bw
    rw [ih k hk2 hk1 (by omega), show i + (a + b) = i + a + b by omega]
theorem bw_part {w : Weights} {l : List Nat} {i n a m : Nat} (h : i + n ≤ l.length) (h1 : 1 ≤ m) (ha : a + m ≤ n) : bw w (part l i n) a m = bw w l (i + a) m := by
  unfold bw
  rw [wy_part h h1 ha]
theorem tx_part {w : Weights} {l : List Nat} {i n : Nat} (h : i + n ≤ l.length) : ∀ {m : Nat}, 1 ≤ m → ∀ {a : Nat}, a + m ≤ n → tx w (part l i n) a m = tx w l (i + a) m := by
  intro m
  induction m using Nat.strongRecOn with
  | _ m ih =>
    intro h1 a ha
    have m0 := mem_ways (bw_mem (w := w) h1 (show i + a + m ≤ l.length by omega))
    rw [part_length (by omega)] at m0
    rw [tx_eq h1 (by rw [part_length h]; exact ha), tx_eq h1 (show i + a + m ≤ l.length by omega), bw_part h h1 ha]
    generalize bw w l (i + a) m = b at m0
    obtain ⟨b1, b2⟩ := b
    cases b1 with
    | run =>
      dsimp only
      rw [part_part (by omega)]
    | group p =>
      dsimp only at m0 ⊢
      have q := hasPeriod_facts m0.1
      rw [part_length (by omega)] at q
      rw [ih p q.2.1 q.1 (by omega)]
    | mirror =>
      dsimp only at m0 ⊢
      rw [ih (m / 2) (by omega) (by omega) (by omega)]
    | odd =>
      dsimp only at m0 ⊢
      rw [ih ((m + 1) / 2) (by omega) (by omega) (by omega)]
    | split k =>
      dsimp only at m0 ⊢
      rw [ih k (by omega) (by omega) (by omega), ih (m - k) (by omega) (by omega) (by omega), show i + (a + k) = i + a + k by omega]

end Kt

/-! # Reading a text: the program's machine of levels against the specification's descent -/
namespace Kt
open Vbktaf

/-- where the machine stands: the place, what is left, the level on top (what it tells, what closes it), those below, nearest first -/
structure MS where
  at_ : Nat
  b : Bytes
  e : Option Ex
  c : Int
  us : List (Int × Option Ex)

def mstep (s : MS) : Except Fault MS := match s.b with
  | [] => .error (1, s.at_)
  | c :: r =>
    if isLetter c = true then
      (if (r.head?.any isDigit) = true then (match number (s.at_ + 1) r with
        | .error k => .error k
        | .ok x => .ok ⟨x.2.1, x.2.2, some (joined s.e (.run (c - 97) x.1)), s.c, s.us⟩)
      else .ok ⟨s.at_ + 1, r, some (joined s.e (.run (c - 97) 1)), s.c, s.us⟩)
    else if c = 40 ∨ c = 60 ∨ c = 91 then
      (if 8 ≤ s.us.length then .error (4, s.at_) else .ok ⟨s.at_ + 1, r, none, (closing c : Nat), (s.c, s.e) :: s.us⟩)
    else match s.e, s.us with
      | some x, (c0, e0) :: us =>
        if (c : Int) = s.c then
          (if c = 41 then (match number (s.at_ + 1) r with
            | .error k => .error k
            | .ok y => .ok ⟨y.2.1, y.2.2, some (joined e0 (.group x y.1)), c0, us⟩)
          else .ok ⟨s.at_ + 1, r, some (joined e0 (.mirror (c == 93) x)), c0, us⟩)
        else .error (1, s.at_)
      | _, _ => .error (1, s.at_)

def mend (s : MS) : Except Fault Ex := match s.us, s.e with
  | [], some x => if LONG < size x then .error (3, s.at_) else .ok x
  | _, _ => .error (1, s.at_)

theorem number_ok {a : Nat} {b : Bytes} {x : Nat × Nat × Bytes} (h : number a b = .ok x) : 2 ≤ x.1 ∧ x.1 ≤ 99 ∧ x.2.2.length < b.length ∧ x.2.1 + x.2.2.length = a + b.length ∧ x.2.2 = b.drop (b.takeWhile isDigit).length ∧ x.2.1 = a + (b.takeWhile isDigit).length := by
  unfold number at h
  dsimp only at h
  split at h
  · cases h
  · rename_i c1
    split at h
    · cases h
    · rename_i c2
      have hle : (b.takeWhile isDigit).length ≤ b.length := by
        have := List.takeWhile_prefix (p := isDigit) (l := b)
        exact this.length_le
      have hpos : 0 < (b.takeWhile isDigit).length := by
        rw [List.length_pos_iff]
        intro e
        rw [e] at c1
        exact c1 rfl
      have hd : ∀ d ∈ b.takeWhile isDigit, isDigit d = true := by
        intro d hd
        exact List.all_eq_true.mp List.all_takeWhile d hd
      have h99 : (b.takeWhile isDigit).foldl (fun n c => 10 * n + (c - 48)) 0 ≤ 99 := by
        generalize b.takeWhile isDigit = d at c2 hd
        have hd' : ∀ x ∈ d, x - 48 ≤ 9 := by
          intro x hx
          have := hd x hx
          unfold isDigit at this
          simp only [Bool.and_eq_true, decide_eq_true_eq] at this
          omega
        match d with
        | [] => simp
        | [u] =>
          have := hd' u (by simp)
          simp only [List.foldl_cons, List.foldl_nil]
          omega
        | [u, v] =>
          have := hd' u (by simp)
          have := hd' v (by simp)
          simp only [List.foldl_cons, List.foldl_nil]
          omega
        | u :: v :: z :: r =>
          exfalso
          apply c2
          left
          simp
      cases h
      dsimp only
      rw [List.length_drop]
      refine ⟨?_, h99, by omega, by omega, rfl, rfl⟩
      apply Nat.le_of_not_lt
      intro hn
      exact c2 (Or.inr (Or.inr hn))

theorem mstep_less {s s' : MS} (h : mstep s = .ok s') : s'.b.length < s.b.length ∧ s'.at_ + s'.b.length = s.at_ + s.b.length := by
  unfold mstep at h
  split at h
  · cases h
  · rename_i c r e
    rw [e]
    split at h
    · split at h
      · split at h
        · cases h
        · rename_i x ex
          have q := number_ok ex
          cases h
          dsimp only
          simp only [List.length_cons]
          omega
      · cases h
        dsimp only
        simp only [List.length_cons]
        omega
    · split at h
      · split at h
        · cases h
        · cases h
          dsimp only
          simp only [List.length_cons]
          omega
      · split at h
        · split at h
          · split at h
            · split at h
              · cases h
              · rename_i y ey
                have q := number_ok ey
                cases h
                dsimp only
                simp only [List.length_cons]
                omega
            · cases h
              dsimp only
              simp only [List.length_cons]
              omega
          · cases h
        · cases h

def mrun : Nat → MS → Except Fault Ex
  | 0, s => .error (1, s.at_)
  | f + 1, s => match s.b with
    | [] => mend s
    | _ :: _ => match mstep s with
      | .error k => .error k
      | .ok s' => mrun f s'

theorem mrun_fuel : ∀ (f : Nat) (s : MS), s.b.length < f → mrun f s = mrun (s.b.length + 1) s
  | 0, s, h => by omega
  | f + 1, s, h => by
    unfold mrun
    split
    · rfl
    · rename_i c r e
      split
      · rfl
      · rename_i s' es
        have q := mstep_less es
        rw [mrun_fuel f s' (by omega)]
        by_cases h2 : s.b.length = f
        · rw [h2, mrun_fuel f s' (by omega)]
        · have h3 : s.b.length < f := by omega
          rw [mrun_fuel s.b.length s' (by omega)]
  termination_by f _ => f
  decreasing_by all_goals omega

/-- the machine's answer -/
def mres (s : MS) : Except Fault Ex := mrun (s.b.length + 1) s
theorem mres_nil {s : MS} (h : s.b = []) : mres s = mend s := by
  unfold mres mrun
  rw [h]
theorem mres_step {s s' : MS} (h : mstep s = .ok s') : mres s = mres s' := by
  have q := mstep_less h
  unfold mres
  rw [mrun]
  split
  · rename_i e
    rw [e] at q
    simp at q
  · rw [h]
    dsimp only
    exact mrun_fuel _ _ (by omega)
theorem mres_err {s : MS} {k : Fault} (hb : s.b ≠ []) (h : mstep s = .error k) : mres s = .error k := by
  unfold mres mrun
  split
  · rename_i e
    exact absurd e hb
  · rw [h]

/-- what can't begin a part -/
def stopB (q : Bytes) : Prop := ∀ c r, q = c :: r → isLetter c = false ∧ ¬ (c = 40 ∨ c = 60 ∨ c = 91)

theorem parts_mres : ∀ (f deep : Nat) (e : Option Ex) (at_ : Nat) (b : Bytes) (c : Int) (us : List (Int × Option Ex)), b.length < f → us.length = deep →
    match parts f deep e at_ b with
    | .error k => mres ⟨at_, b, e, c, us⟩ = .error k
    | .ok (e', p, q) => mres ⟨at_, b, e, c, us⟩ = mres ⟨p, q, e', c, us⟩ ∧ stopB q ∧ q.length ≤ b.length ∧ p + q.length = at_ + b.length
  | 0, _, _, _, _, _, _, h, _ => by omega
  | f + 1, deep, e, at_, [], c, us, h, hu => by
    rw [parts]
    refine ⟨rfl, ?_, Nat.le_refl _, rfl⟩
    intro c r z
    cases z
  | f + 1, deep, e, at_, d :: r, c, us, h, hu => by
    have hr : r.length < f := by
      simp only [List.length_cons] at h
      omega
    rw [parts]
    by_cases c1 : isLetter d = true
    · rw [if_pos c1]
      by_cases c2 : (r.head?.any isDigit) = true
      · rw [if_pos c2]
        cases en : number (at_ + 1) r with
        | error k =>
          dsimp only
          refine mres_err (by simp) ?_
          unfold mstep
          dsimp only
          rw [if_pos c1, if_pos c2, en]
        | ok x =>
          dsimp only
          have q := number_ok en
          have ms : mres ⟨at_, d :: r, e, c, us⟩ = mres ⟨x.2.1, x.2.2, some (joined e (.run (d - 97) x.1)), c, us⟩ := by
            refine mres_step ?_
            unfold mstep
            dsimp only
            rw [if_pos c1, if_pos c2, en]
          rw [ms]
          have ih := parts_mres f deep (some (joined e (.run (d - 97) x.1))) x.2.1 x.2.2 c us (by omega) hu
          revert ih
          cases parts f deep (some (joined e (.run (d - 97) x.1))) x.2.1 x.2.2 with
          | error k => exact fun ih => ih
          | ok y =>
            obtain ⟨e', p, q'⟩ := y
            dsimp only
            simp only [List.length_cons]
            exact fun ih => ⟨ih.1, ih.2.1, by omega, by omega⟩
      · rw [if_neg c2]
        have ms : mres ⟨at_, d :: r, e, c, us⟩ = mres ⟨at_ + 1, r, some (joined e (.run (d - 97) 1)), c, us⟩ := by
          refine mres_step ?_
          unfold mstep
          dsimp only
          rw [if_pos c1, if_neg c2]
        rw [ms]
        have ih := parts_mres f deep (some (joined e (.run (d - 97) 1))) (at_ + 1) r c us hr hu
        revert ih
        cases parts f deep (some (joined e (.run (d - 97) 1))) (at_ + 1) r with
        | error k => exact fun ih => ih
        | ok y =>
          obtain ⟨e', p, q'⟩ := y
          dsimp only
          simp only [List.length_cons]
          exact fun ih => ⟨ih.1, ih.2.1, by omega, by omega⟩
    · rw [if_neg c1]
      by_cases c3 : d = 40 ∨ d = 60 ∨ d = 91
      · rw [if_pos c3]
        by_cases c4 : DEEP ≤ deep
        · rw [if_pos c4]
          dsimp only
          refine mres_err (by simp) ?_
          unfold mstep
          dsimp only
          rw [if_neg c1, if_pos c3, if_pos (by rw [hu]; exact c4)]
        · rw [if_neg c4]
          have ms : mres ⟨at_, d :: r, e, c, us⟩ = mres ⟨at_ + 1, r, none, (closing d : Nat), (c, e) :: us⟩ := by
            refine mres_step ?_
            unfold mstep
            dsimp only
            rw [if_neg c1, if_pos c3, if_neg (by rw [hu]; exact c4)]
          rw [ms]
          have ih := parts_mres f (deep + 1) none (at_ + 1) r (closing d : Nat) ((c, e) :: us) hr (by simp [hu])
          revert ih
          cases parts f (deep + 1) none (at_ + 1) r with
          | error k => exact fun ih => ih
          | ok y =>
            obtain ⟨e', p, q⟩ := y
            dsimp only
            intro ih
            rw [ih.1]
            cases e' with
            | none =>
              dsimp only
              cases q with
              | nil => exact mres_nil rfl
              | cons d2 r2 =>
                have st := ih.2.1 d2 r2 rfl
                refine mres_err (by simp) ?_
                unfold mstep
                dsimp only
                rw [if_neg (by rw [st.1]; decide), if_neg st.2]
            | some x =>
              dsimp only
              by_cases c5 : q.head? ≠ some (closing d)
              · rw [if_pos c5]
                dsimp only
                cases q with
                | nil => exact mres_nil rfl
                | cons d2 r2 =>
                  have st := ih.2.1 d2 r2 rfl
                  refine mres_err (by simp) ?_
                  unfold mstep
                  dsimp only
                  have hne : ¬ ((d2 : Int) = (closing d : Nat)) := by
                    intro z
                    apply c5
                    simp only [List.head?_cons, Option.some.injEq]
                    omega
                  rw [if_neg (by rw [st.1]; decide), if_neg st.2, if_neg hne]
              · rw [if_neg c5]
                have c6 : q.head? = some (closing d) := Decidable.of_not_not c5
                cases q with
                | nil => cases c6
                | cons d2 r2 =>
                  have e2 : d2 = closing d := by simpa using c6
                  have st := ih.2.1 d2 r2 rfl
                  have hl := ih.2.2
                  simp only [List.length_cons] at hl
                  simp only [List.drop_one, List.tail_cons]
                  by_cases c7 : d = 40
                  · rw [if_pos c7]
                    have e3 : d2 = 41 := by rw [e2, c7]; rfl
                    cases en : number (p + 1) r2 with
                    | error k =>
                      dsimp only
                      refine mres_err (by simp) ?_
                      unfold mstep
                      dsimp only
                      rw [if_neg (by rw [st.1]; decide), if_neg st.2, if_pos (by rw [e2]), if_pos e3, en]
                    | ok y =>
                      dsimp only
                      have qn := number_ok en
                      have ms2 : mres ⟨p, d2 :: r2, some x, (closing d : Nat), (c, e) :: us⟩ = mres ⟨y.2.1, y.2.2, some (joined e (.group x y.1)), c, us⟩ := by
                        refine mres_step ?_
                        unfold mstep
                        dsimp only
                        rw [if_neg (by rw [st.1]; decide), if_neg st.2, if_pos (by rw [e2]), if_pos e3, en]
                      rw [ms2]
                      have ih2 := parts_mres f deep (some (joined e (.group x y.1))) y.2.1 y.2.2 c us (by omega) hu
                      revert ih2
                      cases parts f deep (some (joined e (.group x y.1))) y.2.1 y.2.2 with
                      | error k => exact fun ih2 => ih2
                      | ok z =>
                        obtain ⟨e', p', q'⟩ := z
                        dsimp only
                        simp only [List.length_cons]
                        exact fun ih2 => ⟨ih2.1, ih2.2.1, by omega, by omega⟩
                  · rw [if_neg c7]
                    have e3 : ¬ d2 = 41 := by
                      rw [e2]
                      unfold closing
                      rw [if_neg c7]
                      split <;> decide
                    have e4 : (d2 == 93) = (d == 91) := by
                      rw [e2]
                      unfold closing
                      rw [if_neg c7]
                      rcases c3 with z | z | z
                      · exact absurd z c7
                      · subst z; rfl
                      · subst z; rfl
                    have ms2 : mres ⟨p, d2 :: r2, some x, (closing d : Nat), (c, e) :: us⟩ = mres ⟨p + 1, r2, some (joined e (.mirror (d == 91) x)), c, us⟩ := by
                      refine mres_step ?_
                      unfold mstep
                      dsimp only
                      rw [if_neg (by rw [st.1]; decide), if_neg st.2, if_pos (by rw [e2]), if_neg e3, e4]
                    rw [ms2]
                    have ih2 := parts_mres f deep (some (joined e (.mirror (d == 91) x))) (p + 1) r2 c us (by omega) hu
                    revert ih2
                    cases parts f deep (some (joined e (.mirror (d == 91) x))) (p + 1) r2 with
                    | error k => exact fun ih2 => ih2
                    | ok z =>
                      obtain ⟨e', p', q'⟩ := z
                      dsimp only
                      simp only [List.length_cons]
                      exact fun ih2 => ⟨ih2.1, ih2.2.1, by omega, by omega⟩
      · rw [if_neg c3]
        dsimp only
        refine ⟨rfl, ?_, Nat.le_refl _, rfl⟩
        intro c' r' z
        cases z
        exact ⟨by simpa using c1, c3⟩

def ms0 (t : Bytes) : MS := ⟨0, t, none, -1, []⟩
theorem read_mres (t : Bytes) : Vbktaf.read t = mres (ms0 t) := by
  have h := parts_mres (t.length + 1) 0 none 0 t (-1) [] (by omega) rfl
  unfold Vbktaf.read ms0
  revert h
  cases parts (t.length + 1) 0 none 0 t with
  | error k => exact fun h => h.symm
  | ok y =>
    obtain ⟨e, p, q⟩ := y
    dsimp only
    intro h
    rw [h.1]
    cases e with
    | none =>
      dsimp only
      cases q with
      | nil =>
        rw [mres_nil rfl]
        rfl
      | cons d r =>
        have st := h.2.1 d r rfl
        refine (mres_err (by simp) ?_).symm
        unfold mstep
        dsimp only
        rw [if_neg (by rw [st.1]; decide), if_neg st.2]
    | some x =>
      dsimp only
      cases q with
      | nil =>
        have hl := h.2.2.2
        simp only [List.length_nil] at hl
        rw [mres_nil rfl]
        unfold mend
        dsimp only
        have : p = t.length := by omega
        rw [this]
        rfl
      | cons d r =>
        have st := h.2.1 d r rfl
        have : mres ⟨p, d :: r, some x, -1, []⟩ = .error (1, p) := by
          refine mres_err (by simp) ?_
          unfold mstep
          dsimp only
          rw [if_neg (by rw [st.1]; decide), if_neg st.2]
        rw [this]
        rfl
end Kt

/-! # What a text is made of; the told text read again -/
namespace Kt
open Vbktaf

def nLet : Ex → Nat
  | .run _ _ => 1
  | .group e _ => nLet e
  | .mirror _ e => nLet e
  | .seq a b => nLet a + nLet b
def nNum : Ex → Nat
  | .run _ n => if n = 1 then 0 else 1
  | .group e _ => nNum e + 1
  | .mirror _ e => nNum e
  | .seq a b => nNum a + nNum b
def nRnd : Ex → Nat
  | .run _ _ => 0
  | .group e _ => nRnd e + 1
  | .mirror _ e => nRnd e
  | .seq a b => nRnd a + nRnd b
def nOth : Ex → Nat
  | .run _ _ => 0
  | .group e _ => nOth e
  | .mirror _ e => nOth e + 1
  | .seq a b => nOth a + nOth b
theorem cost_counts (w : Weights) : ∀ x : Ex, cost w x = nLet x * w.letter + nNum x * w.number + (nRnd x * w.bracket + nOth x * w.mirror)
  | .run _ n => by
    unfold cost nLet nNum nRnd nOth
    split <;> simp
  | .group e _ => by
    unfold cost nLet nNum nRnd nOth
    rw [cost_counts w e, Nat.add_mul, Nat.add_mul]
    omega
  | .mirror _ e => by
    unfold cost nLet nNum nRnd nOth
    rw [cost_counts w e, Nat.add_mul]
    omega
  | .seq a b => by
    unfold cost nLet nNum nRnd nOth
    rw [cost_counts w a, cost_counts w b, Nat.add_mul, Nat.add_mul, Nat.add_mul, Nat.add_mul]
    omega

theorem times_length (n : Nat) (l : List Nat) : (times n l).length = n * l.length := by
  unfold times
  induction n with
  | zero => simp
  | succ n ih => rw [List.range_succ, List.flatMap_append, List.length_append, ih]; simp [Nat.succ_mul]
theorem unroll_length : ∀ x : Ex, (unroll x).length = size x
  | .run c n => by simp [unroll, size]
  | .group e n => by
    unfold unroll size
    rw [times_length, unroll_length e]
  | .mirror odd e => by
    unfold unroll size
    rw [List.length_append, unroll_length e]
    split
    · rw [List.length_drop, List.length_reverse, unroll_length e]
      omega
    · rw [List.length_reverse, unroll_length e]
      omega
  | .seq a b => by
    unfold unroll size
    rw [List.length_append, unroll_length a, unroll_length b]

/-- what a text may hold: letters, numbers as told, something everywhere -/
def good : Ex → Prop
  | .run c n => c < 26 ∧ 1 ≤ n ∧ n ≤ 99
  | .group e n => good e ∧ 2 ≤ n ∧ n ≤ 99
  | .mirror _ e => good e
  | .seq a b => good a ∧ good b
theorem good_size : ∀ {x : Ex}, good x → 1 ≤ size x
  | .run c n, h => h.2.1
  | .group e n, h => by
    have := good_size (x := e) h.1
    show 1 ≤ n * size e
    have h2 : 2 ≤ n := h.2.1
    calc 1 ≤ 1 * 1 := by decide
      _ ≤ n * size e := Nat.mul_le_mul (by omega) this
  | .mirror odd e, h => by
    have := good_size (x := e) h
    unfold size
    split <;> omega
  | .seq a b, h => by
    have := good_size (x := a) h.1
    show 1 ≤ size a + size b
    omega

def szO : Option Ex → Nat
  | none => 0
  | some x => size x
def dpO : Option Ex → Nat
  | none => 0
  | some x => depth x
def unO : Option Ex → List Nat
  | none => []
  | some x => unroll x
theorem szO_joined (e : Option Ex) (x : Ex) : szO (some (joined e x)) = szO e + size x := by
  cases e <;> simp [szO, joined, size]
theorem dpO_joined (e : Option Ex) (x : Ex) : dpO (some (joined e x)) = max (dpO e) (depth x) := by
  cases e <;> simp [dpO, joined, depth]
theorem unO_joined (e : Option Ex) (x : Ex) : unO (some (joined e x)) = unO e ++ unroll x := by
  cases e <;> simp [unO, joined, unroll]

theorem dec_small : ∀ n, n < 100 → dec n = if n < 10 then [48 + n] else [48 + n / 10, 48 + n % 10] := by
  decide +kernel

theorem number_dec {a n : Nat} {r : Bytes} (h1 : 2 ≤ n) (h2 : n ≤ 99) (hr : (r.head?.any isDigit) = false) : number a (dec n ++ r) = .ok (n, a + (dec n).length, r) := by
  have htw : ∀ d : Bytes, (∀ x ∈ d, isDigit x = true) → (d ++ r).takeWhile isDigit = d := by
    intro d hd
    induction d with
    | nil =>
      cases r with
      | nil => rfl
      | cons c q =>
        simp only [List.head?_cons, Option.any_some] at hr
        simp [List.takeWhile_cons, hr]
    | cons c d ih =>
      rw [List.cons_append, List.takeWhile_cons, if_pos (hd c (by simp)), ih fun x hx => hd x (List.mem_cons_of_mem _ hx)]
  have hdig : ∀ x ∈ dec n, isDigit x = true := by
    rw [dec_small n (by omega)]
    intro x hx
    unfold isDigit
    simp only [Bool.and_eq_true, decide_eq_true_eq]
    split at hx
    · simp only [List.mem_singleton] at hx
      omega
    · simp only [List.mem_cons, List.not_mem_nil, or_false] at hx
      omega
  unfold number
  rw [htw _ hdig]
  dsimp only
  have hlen : (dec n).length ≤ 2 := by
    rw [dec_small n (by omega)]
    split <;> simp
  have hne : (dec n).isEmpty = false := by
    rw [dec_small n (by omega)]
    split <;> rfl
  have hhead : ¬ (dec n).head? = some 48 := by
    rw [dec_small n (by omega)]
    split
    · simp; omega
    · simp; omega
  have hval : (dec n).foldl (fun n c => 10 * n + (c - 48)) 0 = n := by
    rw [dec_small n (by omega)]
    split
    · simp
    · simp; omega
  have hno : ¬ (2 < (dec n).length ∨ (dec n).head? = some 48 ∨ n < 2) := by
    intro q
    rcases q with q | q | q
    · omega
    · exact hhead q
    · omega
  rw [hne, hval, if_neg (by decide), if_neg hno]
  rw [List.drop_left]

theorem head_shown : ∀ {x : Ex}, good x → ∀ r, ((shown x ++ r).head?.any isDigit) = false
  | .run c n, h, r => by
    unfold shown
    have : c < 26 := h.1
    simp [isDigit]
    omega
  | .group e n, h, r => by
    unfold shown
    simp [isDigit]
  | .mirror odd e, h, r => by
    unfold shown
    split <;> simp [isDigit]
  | .seq a b, h, r => by
    unfold shown
    rw [List.append_assoc]
    exact head_shown h.1 _

theorem shown_group (x : Ex) (n : Nat) : shown (.group x n) = 40 :: (shown x ++ 41 :: dec n) := rfl
theorem shown_odd (x : Ex) : shown (.mirror true x) = 91 :: (shown x ++ [93]) := rfl
theorem shown_even (x : Ex) : shown (.mirror false x) = 60 :: (shown x ++ [62]) := rfl
theorem shown_seq (a b : Ex) : shown (.seq a b) = shown a ++ shown b := rfl
/-- the machine over a shown text: it tells as many stitches, it is as deep -/
theorem mres_shown : ∀ {x : Ex}, good x → ∀ (at_ : Nat) (r : Bytes) (e : Option Ex) (c : Int) (us : List (Int × Option Ex)), us.length + depth x ≤ 8 → (r.head?.any isDigit) = false →
    ∃ e', mres ⟨at_, shown x ++ r, e, c, us⟩ = mres ⟨at_ + (shown x).length, r, some e', c, us⟩ ∧ depth e' = max (dpO e) (depth x) ∧ size e' = szO e + size x
  | .run k n, h, at_, r, e, c, us, _, hr => by
    have hk : k < 26 := h.1
    have h1 : 1 ≤ n := h.2.1
    have h2 : n ≤ 99 := h.2.2
    have hl : isLetter (97 + k) = true := by
      unfold isLetter
      simp only [Bool.and_eq_true, decide_eq_true_eq]
      omega
    refine ⟨joined e (.run k n), ?_, dpO_joined e _, szO_joined e _⟩
    unfold shown
    by_cases hn : n = 1
    · rw [if_pos hn]
      refine mres_step ?_
      unfold mstep
      simp only [List.cons_append, List.nil_append]
      rw [if_pos hl, if_neg (by rw [hr]; decide), hn]
      simp
    · rw [if_neg hn]
      have hd : ((dec n ++ r).head?.any isDigit) = true := by
        rw [dec_small n (by omega)]
        split
        · simp [isDigit]; omega
        · simp [isDigit]; omega
      refine mres_step ?_
      unfold mstep
      simp only [List.cons_append]
      rw [if_pos hl, if_pos hd, number_dec (by omega) h2 hr]
      simp only [List.length_cons]
      rw [show 97 + k - 97 = k by omega, show at_ + 1 + (dec n).length = at_ + ((dec n).length + 1) by omega]
  | .group x n, h, at_, r, e, c, us, hd, hr => by
    have h1 : 2 ≤ n := h.2.1
    have h2 : n ≤ 99 := h.2.2
    have hd' : us.length + (depth x + 1) ≤ 8 := hd
    have s1 : mres ⟨at_, shown (.group x n) ++ r, e, c, us⟩ = mres ⟨at_ + 1, shown x ++ (41 :: dec n ++ r), none, 41, (c, e) :: us⟩ := by
      refine mres_step ?_
      rw [shown_group]
      unfold mstep
      simp only [List.cons_append, List.append_assoc]
      rw [if_neg (by decide), if_pos (by decide), if_neg (by omega)]
      rfl
    obtain ⟨x', hm, hx1, hx2⟩ := mres_shown (x := x) h.1 (at_ + 1) (41 :: dec n ++ r) none 41 ((c, e) :: us) (by simp only [List.length_cons]; omega) (by simp [isDigit])
    have s2 : mres ⟨at_ + 1 + (shown x).length, 41 :: dec n ++ r, some x', 41, (c, e) :: us⟩ = mres ⟨at_ + (shown (.group x n)).length, r, some (joined e (.group x' n)), c, us⟩ := by
      refine mres_step ?_
      unfold mstep
      simp only [List.cons_append]
      rw [if_neg (by decide), if_neg (by decide), if_pos (by rfl), if_pos (by decide), number_dec h1 h2 hr]
      dsimp only
      rw [show at_ + 1 + (shown x).length + 1 + (dec n).length = at_ + (shown (.group x n)).length by
        rw [shown_group]
        simp only [List.length_cons, List.length_append]
        omega]
    refine ⟨joined e (.group x' n), s1.trans (hm.trans s2), ?_, ?_⟩
    · have := dpO_joined e (.group x' n)
      simp only [dpO] at this
      rw [this]
      simp only [depth, hx1, dpO]
      simp
    · have := szO_joined e (.group x' n)
      simp only [szO] at this
      rw [this]
      simp only [size, hx2, szO]
      rw [Nat.zero_add]
  | .mirror odd x, h, at_, r, e, c, us, hd, hr => by
    have hd' : us.length + (depth x + 1) ≤ 8 := hd
    cases odd with
    | true =>
      have s1 : mres ⟨at_, shown (.mirror true x) ++ r, e, c, us⟩ = mres ⟨at_ + 1, shown x ++ (93 :: r), none, 93, (c, e) :: us⟩ := by
        refine mres_step ?_
        rw [shown_odd]
        unfold mstep
        simp only [List.cons_append, List.append_assoc, List.nil_append]
        rw [if_neg (by decide), if_pos (by decide), if_neg (by omega)]
        rfl
      obtain ⟨x', hm, hx1, hx2⟩ := mres_shown (x := x) h (at_ + 1) (93 :: r) none 93 ((c, e) :: us) (by simp only [List.length_cons]; omega) (by simp [isDigit])
      have s2 : mres ⟨at_ + 1 + (shown x).length, 93 :: r, some x', 93, (c, e) :: us⟩ = mres ⟨at_ + (shown (.mirror true x)).length, r, some (joined e (.mirror true x')), c, us⟩ := by
        refine mres_step ?_
        unfold mstep
        dsimp only
        rw [if_neg (by decide), if_neg (by decide), if_pos (by rfl), if_neg (by decide)]
        rw [show at_ + 1 + (shown x).length + 1 = at_ + (shown (.mirror true x)).length by
          rw [shown_odd]
          simp only [List.length_cons, List.length_append, List.length_nil]
          omega]
        rfl
      refine ⟨joined e (.mirror true x'), s1.trans (hm.trans s2), ?_, ?_⟩
      · have := dpO_joined e (.mirror true x')
        simp only [dpO] at this
        rw [this]
        simp only [depth, hx1, dpO]
        simp
      · have := szO_joined e (.mirror true x')
        simp only [szO] at this
        rw [this]
        simp only [size, hx2, szO]
        rw [Nat.zero_add]
    | false =>
      have s1 : mres ⟨at_, shown (.mirror false x) ++ r, e, c, us⟩ = mres ⟨at_ + 1, shown x ++ (62 :: r), none, 62, (c, e) :: us⟩ := by
        refine mres_step ?_
        rw [shown_even]
        unfold mstep
        simp only [List.cons_append, List.append_assoc, List.nil_append]
        rw [if_neg (by decide), if_pos (by decide), if_neg (by omega)]
        rfl
      obtain ⟨x', hm, hx1, hx2⟩ := mres_shown (x := x) h (at_ + 1) (62 :: r) none 62 ((c, e) :: us) (by simp only [List.length_cons]; omega) (by simp [isDigit])
      have s2 : mres ⟨at_ + 1 + (shown x).length, 62 :: r, some x', 62, (c, e) :: us⟩ = mres ⟨at_ + (shown (.mirror false x)).length, r, some (joined e (.mirror false x')), c, us⟩ := by
        refine mres_step ?_
        unfold mstep
        dsimp only
        rw [if_neg (by decide), if_neg (by decide), if_pos (by rfl), if_neg (by decide)]
        rw [show at_ + 1 + (shown x).length + 1 = at_ + (shown (.mirror false x)).length by
          rw [shown_even]
          simp only [List.length_cons, List.length_append, List.length_nil]
          omega]
        rfl
      refine ⟨joined e (.mirror false x'), s1.trans (hm.trans s2), ?_, ?_⟩
      · have := dpO_joined e (.mirror false x')
        simp only [dpO] at this
        rw [this]
        simp only [depth, hx1, dpO]
        simp
      · have := szO_joined e (.mirror false x')
        simp only [szO] at this
        rw [this]
        simp only [size, hx2, szO]
        rw [Nat.zero_add]
  | .seq a b, h, at_, r, e, c, us, hd, hr => by
    have hd' : us.length + max (depth a) (depth b) ≤ 8 := hd
    obtain ⟨a', ha, ha1, ha2⟩ := mres_shown (x := a) h.1 at_ (shown b ++ r) e c us (by omega) (head_shown h.2 r)
    obtain ⟨b', hb, hb1, hb2⟩ := mres_shown (x := b) h.2 (at_ + (shown a).length) r (some a') c us (by omega) hr
    refine ⟨b', ?_, ?_, ?_⟩
    · rw [show shown (.seq a b) ++ r = shown a ++ (shown b ++ r) by rw [shown_seq, List.append_assoc], ha, hb]
      rw [show at_ + (shown (.seq a b)).length = at_ + (shown a).length + (shown b).length by rw [shown_seq, List.length_append]; omega]
    · rw [hb1]
      simp only [dpO, ha1, depth]
      omega
    · rw [hb2]
      simp only [szO, ha2, size]
      omega

/-- a shown text is read: as many stitches, as deep -/
theorem read_shown {x : Ex} (h : good x) (hd : depth x ≤ 8) (hs : size x ≤ 40) : ∃ y, Vbktaf.read (shown x) = .ok y ∧ depth y = depth x := by
  obtain ⟨y, hy, h1, h2⟩ := mres_shown h 0 [] none (-1) [] (by simpa using hd) rfl
  rw [List.append_nil] at hy
  refine ⟨y, ?_, ?_⟩
  · rw [read_mres]
    unfold ms0
    rw [hy, mres_nil rfl]
    unfold mend
    dsimp only
    rw [if_neg]
    rw [h2]
    simp only [szO, LONG]
    omega
  · rw [h1]
    simp [dpO]

/-! ## the told text is such a text -/
theorem bw_one {w : Weights} {l : List Nat} {i : Nat} (h : i + 1 ≤ l.length) : (bw w l i 1).1 = .run := by
  have m := mem_ways (bw_mem (w := w) (Nat.le_refl 1) h)
  rw [part_length h] at m
  generalize bw w l i 1 = b at m
  obtain ⟨b1, b2⟩ := b
  cases b1 with
  | run => rfl
  | group p =>
    have q := hasPeriod_facts m.1
    rw [part_length h] at q
    omega
  | mirror => dsimp only at m; omega
  | odd => dsimp only at m; omega
  | split k => dsimp only at m; omega

theorem head_part {l : List Nat} {i : Nat} (h : i + 1 ≤ l.length) : l[i]? = some ((part l i 1).headD 0) := by
  unfold part
  have : l.drop i = l[i]'(by omega) :: l.drop (i + 1) := List.drop_eq_getElem_cons (by omega)
  rw [this, List.getElem?_eq_getElem (show i < l.length by omega)]
  rfl

theorem good_tx {w : Weights} {l : List Nat} (hl : l.length ≤ 40) (hc : ∀ c ∈ l, c < 26) : ∀ {n : Nat}, 1 ≤ n → ∀ {i : Nat}, i + n ≤ l.length → good (tx w l i n) := by
  intro n
  induction n using Nat.strongRecOn with
  | _ n ih =>
    intro h1 i h
    have m := mem_ways (bw_mem (w := w) h1 h)
    rw [part_length h] at m
    rw [tx_eq h1 h]
    generalize bw w l i n = b at m
    obtain ⟨b1, b2⟩ := b
    cases b1 with
    | run =>
      refine ⟨hc _ (List.mem_of_getElem? (head_part (by omega))), h1, by omega⟩
    | group p =>
      dsimp only at m ⊢
      have q := hasPeriod_facts m.1
      rw [part_length h] at q
      have e := Nat.div_add_mod n p
      rw [q.2.2, Nat.add_zero] at e
      have h3 : 2 ≤ n / p := by
        apply Nat.le_of_not_lt
        intro hlt
        have : n / p ≤ 1 := by omega
        have := Nat.mul_le_mul_left p this
        omega
      refine ⟨ih p q.2.1 q.1 (by omega), h3, ?_⟩
      have := Nat.div_le_self n p
      omega
    | mirror =>
      dsimp only at m ⊢
      exact ih (n / 2) (by omega) (by omega) (by omega)
    | odd =>
      dsimp only at m ⊢
      exact ih ((n + 1) / 2) (by omega) (by omega) (by omega)
    | split k =>
      dsimp only at m ⊢
      exact ⟨ih k (by omega) (by omega) (by omega), ih (n - k) (by omega) (by omega) (by omega)⟩

theorem size_tx {w : Weights} {l : List Nat} : ∀ {n : Nat}, 1 ≤ n → ∀ {i : Nat}, i + n ≤ l.length → size (tx w l i n) = n := by
  intro n
  induction n using Nat.strongRecOn with
  | _ n ih =>
    intro h1 i h
    have m := mem_ways (bw_mem (w := w) h1 h)
    rw [part_length h] at m
    rw [tx_eq h1 h]
    generalize bw w l i n = b at m
    obtain ⟨b1, b2⟩ := b
    cases b1 with
    | run => rfl
    | group p =>
      dsimp only at m ⊢
      have q := hasPeriod_facts m.1
      rw [part_length h] at q
      have e := Nat.div_add_mod n p
      rw [q.2.2, Nat.add_zero] at e
      show n / p * size (tx w l i p) = n
      rw [ih p q.2.1 q.1 (by omega), Nat.mul_comm]
      exact e
    | mirror =>
      dsimp only at m ⊢
      show (if false = true then 2 * size (tx w l i (n / 2)) - 1 else 2 * size (tx w l i (n / 2))) = n
      rw [ih (n / 2) (by omega) (by omega) (by omega), if_neg (by decide)]
      omega
    | odd =>
      dsimp only at m ⊢
      show (if true = true then 2 * size (tx w l i ((n + 1) / 2)) - 1 else 2 * size (tx w l i ((n + 1) / 2))) = n
      rw [ih ((n + 1) / 2) (by omega) (by omega) (by omega), if_pos rfl]
      omega
    | split k =>
      dsimp only at m ⊢
      show size (tx w l i k) + size (tx w l (i + k) (n - k)) = n
      rw [ih k (by omega) (by omega) (by omega), ih (n - k) (by omega) (by omega) (by omega)]
      omega

theorem depth_tx1 {w : Weights} {l : List Nat} {i : Nat} (h : i + 1 ≤ l.length) : depth (tx w l i 1) = 0 := by
  rw [tx_eq (Nat.le_refl 1) h, bw_one h]
  rfl
theorem depth_tx {w : Weights} {l : List Nat} : ∀ {n : Nat}, 1 ≤ n → ∀ {i d : Nat}, i + n ≤ l.length → n ≤ 2 ^ d + 1 → depth (tx w l i n) ≤ d + 1 := by
  intro n
  induction n using Nat.strongRecOn with
  | _ n ih =>
    intro h1 i d h hd
    have m := mem_ways (bw_mem (w := w) h1 h)
    rw [part_length h] at m
    rw [tx_eq h1 h]
    generalize bw w l i n = b at m
    obtain ⟨b1, b2⟩ := b
    have half : ∀ k, 1 ≤ k → k < n → 2 * k ≤ n + 1 → (n ≤ 2 → k = 1) → depth (tx w l i k) + 1 ≤ d + 1 := by
      intro k hk1 hk2 hk3 hk4
      cases d with
      | zero =>
        have : k = 1 := hk4 (by simpa using hd)
        subst this
        rw [depth_tx1 (by omega)]
        exact Nat.le_refl _
      | succ d =>
        have := ih k hk2 hk1 (i := i) (d := d) (by omega) (by rw [Nat.pow_succ] at hd; omega)
        omega
    cases b1 with
    | run => exact Nat.zero_le _
    | group p =>
      dsimp only at m ⊢
      have q := hasPeriod_facts m.1
      rw [part_length h] at q
      have e := Nat.div_add_mod n p
      rw [q.2.2, Nat.add_zero] at e
      have h3 : 2 ≤ n / p := by
        apply Nat.le_of_not_lt
        intro hlt
        have : n / p ≤ 1 := by omega
        have := Nat.mul_le_mul_left p this
        omega
      have h4 := Nat.mul_le_mul_left p h3
      exact half p q.1 q.2.1 (by omega) (by omega)
    | mirror =>
      dsimp only at m ⊢
      exact half (n / 2) (by omega) (by omega) (by omega) (by omega)
    | odd =>
      dsimp only at m ⊢
      exact half ((n + 1) / 2) (by omega) (by omega) (by omega) (by omega)
    | split k =>
      dsimp only at m ⊢
      show max (depth (tx w l i k)) (depth (tx w l (i + k) (n - k))) ≤ d + 1
      have h2 := ih k (by omega) (by omega) (i := i) (d := d) (by omega) (by omega)
      have h3 := ih (n - k) (by omega) (by omega) (i := i + k) (d := d) (by omega) (by omega)
      omega

theorem read_tx {w : Weights} {l : List Nat} (hl : l.length ≤ 40) (hc : ∀ c ∈ l, c < 26) (h0 : l ≠ []) : ∃ y, Vbktaf.read (bt w l 0 l.length) = .ok y ∧ depth y = depth (shortest w l) := by
  have h1 : 1 ≤ l.length := List.length_pos_iff.mpr h0
  have hd := depth_tx (w := w) (l := l) h1 (i := 0) (d := 6) (by omega) (by omega)
  have hs := size_tx (w := w) (l := l) h1 (i := 0) (by omega)
  exact read_shown (good_tx hl hc h1 (by omega)) (by omega) (by omega)
end Kt

/-! # The text by places, what the top has written, short words -/
namespace Kt
open PySem PySem.Spec PyProof.Rows L2
def top (i : Nat) : Stmt := PySem.Challenge.pw_knittext_s01_answers.main.body.getD i (.Pass ⟨0, 0, 0, 0⟩)
abbrev s_has_period : Stmt := top 1
abbrev s_least_period : Stmt := top 2
abbrev s_is_mirrored : Stmt := top 3
abbrev s_runs_of : Stmt := top 4
abbrev s_longest_repeat : Stmt := top 5
abbrev s_longest_mirrored : Stmt := top 6
abbrev s_swapped : Stmt := top 7
abbrev s_is_letter : Stmt := top 30
abbrev s_is_digit_at : Stmt := top 31
abbrev s_digits_from : Stmt := top 32
abbrev s_number_of : Stmt := top 33
abbrev s_Level_init : Stmt := inClass (top 34) 0
abbrev s_Level_take : Stmt := inClass (top 34) 1
abbrev s_Reading_init : Stmt := inClass (top 35) 0
abbrev s_Reading_is_right : Stmt := inClass (top 35) 1
abbrev s_Reading_fault : Stmt := inClass (top 35) 2
abbrev s_Reading_told : Stmt := inClass (top 35) 3
abbrev s_Reading_cost : Stmt := inClass (top 35) 4
abbrev s_Reading_fail : Stmt := inClass (top 35) 5
abbrev s_Reading_take_byte : Stmt := inClass (top 35) 6
abbrev s_Reading_take_letter : Stmt := inClass (top 35) 7
abbrev s_Reading_take_number : Stmt := inClass (top 35) 8
abbrev s_Reading_take_opening : Stmt := inClass (top 35) 9
abbrev s_Reading_take_closing : Stmt := inClass (top 35) 10
abbrev s_Reading_take_repeat : Stmt := inClass (top 35) 11
abbrev s_Reading_take_mirrored : Stmt := inClass (top 35) 12
abbrev s_Reading_take_end : Stmt := inClass (top 35) 13
abbrev s_read_text : Stmt := top 36
abbrev s_first_half : Stmt := top 43
abbrev s_alike_ways : Stmt := top 44
abbrev s_period_ways : Stmt := top 45
abbrev s_mirror_ways : Stmt := top 46
abbrev s_split_ways : Stmt := top 47
abbrev s_stretch_ways : Stmt := top 48
abbrev s_way_cost : Stmt := top 49
abbrev s_first_least : Stmt := top 50
abbrev s_best_ways : Stmt := top 51
abbrev s_costs_of : Stmt := top 52
abbrev s_digits_of : Stmt := top 53
abbrev s_text_by_way : Stmt := top 54
abbrev s_told_text : Stmt := top 55
abbrev s_stretch_count : Stmt := top 56
abbrev s_flat_table : Stmt := top 57
abbrev s_table_of : Stmt := top 58
abbrev s_is_right_table : Stmt := top 59
abbrev s_Weights_init : Stmt := inClass (top 72) 0
abbrev s_Pattern_init : Stmt := inClass (top 73) 0
abbrev s_are_within : Stmt := top 74
abbrev s_is_stitch : Stmt := top 75
abbrev s_is_text : Stmt := top 76
abbrev s_place_refusal : Stmt := top 77
abbrev s_lengthening_refusal : Stmt := top 78
abbrev s_insert_refusal : Stmt := top 79
abbrev s_stretch_refusal : Stmt := top 80
abbrev s_table_refusal : Stmt := top 81
abbrev s_call_weights : Stmt := top 82
abbrev s_call_word : Stmt := top 83
abbrev s_call_read : Stmt := top 84
abbrev s_call_tell : Stmt := top 85
abbrev s_call_shortest : Stmt := top 86
abbrev s_call_cost : Stmt := top 87
abbrev s_call_stretch : Stmt := top 88
abbrev s_call_table : Stmt := top 89
abbrev s_call_proves : Stmt := top 90
abbrev s_call_ways : Stmt := top 91
abbrev s_call_runs : Stmt := top 92
abbrev s_call_repeat : Stmt := top 93
abbrev s_call_mirrored : Stmt := top 94
abbrev s_call_change : Stmt := top 95
abbrev s_call_insert : Stmt := top 96
abbrev s_call_remove : Stmt := top 97
abbrev s_call_reverse : Stmt := top 98
abbrev s_call_unroll : Stmt := top 99
abbrev s_call_more : Stmt := top 100
abbrev s_call_double : Stmt := top 101
abbrev s_call_swap : Stmt := top 102
abbrev s_call_sizes : Stmt := top 103
abbrev s_answers : Stmt := top 107
/-- a name of the module that holds a whole number -/
def GI (mg : Str → Option Value) (x : Str) (n : Int) : Prop := ∃ u, mg x = some u ∧ RelV (.int n) u
/-- a def of the module as it stands behind the top -/
def DF (K : PySem.W.Frag) (mg : Str → Option Value) (x : Str) (st : Stmt) : Prop := ∃ f fd, C8.Def K mg x st f fd ∧ fd.defaults = .none
/-- a method of the class at C -/
def MF (K : PySem.W.Frag) (C : Addr) (m q : Str) (st : Stmt) : Prop := ∃ f fd, Cls K C ∧ Meth K C m f ∧ C8.Fun K m q st f fd ∧ fd.defaults = .none
/-- a class that is made by its name -/
def CF (K : PySem.W.Frag) (mg : Str → Option Value) (C : Addr) (x q : Str) (st : Stmt) : Prop := ∃ f fd, Mk K C f ∧ mg x = some (.ref C) ∧ C8.Fun K "__init__" q st f fd ∧ fd.defaults = .none
structure Tx (K : PySem.W.Frag) (mg : Str → Option Value) : Prop where
  g_MOST_STITCHES : GI mg "MOST_STITCHES" 40
  g_MOST_BRACKETS : GI mg "MOST_BRACKETS" 8
  g_MOST_DIGITS : GI mg "MOST_DIGITS" 2
  g_LEAST_NUMBER : GI mg "LEAST_NUMBER" 2
  g_LETTER_A : GI mg "LETTER_A" 97
  g_LETTER_Z : GI mg "LETTER_Z" 122
  g_DIGIT_0 : GI mg "DIGIT_0" 48
  g_DIGIT_9 : GI mg "DIGIT_9" 57
  g_ROUND_OPENING : GI mg "ROUND_OPENING" 40
  g_ROUND_CLOSING : GI mg "ROUND_CLOSING" 41
  g_ANGLE_OPENING : GI mg "ANGLE_OPENING" 60
  g_ANGLE_CLOSING : GI mg "ANGLE_CLOSING" 62
  g_SQUARE_OPENING : GI mg "SQUARE_OPENING" 91
  g_SQUARE_CLOSING : GI mg "SQUARE_CLOSING" 93
  g_NO_CLOSING : GI mg "NO_CLOSING" (-1)
  g_NO_FAULT : GI mg "NO_FAULT" 0
  g_WRONG_BYTE : GI mg "WRONG_BYTE" 1
  g_WRONG_NUMBER : GI mg "WRONG_NUMBER" 2
  g_TOO_LONG : GI mg "TOO_LONG" 3
  g_TOO_DEEP : GI mg "TOO_DEEP" 4
  g_ALIKE : GI mg "ALIKE" 0
  g_PERIOD : GI mg "PERIOD" 1
  g_EVEN_MIRROR : GI mg "EVEN_MIRROR" 2
  g_ODD_MIRROR : GI mg "ODD_MIRROR" 3
  g_SPLIT : GI mg "SPLIT" 4
  g_DONE : GI mg "DONE" 0
  g_OUT_OF_RANGE : GI mg "OUT_OF_RANGE" (-1)
  g_ROW_IS_EMPTY : GI mg "ROW_IS_EMPTY" (-2)
  g_NO_SUCH_PLACE : GI mg "NO_SUCH_PLACE" (-3)
  g_WRONG_COUNT : GI mg "WRONG_COUNT" (-6)
  g_ROW_TOO_LONG : GI mg "ROW_TOO_LONG" (-8)
  g_MOST_WEIGHT : GI mg "MOST_WEIGHT" 9
  g_LAST_STITCH : GI mg "LAST_STITCH" 25
  g_MOST_BYTES : GI mg "MOST_BYTES" 400
  g_LAST_BYTE : GI mg "LAST_BYTE" 255
  g_MOST_COST : GI mg "MOST_COST" 1000
  g_LISTED : GI mg "LISTED" (-1)
  b_len : mg "len" = none
  b_range : mg "range" = none
  b_enumerate : mg "enumerate" = none
  b_list : mg "list" = none
  b_reversed : mg "reversed" = none
  b_all : mg "all" = none
  b_max : mg "max" = none
  b_min : mg "min" = none
  b_set : mg "set" = none
section
variable {P : Program} {w : World} {K : PySem.W.Frag} {mg : Str → Option Value} {base : Heap}
/-- a def's promise, by its body -/
theorem cal_by {x : Str} {st : Stmt} {N ps : List Str} {k : Nat} {sp : Sp} (D : DF K mg x st) (S : FnScope N ps (C8.fnScope st))
    (hb : ∀ (kV doc pm : Value) (an : Option Addr) (cdv ct : Value) (us : List Value), us.length = ps.length → bindArgs (PySem.W.fnOf x x (C8.fnArgs st) (C8.fnBody st) (C8.fnScope st) .none kV doc pm an cdv ct) ⟨us, []⟩ = pure (ps.zip us))
    (len : ∀ vs H Q E, sp vs H Q E → vs.length = ps.length)
    (hbody : ∀ (f : Addr) (cdv : Value) (A : Around) (outer : List Env) (s : Shared) (H : Hp) (vs : List V) (Q : VK) (E : XK), Room k (A.deeper (envOfC x (C8.fnScope st) s.heap.objs.size f cdv)) → sp vs H Q E →
      ∃ t, PSs (cxOf L2.CX0 P w K mg base N x (C8.fnScope st) f cdv A outer s H E).nox (C8.fnBody st) t ∧ t { nx := fun _ H' => Q .non H', rt := Q } (start N vs) H) : C8.Cal P w K mg base (k + 1) x sp [] := by
  obtain ⟨f, fd, D1, df⟩ := D
  exact C8.cal0 D1 (D1.fn.binds df hb) .nil S len fun cdv A outer s H vs Q E hr h => hbody f cdv A outer s H vs Q E hr h
theorem met_by {C : Addr} {x q : Str} {st : Stmt} {N ps : List Str} {k : Nat} {sp : Sp} (D : MF K C x q st) (S : FnScope N ps (C8.fnScope st))
    (hb : ∀ (kV doc pm : Value) (an : Option Addr) (cdv ct : Value) (us : List Value), us.length = ps.length → bindArgs (PySem.W.fnOf x q (C8.fnArgs st) (C8.fnBody st) (C8.fnScope st) .none kV doc pm an cdv ct) ⟨us, []⟩ = pure (ps.zip us))
    (len : ∀ vs H Q E, sp vs H Q E → vs.length = ps.length)
    (hbody : ∀ (f : Addr) (cdv : Value) (A : Around) (outer : List Env) (s : Shared) (H : Hp) (vs : List V) (Q : VK) (E : XK), Room k (A.deeper (envOfC q (C8.fnScope st) s.heap.objs.size f cdv)) → sp vs H Q E →
      ∃ t, PSs (cxOf L2.CX0 P w K mg base N q (C8.fnScope st) f cdv A outer s H E).nox (C8.fnBody st) t ∧ t { nx := fun _ H' => Q .non H', rt := Q } (start N vs) H) : C8.Met P w K mg base (k + 1) C x sp [] := by
  obtain ⟨f, fd, hc, hm, F, df⟩ := D
  exact C8.met0 hc hm F (F.binds df hb) S len fun cdv A outer s H vs Q E hr h => hbody f cdv A outer s H vs Q E hr h
theorem mak_by {C : Addr} {x q : Str} {st : Stmt} {N ps : List Str} {k : Nat} {sp : Sp} (D : CF K mg C x q st) (S : FnScope N ps (C8.fnScope st))
    (hb : ∀ (kV doc pm : Value) (an : Option Addr) (cdv ct : Value) (us : List Value), us.length = ps.length → bindArgs (PySem.W.fnOf "__init__" q (C8.fnArgs st) (C8.fnBody st) (C8.fnScope st) .none kV doc pm an cdv ct) ⟨us, []⟩ = pure (ps.zip us))
    (len : ∀ vs H Q E, sp vs H Q E → vs.length = ps.length)
    (hbody : ∀ (f : Addr) (cdv : Value) (A : Around) (outer : List Env) (s : Shared) (H : Hp) (vs : List V) (Q : VK) (E : XK), Room k (A.deeper (envOfC q (C8.fnScope st) s.heap.objs.size f cdv)) → sp vs H Q E →
      ∃ t, PSs (cxOf L2.CX0 P w K mg base N q (C8.fnScope st) f cdv A outer s H E).nox (C8.fnBody st) t ∧ t { nx := fun _ H' => Q .non H', rt := Q } (start N vs) H) : C8.Mak P w K mg base (k + 1) x C sp [] := by
  obtain ⟨f, fd, hM, hm, F, df⟩ := D
  exact C8.mak0 hM hm F (F.binds df hb) .nil S len fun cdv A outer s H vs Q E hr h => hbody f cdv A outer s H vs Q E hr h
end
theorem if_t {c : Bool} {A B : Prop} (hc : c = true) (h : A) : if c = true then A else B := by
  rw [if_pos hc]
  exact h
theorem if_f {c : Bool} {A B : Prop} (hc : c = false) (h : B) : if c = true then A else B := by
  rw [hc, if_neg Bool.false_ne_true]
  exact h
/-- natural numbers as values -/
abbrev nv (l : List Nat) : List V := l.map fun (n : Nat) => V.int (n : Int)
abbrev iv (l : List Int) : List V := l.map V.int
theorem nv_get {l : List Nat} {i : Nat} {n : Nat} (h : l[i]? = some n) : (nv l)[i]? = some (.int (n : Int)) := by
  rw [List.getElem?_map, h]
  rfl

/-! ## words about values, beside the layer's -/
section
open Evl
variable {K : PySem.W.Frag} {σ : L2.St} {H H' : Hp} {ta tb tc te : TE}
theorem ev_chain {f g : Int → Int → Bool} {x y z : Int} (ha : Ev ta σ H (.int x)) (hb : Ev tb σ H (.int y)) (hc : f x y = true → Ev tc σ H (.int z)) :
    Ev (tChain (rI0 fun i j => .bl (f i j)) (rI0 fun i j => .bl (g i j)) ta tb tc) σ H (.bl (f x y && g y z)) := fun H1 e Q q =>
  ha H1 e _ fun H2 e2 => hb H2 (e.trans e2) _ fun H3 e3 => ⟨x, y, rfl, rfl, f x y, rfl, by
    cases hf : f x y with
    | true =>
      rw [hf] at q
      exact if_t rfl (hc hf H3 ((e.trans e2).trans e3) _ fun H4 e4 => ⟨y, z, rfl, rfl, q H4 ((e2.trans e3).trans e4)⟩)
    | false =>
      rw [hf] at q
      exact if_f rfl (q H3 (e2.trans e3))⟩
theorem ev_ixL {a : Addr} {xs : List V} {i : Int} {v : V} (ha : Ev ta σ H (.ref a)) (hb : Ev tb σ H (.int i)) (h : SqL K H a xs) (hv : atI xs i = some v) : Ev (tOp (rIxL K) ta tb) σ H v :=
  ev_op ha hb (rv_ixL h hv)
theorem ev_ixT {a : Addr} {xs : List V} {i : Int} {v : V} (ha : Ev ta σ H (.ref a)) (hb : Ev tb σ H (.int i)) (h : SqT K H a xs) (hv : atI xs i = some v) : Ev (tOp (rIxT K) ta tb) σ H v :=
  ev_op ha hb (rv_ixT h hv)
theorem ev_add {x y : Int} (ha : Ev ta σ H (.int x)) (hb : Ev tb σ H (.int y)) : Ev (tOp (rI0 fun i j => .int (i + j)) ta tb) σ H (.int (x + y)) := ev_op ha hb rv_I0
theorem ev_sub {x y : Int} (ha : Ev ta σ H (.int x)) (hb : Ev tb σ H (.int y)) : Ev (tOp (rI0 fun i j => .int (i - j)) ta tb) σ H (.int (x - y)) := ev_op ha hb rv_I0
/-- a field of an instance -/
theorem ev_fld {o : Addr} {C dx : Addr} {fs : List (Str × V)} {f : Str} {v : V} (ha : Ev ta σ H (.ref o)) (ho : H o = some (.ins C dx fs)) (hc : Cls K C) (hn : NoAttr K C f) (hl : fs.lookup f = some v) : Ev (tFld K ta f) σ H v := fun H1 e Q q =>
  ha H1 e _ fun H2 e2 => ⟨o, C, dx, fs, v, rfl, (e.trans e2) o _ ho, hc, hn, hl, q H2 e2⟩
end
end Kt

/-! # Digits and numbers of a text -/
namespace Kt
open PySem PySem.Spec PyProof.Rows L2 Evl
section
variable {P : Program} {w : World} {K : PySem.W.Frag} {mg : Str → Option Value} {base : Heap}
/-- is_letter -/
def sp_is_letter : Sp := fun vs H Q _ => ∃ n : Int, vs = [.int n] ∧ RetV (.bl (decide (97 ≤ n) && decide (n ≤ 122))) H Q
theorem sc_is_letter : FnScope ["byte"] ["byte"] (C8.fnScope s_is_letter) := C8.fnScope_by (by decide +kernel)
theorem cal_is_letter (D : DF K mg "is_letter" s_is_letter) (T : Tx K mg) : C8.Cal P w K mg base 1 "is_letter" sp_is_letter [] := by
  refine cal_by D sc_is_letter (fun _ _ _ _ _ _ us hl => match us, hl with | [_], _ => rfl) (fun vs H Q E h => ?_) (fun f cdv A outer s H vs Q E hr h => ?_)
  · obtain ⟨n, rfl, _⟩ := h
    rfl
  · obtain ⟨n, rfl, k⟩ := h
    refine ⟨_, (pss_one (ps_ret (pe_chain op_le op_le (C8.pe_gc rfl T.g_LETTER_A) (pv 0) (C8.pe_gc rfl T.g_LETTER_Z)))), ?_⟩
    exact s_ret (ev_chain ev_c (ev_var rfl) fun _ => ev_c) fun H1 e => k H1 e

def sp_is_digit_at (K : PySem.W.Frag) : Sp := fun vs H Q _ => ∃ (a : Addr) (b : List Nat) (i : Nat), vs = [.ref a, .int (i : Int)] ∧ SqL K H a (nv b) ∧ RetV (.bl ((b.drop i).head?.any Vbktaf.isDigit)) H Q
theorem digit_int (n : Nat) : (decide ((48 : Int) ≤ (n : Int)) && decide ((n : Int) ≤ 57)) = Vbktaf.isDigit n := by
  unfold Vbktaf.isDigit
  congr 1
  · exact decide_eq_decide.mpr (by omega)
  · exact decide_eq_decide.mpr (by omega)
theorem sc_is_digit_at : FnScope ["text", "place"] ["text", "place"] (C8.fnScope s_is_digit_at) := C8.fnScope_by (by decide +kernel)
theorem cal_is_digit_at (D : DF K mg "is_digit_at" s_is_digit_at) (T : Tx K mg) : C8.Cal P w K mg base 1 "is_digit_at" (sp_is_digit_at K) [] := by
  refine cal_by D sc_is_digit_at (fun _ _ _ _ _ _ us hl => match us, hl with | [_, _], _ => rfl) (fun vs H Q E h => ?_) (fun f cdv A outer s H vs Q E hr h => ?_)
  · obtain ⟨a, b, i, rfl, _⟩ := h
    rfl
  · obtain ⟨a, b, i, rfl, hS, k⟩ := h
    refine ⟨_, (pss_one (ps_ret (pe_and (pe_cmpR op_lt (pv 1) (pe_callB call_len_seq (by rfl) T.b_len PySem.boot_len (pa_cons (pv 0) pa_nil)) (nomark _)) (pe_one (pe_chain op_le op_le (C8.pe_gc rfl T.g_DIGIT_0) (pe_ix ix_list (pv 0) (pv 1) (fun _ _ => rfl)) (C8.pe_gc rfl T.g_DIGIT_9)))))), ?_⟩
    by_cases hi : i < b.length
    · have hv : (nv b)[i]? = some (.int ((b[i] : Nat) : Int)) := nv_get (List.getElem?_eq_getElem hi)
      have hd : (b.drop i).head?.any Vbktaf.isDigit = Vbktaf.isDigit b[i] := by
        rw [List.drop_eq_getElem_cons hi]
        rfl
      rw [hd, ← digit_int] at k
      refine s_ret (v := .bl (true && _)) (ev_andV (ev_is (ev_op (ev_var rfl) (ev_len (ev_var rfl) hS) rv_I0) ?_) fun _ => ev_chain ev_c (ev_ixL (ev_var rfl) (ev_var rfl) hS (atI_nat hv)) fun _ => ev_c) fun H1 e => k H1 e
      rw [List.length_map]
      exact congrArg V.bl (decide_eq_true (by omega))
    · have hd : (b.drop i).head?.any Vbktaf.isDigit = false := by
        rw [List.drop_eq_nil_of_le (by omega)]
        rfl
      rw [hd] at k
      refine s_ret (v := .bl (false && false)) (ev_andV (ev_is (ev_op (ev_var rfl) (ev_len (ev_var rfl) hS) rv_I0) ?_) fun z => nomatch z) fun H1 e => k H1 e
      rw [List.length_map]
      exact congrArg V.bl (decide_eq_false (by omega))

/-- the digits that stand together, as numbers -/
def digs (b : List Nat) : List Nat := (b.takeWhile Vbktaf.isDigit).map fun c => c - 48
def sp_digits_from (K : PySem.W.Frag) : Sp := fun vs H Q _ => ∃ (a : Addr) (b : List Nat) (i : Nat), vs = [.ref a, .int (i : Int)] ∧ SqL K H a (nv b) ∧ b.length ≤ 1000 ∧ RetL (nv (digs (b.drop i))) H Q
theorem takeWhile_more {p : Nat → Bool} : ∀ {l : List Nat} {j : Nat} {c : Nat}, l[j]? = some c → (∀ x ∈ l.take j, p x = true) → p c = true → l.takeWhile p = l.take (j + 1) ++ (l.drop (j + 1)).takeWhile p
  | [], j, c, h, _, _ => by simp at h
  | a :: l, 0, c, h, _, hc => by
    simp only [List.getElem?_cons_zero, Option.some.injEq] at h
    subst h
    simp [List.takeWhile_cons, hc]
  | a :: l, j + 1, c, h, hl, hc => by
    have ha : p a = true := hl a (by simp)
    have ih := takeWhile_more (l := l) (j := j) (c := c) (by simpa using h) (fun x hx => hl x (by simp [hx])) hc
    rw [List.takeWhile_cons, if_pos ha, ih]
    simp
theorem takeWhile_stop {p : Nat → Bool} : ∀ {l : List Nat} {j : Nat}, (∀ x ∈ l.take j, p x = true) → ((l.drop j).head?.any p) = false → l.takeWhile p = l.take j
  | [], j, _, _ => by simp
  | a :: l, 0, _, h => by
    have : p a = false := by simpa using h
    simp [List.takeWhile_cons, this]
  | a :: l, j + 1, hl, h => by
    have ha : p a = true := hl a (by simp)
    have ih := takeWhile_stop (l := l) (j := j) (fun x hx => hl x (by simp [hx])) (by simpa using h)
    rw [List.takeWhile_cons, if_pos ha, ih]
    simp
theorem sc_digits_from : FnScope ["text", "place", "digits"] ["text", "place"] (C8.fnScope s_digits_from) := C8.fnScope_by (by decide +kernel)
theorem cal_digits_from (D : DF K mg "digits_from" s_digits_from) (T : Tx K mg) (c_is_digit_at : C8.Cal P w K mg base 1 "is_digit_at" (sp_is_digit_at K) []) : C8.Cal P w K mg base 2 "digits_from" (sp_digits_from K) [] := by
  refine cal_by D sc_digits_from (fun _ _ _ _ _ _ us hl => match us, hl with | [_, _], _ => rfl) (fun vs H Q E h => ?_) (fun f cdv A outer s H vs Q E hr h => ?_)
  · obtain ⟨a, b, i, rfl, _⟩ := h
    rfl
  · obtain ⟨a, b, i, rfl, hS, hlen, k⟩ := h
    refine ⟨_, (pss_cons (ps_set (i := 2) sc_digits_from.nd rfl (Or.inl rfl) (pe_lst pa_nil)) (pss_cons (ps_while PassesOwn.never (pt_val (C8.pe_c c_is_digit_at hr (by decide) rfl (pa_cons (pv 0) (pa_cons (pe_op op_add (pv 1) (pe_callB call_len_seq (by rfl) T.b_len PySem.boot_len (pa_cons (pv 2) pa_nil))) pa_nil)))) (pss_one (ps_expr (pe_bm PySem.F.plainAttrs_list PySem.F.slot_list_append PySem.F.type_list_append mt_append (pv 2) (pa_cons (pe_op op_sub (pe_ix ix_list (pv 0) (pe_op op_add (pv 1) (pe_callB call_len_seq (by rfl) T.b_len PySem.boot_len (pa_cons (pv 2) pa_nil))) (fun _ _ => rfl)) (C8.pe_gc rfl T.g_DIGIT_0)) pa_nil))))) (pss_one (ps_ret (pv 2))))), ?_⟩
    refine q_asgL (el_lst ea_nil (by simp)) fun d H1 hd e1 hdl => ?_
    refine q_while (fun m σ' H' => ∃ j : Nat, m = b.length - j ∧ j ≤ b.length ∧ σ' = [some (.ref a), some (.int (i : Int)), some (.ref d)] ∧ Ex H H' ∧ H' d = some (.lst (nv (((b.drop i).take j).map fun c => c - 48))) ∧ (∀ x ∈ (b.drop i).take j, Vbktaf.isDigit x = true) ∧ ((b.drop i).take j).length = j) b.length ⟨0, by omega, by omega, rfl, e1, by simpa using hdl, by simp, by simp⟩ ?_
    rintro m σ' H' ⟨j, rfl, hj, rfl, e2, hdl2, hall, hlj⟩
    have hlenv : (nv (((b.drop i).take j).map fun c => c - 48)).length = j := by
      rw [List.length_map, List.length_map, hlj]
    have hpl : Ev (tOp (rI0 fun i j => .int (i + j)) (tVar 1) (tCB (rLenS K) (tCons (tVar 2) tNil))) [some (.ref a), some (.int (i : Int)), some (.ref d)] H' (.int ((i + j : Nat) : Int)) := by
      refine ev_is (ev_add (ev_var rfl) (ev_len (ev_var rfl) (sq_of hdl2))) ?_
      rw [hlenv]
      congr 1
    refine ⟨((b.drop (i + j)).head?.any Vbktaf.isDigit), et_B (ev_call (ea_cons (ev_var rfl) (ea_cons hpl ea_nil)) fun H2 e3 Q2 q2 E2 => ⟨a, b, i + j, rfl, ex_l (e2.trans e3) hS, fun H3 e4 => q2 H3 e4⟩), fun hb H2 e3 => ?_, fun hb H2 e3 => ?_⟩
    · -- one digit more
      have hin : i + j < b.length := by
        apply Nat.lt_of_not_le
        intro hge
        rw [List.drop_eq_nil_of_le hge] at hb
        cases hb
      have hc : (b.drop i)[j]? = some b[i + j] := by
        rw [List.getElem?_drop, List.getElem?_eq_getElem hin]
      have hdig : Vbktaf.isDigit b[i + j] = true := by
        rw [List.drop_eq_getElem_cons hin] at hb
        exact hb
      have h48 : 48 ≤ b[i + j] := by
        unfold Vbktaf.isDigit at hdig
        simp only [Bool.and_eq_true, decide_eq_true_eq] at hdig
        exact hdig.1
      refine ⟨fun σ2 H3 => σ2 = [some (.ref a), some (.int (i : Int)), some (.ref d)] ∧ Ex H H3 ∧ H3 d = some (.lst (nv (((b.drop i).take (j + 1)).map fun c => c - 48))), ?_, ?_⟩
      · rintro σ2 H3 ⟨rfl, e4, h4⟩
        refine ⟨b.length - (j + 1), by omega, j + 1, rfl, by omega, rfl, e4, h4, ?_, ?_⟩
        · intro x hx
          rw [List.take_succ, hc] at hx
          rcases List.mem_append.mp hx with hx | hx
          · exact hall x hx
          · simp at hx
            rw [hx]
            exact hdig
        · rw [List.take_succ, hc, List.length_append, hlj]
          rfl
      · refine s_app (v := .int ((b[i + j] - 48 : Nat) : Int)) (e3 d _ hdl2) (ev_var rfl) (ev_is (ev_sub (ev_ixL (ev_var rfl) (hpl.mono e3) (ex_l (e2.trans e3) hS) (atI_nat (nv_get (List.getElem?_eq_getElem hin)))) ev_c) ?_) (by rw [hlenv]; omega) fun H3 e4 => ⟨rfl, ?_, ?_⟩
        · congr 1
          omega
        · exact Ex.mut ((e2.trans e3).trans e4) hd
        · rw [upd_same, List.take_succ, hc]
          simp
    · refine s_ret (ev_var rfl) fun H3 e4 => ?_
      refine k d H3 hd ((e2.trans e3).trans e4) ?_
      have := takeWhile_stop (p := Vbktaf.isDigit) hall (by rw [List.drop_drop]; exact hb)
      unfold digs
      rw [this]
      exact e4 d _ (e3 d _ hdl2)

/-- the number that digits tell, or 0 -/
def numOf (d : List Nat) : Nat :=
  if 2 < d.length ∨ d.head? = some 0 then 0 else
  let n := d.foldl (fun n c => n * 10 + c) 0
  if 2 ≤ n then n else 0
def sp_number_of (K : PySem.W.Frag) : Sp := fun vs H Q _ => ∃ (a : Addr) (d : List Nat), vs = [.ref a] ∧ SqL K H a (nv d) ∧ d ≠ [] ∧ (∀ x ∈ d, x ≤ 9) ∧ RetV (.int ((numOf d : Nat) : Int)) H Q
theorem sc_number_of : FnScope ["digits", "number", "digit"] ["digits"] (C8.fnScope s_number_of) := C8.fnScope_by (by decide +kernel)
theorem fold_small : ∀ {d : List Nat} {n : Nat}, (∀ x ∈ d, x ≤ 9) → d.foldl (fun n c => n * 10 + c) n < (n + 1) * 10 ^ d.length
  | [], n, _ => by simp
  | c :: r, n, h => by
    have hc := h c (by simp)
    have ih := fold_small (d := r) (n := n * 10 + c) (fun x hx => h x (by simp [hx]))
    rw [List.foldl_cons]
    refine Nat.lt_of_lt_of_le ih ?_
    rw [List.length_cons, Nat.pow_succ, Nat.mul_comm (10 ^ r.length) 10, ← Nat.mul_assoc]
    exact Nat.mul_le_mul_right _ (by omega)
theorem cal_number_of (D : DF K mg "number_of" s_number_of) (T : Tx K mg) : C8.Cal P w K mg base 1 "number_of" (sp_number_of K) [] := by
  refine cal_by D sc_number_of (fun _ _ _ _ _ _ us hl => match us, hl with | [_], _ => rfl) (fun vs H Q E h => ?_) (fun f cdv A outer s H vs Q E hr h => ?_)
  · obtain ⟨a, d, rfl, _⟩ := h
    rfl
  · obtain ⟨a, d, rfl, hS, hne, h9, k⟩ := h
    refine ⟨_, (pss_cons (ps_if (PW.pt (pw_or (pt_cmpR op_gt (pe_callB call_len_seq (by rfl) T.b_len PySem.boot_len (pa_cons (pv 0) pa_nil)) (C8.pe_gc rfl T.g_MOST_DIGITS) (nomark _)) (pw_or1 (pt_cmpR op_eq (pe_ix ix_list (pv 0) pe_int (fun _ _ => rfl)) pe_int (nomark _))))) (pss_one (ps_ret pe_int)) pss_nil) (pss_cons (ps_set (i := 1) sc_number_of.nd rfl (Or.inl rfl) pe_int) (pss_cons (ps_for PassesOwn.never rfl (pi_list (pv 0)) (pg_name (i := 2) sc_number_of.nd rfl (Or.inl rfl)) (pss_one (ps_set (i := 1) sc_number_of.nd rfl (Or.inl rfl) (pe_op op_add (pe_op op_mul (pv 1) pe_int) (pv 2))))) (pss_one (ps_ret (pe_ifExp (pt_cmpR op_ge (pv 1) (C8.pe_gc rfl T.g_LEAST_NUMBER) (nomark _)) (pv 1) pe_int)))))), ?_⟩
    obtain ⟨c, r, rfl⟩ : ∃ c r, d = c :: r := by
      cases d with
      | nil => exact absurd rfl hne
      | cons c r => exact ⟨c, r, rfl⟩
    have t1 : EvT (tTest (tOp (rI0 fun i j => .bl (decide (j < i))) (tCB (rLenS K) (tCons (tVar 0) tNil)) (tC (.int 2)))) [some (.ref a), none, none] H (decide (2 < (c :: r).length)) := by
      refine et_test (ev_is (ev_op (ev_len (ev_var rfl) hS) ev_c rv_I0) ?_)
      rw [List.length_map]
      exact congrArg V.bl (decide_eq_decide.mpr (by omega))
    have t2 : EvT (tTest (tOp rEq (tOp (rIxL K) (tVar 0) (tC (.int 0))) (tC (.int 0)))) [some (.ref a), none, none] H (decide (c = 0)) := by
      refine et_test (ev_is (ev_op (ev_ixL (ev_var rfl) ev_c hS (v := .int (c : Int)) (atI_nat (j := 0) rfl)) ev_c (rv_eq rfl)) ?_)
      exact congrArg V.bl (decide_eq_decide.mpr (by simp))
    refine q_when (b := decide (2 < (c :: r).length) || decide (c = 0)) (et_or t1 fun _ => t2) (fun hb H1 e1 => ?_) (fun hb H1 e1 => ?_)
    · refine s_ret ev_c fun H2 e2 => ?_
      have : numOf (c :: r) = 0 := by
        unfold numOf
        rw [if_pos]
        simpa using hb
      rw [this] at k
      exact k H2 (e1.trans e2)
    · have hb' : ¬ (2 < (c :: r).length ∨ (c :: r).head? = some 0) := by
        simpa using hb
      have hl2 : (c :: r).length ≤ 2 := Nat.le_of_not_lt fun z => hb' (Or.inl z)
      refine q_asg ev_c fun H2 e2 => ?_
      refine q_forLn (ev_var rfl) (ex_l (e1.trans e2) hS) (fun i σ' H' => ∃ v : Option V, σ' = [some (.ref a), some (.int (((c :: r).take i).foldl (fun n c => n * 10 + c) 0 : Nat)), v] ∧ Ex H H') (fun H3 e3 => ⟨none, rfl, (e1.trans e2).trans e3⟩) (fun i σ' H' _ ⟨_, _, e⟩ => ex_l e hS) ?_ ?_
      · rintro i x σ' H' hx ⟨v, rfl, e⟩
        rw [List.getElem?_map] at hx
        cases ec : (c :: r)[i]? with
        | none => rw [ec] at hx; cases hx
        | some z =>
          rw [ec] at hx
          have ex := Option.some.inj hx
          subst ex
          have hs := fold_small (d := (c :: r).take i) (n := 0) (fun x hx => h9 x (List.mem_of_mem_take hx))
          have hlt : ((c :: r).take i).length ≤ 2 := Nat.le_trans (by rw [List.length_take]; exact Nat.min_le_right _ _) hl2
          have hp : 10 ^ ((c :: r).take i).length ≤ 10 ^ 2 := Nat.pow_le_pow_right (by decide) hlt
          refine s_asg (v := .int (((c :: r).take (i + 1)).foldl (fun n c => n * 10 + c) 0 : Nat)) (ev_is (ev_add (ev_op (ev_var rfl) ev_c (rv_I (Or.inl ⟨by omega, by omega⟩))) (ev_var rfl)) ?_) fun H3 e3 => ⟨_, rfl, e.trans e3⟩
          rw [List.take_succ, ec, List.foldl_append]
          simp
      · rintro σ' H' ⟨v, rfl, e⟩
        rw [List.length_map, List.take_length]
        generalize hn : (c :: r).foldl (fun n c => n * 10 + c) 0 = n
        have hk : numOf (c :: r) = if 2 ≤ n then n else 0 := by
          unfold numOf
          rw [if_neg hb', hn]
        rw [hk] at k
        refine s_ret (v := .int ((if 2 ≤ n then n else 0 : Nat) : Int)) (ev_if (b := decide (2 ≤ n)) (et_test (ev_is (ev_op (ev_var rfl) ev_c rv_I0) (congrArg V.bl (decide_eq_decide.mpr (by omega))))) (fun h => ?_) (fun h => ?_)) fun H3 e3 => k H3 (e.trans e3)
        · rw [if_pos (of_decide_eq_true h)]
          exact ev_var rfl
        · rw [if_neg (of_decide_eq_false h)]
          exact ev_c
end
end Kt

/-! # Rules that the layer lacks -/
namespace Kt
open PySem PySem.Spec PyProof.Rows L2
section
variable {X : Cx}
/-! ## xs[i], for xs[i] += e -/
theorem pget_list : PGet X (rIxL X.K) := by
  intro pins s σ H o i ov iv Q I ro ri h
  obtain ⟨p, xs, n, z, rfl, rfl, hq, he, q⟩ := h
  cases ro
  obtain ⟨tk, rfl⟩ := ri
  obtain ⟨its, rv, pl, hz⟩ := I.list hq
  obtain ⟨j, a1, a2, a3, a4, a5⟩ := atI_get he
  obtain ⟨v, ev, r2⟩ := rv.get a2
  have hl := rv.length
  have h63 := line63
  have done : EP X pins σ Q v s := ⟨z, H, I, r2, q⟩
  by_cases c : 0 ≤ n
  · have ej : n.toNat = j := by
      rw [seqIndex_of c a5] at a1
      exact Option.some.inj a1
    exact wpAny_getItem_list pl.isList c (by omega) (by rw [ej]; simpa using ev) done
  · have ej : (n + (its.toArray.size : Int)).toNat = j := by
      rw [seqIndex_neg (by omega) a4] at a1
      rw [List.size_toArray, ← hl]
      exact Option.some.inj a1
    exact wpAny_getItem_list_neg pl.isList (by omega) (by rw [List.size_toArray] <;> omega) (by omega) (by rw [ej]; simpa using ev) done
/-! ## items, the written part by its name -/
theorem ix_listK {K : PySem.W.Frag} (h : X.K = K) : IxR X (rIxL K) := by
  rw [← h]
  exact ix_list
theorem ix_tupK {K : PySem.W.Frag} (h : X.K = K) : IxR X (rIxT K) := by
  rw [← h]
  exact ix_tup
theorem pg_tupK {K : PySem.W.Frag} {es : List Expr} {k : Nat} {t : TGs} {n : Nat} {pos : Pos} (h : X.K = K) (hc : X.calm = true) (hg : PGs X es t)
    (hn : (assignEach es X.env).length = n := by rfl) (hst : (assignEach es X.env).findIdx? (·.1) = none := by rfl) : PG X (.Tuple es k pos) (gTup K n t) := by
  rw [← h]
  exact pg_tup hc hg hn hst
/-! ## xs.extend(t), t a tuple -/
def rExtT (K : PySem.W.Frag) : V → List V → Hp → VK → Prop := fun x vs H Q => ∃ l b xs zs, x = .ref l ∧ vs = [.ref b] ∧ H l = some (.lst xs) ∧ H b = some (.tup zs) ∧ xs.length + zs.length ≤ sizeLine ∧ Q .non (upd H l (.lst (xs ++ zs)))
theorem mt_extT : MtM X "list.extend" (rExtT X.K) := by
  intro pins s σ H x vs v us Q I rx rv h
  obtain ⟨l, b, xs, zs, rfl, rfl, hH, hB, room, q⟩ := h
  cases rx
  obtain ⟨u, rfl, ru⟩ := rv.one
  cases ru
  obtain ⟨z, its, n, r, hl, e⟩ := I.lstM hH
  obtain ⟨z2, its2, r2, o2, e2, c2, n2, d2⟩ := I.hok b _ hB
  have hl2 := r2.length
  have fits : its.toArray.size + its2.toArray.size ≤ sizeLine := by rw [List.size_toArray, List.size_toArray]; omega
  have notl : (!its.toArray.isEmpty && Builtin.List.listTooLong (its.toArray.size + its2.toArray.size)) = false := by rw [notLongL fits, Bool.and_false]
  have hT2 : s.TypeIs (.ref b) "tuple" := ⟨o2, e2, c2⟩
  have yes : (Builtin.List.listSameRef (.ref l) (.ref b) || Value.type "tuple" == Value.type "list" || Value.type "tuple" == Value.type "tuple") = true := by simp
  refine wpAny_call_entry PySem.F.slot_list_extend ⟨_, e, rfl⟩ PySem.F.entry_list_extend ?_ (PySem.F.args_list_extend_2 _ _)
  show wpAny _ _ (Builtin.List.listExtendWith (.ref l) (.ref b) .none) _ _ s
  unfold Builtin.List.listExtendWith Builtin.List.listItems
  refine wpAny_bind (wpAny_typeOf hT2 ?_)
  simp only [yes, if_true]
  refine wpAny_bind (wpAny_bind (wpAny_seqItems e2 d2 (wpAny_pure ?_)))
  refine wpAny_bind (wpAny_bind (wpAny_seqItems e rfl (wpAny_pure ?_)))
  simp only [notl, Bool.false_eq_true, if_false]
  show wpAny _ _ (updateSeq l (· ++ its2.toArray) >>= fun _ => ret .none) _ _ s
  refine wpAny_bind (wpAny_updateSeq e rfl ?_ (hz := by rw [List.size_toArray]; omega) (_hz' := by rw [Array.size_append]; omega))
  refine wpAny_pure ⟨_, rfl, .non, _, I.lset (its' := its ++ its2) hH e (by simp) (r.append r2) ?_, rfl, q⟩
  rw [List.length_append]
  omega
/-! ## a class made without arguments -/
theorem pe_mk0 {C : Addr} {x : Str} {k j : Nat} {sp : Sp} {p pos : Pos} (c : C8.Mak X.prog X.w X.K X.mg X.base k x C sp []) (hr : Room j X.A) (hk : k + 1 ≤ j) (hg : Gl X x) (hdb : (x == ("__debug__" : Str)) = false := by decide) :
    PE X (.Call (.Name x p) [] [] pos) (tMake C sp [] E0 tNil) := by
  obtain ⟨_, _, _, _, M, F, named, binds, dfs⟩ := c.ex
  exact pe_make0 M F (hr.mono hk) hg named binds dfs pass0 hdb
/-! ## the written dict of the closing signs -/
def CD (K : PySem.W.Frag) (a : Addr) : Prop := ∃ t1 t2 t3 t4 t5 t6 ep, K.lookup a = some ⟨.type "dict", none, .dict #[⟨40, .int 40 t1, .int 41 t2⟩, ⟨60, .int 60 t3, .int 62 t4⟩, ⟨91, .int 91 t5, .int 93 t6⟩] ep, #[]⟩ ∧ (a == sysModules) = false
def closeV (i : Int) : Option Int := if i = 40 then some 41 else if i = 60 then some 62 else if i = 91 then some 93 else none
theorem cd_map {K : PySem.W.Frag} {a : Addr} {P : Program} {w : World} {h : Heap} (c : CD K a) (KX : K.In h) : (a == sysModules) = false ∧ ∃ f : Key → Option Value, h.MapOf (mixKind P w) a f ∧ ∀ i : Int, RelO ((closeV i).map V.int) (f (.inl i)) := by
  obtain ⟨t1, t2, t3, t4, t5, t6, ep, hk, low⟩ := c
  refine ⟨low, valueAt ([(.inl 40, .int 41 t2), (.inl 60, .int 62 t4), (.inl 91, .int 93 t6)] : List (Key × Value)), Heap.DictOf.mapOf ⟨_, _, _, KX _ _ hk, ⟨rfl, rfl, rfl⟩, rfl, ?_, ?_, ?_⟩, fun i => ?_⟩
  · intro e he
    simp only [List.mem_toArray, List.mem_cons, List.not_mem_nil, or_false] at he
    rcases he with rfl | rfl | rfl
    · exact ⟨.inl 40, mixKind_int P w 40 t1, show (40 : Int) = hashInt 40 by decide +kernel⟩
    · exact ⟨.inl 60, mixKind_int P w 60 t3, show (60 : Int) = hashInt 60 by decide +kernel⟩
    · exact ⟨.inl 91, mixKind_int P w 91 t5, show (91 : Int) = hashInt 91 by decide +kernel⟩
  · exact .cons (mixKind_int P w 40 t1) rfl (.cons (mixKind_int P w 60 t3) rfl (.cons (mixKind_int P w 91 t5) rfl .nil))
  · show ([.inl 40, .inl 60, .inl 91] : List Key).Nodup
    decide
  · unfold closeV
    by_cases h1 : i = 40
    · subst h1
      exact ⟨t2, rfl⟩
    · by_cases h2 : i = 60
      · subst h2
        exact ⟨t4, rfl⟩
      · by_cases h3 : i = 91
        · subst h3
          exact ⟨t6, rfl⟩
        · rw [if_neg h1, if_neg h2, if_neg h3]
          have n1 : ¬ ((.inl 40 : Key) = .inl i) := fun z => h1 (Sum.inl.inj z).symm
          have n2 : ¬ ((.inl 60 : Key) = .inl i) := fun z => h2 (Sum.inl.inj z).symm
          have n3 : ¬ ((.inl 91 : Key) = .inl i) := fun z => h3 (Sum.inl.inj z).symm
          have : valueAt ([(.inl 40, .int 41 t2), (.inl 60, .int 62 t4), (.inl 91, .int 93 t6)] : List (Key × Value)) (.inl i) = none := by
            unfold valueAt
            simp only [List.find?_cons, decide_eq_false n1, decide_eq_false n2, decide_eq_false n3, List.find?_nil, Option.map_none]
          rw [this]
          trivial
def rInC (K : PySem.W.Frag) : R2 := fun x y H Q => ∃ (i : Int) (a : Addr), x = .int i ∧ y = .ref a ∧ CD K a ∧ Q (.bl (closeV i).isSome) H
theorem op_inC : OpR X (compareOp .In) (rInC X.K) := by
  intro pins s σ H x y v u Q I rx ry h
  obtain ⟨i, a, rfl, rfl, hc, q⟩ := h
  obtain ⟨tk, rfl⟩ := rx
  cases ry
  obtain ⟨low, f, hm, hf⟩ := cd_map (P := X.prog) (w := X.w) hc I.kIn
  refine wpAny_in_of (mixKind_int X.prog X.w i tk) low hm ⟨.bl (closeV i).isSome, H, I.tok _, ?_, q⟩
  have := hf i
  revert this
  cases closeV i with
  | none =>
    cases f (.inl i) with
    | none => exact fun _ => rfl
    | some z => exact fun z => z.elim
  | some c =>
    cases f (.inl i) with
    | none => exact fun z => z.elim
    | some z => exact fun _ => rfl
def rIxC (K : PySem.W.Frag) : R2 := fun x y H Q => ∃ (a : Addr) (i c : Int), x = .ref a ∧ y = .int i ∧ CD K a ∧ closeV i = some c ∧ Q (.int c) H
theorem ix_C : IxR X (rIxC X.K) := by
  intro value slice pins s σ H x y v u Q I rx ry h hs
  obtain ⟨a, i, c, rfl, rfl, hc, hv, q⟩ := h
  cases rx
  obtain ⟨tk, rfl⟩ := ry
  obtain ⟨low, f, hm, hf⟩ := cd_map (P := X.prog) (w := X.w) hc I.kIn
  have h1 := hf i
  rw [hv] at h1
  cases hz : f (.inl i) with
  | none =>
    rw [hz] at h1
    exact h1.elim
  | some z =>
    rw [hz] at h1
    exact tail_any hm.typeIs slot_dict_getitem.lookup (wpAny_getItem_of (mixKind_int X.prog X.w i tk) hm hz ⟨.int c, H, I.tok _, h1, q⟩) hs
end
end Kt

/-! # Rules that the layer lacks: list(reversed(xs)), min(xs, key=f), a call of a written tuple's item -/
namespace Kt
open PySem PySem.Spec PyProof.Rows L2
section
variable {X : Cx}
/-- a tracked list is laid anew while an iterator of ours has turned -/
theorem inv_relaid {pins : List (Addr × Obj)} {σ : L2.St} {H : Hp} {s : Shared} {S it : Addr} {ys zs : List V} {its : List Value} {c : Nat} {h' : Heap} {t' : Nat} (I : Inv X pins σ H s) (hS : H S = some (.lst ys)) (fp : FpOk X pins H it)
    (kept : ∀ b o, b ≠ S → b ≠ it → s.heap.get? b = some o → h'.get? b = some o) (new : h'.get? S = some { cls := .type "list", data := .seq its.toArray c }) (rv : Vals zs its) (hz : zs.length ≤ sizeLine) :
    Inv X pins σ (upd H S (.lst zs)) { s with heap := h', toks := t' } := by
  obtain ⟨f0, f1, f2, f3, f4, f5⟩ := fp
  have nS : ∀ b, H b = none → b ≠ S := fun b e z => by
    rw [z, hS] at e
    cases e
  have lS : X.env.locals ≠ S := nS _ I.free
  refine I.step (ch := [it]) (g' := s.gens) (d' := s.drawn) (fun b hb => ?_) (fun b o _ _ hc e n => kept b o (nS b n) (fun z => hc (by simp [z])) e) (fun b o _ _ hc e n => ⟨o.slots, kept b o (nS b n) (fun z => hc (by simp [z])) e⟩)
    (fun b o _ _ n => by rw [upd_ne (nS b n)]; exact n) (fun b o hc e => ?_) (fun b xs e => ?_) (fun b o u e => ?_) (fun b ps e => ⟨#[], ?_⟩) (fun m hm => ?_) (fun b u e => ?_) I.bare
  · have eb : b = it := by simpa using hb
    subst eb
    exact ⟨f3, f1, f4, f5⟩
  · by_cases z : b = S
    · subst z
      exact ⟨_, new⟩
    · exact ⟨o, kept b o z (fun q => hc (by simp [q])) e⟩
  · rw [upd_ne (fun z => by rw [z, hS] at e; cases e)]
    exact e
  · rw [upd_ne (fun z => by rw [z, hS] at e; cases e)]
    exact e
  · rw [upd_ne (fun z => by rw [z, hS] at e; cases e)]
    simpa using e
  · obtain ⟨o, es, ep, ho, r⟩ := hm
    exact ⟨o, es, ep, kept _ o lS (Ne.symm f1) ho, r⟩
  · by_cases z : b = S
    · subst z
      rw [upd_same] at e
      cases e
      exact ⟨hz, its, c, rv, new⟩
    · rw [upd_ne z] at e
      refine (I.hok b u e).stay (fun d v hd q => kept d v ?_ ?_ q) (fun d q => ?_) (fun d xs q => ?_)
      · rcases hd with hd | hd
        · rw [hd]
          exact z
        · intro y
          rw [y, hS] at hd
          cases hd
      · intro y
        rcases hd with hd | hd
        · rw [← hd, y, f0] at e
          cases e
        · rw [y, f0] at hd
          cases hd
      · rw [upd_ne (fun y => by rw [y, hS] at q; cases q)]
        exact q
      · rw [upd_ne (fun y => by rw [y, hS] at q; cases q)]
        exact q

/-! ## list(reversed(xs)) -/
def tListRev (K : PySem.W.Frag) (te : TE) : TE := fun σ H Q => te σ H fun v H1 => ∃ (a : Addr) (xs : List V), v = .ref a ∧ SqL K H1 a xs ∧ ∀ q, H1 q = none → Q (.ref q) (upd H1 q (.lst xs.reverse))
theorem pe_listRev {e : Expr} {te : TE} {p p2 pos pos2 : Pos} (hc : X.calm = true) (hg : Gl X "list") (hm : X.mg "list" = none) (hg2 : Gl X "reversed") (hm2 : X.mg "reversed" = none) (he : PE X e te)
    (one : starEach [e] X.env = (false, eval e X.env) :: starEach [] X.env := by rfl) (two : starEach [.Call (.Name "reversed" p2) [e] [] pos2] X.env = (false, eval (.Call (.Name "reversed" p2) [e] [] pos2) X.env) :: starEach [] X.env := by rfl) :
    PE X (.Call (.Name "list" p) [.Call (.Name "reversed" p2) [e] [] pos2] [] pos) (tListRev X.K te) := by
  refine ⟨fun pins s σ H Q I h => ?_⟩
  refine Call_ (ld_blt I hg hm (show bootBuiltins "list" = some (.type "list") by decide +kernel) (PyProof.Rows.callWith_type1 (args_cons (Call_ (ld_blt I hg2 hm2 PyProof.Rows.boot_reversed (PyProof.Rows.callWith_type1 (args_cons (thn (he.run pins s σ H _ I h) fun u s1 ⟨v, H1, I1, r1, q1⟩ => args_nil ?_) one) one rfl))) two) two rfl))
  obtain ⟨a, xs, rfl, hq, q⟩ := q1
  cases r1
  obtain ⟨its, rv, pl, hz⟩ := I1.list hq
  refine call_reversed_list pl.isList (args_nil ?_)
  have hl := pl.isList
  obtain ⟨ol, hol, _⟩ := id hl
  have hne := Nat.ne_of_lt (Heap.lt_size hol)
  have hn : its.toArray.size ≤ sizeLine := by rw [List.size_toArray, ← rv.length]; exact hz
  have fp0 := I1.fpOk (H' := H1) (b := s1.heap.objs.size) (Nat.le_refl _) (I1.hok.fresh (Nat.le_refl _))
  have I2 : Inv X pins σ H1 { s1 with heap := s1.heap.push (revObj a ((its.toArray.size : Int) - 1)) } := I1.kept (t' := s1.toks) fun c u e => Heap.get?_push_of_some _ e
  have hit : (s1.heap.push (revObj a ((its.toArray.size : Int) - 1))).IsRevIter s1.heap.objs.size a ((its.toArray.size : Int) - 1) := ⟨_, Heap.get?_push_size _ rfl, rfl, rfl⟩
  have hl2 : (s1.heap.push (revObj a ((its.toArray.size : Int) - 1))).IsList a its.toArray := hl.push _
  have hn0 : ∃ o, (s1.heap.push (revObj a ((its.toArray.size : Int) - 1))).get? s1.heap.objs.size = some o := ⟨_, Heap.get?_push_size _ rfl⟩
  generalize hh : s1.heap.push (revObj a ((its.toArray.size : Int) - 1)) = hp at I2 hit hl2 hn0 ⊢
  have hitS : s1.heap.objs.size ≠ hp.objs.size := by
    obtain ⟨o, ho⟩ := hn0
    exact Nat.ne_of_lt (Heap.lt_size ho)
  have haS : a ≠ hp.objs.size := by
    obtain ⟨o, ho, _⟩ := id hl2
    exact Nat.ne_of_lt (Heap.lt_size ho)
  have fr : H1 hp.objs.size = none := I2.hok.fresh (Nat.le_refl _)
  refine callType_codes (Q₁ := fun obj s₁ => obj = .ref hp.objs.size ∧ s₁ = { s1 with heap := hp.push { cls := .type "list", data := .seq #[] } }) PySem.F.called_list (PySem.F.typeCall_list_1 _) PySem.F.entry_list_init
    (code_list_new (s := { s1 with heap := hp }) _ ⟨rfl, rfl⟩) fun obj s₁ h₁ => ?_
  obtain ⟨rfl, rfl⟩ := h₁
  have hS0 : (hp.push { cls := .type "list", data := .seq #[] }).get? hp.objs.size = some { cls := .type "list", data := .seq #[] } := Heap.get?_push_size _ rfl
  refine ⟨⟨_, hS0, rfl⟩, PySem.F.args_list_init_2 _ _, ?_⟩
  have I3 : Inv X pins σ (upd H1 hp.objs.size (.lst [])) { s1 with heap := hp.push { cls := .type "list", data := .seq #[] } } := I2.lnew (its := []) (t' := s1.toks) .nil (Nat.zero_le _)
  show wpAny _ _ (do let old ← Builtin.List.listItems (.ref hp.objs.size); Builtin.List.listUpdate (.ref hp.objs.size) (fun _ => #[]); letGo old.toList.reverse; Builtin.List.listExtendWith (.ref hp.objs.size) (.ref s1.heap.objs.size) .none) _ _ _
  refine wpAny_bind ?_
  unfold Builtin.List.listItems
  refine wpAny_bind (wpAny_seqItems hS0 rfl (wpAny_pure ?_))
  show wpAny _ _ (updateSeq hp.objs.size (fun _ => #[]) >>= fun _ => letGo (#[] : Array Value).toList.reverse >>= fun _ => Builtin.List.listExtendWith (.ref hp.objs.size) (.ref s1.heap.objs.size) .none) _ _ _
  refine wpAny_bind (wpAny_updateSeq hS0 rfl ?_)
  refine wpAny_bind (wpAny_letGo ?_)
  have hS1 := Heap.get?_update_self (Obj.mapSeq (fun _ => (#[] : Array Value))) hS0 rfl
  have oth : ∀ b o, b ≠ hp.objs.size → hp.get? b = some o → ((hp.push { cls := .type "list", data := .seq #[] }).update hp.objs.size (Obj.mapSeq fun _ => (#[] : Array Value))).get? b = some o :=
    fun b o hb e => (Heap.get?_update_other _ _ (Ne.symm hb)).trans (Heap.get?_push_of_some _ e)
  have oth2 : ∀ b o, b ≠ hp.objs.size → (hp.push { cls := .type "list", data := .seq #[] }).get? b = some o → ((hp.push { cls := .type "list", data := .seq #[] }).update hp.objs.size (Obj.mapSeq fun _ => (#[] : Array Value))).get? b = some o :=
    fun b o away e => (Heap.get?_update_other _ _ (Ne.symm away)).trans e
  generalize hh2 : (hp.push { cls := .type "list", data := .seq #[] }).update hp.objs.size (Obj.mapSeq fun _ => (#[] : Array Value)) = hq2 at hS1 oth oth2 ⊢
  have hit2 : hq2.IsRevIter s1.heap.objs.size a ((its.toArray.size : Int) - 1) := hit.at fun o e => oth _ o hitS e
  have hl3 : hq2.IsList a its.toArray := by
    obtain ⟨o, ho, r⟩ := hl2
    exact ⟨o, oth _ o haS ho, r⟩
  have hT : ({ s1 with heap := hq2 } : Shared).TypeIs (.ref s1.heap.objs.size) "list_reverseiterator" := Heap.IsRevIter.typeIs (s := { s1 with heap := hq2 }) hit2
  have hd1 : X.A.handled = none := I1.ok.hd hc
  have W := (Walks.listRev (prog := X.prog) (w := X.w) (A := X.A.in1.in1) hd1 s1.heap.objs.size a hne its.toArray).toS
  have hSf : hp.objs.size ∉ [s1.heap.objs.size, a] := by
    simp only [List.mem_cons, List.not_mem_nil, or_false, not_or]
    exact ⟨Ne.symm hitS, Ne.symm haS⟩
  have no1 : Builtin.List.listSameRef (.ref hp.objs.size) (.ref s1.heap.objs.size) = false := by simp [Builtin.List.listSameRef, Ne.symm hitS]
  unfold Builtin.List.listExtendWith
  refine wpAny_bind (wpAny_typeOf hT ?_)
  rw [if_neg (by rw [no1]; decide)]
  refine wpAny_bind (wpAny_pyIter_revIter (s := { s1 with heap := hq2 }) hit2 ?_)
  refine wpAny_bind (wpAny_holding ?_)
  unfold Builtin.List.listLengthHint
  refine wpAny_bind (wpAny_specialOf hT RT.nolen_lri ?_)
  show wpAny _ _ (specialOf (Value.ref s1.heap.objs.size) (Str.ofString "__length_hint__") >>= _) _ _ _
  refine wpAny_bind (wpAny_specialOf hT RT.hint_lri ?_)
  generalize isName : ("list_reverseiterator.__length_hint__" : String) = name
  wp_delta
  have parted : splitId name = some ("list_reverseiterator", "__length_hint__") := by
    rw [← isName]
    decide +kernel
  rw [parted]
  subst isName
  refine wpAny_bind (wpAny_isInstance hT (b := true) ((isSubtype_type _ _).trans (by kernel_rfl)) ?_)
  refine wpAny_pure ?_
  rw [if_neg (by decide)]
  have e0 : ((its.toArray.size : Nat) : Int) - 1 - ((0 : Nat) : Int) = (its.toArray.size : Int) - 1 := by omega
  refine wpAny_pure ⟨plainId_quiet PySem.F.plain_extend_loop _, codeAny_extend_loopS W hn _ hSf _ its.toArray.size 0 _ _ _ rfl (Nat.zero_le _) ⟨Nat.zero_le _, by rw [e0]; exact hit2, hl3⟩ hS1 (ItemsOf.nil _) fun s' acc c' hmv hS' hacc => ?_⟩
  rw [Moved.eq_with hmv]
  refine ⟨rfl, .ref hp.objs.size, upd H1 hp.objs.size (.lst xs.reverse), ?_, rfl, q _ fr⟩
  have fp3 : FpOk X pins (upd H1 hp.objs.size (.lst [])) s1.heap.objs.size := ⟨by rw [upd_ne hitS]; exact fp0.1, fp0.2⟩
  have := inv_relaid (t' := s'.toks) (zs := xs.reverse) (its := acc.toList) (c := c') I3 upd_same fp3 (fun b o h1 h2 e => hmv.heap b o (by simp [h1, h2]) (oth2 b o h1 e)) (by rw [hS', Array.toArray_toList]) (RT.vals_rev rv hacc) (by rw [List.length_reverse]; exact hz)
  rw [upd_upd] at this
  exact this
end
end Kt

/-! # Rules that the layer lacks: min(xs, key=f), f a def of the program; a call of a written tuple's item -/
namespace Kt
open PySem PySem.Spec PyProof.Rows L2 Evl
section
variable {X : Cx}
/-- a def called from within a built-in -/
theorem run_in1 {k : Nat} {f : Addr} {sp : Sp} (c : C8.CalAt X.prog X.w X.K X.mg X.base k f sp) (hr : Room k X.A.in1) {pins : List (Addr × Obj)} {σ : L2.St} {H : Hp} {s : Shared} {Q : VK} {us : List Value} {vs : List V} {E : Value → Shared → Prop}
    (I : L2.Inv X pins σ H s) (r : Vals vs us) (h : sp vs H Q E0) : wpAny (model X.prog X.w) X.A.in1 (call (.ref f) us) (EP X pins σ Q) E s := by
  obtain ⟨fd, names, F, _, binds⟩ := c.ex
  have bt : BindsTo s fd ⟨us, []⟩ (names.zip us) := by
    have := binds s us I.kIn (by rw [List.append_nil, ← r.length]; exact F.len _ _ _ _ h)
    rw [List.append_nil] at this
    exact this
  refine wpAny_call (codeAny_mono (F.run X.A.in1 X.stack s H ⟨us, []⟩ us vs Q E0 hr I.env0.in1 bt r h) fun res s' hq => ?_)
  cases res with
  | error z => exact False.elim hq
  | ok fl =>
    cases fl with
    | ret u => exact I.after hq
    | next => exact False.elim hq
    | brk => exact False.elim hq
    | cont => exact False.elim hq
theorem fp_ex {pins : List (Addr × Obj)} {H H' : Hp} {b : Addr} (fp : FpOk X pins H b) (h : H' b = none) : FpOk X pins H' b := ⟨h, fp.2⟩

theorem min_loop {k : Nat} {f a S It : Addr} {sp : Sp} {xs : List V} {kf : Nat → Int} {pins : List (Addr × Obj)} {σ : L2.St} {H : Hp} {Q : VK} (hcalm : X.calm = true) (c : C8.CalAt X.prog X.w X.K X.mg X.base k f sp) (hr : Room k X.A.in1)
    (hq : SqL X.K H a xs) (hSI : S ≠ It)
    (turn : ∀ i x, xs[i]? = some x → ∀ H', Ex H H' → ∀ Q' : VK, (∀ H2, Ex H' H2 → Q' (.int (kf i)) H2) → sp [x] H' Q' E0)
    (fin : ∀ i x H', xs[i]? = some x → (∀ j, j < xs.length → kf i ≤ kf j ∧ (j < i → kf i < kf j)) → Ex H H' → Q x H') :
    ∀ (r j i : Nat) (s : Shared) (H' : Hp) (x : V) (vb : Value) (tb : Tok) (ct : Nat), xs.length - (j + 1) = r → j + 1 ≤ xs.length → L2.Inv X pins σ H' s → FpOk X pins H' S → FpOk X pins H' It →
      s.heap.get? S = some (seqObj "list" #[vb, .int (kf i) tb] ct) → s.heap.IsListIter It a (j + 1) → Ex H H' → xs[i]? = some x → RelV x vb → i ≤ j → (∀ j', j' ≤ j → kf i ≤ kf j' ∧ (j' < i → kf i < kf j')) →
      codeAny (model X.prog X.w) X.A (.builtin "min.loop" ⟨[.ref It, .ref f, .ref S], []⟩) (wants (EP X pins σ Q) X.xe) s := by
  have name_eq : (toString "min" ++ toString ".loop" : String) = "min.loop" := by decide
  intro r
  induction r with
  | zero =>
    intro j i s H' x vb tb ct hr0 hj I fS fI oS itr ex hx rx hij best
    have hin : j + 1 = xs.length := by omega
    obtain ⟨its, rv, pl, hz⟩ := I.list (ex_l ex hq)
    have hlen := rv.length
    have haI : a ≠ It := by
      obtain ⟨o1, e1, c1, _⟩ := id pl.isList
      obtain ⟨o2, e2, c2, _⟩ := id itr
      intro z
      subst z
      rw [e1] at e2
      cases e2
      rw [c1] at c2
      exact absurd c2 (by decide)
    have W := Walks.list (prog := X.prog) (w := X.w) (A := X.A.in1) (I.ok.hd hcalm) It a haI its.toArray
    refine codeAny_builtin PySem.F.entry_min_loop (show wpAny _ (X.A.under _) _ _ _ _ from ?_)
    rw [Around.under_plainId (A := X.A) PySem.F.plain_min_loop _]
    show wpAny _ X.A.in1 (seqItems? (.ref S) >>= _) _ _ _
    refine wpAny_bind (wpAny_seqItems oS rfl ?_)
    show wpAny _ X.A.in1 (tryCatch (pyNext (.ref It)) _ >>= _) _ _ _
    refine wpAny_bind (wpAny_tryCatch (W.done _ _ _ ⟨by rw [List.size_toArray, ← hlen, ← hin]; exact itr, pl.isList⟩ fun h1 t1 k1 => ?_))
    obtain ⟨g0, g1, g2, g3, g4, g5⟩ := fI
    have I1 : L2.Inv X pins σ H' { s with heap := h1, toks := t1 } := I.turned (t' := t1) (fun b o hb e => k1 b o (by simpa using hb) e) g0 g1 g3 g4 g5
    have oS1 : h1.get? S = some (seqObj "list" #[vb, .int (kf i) tb] ct) := k1 S _ (by simpa using hSI) oS
    show wpAny _ X.A.in1 (updateSeq S (fun _ => #[]) >>= _) _ _ _
    refine wpAny_bind ?_
    obtain ⟨s0, s1, s2, s3, s4, s5⟩ := fS
    refine wpAny_updateSeq oS1 rfl (wpAny_bind (wpAny_letGo (wpAny_pure ?_)))
    refine ⟨x, H', ?_, rx, fin i x H' hx (fun j' hj' => best j' (by omega)) ex⟩
    exact I1.turned (t' := t1) (fun b o hb e => (Heap.get?_update_other _ _ (Ne.symm hb)).trans e) s0 s1 s3 s4 s5
  | succ r ih =>
    intro j i s H' x vb tb ct hr0 hj I fS fI oS itr ex hx rx hij best
    have hlt : j + 1 < xs.length := by omega
    obtain ⟨its, rv, pl, hz⟩ := I.list (ex_l ex hq)
    have hlen := rv.length
    have haI : a ≠ It := by
      obtain ⟨o1, e1, c1, _⟩ := id pl.isList
      obtain ⟨o2, e2, c2, _⟩ := id itr
      intro z
      subst z
      rw [e1] at e2
      cases e2
      rw [c1] at c2
      exact absurd c2 (by decide)
    have W := Walks.list (prog := X.prog) (w := X.w) (A := X.A.in1) (I.ok.hd hcalm) It a haI its.toArray
    refine codeAny_builtin PySem.F.entry_min_loop (show wpAny _ (X.A.under _) _ _ _ _ from ?_)
    rw [Around.under_plainId (A := X.A) PySem.F.plain_min_loop _]
    show wpAny _ X.A.in1 (seqItems? (.ref S) >>= _) _ _ _
    refine wpAny_bind (wpAny_seqItems oS rfl ?_)
    show wpAny _ X.A.in1 (tryCatch (pyNext (.ref It)) _ >>= _) _ _ _
    refine wpAny_bind (wpAny_tryCatch (W.item (j + 1) _ _ _ (by rw [List.size_toArray, ← hlen]; exact hlt) ⟨itr, pl.isList⟩ fun v h1 t1 hv st1 k1 => ?_))
    obtain ⟨g0, g1, g2, g3, g4, g5⟩ := id fI
    have I1 : L2.Inv X pins σ H' { s with heap := h1, toks := t1 } := I.turned (t' := t1) (fun b o hb e => k1 b o (by simpa using hb) e) g0 g1 g3 g4 g5
    have oS1 : h1.get? S = some (seqObj "list" #[vb, .int (kf i) tb] ct) := k1 S _ (by simpa using hSI) oS
    obtain ⟨oI, eI, cI, dI⟩ := st1.1
    have hvl : its[j + 1]? = some v := by simpa using hv
    obtain ⟨y, hy, ry⟩ : ∃ y, xs[j + 1]? = some y ∧ RelV y v := by
      obtain ⟨w', ew, rw'⟩ := rv.get (List.getElem?_eq_getElem hlt)
      rw [hvl] at ew
      cases ew
      exact ⟨_, List.getElem?_eq_getElem hlt, rw'⟩
    have I2 := I1.pinned (fp := [S, It]) (fun b hb => by
      rcases List.mem_cons.mp hb with rfl | hb
      · exact fS
      · rw [List.mem_singleton.mp hb]
        exact fI) (fun b hb => by
      rcases List.mem_cons.mp hb with rfl | hb
      · exact ⟨_, oS1, fun _ z => nomatch z⟩
      · rw [List.mem_singleton.mp hb]
        exact ⟨_, eI, fun _ z => by rw [dI] at z; cases z⟩)
    show wpAny _ X.A.in1 (tryCatch (holding [v] (call (.ref f) [v])) _ >>= _) _ _ _
    refine wpAny_bind (wpAny_tryCatch (wpAny_holding (thn (run_in1 c hr I2 (.cons ry .nil) (turn (j + 1) y hy H' ex (fun z H2 => z = .int (kf (j + 1)) ∧ Ex H' H2) fun H2 e2 => ⟨rfl, e2⟩)) fun u s2 he => ?_)))
    obtain ⟨z, H2, I3, rz, rfl, e2⟩ := he
    obtain ⟨t2, rfl⟩ := rz
    have pS := I3.pin (S, _) (List.mem_append_right _ (List.mem_append_right _ (mem_pinsAt (fp := [S, It]) (by simp) oS1)))
    have pI := I3.pin (It, _) (List.mem_append_right _ (List.mem_append_right _ (mem_pinsAt (fp := [S, It]) (by simp) eI)))
    have I4 : L2.Inv X pins σ H2 s2 := I3.unpinned
    have fS2 : FpOk X pins H2 S := fp_ex fS pS.2.1
    have fI2 : FpOk X pins H2 It := fp_ex fI pI.2.1
    have itr2 : s2.heap.IsListIter It a (j + 1 + 1) := ⟨oI, pI.1, cI, dI⟩
    show wpAny _ X.A.in1 (tryCatch (holding [v, .int (kf (j + 1)) t2] (richCompare .Lt (.int (kf (j + 1)) t2) (.int (kf i) tb) >>= _)) _ >>= _) _ _ _
    refine wpAny_bind (wpAny_tryCatch (wpAny_holding (wpAny_bind (CmpOf.ints_lt (prog := X.prog) (w := X.w) (A := X.A.in1) (P := fun n z => ∃ t, z = .int (kf n) t) kf (fun _ _ h => h) (j + 1) i _ _ _ _ _ ⟨t2, rfl⟩ ⟨tb, rfl⟩ ?_))))
    refine wpAny_bind (wpAny_holding (wpAny_truthy_bool ?_))
    refine wpAny_bind (wpAny_letGo (wpAny_pure ?_))
    by_cases hb : kf (j + 1) < kf i
    · obtain ⟨c2, hc2⟩ : ∃ c2, (s2.heap.update S (Obj.mapSeq fun _ => #[v, .int (kf (j + 1)) t2])).get? S = some (seqObj "list" #[v, .int (kf (j + 1)) t2] c2) := ⟨_, get?_update_seq pS.1 fun _ => #[v, .int (kf (j + 1)) t2]⟩
      simp only [hb, decide_true, if_true]
      refine wpAny_bind ?_
      refine wpAny_updateSeq pS.1 rfl (wpAny_bind (wpAny_letGo ?_))
      rw [name_eq]
      obtain ⟨s0, s1, s2', s3, s4, s5⟩ := id fS2
      have oth : ∀ b o, b ≠ S → s2.heap.get? b = some o → (s2.heap.update S (Obj.mapSeq fun _ => #[v, .int (kf (j + 1)) t2])).get? b = some o := fun b o hne e => (Heap.get?_update_other _ _ (Ne.symm hne)).trans e
      refine wpAny_pure ⟨plainId_quiet PySem.F.plain_min_loop _, ih (j + 1) (j + 1) _ H2 y v t2 c2 (by omega) hlt (I4.turned (t' := s2.toks) oth s0 s1 s3 s4 s5) fS2 fI2 hc2 ⟨oI, oth It _ (Ne.symm hSI) pI.1, cI, dI⟩ (ex.trans e2) hy ry (Nat.le_refl _) fun j' hj' => ?_⟩
      by_cases e : j' = j + 1
      · subst e
        exact ⟨by omega, fun _ => by omega⟩
      · have h1 := (best j' (by omega)).1
        exact ⟨by omega, fun _ => by omega⟩
    · simp only [hb, decide_false, Bool.false_eq_true, if_false]
      refine wpAny_bind (wpAny_letGo ?_)
      rw [name_eq]
      refine wpAny_pure ⟨plainId_quiet PySem.F.plain_min_loop _, ih (j + 1) i _ H2 x vb tb ct (by omega) hlt I4 fS2 fI2 pS.1 itr2 (ex.trans e2) hx rx (by omega) fun j' hj' => ?_⟩
      by_cases e : j' = j + 1
      · subst e
        exact ⟨by omega, fun _ => by omega⟩
      · exact best j' (by omega)

def rMinKey (K : PySem.W.Frag) (f : Addr) (sp : Sp) : List V → List V → Hp → VK → Prop := fun vs zs H Q => ∃ (a : Addr) (xs : List V) (kf : Nat → Int), vs = [.ref a] ∧ zs = [.ref f] ∧ SqL K H a xs ∧ 0 < xs.length ∧
  (∀ i x, xs[i]? = some x → ∀ H', Ex H H' → ∀ Q' : VK, (∀ H2, Ex H' H2 → Q' (.int (kf i)) H2) → sp [x] H' Q' E0) ∧
  ∀ i x H', xs[i]? = some x → (∀ j, j < xs.length → kf i ≤ kf j ∧ (j < i → kf i < kf j)) → Ex H H' → Q x H'
theorem cr_minKey {k j : Nat} {f : Addr} {sp : Sp} (hcalm : X.calm = true) (c : C8.CalAt X.prog X.w X.K X.mg X.base k f sp) (hr : Room j X.A) (hk : k + 1 ≤ j) : CallRK X (.builtin "min") [Str.ofString "key"] (rMinKey X.K f sp) := by
  intro pins s σ H vs zs us ws Q I r rz h
  obtain ⟨a, xs, kf, rfl, rfl, hq, hne, turn, fin⟩ := h
  obtain rfl := Vals.ref1 r
  obtain rfl := Vals.ref1 rz
  have name_eq : (toString "min" ++ toString ".loop" : String) = "min.loop" := by decide
  have hr1 : Room k X.A.in1 := (hr.mono hk).in1
  obtain ⟨its, rv, pl, hz⟩ := I.list hq
  have hlen := rv.length
  have hls := pl.isList
  obtain ⟨ol, hol, _⟩ := id hls
  have hll : a < s.heap.objs.size := Heap.lt_size hol
  show wpAny _ X.A (call (.builtin "min") [.ref a] [(Str.ofString "key", .ref f)]) _ _ s
  refine kmk_tree PySem.F.kind_min PySem.F.plain_min PySem.F.entry_min (kmk_min_key (.ref a) (.ref f)) ?_
  show wpAny _ X.A.in1 (Builtin.Builtins.bindParams "min" ["key", "default"] 0 ⟨[], [(Str.ofString "key", .ref f)]⟩ >>= _) _ _ s
  refine wpAny_bind (wpAny_of_eq (show Builtin.Builtins.bindParams "min" ["key", "default"] 0 ⟨[], [(Str.ofString "key", .ref f)]⟩ = pure [some (.ref f), none] from rfl) ?_)
  refine wpAny_bind (wpAny_pure ?_)
  refine wpAny_bind (wpAny_pyIter_list hls ?_)
  have kp1 : ∀ b o, s.heap.get? b = some o → (s.heap.push { cls := .type "list_iterator", data := .fields #[.ref a, .int 0 0] }).get? b = some o := fun b o e => Heap.get?_push_of_some _ e
  have o1 : (s.heap.push { cls := .type "list_iterator", data := .fields #[.ref a, .int 0 0] }).get? s.heap.objs.size = some { cls := .type "list_iterator", data := .fields #[.ref a, .int 0 0] } := Heap.get?_push_size _ rfl
  generalize hp1 : s.heap.push { cls := .type "list_iterator", data := .fields #[.ref a, .int 0 0] } = h1 at kp1 o1 ⊢
  refine wpAny_bind (wpAny_newList ?_ (Nat.zero_le _))
  rw [name_eq]
  have kp2 : ∀ b o, h1.get? b = some o → (h1.push (seqObj "list" #[] 0)).get? b = some o := fun b o e => Heap.get?_push_of_some _ e
  have o2 : (h1.push (seqObj "list" #[] 0)).get? h1.objs.size = some (seqObj "list" #[] 0) := Heap.get?_push_size _ rfl
  have hSI : h1.objs.size ≠ s.heap.objs.size := Nat.ne_of_gt (Heap.lt_size o1)
  have I1 : L2.Inv X pins σ H { s with heap := h1 } := I.kept (t' := s.toks) kp1
  have fI : FpOk X pins H s.heap.objs.size := I.fpOk (Nat.le_refl _) (I.hok.fresh (Nat.le_refl _))
  have fS : FpOk X pins H h1.objs.size := I1.fpOk (Nat.le_refl _) (I1.hok.fresh (Nat.le_refl _))
  have I2 : L2.Inv X pins σ H { s with heap := h1.push (seqObj "list" #[] 0) } := I1.kept (t' := s.toks) kp2
  have o1' := kp2 _ _ o1
  refine wpAny_pure ⟨plainId_quiet PySem.F.plain_min_loop _, ?_⟩
  show codeAny _ _ _ _ { s with heap := h1.push (seqObj "list" #[] 0) }
  generalize hp2 : h1.push (seqObj "list" #[] 0) = h2 at kp2 o2 I2 o1' ⊢
  have haI : a ≠ s.heap.objs.size := Nat.ne_of_lt hll
  have hl2 : h2.IsList a its.toArray := by
    obtain ⟨o, ho, rr⟩ := hls
    exact ⟨o, kp2 _ _ (kp1 _ _ ho), rr⟩
  have W := Walks.list (prog := X.prog) (w := X.w) (A := X.A.in1) (I.ok.hd hcalm) s.heap.objs.size a haI its.toArray
  refine codeAny_builtin PySem.F.entry_min_loop ?_
  rw [Around.under_plainId PySem.F.plain_min_loop _]
  show wpAny _ X.A.in1 (seqItems? (.ref h1.objs.size) >>= _) _ _ _
  refine wpAny_bind (wpAny_seqItems o2 rfl ?_)
  show wpAny _ X.A.in1 (tryCatch (pyNext (.ref s.heap.objs.size)) _ >>= _) _ _ _
  refine wpAny_bind (wpAny_tryCatch (W.item 0 _ _ _ (by rw [List.size_toArray, ← hlen]; exact hne) ⟨⟨_, o1', rfl, rfl⟩, hl2⟩ fun v h3 t3 hv st3 k3 => ?_))
  obtain ⟨g0, g1, g2, g3, g4, g5⟩ := id fI
  have I3 : L2.Inv X pins σ H { s with heap := h3, toks := t3 } := I2.turned (t' := t3) (fun b o hb e => k3 b o (by simpa using hb) e) g0 g1 g3 g4 g5
  have oS3 : h3.get? h1.objs.size = some (seqObj "list" #[] 0) := k3 _ _ (by simpa using hSI) o2
  obtain ⟨oI, eI, cI, dI⟩ := st3.1
  have hvl : its[0]? = some v := by simpa using hv
  obtain ⟨y, hy, ry⟩ : ∃ y, xs[0]? = some y ∧ RelV y v := by
    obtain ⟨w', ew, rw'⟩ := rv.get (List.getElem?_eq_getElem hne)
    rw [hvl] at ew
    cases ew
    exact ⟨_, List.getElem?_eq_getElem hne, rw'⟩
  have I4 := I3.pinned (fp := [h1.objs.size, s.heap.objs.size]) (fun b hb => by
    rcases List.mem_cons.mp hb with rfl | hb
    · exact fS
    · rw [List.mem_singleton.mp hb]
      exact fI) (fun b hb => by
    rcases List.mem_cons.mp hb with rfl | hb
    · exact ⟨_, oS3, fun _ z => nomatch z⟩
    · rw [List.mem_singleton.mp hb]
      exact ⟨_, eI, fun _ z => by rw [dI] at z; cases z⟩)
  show wpAny _ X.A.in1 (tryCatch (holding [v] (call (.ref f) [v])) _ >>= _) _ _ _
  refine wpAny_bind (wpAny_tryCatch (wpAny_holding (thn (run_in1 c hr1 I4 (.cons ry .nil) (turn 0 y hy H (Ex.refl H) (fun z H2 => z = .int (kf 0) ∧ Ex H H2) fun H2 e2 => ⟨rfl, e2⟩)) fun u s2 he => ?_)))
  obtain ⟨z, H2, I5, rz, rfl, e2⟩ := he
  obtain ⟨t2, rfl⟩ := rz
  have pS := I5.pin (h1.objs.size, _) (List.mem_append_right _ (List.mem_append_right _ (mem_pinsAt (fp := [h1.objs.size, s.heap.objs.size]) (by simp) oS3)))
  have pI := I5.pin (s.heap.objs.size, _) (List.mem_append_right _ (List.mem_append_right _ (mem_pinsAt (fp := [h1.objs.size, s.heap.objs.size]) (by simp) eI)))
  have I6 : L2.Inv X pins σ H2 s2 := I5.unpinned
  obtain ⟨c2, hc2⟩ : ∃ c2, (s2.heap.update h1.objs.size (Obj.mapSeq fun _ => #[v, .int (kf 0) t2])).get? h1.objs.size = some (seqObj "list" #[v, .int (kf 0) t2] c2) := ⟨_, get?_update_seq pS.1 fun _ => #[v, .int (kf 0) t2]⟩
  show wpAny _ X.A.in1 (updateSeq h1.objs.size (fun _ => #[v, .int (kf 0) t2]) >>= _) _ _ _
  refine wpAny_bind ?_
  refine wpAny_updateSeq pS.1 rfl ?_
  rw [name_eq]
  obtain ⟨s0, s1, s2', s3, s4, s5⟩ := fp_ex fS pS.2.1
  have oth : ∀ b o, b ≠ h1.objs.size → s2.heap.get? b = some o → (s2.heap.update h1.objs.size (Obj.mapSeq fun _ => #[v, .int (kf 0) t2])).get? b = some o := fun b o hne e => (Heap.get?_update_other _ _ (Ne.symm hne)).trans e
  refine wpAny_pure ⟨plainId_quiet PySem.F.plain_min_loop _, min_loop hcalm c hr1 hq hSI turn fin _ 0 0 _ H2 y v t2 c2 rfl hne (I6.turned (t' := s2.toks) oth s0 s1 s3 s4 s5) (fp_ex fS pS.2.1) (fp_ex fI pI.2.1) hc2 ⟨oI, oth _ _ (Ne.symm hSI) pI.1, cI, dI⟩ e2 hy ry (Nat.le_refl _) fun j' hj' => ?_⟩
  have e : j' = 0 := by omega
  subst e
  exact ⟨by omega, fun h => absurd h (Nat.lt_irrefl _)⟩

/-! ## a call of what an expression gives -/
def tCallX (Pr : Addr → Sp → Prop) (tf : TE) (t : TA) : TE := fun σ H Q => tf σ H fun v H1 => ∃ (f : Addr) (sp : Sp), v = .ref f ∧ Pr f sp ∧ t σ H1 fun vs H2 => sp vs H2 Q E0
theorem pe_callX {Pr : Addr → Sp → Prop} {k j : Nat} {fe e : Expr} {es : List Expr} {pos : Pos} {tf : TE} {t : TA} (hP : ∀ f sp, Pr f sp → C8.CalAt X.prog X.w X.K X.mg X.base k f sp) (hr : Room j X.A) (hk : k ≤ j) (hf : PE X fe tf) (ha : PA X (e :: es) t)
    (hev : eval (.Call fe (e :: es) [] pos) X.env = (do callWith pos (← eval fe X.env) [] (backTo pos (starEach (e :: es) X.env)) (backToKw pos (keywordEach [] X.env))) := by rfl)
    (he : starEach (e :: es) X.env = (false, eval e X.env) :: starEach es X.env := by rfl) (hpl : (backTo pos (starEach es X.env)).any (·.1) = false := by rfl) : PE X (.Call fe (e :: es) [] pos) (tCallX Pr tf t) := by
  refine ⟨fun pins s σ H Q I h => ?_⟩
  refine Call_ (thn (hf.run pins s σ H _ I h) fun u s1 ⟨v, H1, I1, r1, f, sp, ev, hp, q1⟩ => ?_) hev
  subst ev
  cases r1
  obtain ⟨fd, names, F, kp, binds⟩ := (hP f sp hp).ex
  refine PySem.W.callWith_K (h₀ := X.base) I.ok.mod.kin kp (thn (ha.run pos pins s1 σ H1 _ I1 q1) fun us s2 ⟨vs, H2, I2, r, q⟩ => ⟨I2.kIn, ?_⟩) he hpl
  exact run_fn F (hr.mono hk) binds .nil pass0 I2 r ((List.append_nil vs).symm ▸ q)
end
end Kt

/-! # Words about values, further: lists of numbers compared and cut, comprehensions whose items are made -/
namespace Kt
open PySem PySem.Spec PyProof.Rows L2 Evl
section
variable {K : PySem.W.Frag} {σ : L2.St} {H H' : Hp} {ta tb tc te : TE}
/-! ## lists of whole numbers compared -/
theorem canLay_ints : ∀ ns : List Int, SeqAt.shaped (.list (ns.map PyData.int)) = true := by
  intro ns
  have h1 : PyData.canLay0 (.list (ns.map PyData.int)) = true := by
    unfold PyData.canLay0
    induction ns with
    | nil => rfl
    | cons n r ih => exact ih
  have h3 : PyData.depthAll (ns.map PyData.int) ≤ 1 := by
    clear h1
    induction ns with
    | nil => simp [PyData.depthAll]
    | cons n r ih =>
      simp [PyData.depthAll, PyData.depth]
      omega
  have h2 : (PyData.list (ns.map PyData.int)).depth ≤ 64 := by
    simp [PyData.depth]
    omega
  unfold SeqAt.shaped
  rw [h1, decide_eq_true h2]
  rfl
theorem dp_ints : ∀ {ns : List Int}, DpAll K H (iv ns) (ns.map PyData.int)
  | [] => .nil
  | n :: r => .cons (.int n) dp_ints
theorem rv_eqI {a b : Addr} {ns ms : List Int} (ha : SqL K H a (iv ns)) (hb : SqL K H b (iv ms)) : RV (rEqD K) (.ref a) (.ref b) H (.bl (decide (ns = ms))) := fun H1 e Q q =>
  ⟨.list (ns.map PyData.int), .list (ms.map PyData.int), .lst (ex_l e ha) dp_ints, .lst (ex_l e hb) dp_ints, canLay_ints ns, canLay_ints ms, by
    have : PyData.eqv (.list (ns.map PyData.int)) (.list (ms.map PyData.int)) = decide (ns = ms) := by
      show PyData.eqvAll _ _ = _
      exact PySem.W.ked_eqvAll ns ms
    rw [this]
    exact q H1 (Ex.refl H1)⟩
theorem nv_iv (l : List Nat) : nv l = iv (l.map Int.ofNat) := by
  unfold nv iv
  rw [List.map_map]
  rfl
theorem ofNat_inj {l m : List Nat} : l.map Int.ofNat = m.map Int.ofNat ↔ l = m := by
  constructor
  · intro h
    have := congrArg (List.map Int.toNat) h
    simpa [List.map_map, Function.comp_def] using this
  · intro h
    rw [h]
theorem rv_eqN {a b : Addr} {l m : List Nat} (ha : SqL K H a (nv l)) (hb : SqL K H b (nv m)) : RV (rEqD K) (.ref a) (.ref b) H (.bl (decide (l = m))) := by
  rw [nv_iv] at ha hb
  have := rv_eqI ha hb
  rw [show decide (l.map Int.ofNat = m.map Int.ofNat) = decide (l = m) from decide_eq_decide.mpr ofNat_inj] at this
  exact this
/-! ## cut lists -/
theorem cut_from {l : List V} {i : Nat} : cutV l (some (i : Int)) none = l.drop i := by
  unfold cutV
  rw [HT.sIx_nat, HT.sIx_none]
  by_cases h : i ≤ l.length
  · rw [Nat.min_eq_left h, List.take_of_length_le (by rw [List.length_drop]; omega)]
  · rw [Nat.min_eq_right (by omega), List.drop_eq_nil_of_le (by omega), List.drop_eq_nil_of_le (by omega), List.take_nil]
theorem cut_to {l : List V} {j : Nat} : cutV l none (some (j : Int)) = l.take j := by
  unfold cutV
  rw [HT.sIx_nat, HT.sIx_none, List.drop_zero, Nat.sub_zero]
  by_cases h : j ≤ l.length
  · rw [Nat.min_eq_left h]
  · rw [Nat.min_eq_right (by omega), List.take_of_length_le (Nat.le_refl _), List.take_of_length_le (by omega)]
theorem cut_both {l : List V} {i j : Nat} (h1 : i ≤ j) (h2 : j ≤ l.length) : cutV l (some (i : Int)) (some (j : Int)) = (l.drop i).take (j - i) := by
  unfold cutV
  rw [HT.sIx_nat, HT.sIx_nat, Nat.min_eq_left h2, Nat.min_eq_left (show i ≤ l.length by omega)]
theorem nv_drop (l : List Nat) (i : Nat) : (nv l).drop i = nv (l.drop i) := by
  unfold nv
  rw [List.map_drop]
theorem nv_take (l : List Nat) (i : Nat) : (nv l).take i = nv (l.take i) := by
  unfold nv
  rw [List.map_take]
/-! ## values by a property: something of which P holds -/
def EvG (te : TE) (σ : L2.St) (H : Hp) (P : V → Hp → Prop) : Prop := ∀ H1, Ex H H1 → ∀ Q : VK, (∀ v H2, Ex H1 H2 → P v H2 → Q v H2) → te σ H1 Q
theorem EvG.mono {P : V → Hp → Prop} (e : Ex H H') (h : EvG te σ H P) : EvG te σ H' P := fun H1 a Q q => h H1 (e.trans a) Q q
theorem ev_g {v : V} (h : Ev te σ H v) : EvG te σ H (fun z _ => z = v) := fun H1 e Q q => h H1 e Q fun H2 e2 => q v H2 e2 rfl
theorem eu_g {xs : List V} (h : EvU te σ H xs) : EvG te σ H (fun z H' => ∃ a, z = .ref a ∧ H' a = some (.tup xs)) := fun H1 e Q q => h H1 e Q fun p H2 hp e2 h2 => q _ H2 e2 ⟨p, rfl, h2⟩

/-! ## pairs of lists -/
theorem paired_append {α β : Type} {F : α → β → Prop} : ∀ {l1 l2 : List α} {m1 m2 : List β}, Paired F l1 m1 → Paired F l2 m2 → Paired F (l1 ++ l2) (m1 ++ m2)
  | _, _, _, _, .nil, h => h
  | _, _, _, _, .cons r t, h => .cons r (paired_append t h)
theorem paired_length {α β : Type} {F : α → β → Prop} : ∀ {l : List α} {m : List β}, Paired F l m → m.length = l.length
  | _, _, .nil => rfl
  | _, _, .cons _ t => by simp [paired_length t]
theorem paired_get {α β : Type} {F : α → β → Prop} : ∀ {l : List α} {m : List β}, Paired F l m → ∀ {i : Nat} {x : α}, l[i]? = some x → ∃ y, m[i]? = some y ∧ F x y
  | _, _, .nil, i, x, h => by simp at h
  | _, _, .cons (a := a) (b := b) r t, 0, x, h => by
    simp only [List.getElem?_cons_zero, Option.some.injEq] at h
    subst h
    exact ⟨_, rfl, r⟩
  | _, _, .cons r t, i + 1, x, h => by
    obtain ⟨y, hy, f⟩ := paired_get t (i := i) (x := x) (by simpa using h)
    exact ⟨y, by simpa using hy, f⟩
theorem paired_back {α β : Type} {F : α → β → Prop} : ∀ {l : List α} {m : List β}, Paired F l m → ∀ {i : Nat} {y : β}, m[i]? = some y → ∃ x, l[i]? = some x ∧ F x y
  | _, _, .nil, i, x, h => by simp at h
  | _, _, .cons (a := a) (b := b) r t, 0, x, h => by
    simp only [List.getElem?_cons_zero, Option.some.injEq] at h
    subst h
    exact ⟨_, rfl, r⟩
  | _, _, .cons r t, i + 1, x, h => by
    obtain ⟨y, hy, f⟩ := paired_back t (i := i) (y := x) (by simpa using h)
    exact ⟨y, by simpa using hy, f⟩
theorem paired_map {α γ β : Type} {F : γ → β → Prop} {g : α → γ} : ∀ {l : List α} {m : List β}, Paired (fun x y => F (g x) y) l m → Paired F (l.map g) m
  | _, _, .nil => .nil
  | _, _, .cons r t => .cons r (paired_map t)
theorem paired_mem {α β : Type} {F G : α → β → Prop} : ∀ {l : List α} {m : List β}, Paired F l m → (∀ x y, x ∈ l → F x y → G x y) → Paired G l m
  | _, _, .nil, _ => .nil
  | _, _, .cons r t, h => .cons (h _ _ (by simp) r) (paired_mem t fun x y hx f => h x y (by simp [hx]) f)

/-! ## comprehensions: each item something of which P holds, the new list at D -/
/-- all objects but D stay -/
def But (D : Addr) (H H' : Hp) : Prop := ∀ b o, b ≠ D → H b = some o → H' b = some o
def Gw (H : Hp) (f : Nat → Bool) (P : Addr → Nat → V → Hp → Prop) (D : Addr) (i : Nat) (H' : Hp) : Prop := H D = none ∧ Ex H H' ∧ ∃ acc, H' D = some (.lst acc) ∧ acc.length ≤ i ∧ Paired (fun k v => P D k v H') ((List.range i).filter f) acc
theorem gw_turn {H H' : Hp} {f : Nat → Bool} {P : Addr → Nat → V → Hp → Prop} {t : TT} {D : Addr} {i : Nat} {σ2 : L2.St} (mono : ∀ k v H2 H3 acc, H2 D = some (.lst acc) → But D H2 H3 → P D k v H2 → P D k v H3) (p : Gw H f P D i H') (hi : i < 50000) (ht : EvT t σ2 H (f i))
    (he : f i = true → ∀ H1 acc, Ex H H1 → H1 D = some (.lst acc) → ∀ Q : VK, (∀ v H2, Ex H1 H2 → P D i v H2 → Q v H2) → te σ2 H1 Q) :
    t σ2 H' fun b H3 => if b = true then te σ2 H3 fun y H4 => ∃ acc, H4 D = some (.lst acc) ∧ acc.length < sizeLine ∧ Gw H f P D (i + 1) (upd H4 D (.lst (acc ++ [y]))) else Gw H f P D (i + 1) H3 := by
  obtain ⟨p1, p2, acc, p3, p4, p5⟩ := p
  refine ht H' p2 _ fun H3 e3 => ?_
  have but : ∀ {A B : Hp}, Ex A B → But D A B := fun e b o _ h => e b o h
  cases hf : f i with
  | true =>
    show te σ2 H3 fun y H4 => ∃ acc, H4 D = some (.lst acc) ∧ acc.length < sizeLine ∧ Gw H f P D (i + 1) (upd H4 D (.lst (acc ++ [y])))
    refine he hf H3 acc (p2.trans e3) (e3 D _ p3) _ fun v H4 e4 hv => ⟨acc, e4 D _ (e3 D _ p3), sz_lt (by omega), p1, Ex.mut ((p2.trans e3).trans e4) p1, acc ++ [v], upd_same, by rw [List.length_append]; simp; omega, ?_⟩
    have bu : But D H4 (upd H4 D (.lst (acc ++ [v]))) := fun b o hb h => by rw [upd_ne hb]; exact h
    rw [List.range_succ, List.filter_append]
    refine paired_append (Paired.mapP p5 fun k z hz => mono k z H' _ acc p3 (fun b o hb h => bu b o hb (e4 b o (e3 b o h))) hz) ?_
    simp only [List.filter_cons, hf, if_true, List.filter_nil]
    exact .cons (mono i v H4 _ acc (e4 D _ (e3 D _ p3)) bu hv) .nil
  | false =>
    show Gw H f P D (i + 1) H3
    refine ⟨p1, p2.trans e3, acc, e3 D _ p3, by omega, ?_⟩
    rw [List.range_succ, List.filter_append]
    simp only [List.filter_cons, hf, Bool.false_eq_true, if_false, List.filter_nil, List.append_nil]
    exact Paired.mapP p5 fun k z hz => mono k z H' _ acc p3 (but e3) hz
/-- over range(lo, hi) -/
theorem g_lcR2 {tg : TA} {t : TT} {j : Nat} {vs : List Nat} {lo n : Int} {Q : VK} (f : Nat → Bool) (P : Addr → Nat → V → Hp → Prop) (h : EvA tg σ H [.int lo, .int n]) (hn : 0 ≤ lo ∧ lo ≤ 1000 ∧ 0 ≤ n ∧ n ≤ 40000) (hw : ∀ x, wipe ((wipe σ vs).set j (some x)) vs = wipe σ vs)
    (mono : ∀ D k v H2 H3 acc, H2 D = some (.lst acc) → But D H2 H3 → P D k v H2 → P D k v H3)
    (ht : ∀ (i : Nat) H1, Ex H H1 → lo + (i : Int) < n → EvT t ((wipe σ vs).set j (some (.int (lo + (i : Int))))) H1 (f i))
    (he : ∀ (D : Addr) (i : Nat), H D = none → lo + (i : Int) < n → f i = true → ∀ H1 acc, Ex H H1 → H1 D = some (.lst acc) → ∀ Q : VK, (∀ v H2, Ex H1 H2 → P D i v H2 → Q v H2) → te ((wipe σ vs).set j (some (.int (lo + (i : Int))))) H1 Q)
    (k : ∀ D H' acc, H D = none → Ex H H' → H' D = some (.lst acc) → Paired (fun k v => P D k v H') ((List.range (n - lo).toNat).filter f) acc → Q (.ref D) H') :
    tLc (iRng2 tg) (gName j) t te vs σ H Q := h H (Ex.refl H) _ fun H1 e1 => ⟨lo, n, rfl, ⟨by omega, by omega, by omega, by omega⟩, fun D hD =>
  lc_range (lo := lo) (n := (n - lo).toNat) (Gw H1 f P D) ⟨hD, Ex.new hD, [], upd_same, Nat.le_refl _, .nil⟩ (fun i H' hi p => ⟨hw _, gw_turn (mono D) p (by omega) (ht i H1 e1 (by omega)) (fun hf H2 acc e2 => he D i (fresh_back e1 hD) (by omega) hf H2 acc (e1.trans e2))⟩) (fun H' p => by
    obtain ⟨p1, p2, acc, p3, p4, p5⟩ := p
    exact k D H' acc (fresh_back e1 p1) (e1.trans p2) p3 p5)⟩
/-- over range(hi) -/
theorem g_lcR1 {tg : TA} {t : TT} {j : Nat} {vs : List Nat} {n : Int} {Q : VK} (f : Nat → Bool) (P : Addr → Nat → V → Hp → Prop) (h : EvA tg σ H [.int n]) (hn : 0 ≤ n ∧ n ≤ 40000) (hw : ∀ x, wipe ((wipe σ vs).set j (some x)) vs = wipe σ vs)
    (mono : ∀ D k v H2 H3 acc, H2 D = some (.lst acc) → But D H2 H3 → P D k v H2 → P D k v H3)
    (ht : ∀ (i : Nat) H1, Ex H H1 → (i : Int) < n → EvT t ((wipe σ vs).set j (some (.int (i : Int)))) H1 (f i))
    (he : ∀ (D : Addr) (i : Nat), H D = none → (i : Int) < n → f i = true → ∀ H1 acc, Ex H H1 → H1 D = some (.lst acc) → ∀ Q : VK, (∀ v H2, Ex H1 H2 → P D i v H2 → Q v H2) → te ((wipe σ vs).set j (some (.int (i : Int)))) H1 Q)
    (k : ∀ D H' acc, H D = none → Ex H H' → H' D = some (.lst acc) → Paired (fun k v => P D k v H') ((List.range n.toNat).filter f) acc → Q (.ref D) H') :
    tLc (iRng1 tg) (gName j) t te vs σ H Q := h H (Ex.refl H) _ fun H1 e1 => ⟨n, rfl, by omega, by omega, fun D hD =>
  lc_range (lo := 0) (n := n.toNat) (Gw H1 f P D) ⟨hD, Ex.new hD, [], upd_same, Nat.le_refl _, .nil⟩ (fun i H' hi p => by
    have e0 : (0 : Int) + (i : Int) = (i : Int) := Int.zero_add _
    show wipe ((wipe σ vs).set j (some (.int ((0 : Int) + (i : Int))))) vs = wipe σ vs ∧ t ((wipe σ vs).set j (some (.int ((0 : Int) + (i : Int))))) H' fun b H3 => if b = true then te ((wipe σ vs).set j (some (.int ((0 : Int) + (i : Int))))) H3 fun y H4 => ∃ acc, H4 D = some (.lst acc) ∧ acc.length < sizeLine ∧ Gw H1 f P D (i + 1) (upd H4 D (.lst (acc ++ [y]))) else Gw H1 f P D (i + 1) H3
    rw [e0]
    exact ⟨hw _, gw_turn (mono D) p (by omega) (ht i H1 e1 (by omega)) (fun hf H2 acc e2 => he D i (fresh_back e1 hD) (by omega) hf H2 acc (e1.trans e2))⟩) (fun H' p => by
    obtain ⟨p1, p2, acc, p3, p4, p5⟩ := p
    exact k D H' acc (fresh_back e1 p1) (e1.trans p2) p3 p5)⟩
/-- over a list -/
theorem g_lcL {a : Addr} {xs : List V} {tl : TE} {t : TT} {j : Nat} {vs : List Nat} {Q : VK} (f : Nat → Bool) (P : Addr → Nat → V → Hp → Prop) (h : Ev tl σ H (.ref a)) (hx : SqL K H a xs) (hz : xs.length ≤ 40000) (hw : ∀ x, wipe ((wipe σ vs).set j (some x)) vs = wipe σ vs)
    (mono : ∀ D k v H2 H3 acc, H2 D = some (.lst acc) → But D H2 H3 → P D k v H2 → P D k v H3)
    (ht : ∀ (i : Nat) (x : V) H1, Ex H H1 → xs[i]? = some x → EvT t ((wipe σ vs).set j (some x)) H1 (f i))
    (he : ∀ (D : Addr) (i : Nat) (x : V), H D = none → xs[i]? = some x → f i = true → ∀ H1 acc, Ex H H1 → H1 D = some (.lst acc) → ∀ Q : VK, (∀ v H2, Ex H1 H2 → P D i v H2 → Q v H2) → te ((wipe σ vs).set j (some x)) H1 Q)
    (k : ∀ D H' acc, H D = none → Ex H H' → H' D = some (.lst acc) → Paired (fun k v => P D k v H') ((List.range xs.length).filter f) acc → Q (.ref D) H') :
    tLc (iList K tl) (gName j) t te vs σ H Q := h H (Ex.refl H) _ fun H1 e1 => ⟨a, rfl, ⟨xs, ex_l e1 hx⟩, fun D hD =>
  lc_list (xs := xs) (Gw H1 f P D) ⟨hD, Ex.new hD, [], upd_same, Nat.le_refl _, .nil⟩ (fun i H' _ p => ex_l (e1.trans p.2.1) hx) (fun i x H' hi p => ⟨hw x, gw_turn (mono D) p (by have := (List.getElem?_eq_some_iff.mp hi).1; omega) (ht i x H1 e1 hi) (fun hf H2 acc e2 => he D i x (fresh_back e1 hD) hi hf H2 acc (e1.trans e2))⟩) (fun H' p => by
    obtain ⟨p1, p2, acc, p3, p4, p5⟩ := p
    exact k D H' acc (fresh_back e1 p1) (e1.trans p2) p3 p5)⟩
theorem q_asgX {i : Nat} {D : Ends} {tz : TS} (h : te σ H fun v H1 => tz D (σ.set i (some v)) H1) : tSeq (tAsg te (gName i)) tz D σ H := h
theorem s_asgX {i : Nat} {D : Ends} (h : te σ H fun v H1 => D.nx (σ.set i (some v)) H1) : tAsg te (gName i) D σ H := h
theorem s_retX {D : Ends} (h : te σ H fun v H1 => D.rt v H1) : tRet te D σ H := h
theorem et_yes : EvT tYes σ H true := fun H1 _ Q q => q H1 (Ex.refl H1)
/-- reversed, as a list -/
theorem el_rev {a : Addr} {xs : List V} (h : Ev te σ H (.ref a)) (hx : SqL K H a xs) : EvL (tListRev K te) σ H xs.reverse := fun H1 e Q q =>
  h H1 e _ fun H2 e2 => ⟨a, xs, rfl, ex_l (e.trans e2) hx, fun p hp => q p _ (fresh_back e2 hp) (e2.trans (Ex.new hp)) upd_same⟩
end
end Kt

/-! # Ways to tell a stretch -/
namespace Kt
open PySem PySem.Spec PyProof.Rows L2 Evl
open Vbktaf (Weights Way part hasPeriod isMirror allAlike wayRow look Table)
/-- the four weights as an instance's fields -/
def wF (w : Weights) : List (Str × V) := [("letter", .int (w.letter : Int)), ("number", .int (w.number : Int)), ("brackets", .int (w.bracket : Int)), ("others", .int (w.mirror : Int))]
theorem lk_here {k : Str} {v : V} {r : List (Str × V)} : List.lookup k ((k, v) :: r) = some v := by
  have e : (k == k) = true := beq_self_eq_true k
  simp only [List.lookup, e]
theorem lk_past {k g : Str} {v : V} {r : List (Str × V)} (h : (k == g) = false) : List.lookup k ((g, v) :: r) = List.lookup k r := by
  simp only [List.lookup, h]
theorem wF_l (w : Weights) : (wF w).lookup ("letter" : Str) = some (.int (w.letter : Int)) := lk_here
theorem wF_n (w : Weights) : (wF w).lookup ("number" : Str) = some (.int (w.number : Int)) := (lk_past (by decide +kernel)).trans lk_here
theorem wF_b (w : Weights) : (wF w).lookup ("brackets" : Str) = some (.int (w.bracket : Int)) := (lk_past (by decide +kernel)).trans ((lk_past (by decide +kernel)).trans lk_here)
theorem wF_o (w : Weights) : (wF w).lookup ("others" : Str) = some (.int (w.mirror : Int)) := (lk_past (by decide +kernel)).trans ((lk_past (by decide +kernel)).trans ((lk_past (by decide +kernel)).trans lk_here))
def WtAt (C : Addr) (H : Hp) (o : Addr) (w : Weights) : Prop := ∃ dx, H o = some (.ins C dx (wF w))
theorem WtAt.ex {C : Addr} {H H' : Hp} {o : Addr} {w : Weights} (h : WtAt C H o w) (e : Ex H H') : WtAt C H' o w := let ⟨dx, z⟩ := h; ⟨dx, e _ _ z⟩
/-- what the top has written of the class of weights -/
structure WTx (K : PySem.W.Frag) (C : Addr) : Prop where
  cl : Cls K C
  nL : NoAttr K C "letter"
  nN : NoAttr K C "number"
  nB : NoAttr K C "brackets"
  nO : NoAttr K C "others"
/-- a list of lists of numbers -/
def RowV (K : PySem.W.Frag) (H : Hp) (r : List Nat) (v : V) : Prop := ∃ a, v = .ref a ∧ SqL K H a (nv r)
def TabAt (K : PySem.W.Frag) (H : Hp) (c : Addr) (t : List (List Nat)) : Prop := ∃ vs, SqL K H c vs ∧ Paired (RowV K H) t vs
theorem RowV.ex {K : PySem.W.Frag} {H H' : Hp} {r : List Nat} {v : V} (e : Ex H H') (h : RowV K H r v) : RowV K H' r v := let ⟨a, z, q⟩ := h; ⟨a, z, ex_l e q⟩
theorem TabAt.ex {K : PySem.W.Frag} {H H' : Hp} {c : Addr} {t : List (List Nat)} (h : TabAt K H c t) (e : Ex H H') : TabAt K H' c t := let ⟨vs, z, q⟩ := h; ⟨vs, ex_l e z, Paired.mapP q fun _ _ => RowV.ex e⟩
/-- a way as a tuple -/
def WayV (K : PySem.W.Frag) (H : Hp) (x : Way × Nat) (v : V) : Prop := ∃ a, v = .ref a ∧ H a = some (.tup (iv (wayRow x)))
theorem WayV.ex {K : PySem.W.Frag} {H H' : Hp} {x : Way × Nat} {v : V} (e : Ex H H') (h : WayV K H x v) : WayV K H' x v := let ⟨a, z, q⟩ := h; ⟨a, z, e _ _ q⟩
theorem WayV.but {K : PySem.W.Frag} {H H' : Hp} {x : Way × Nat} {v : V} {D : Addr} {acc : List V} (hD : H D = some (.lst acc)) (e : But D H H') (h : WayV K H x v) : WayV K H' x v := by
  obtain ⟨a, z, q⟩ := h
  exact ⟨a, z, e a _ (fun y => by rw [y, hD] at q; cases q) q⟩
/-- a new list of ways is given back -/
def RetWays (K : PySem.W.Frag) (ws : List (Way × Nat)) (H : Hp) (Q : VK) : Prop := ∀ p H2 vs, H p = none → Ex H H2 → H2 p = some (.lst vs) → Paired (WayV K H2) ws vs → Q (.ref p) H2
section
variable {P : Program} {w : World} {K : PySem.W.Frag} {mg : Str → Option Value} {base : Heap}
section
variable {σ : L2.St} {H H' : Hp} {ta tb tc te : TE}
/-- costs[m][i] -/
theorem ev_tab {c : Addr} {t : List (List Nat)} {m i z : Nat} {r : List Nat} (ha : Ev ta σ H (.ref c)) (hm : Ev tb σ H (.int (m : Int))) (hi : Ev tc σ H (.int (i : Int))) (h : TabAt K H c t) (hr : t[m]? = some r) (hz : r[i]? = some z) :
    Ev (tOp (rIxL K) (tOp (rIxL K) ta tb) tc) σ H (.int (z : Int)) := by
  obtain ⟨vs, h1, h2⟩ := h
  obtain ⟨v, hv, a, rfl, ha2⟩ := paired_get h2 hr
  exact ev_ixL (ev_ixL ha hm h1 (atI_nat hv)) hi ha2 (atI_nat (nv_get hz))
end
theorem beq_dec (l m : List Nat) : (l == m) = decide (l = m) := by
  by_cases h : l = m <;> simp [h]
/-- has_period -/
def sp_has_period (K : PySem.W.Frag) : Sp := fun vs H Q _ => ∃ (a : Addr) (l : List Nat) (p : Nat), vs = [.ref a, .int (p : Int)] ∧ SqL K H a (nv l) ∧ 0 < p ∧ p ≤ l.length ∧ RetV (.bl (l.length % p == 0 && l.drop p == l.take (l.length - p))) H Q
theorem sc_has_period : FnScope ["stitches", "period"] ["stitches", "period"] (C8.fnScope s_has_period) := C8.fnScope_by (by decide +kernel)
theorem cal_has_period (D : DF K mg "has_period" s_has_period) (T : Tx K mg) : C8.Cal P w K mg base 1 "has_period" (sp_has_period K) [] := by
  refine cal_by D sc_has_period (fun _ _ _ _ _ _ us hl => match us, hl with | [_, _], _ => rfl) (fun vs H Q E h => ?_) (fun f cdv A outer s H vs Q E hr h => ?_)
  · obtain ⟨a, l, p, rfl, _⟩ := h
    rfl
  · obtain ⟨a, l, p, rfl, hS, hp, hpl, k⟩ := h
    refine ⟨_, (pss_one (ps_ret (pe_and (pe_cmpR op_eq (pe_op op_modN (pe_callB call_len_seq (by rfl) T.b_len PySem.boot_len (pa_cons (pv 0) pa_nil)) (pv 1)) pe_int (nomark _)) (pe_one (pe_cmpR (op_eqD hr.units) (pe_slice sl_list (pv 0) (po_some (pv 1)) po_none) (pe_slice sl_list (pv 0) po_none (po_some (pe_op op_sub (pe_callB call_len_seq (by rfl) T.b_len PySem.boot_len (pa_cons (pv 0) pa_nil)) (pv 1)))) (nomark _)))))), ?_⟩
    refine s_ret (ev_andV (ev_is (ev_op (ev_op (ev_len (ev_var rfl) hS) (ev_var rfl) (rv_I (show (p : Int) ≠ 0 by omega))) ev_c (rv_eq rfl)) (w := .bl (l.length % p == 0)) ?_) fun _ => ev_opLL (el_sl (ev_var rfl) (eo_some (ev_var rfl)) eo_none hS) (el_sl (ev_var rfl) eo_none (eo_some (ev_is (ev_sub (ev_len (ev_var rfl) hS) (ev_var rfl)) (w := .int ((l.length - p : Nat) : Int)) ?_)) hS) fun a1 a2 H1 h1 h2 _ => ?_) fun H1 e => k H1 e
    · rw [List.length_map]
      congr 1
      have e1 : ((l.length : Nat) : Int).fmod (p : Int) = ((l.length % p : Nat) : Int) := by
        rw [Int.fmod_eq_emod_of_nonneg _ (by omega)]
        rfl
      rw [e1]
      have : decide (V.int ((l.length % p : Nat) : Int) = V.int 0) = decide (l.length % p = 0) := decide_eq_decide.mpr (by simp; omega)
      rw [this]
      rfl
    · rw [List.length_map]
      congr 1
      omega
    · rw [cut_from, nv_drop] at h1
      rw [cut_to, nv_take] at h2
      have := rv_eqN (K := K) (sq_of h1) (sq_of h2)
      rw [beq_dec]
      exact this
/-- is_mirrored -/
def sp_is_mirrored (K : PySem.W.Frag) : Sp := fun vs H Q _ => ∃ (a : Addr) (l : List Nat), vs = [.ref a] ∧ SqL K H a (nv l) ∧ RetV (.bl (isMirror l)) H Q
theorem sc_is_mirrored : FnScope ["stitches"] ["stitches"] (C8.fnScope s_is_mirrored) := C8.fnScope_by (by decide +kernel)
theorem cal_is_mirrored (D : DF K mg "is_mirrored" s_is_mirrored) (T : Tx K mg) : C8.Cal P w K mg base 1 "is_mirrored" (sp_is_mirrored K) [] := by
  refine cal_by D sc_is_mirrored (fun _ _ _ _ _ _ us hl => match us, hl with | [_], _ => rfl) (fun vs H Q E h => ?_) (fun f cdv A outer s H vs Q E hr h => ?_)
  · obtain ⟨a, l, rfl, _⟩ := h
    rfl
  · obtain ⟨a, l, rfl, hS, k⟩ := h
    refine ⟨_, (pss_one (ps_ret (pe_cmpR (op_eqD hr.units) (pv 0) (Kt.pe_listRev rfl rfl T.b_list rfl T.b_reversed (pv 0)) (nomark _)))), ?_⟩
    refine s_ret (ev_opL (ev_var rfl) (el_rev (ev_var rfl) hS) fun p H1 h1 e1 => ?_) fun H1 e => k H1 e
    rw [← List.map_reverse] at h1
    unfold isMirror
    rw [beq_dec]
    exact rv_eqN (K := K) (ex_l e1 hS) (sq_of h1)
/-- first_half -/
def sp_first_half : Sp := fun vs H Q _ => ∃ n : Nat, vs = [.int (n : Int)] ∧ RetV (.int (((n + 1) / 2 : Nat) : Int)) H Q
theorem sc_first_half : FnScope ["length"] ["length"] (C8.fnScope s_first_half) := C8.fnScope_by (by decide +kernel)
theorem fdiv_nat (a b : Nat) : ((a : Nat) : Int).fdiv (b : Int) = ((a / b : Nat) : Int) := by
  rw [Int.fdiv_eq_ediv_of_nonneg _ (by omega)]
  rfl
theorem fmod_nat (a b : Nat) : ((a : Nat) : Int).fmod (b : Int) = ((a % b : Nat) : Int) := by
  rw [Int.fmod_eq_emod_of_nonneg _ (by omega)]
  rfl
theorem cal_first_half (D : DF K mg "first_half" s_first_half) (T : Tx K mg) : C8.Cal P w K mg base 1 "first_half" sp_first_half [] := by
  refine cal_by D sc_first_half (fun _ _ _ _ _ _ us hl => match us, hl with | [_], _ => rfl) (fun vs H Q E h => ?_) (fun f cdv A outer s H vs Q E hr h => ?_)
  · obtain ⟨n, rfl, _⟩ := h
    rfl
  · obtain ⟨n, rfl, k⟩ := h
    refine ⟨_, (pss_one (ps_ret (pe_op op_fdivN (pe_op op_add (pv 0) pe_int) pe_int))), ?_⟩
    refine s_ret (ev_is (ev_op (ev_add (ev_var rfl) ev_c) ev_c (rv_I ⟨by decide, by decide⟩)) ?_) fun H1 e => k H1 e
    exact congrArg V.int (fdiv_nat (n + 1) 2)
/-- way_cost -/
def sp_way_cost (K : PySem.W.Frag) : Sp := fun vs H Q _ => ∃ (x : Way × Nat) (v : V), vs = [v] ∧ WayV K H x v ∧ RetV (.int (x.2 : Int)) H Q
theorem wayRow_two (x : Way × Nat) : (iv (wayRow x))[2]? = some (.int (x.2 : Int)) := by
  unfold wayRow
  cases x.1 <;> rfl
theorem wayRow_len (x : Way × Nat) : (iv (wayRow x)).length = 3 := by
  unfold wayRow
  cases x.1 <;> rfl
theorem sc_way_cost : FnScope ["way"] ["way"] (C8.fnScope s_way_cost) := C8.fnScope_by (by decide +kernel)
theorem cal_way_cost (D : DF K mg "way_cost" s_way_cost) (T : Tx K mg) : C8.Cal P w K mg base 1 "way_cost" (sp_way_cost K) [] := by
  refine cal_by D sc_way_cost (fun _ _ _ _ _ _ us hl => match us, hl with | [_], _ => rfl) (fun vs H Q E h => ?_) (fun f cdv A outer s H vs Q E hr h => ?_)
  · obtain ⟨x, v, rfl, _⟩ := h
    rfl
  · obtain ⟨x, v, rfl, ⟨a, rfl, hw⟩, k⟩ := h
    refine ⟨_, (pss_one (ps_ret (pe_ix ix_tup (pv 0) pe_int (fun _ _ => rfl)))), ?_⟩
    exact s_ret (ev_ixT (ev_var rfl) ev_c (st_of hw) (atI_nat (j := 2) (wayRow_two x))) fun H1 e => k H1 e
/-- first_least -/
def sp_first_least (K : PySem.W.Frag) : Sp := fun vs H Q _ => ∃ (a : Addr) (ws : List (Way × Nat)) (xs : List V), vs = [.ref a] ∧ SqL K H a xs ∧ Paired (WayV K H) ws xs ∧ ws ≠ [] ∧ ∀ v y H', Vbktaf.firstBest ws = some y → Ex H H' → WayV K H' y v → v ∈ xs → Q v H'
theorem sc_first_least : FnScope ["ways"] ["ways"] (C8.fnScope s_first_least) := C8.fnScope_by (by decide +kernel)
theorem cal_first_least (D : DF K mg "first_least" s_first_least) (T : Tx K mg) (c_way_cost : C8.Cal P w K mg base 1 "way_cost" (sp_way_cost K) []) : C8.Cal P w K mg base 3 "first_least" (sp_first_least K) [] := by
  obtain ⟨fW, fdW, psW, dsW, FW, g_way_cost, kpW, bW, dW⟩ := c_way_cost.ex
  cases dW
  have a_way_cost : C8.CalAt P w K mg base 1 fW (sp_way_cost K) := ⟨fdW, psW, FW, kpW, bW⟩
  refine cal_by D sc_first_least (fun _ _ _ _ _ _ us hl => match us, hl with | [_], _ => rfl) (fun vs H Q E h => ?_) (fun f cdv A outer s H vs Q E hr h => ?_)
  · obtain ⟨a, ws, xs, rfl, _⟩ := h
    rfl
  · obtain ⟨a, ws, xs, rfl, hS, hp, hne, k⟩ := h
    refine ⟨_, (pss_one (ps_ret (pe_callBK (Kt.cr_minKey rfl a_way_cost hr (by decide)) (by rfl) T.b_min (by decide +kernel) (pa_cons (pv 0) pa_nil) (pk_cons (pe_glob (v := .ref _) rfl g_way_cost rfl) pk_nil)))), ?_⟩
    have hlen := paired_length hp
    have hpos : 0 < ws.length := List.length_pos_iff.mpr hne
    refine ⟨_, rfl, a, xs, fun i => ((ws[i]?.map fun x => x.2).getD 0 : Nat), rfl, rfl, hS, by omega, fun i x hx H' e Q' q => ?_, fun i x H' hx hb e => ?_⟩
    · obtain ⟨y, hy, hw⟩ := paired_back hp hx
      refine ⟨y, x, rfl, hw.ex e, fun H2 e2 => ?_⟩
      have := q H2 e2
      dsimp only at this
      rw [hy] at this
      exact this
    · obtain ⟨y, hy, hw⟩ := paired_back hp hx
      refine k x y H' (firstBest_first hy (fun z hz => ?_) (fun j z hj hz => ?_)) e (hw.ex e) (List.mem_of_getElem? hx)
      · obtain ⟨j, hj, ej⟩ := List.getElem_of_mem hz
        have h1 := (hb j (by omega)).1
        dsimp only at h1
        rw [hy, List.getElem?_eq_getElem hj, ej] at h1
        simp at h1
        omega
      · have hjl : j < ws.length := (List.getElem?_eq_some_iff.mp hz).1
        have h1 := (hb j (by omega)).2 hj
        dsimp only at h1
        rw [hy, hz] at h1
        simp at h1
        omega
end
end Kt

/-! # The ways of a stretch, kind by kind -/
namespace Kt
open PySem PySem.Spec PyProof.Rows L2 Evl
open Vbktaf (Weights Way part hasPeriod isMirror allAlike wayRow look Table)
theorem alike_shift : ∀ (a : Nat) (r : List Nat), (r = (a :: r).take r.length) ↔ ∀ c ∈ r, c = a
  | a, [] => by simp
  | a, b :: r => by
    rw [List.length_cons, List.take_succ_cons, List.cons.injEq]
    constructor
    · rintro ⟨rfl, h⟩ c hc
      rcases List.mem_cons.mp hc with rfl | hc
      · rfl
      · exact (alike_shift _ r).mp h c hc
    · intro h
      have hb : b = a := h b (by simp)
      subst hb
      exact ⟨rfl, (alike_shift _ r).mpr fun c hc => h c (by simp [hc])⟩
theorem period_one {l : List Nat} (h : l ≠ []) : (l.length % 1 == 0 && l.drop 1 == l.take (l.length - 1)) = allAlike l := by
  cases l with
  | nil => exact absurd rfl h
  | cons a r =>
    have h1 : ((a :: r).length % 1 == 0) = true := by simp [Nat.mod_one]
    rw [h1, Bool.true_and, beq_dec]
    simp only [List.drop_one, List.tail_cons, List.length_cons, Nat.add_sub_cancel]
    unfold allAlike
    rw [show decide (r = (a :: r).take r.length) = decide (∀ c ∈ r, c = a) from decide_eq_decide.mpr (alike_shift a r)]
    simp only [List.head?_cons, List.all_cons, beq_self_eq_true, Bool.true_and]
    rw [Bool.eq_iff_iff]
    simp only [decide_eq_true_eq, List.all_eq_true]
    constructor
    · intro q c hc
      rw [q c hc]
      simp
    · intro q c hc
      have := q c hc
      simp at this
      exact this.symm
section
variable {P : Program} {w : World} {K : PySem.W.Frag} {mg : Str → Option Value} {base : Heap}
section
variable {σ : L2.St} {H H' : Hp} {ta tb tc te : TE} {D : Ends}
theorem s_retL1U {xs : List V} (h : EvU te σ H xs) (k : ∀ p q H1, H q = none → Ex H H1 → H1 q = some (.lst [.ref p]) → H1 p = some (.tup xs) → D.rt (.ref q) H1) : tRet (tLst (tCons te tNil)) D σ H :=
  h H (Ex.refl H) _ fun p H1 hp e1 h1 => ⟨sz_of (by simp), fun q hq => k p q _ (fresh_back e1 hq) (e1.trans (Ex.new hq)) upd_same (Ex.new hq p _ h1)⟩
end
def rw_run (w : Weights) (l : List Nat) : List (Way × Nat) := if allAlike l = true then [(.run, if l.length = 1 then w.letter else w.letter + w.number)] else []
def sp_alike_ways (K : PySem.W.Frag) (CW : Addr) : Sp := fun vs H Q _ => ∃ (a o : Addr) (l : List Nat) (w : Weights), vs = [.ref a, .ref o] ∧ SqL K H a (nv l) ∧ l ≠ [] ∧ WtAt CW H o w ∧ RetWays K (rw_run w l) H Q
theorem sc_alike_ways : FnScope ["stitches", "weights", "number"] ["stitches", "weights"] (C8.fnScope s_alike_ways) := C8.fnScope_by (by decide +kernel)
theorem cal_alike_ways {CW : Addr} (D : DF K mg "alike_ways" s_alike_ways) (T : Tx K mg) (TW : WTx K CW) (c_has_period : C8.Cal P w K mg base 1 "has_period" (sp_has_period K) []) : C8.Cal P w K mg base 2 "alike_ways" (sp_alike_ways K CW) [] := by
  refine cal_by D sc_alike_ways (fun _ _ _ _ _ _ us hl => match us, hl with | [_, _], _ => rfl) (fun vs H Q E h => ?_) (fun f cdv A outer s H vs Q E hr h => ?_)
  · obtain ⟨a, o, l, w, rfl, _⟩ := h
    rfl
  · obtain ⟨a, o, l, wt, rfl, hS, hne, hW, k⟩ := h
    obtain ⟨dx, hO⟩ := hW
    have hpos : 0 < l.length := List.length_pos_iff.mpr hne
    refine ⟨_, (pss_cons (ps_if (pt_not (pt_val (C8.pe_c c_has_period hr (by decide) rfl (pa_cons (pv 0) (pa_cons pe_int pa_nil))))) (pss_one (ps_ret (pe_lst pa_nil))) pss_nil) (pss_cons (ps_set (i := 2) sc_alike_ways.nd rfl (Or.inl rfl) (pe_ifExp (pt_cmpR op_gt (pe_callB call_len_seq (by rfl) T.b_len PySem.boot_len (pa_cons (pv 0) pa_nil)) pe_int (nomark _)) (pe_fld (pv 1) rfl) pe_int)) (pss_one (ps_ret (pe_lst (pa_cons (pe_tup (pa_cons (C8.pe_gc rfl T.g_ALIKE) (pa_cons pe_int (pa_cons (pe_op op_add (pe_fld (pv 1) rfl) (pv 2)) pa_nil)))) pa_nil)))))), ?_⟩
    have hp1 : SpV (sp_has_period K) ([.ref a, .int 1] ++ []) H (.bl (allAlike l)) := fun H1 e1 Q1 q1 E1 => by
      rw [← period_one hne] at q1
      exact ⟨a, l, 1, rfl, ex_l e1 hS, by decide, hpos, q1⟩
    refine q_when (b := !allAlike l) (et_not (et_B (ev_call (ea_cons (ev_var rfl) (ea_cons ev_c ea_nil)) hp1))) (fun hb H1 e1 => ?_) (fun hb H1 e1 => ?_)
    · have hb' : allAlike l = false := by simpa using hb
      refine s_retL (el_lst ea_nil (by simp)) fun p H2 hp e2 h2 => ?_
      refine k p H2 [] (fresh_back e1 hp) (e1.trans e2) h2 ?_
      unfold rw_run
      rw [hb', if_neg (by decide)]
      exact .nil
    · have hb' : allAlike l = true := by simpa using hb
      refine q_asg (v := .int ((if l.length = 1 then 0 else wt.number : Nat) : Int)) (ev_if (b := decide (1 < l.length)) (et_test (ev_is (ev_op (ev_len (ev_var rfl) (ex_l e1 hS)) ev_c rv_I0) ?_)) (fun hc => ?_) (fun hc => ?_)) fun H2 e2 => ?_
      · rw [List.length_map]
        exact congrArg V.bl (decide_eq_decide.mpr (by omega))
      · have := of_decide_eq_true hc
        rw [if_neg (by omega)]
        exact ev_fld (ev_var rfl) (e1 _ _ hO) TW.cl TW.nN (wF_n wt)
      · have := of_decide_eq_false hc
        rw [if_pos (by omega)]
        exact ev_c
      · refine s_retL1U (eu_tup (ea_cons ev_c (ea_cons ev_c (ea_cons (ev_is (ev_add (ev_fld (ev_var rfl) ((e1.trans e2) _ _ hO) TW.cl TW.nL (wF_l wt)) (ev_var rfl)) (w := .int ((if l.length = 1 then wt.letter else wt.letter + wt.number : Nat) : Int)) ?_) ea_nil))) (by simp)) fun p q H3 hq e3 h3 hp => ?_
        · congr 1
          split <;> omega
        · refine k q H3 [.ref p] (fresh_back (e1.trans e2) hq) ((e1.trans e2).trans e3) h3 ?_
          unfold rw_run
          rw [if_pos hb']
          exact .cons ⟨p, rfl, hp⟩ .nil

/-- mirror_ways -/
def rw_mir (w : Weights) (l : List Nat) (z : Nat → Nat) : List (Way × Nat) :=
  (if (isMirror l && (l.length % 2 == 0 && l.length != 0)) = true then [(.mirror, w.mirror + z (l.length / 2))] else []) ++
  (if (isMirror l && (l.length % 2 == 1 && l.length != 1)) = true then [(.odd, w.mirror + z ((l.length + 1) / 2))] else [])
/-- what is looked up is there -/
def TabOk (t : Table) (i n : Nat) : Prop := ∀ a m, 1 ≤ m → m < n → a + m ≤ n → ∃ r, ([] :: t)[m]? = some r ∧ r[i + a]? = some (look t (i + a) m)
def sp_mirror_ways (K : PySem.W.Frag) (CW : Addr) : Sp := fun vs H Q _ => ∃ (a o c : Addr) (l : List Nat) (w : Weights) (t : Table) (i : Nat), vs = [.ref a, .ref o, .ref c, .int (i : Int)] ∧ SqL K H a (nv l) ∧ l ≠ [] ∧ WtAt CW H o w ∧ TabAt K H c ([] :: t) ∧ TabOk t i l.length ∧ RetWays K (rw_mir w l (fun m => look t i m)) H Q
theorem sc_mirror_ways : FnScope ["stitches", "weights", "costs", "start", "length", "kind"] ["stitches", "weights", "costs", "start"] (C8.fnScope s_mirror_ways) := C8.fnScope_by (by decide +kernel)
theorem cal_mirror_ways {CW : Addr} (D : DF K mg "mirror_ways" s_mirror_ways) (T : Tx K mg) (TW : WTx K CW) (c_is_mirrored : C8.Cal P w K mg base 1 "is_mirrored" (sp_is_mirrored K) []) (c_first_half : C8.Cal P w K mg base 1 "first_half" sp_first_half []) :
    C8.Cal P w K mg base 2 "mirror_ways" (sp_mirror_ways K CW) [] := by
  refine cal_by D sc_mirror_ways (fun _ _ _ _ _ _ us hl => match us, hl with | [_, _, _, _], _ => rfl) (fun vs H Q E h => ?_) (fun f cdv A outer s H vs Q E hr h => ?_)
  · obtain ⟨a, o, c, l, w, t, i, rfl, _⟩ := h
    rfl
  · obtain ⟨a, o, c, l, wt, t, i, rfl, hS, hne, hW, hT, hok, k⟩ := h
    obtain ⟨dx, hO⟩ := hW
    have hpos : 0 < l.length := List.length_pos_iff.mpr hne
    refine ⟨_, (pss_cons (ps_set (i := 4) sc_mirror_ways.nd rfl (Or.inl rfl) (pe_callB call_len_seq (by rfl) T.b_len PySem.boot_len (pa_cons (pv 0) pa_nil))) (pss_cons (ps_if (PW.pt (pw_or (pt_cmpR op_eq (pv 4) pe_int (nomark _)) (pw_or1 (pt_not (pt_val (C8.pe_c c_is_mirrored hr (by decide) rfl (pa_cons (pv 0) pa_nil))))))) (pss_one (ps_ret (pe_lst pa_nil))) pss_nil) (pss_cons (ps_set (i := 5) sc_mirror_ways.nd rfl (Or.inl rfl) (pe_ifExp (pt_cmpR op_eq (pe_op op_modN (pv 4) pe_int) pe_int (nomark _)) (C8.pe_gc rfl T.g_EVEN_MIRROR) (C8.pe_gc rfl T.g_ODD_MIRROR))) (pss_one (ps_ret (pe_lst (pa_cons (pe_tup (pa_cons (pv 5) (pa_cons pe_int (pa_cons (pe_op op_add (pe_fld (pv 1) rfl) (pe_ix ix_list (pe_ix ix_list (pv 2) (C8.pe_c c_first_half hr (by decide) rfl (pa_cons (pv 4) pa_nil)) (fun _ _ => rfl)) (pv 3) (fun _ _ => rfl))) pa_nil)))) pa_nil))))))), ?_⟩
    refine q_asg (v := .int (l.length : Int)) (ev_is (ev_len (ev_var rfl) hS) (by rw [List.length_map])) fun H1 e1 => ?_
    have hm : SpV (sp_is_mirrored K) ([.ref a] ++ []) H1 (.bl (isMirror l)) := fun H2 e2 Q1 q1 E1 => ⟨a, l, rfl, ex_l (e1.trans e2) hS, q1⟩
    refine q_when (b := decide (l.length = 1) || !isMirror l) (et_or (et_test (ev_is (ev_op (ev_var rfl) ev_c (rv_eq rfl)) (congrArg V.bl (decide_eq_decide.mpr (by simp; omega))))) fun _ => et_not (et_B (ev_call (ea_cons (ev_var rfl) ea_nil) hm))) (fun hb H2 e2 => ?_) (fun hb H2 e2 => ?_)
    · refine s_retL (el_lst ea_nil (by simp)) fun p H3 hp e3 h3 => ?_
      refine k p H3 [] (fresh_back (e1.trans e2) hp) ((e1.trans e2).trans e3) h3 ?_
      have : rw_mir wt l (fun m => look t i m) = [] := by
        unfold rw_mir
        rw [if_neg, if_neg]
        · rfl
        · simp at hb ⊢
          rcases hb with hb | hb
          · intro _ _; exact hb
          · intro z; rw [hb] at z; cases z
        · simp at hb ⊢
          rcases hb with hb | hb
          · intro _ z; omega
          · intro z; rw [hb] at z; cases z
      rw [this]
      exact .nil
    · have hb2 : ¬ l.length = 1 ∧ isMirror l = true := by simpa using hb
      have e12 := e1.trans e2
      obtain ⟨r, hr1, hr2⟩ := hok 0 ((l.length + 1) / 2) (by omega) (by omega) (by omega)
      have cst : ∀ σ : L2.St, ∀ H3, Ex H2 H3 → Ev (tVar 2) σ H3 (.ref c) → Ev (tVar 4) σ H3 (.int (l.length : Int)) → Ev (tVar 3) σ H3 (.int (i : Int)) → Ev (tOp (rIxL K) (tOp (rIxL K) (tVar 2) (tCall sp_first_half [] E0 (tCons (tVar 4) tNil))) (tVar 3)) σ H3 (.int ((look t i ((l.length + 1) / 2) : Nat) : Int)) := fun σ H3 e3 h2 h4 h3 =>
        ev_tab h2 (ev_call (ea_cons h4 ea_nil) fun H4 e4 Q4 q4 E4 => ⟨l.length, rfl, q4⟩) h3 (hT.ex (e12.trans e3)) hr1 (by simpa using hr2)
      refine q_asg (v := .int ((if l.length % 2 = 0 then 2 else 3 : Nat) : Int)) (ev_if (b := decide (l.length % 2 = 0)) (et_test (ev_is (ev_op (ev_op (ev_var rfl) ev_c (rv_I (show (2 : Int) ≠ 0 by decide))) ev_c (rv_eq rfl)) ?_)) (fun hc => ?_) (fun hc => ?_)) fun H3 e3 => ?_
      · have := fmod_nat l.length 2
        rw [show ((2 : Nat) : Int) = (2 : Int) from rfl] at this
        rw [this]
        exact congrArg V.bl (decide_eq_decide.mpr (by simp; omega))
      · rw [if_pos (of_decide_eq_true hc)]
        exact ev_c
      · rw [if_neg (of_decide_eq_false hc)]
        exact ev_c
      · refine s_retL1U (eu_tup (ea_cons (ev_var rfl) (ea_cons ev_c (ea_cons (ev_add (ev_fld (ev_var rfl) ((e12.trans e3) _ _ hO) TW.cl TW.nO (wF_o wt)) (cst _ H3 e3 (ev_var rfl) (ev_var rfl) (ev_var rfl))) ea_nil))) (by simp)) fun p q H4 hq e4 h4 hp => ?_
        refine k q H4 [.ref p] (fresh_back (e12.trans e3) hq) ((e12.trans e3).trans e4) h4 ?_
        unfold rw_mir
        by_cases hev : l.length % 2 = 0
        · rw [if_pos hev] at hp
          rw [if_pos (by simp [hb2.2, hev]; omega), if_neg (by simp [hev])]
          refine .cons ⟨p, rfl, ?_⟩ .nil
          rw [show (l.length + 1) / 2 = l.length / 2 by omega] at hp
          exact hp
        · rw [if_neg hev] at hp
          rw [if_neg (by simp [hev]), if_pos (by simp [hb2.2, hb2.1]; omega)]
          refine .cons ⟨p, rfl, ?_⟩ .nil
          exact hp

/-- period_ways -/
def rw_per (w : Weights) (l : List Nat) (z : Nat → Nat) : List (Way × Nat) := ((List.range l.length).filter (hasPeriod l)).map fun p => (.group p, w.bracket + w.number + z p)
theorem range_from_one {n : Nat} {g : Nat → Bool} (h0 : g 0 = false) : ((List.range (n - 1)).filter fun i => g (1 + i)).map (fun i => 1 + i) = (List.range n).filter g := by
  cases n with
  | zero => rfl
  | succ n =>
    rw [Nat.add_sub_cancel, List.range_succ_eq_map, List.filter_cons, if_neg (by rw [h0]; decide), List.filter_map]
    have : (fun i => 1 + i) = Nat.succ := by
      funext i
      omega
    rw [this]
    congr 1
    apply List.filter_congr
    intro i _
    show g (1 + i) = g (Nat.succ i)
    rw [Nat.add_comm]
theorem range_getD {α β : Type} (l : List α) (d : α) (F : α → β) : (List.range l.length).map (fun i => F (l.getD i d)) = l.map F := by
  apply List.ext_getElem?
  intro i
  rw [List.getElem?_map, List.getElem?_map]
  by_cases h : i < l.length
  · rw [List.getElem?_range h, List.getElem?_eq_getElem h]
    simp [List.getD, h]
  · rw [List.getElem?_eq_none (by simp; omega), List.getElem?_eq_none (by omega)]
    rfl
theorem paired_vals {l : List Nat} {acc : List V} {H : Hp} {g : Nat → V} (h : Paired (fun k v => v = g k) l acc) : acc = l.map g := by
  induction h with
  | nil => rfl
  | cons r _ ih => rw [List.map_cons, ih, r]
def sp_period_ways (K : PySem.W.Frag) (CW : Addr) : Sp := fun vs H Q _ => ∃ (a o c : Addr) (l : List Nat) (w : Weights) (t : Table) (i : Nat), vs = [.ref a, .ref o, .ref c, .int (i : Int)] ∧ SqL K H a (nv l) ∧ l ≠ [] ∧ l.length ≤ 1000 ∧ WtAt CW H o w ∧ TabAt K H c ([] :: t) ∧ TabOk t i l.length ∧ RetWays K (rw_per w l (fun m => look t i m)) H Q
theorem sc_period_ways : FnScope ["stitches", "weights", "costs", "start", "around", "periods", "period"] ["stitches", "weights", "costs", "start"] (C8.fnScope s_period_ways) := C8.fnScope_by (by decide +kernel)
theorem cal_period_ways {CW : Addr} (D : DF K mg "period_ways" s_period_ways) (T : Tx K mg) (TW : WTx K CW) (c_has_period : C8.Cal P w K mg base 1 "has_period" (sp_has_period K) []) : C8.Cal P w K mg base 2 "period_ways" (sp_period_ways K CW) [] := by
  refine cal_by D sc_period_ways (fun _ _ _ _ _ _ us hl => match us, hl with | [_, _, _, _], _ => rfl) (fun vs H Q E h => ?_) (fun f cdv A outer s H vs Q E hr h => ?_)
  · obtain ⟨a, o, c, l, w, t, i, rfl, _⟩ := h
    rfl
  · obtain ⟨a, o, c, l, wt, t, i, rfl, hS, hne, h1000, hW, hT, hok, k⟩ := h
    obtain ⟨dx, hO⟩ := hW
    have hpos : 0 < l.length := List.length_pos_iff.mpr hne
    refine ⟨_, (pss_cons (ps_set (i := 4) sc_period_ways.nd rfl (Or.inr rfl) (pe_op op_add (pe_fld (pv 1) rfl) (pe_fld (pv 1) rfl))) (pss_cons (ps_setLc (i := 5) (own := [("period", 6)]) (g := gName 6) rfl sc_period_ways.nd rfl rfl (sw_true rfl rfl rfl (by decide +kernel)) (pi_range2 rfl T.b_range (pa_cons pe_int (pa_cons (pe_callB call_len_seq (by rfl) T.b_len PySem.boot_len (pa_cons (pv 0) pa_nil)) pa_nil))) (blkOk_by (own := [("period", 6)]) (N := ["stitches", "weights", "costs", "start", "around", "periods", "period"]) (sc := C8.fnScope s_period_ways) (by decide +kernel)) (fun _ _ _ _ _ => (pg_name (i := 6) sc_period_ways.nd rfl (Or.inl rfl))) (fun _ _ _ _ _ => (pts_one (pt_val (C8.pe_c c_has_period hr (by decide) rfl (pa_cons (pv 0) (pa_cons (pv 6) pa_nil)))))) (fun _ _ _ _ _ => (pv 6))) (pss_one (ps_ret (pe_lc (own := [("period", 6)]) (g := gName 6) rfl sc_period_ways.nd (pi_list (pv 5)) (blkOk_by (own := [("period", 6)]) (N := ["stitches", "weights", "costs", "start", "around", "periods", "period"]) (sc := C8.fnScope s_period_ways) (by decide +kernel)) (fun _ _ _ _ _ => (pg_name (i := 6) sc_period_ways.nd rfl (Or.inl rfl))) (fun _ _ _ _ _ => pts_nil) (fun _ _ _ _ _ => (pe_tup (pa_cons (C8.pe_gc rfl T.g_PERIOD) (pa_cons (pv 6) (pa_cons (pe_op op_add (pv 4) (pe_ix (Kt.ix_listK (K := K) rfl) (pe_ix (Kt.ix_listK (K := K) rfl) (pv 2) (pv 6) (fun _ _ => rfl)) (pv 3) (fun _ _ => rfl))) pa_nil)))))))))), ?_⟩
    refine q_asg (v := .int ((wt.bracket + wt.number : Nat) : Int)) (ev_add (ev_fld (ev_var rfl) hO TW.cl TW.nB (wF_b wt)) (ev_fld (ev_var rfl) hO TW.cl TW.nN (wF_n wt))) fun H1 e1 => ?_
    refine q_asgX (g_lcR2 (lo := 1) (n := (l.length : Int)) (fun j => hasPeriod l (1 + j)) (fun _ j v _ => v = .int ((1 + j : Nat) : Int)) (ea_cons ev_c (ea_cons (ev_is (ev_len (ev_var rfl) (ex_l e1 hS)) (by rw [List.length_map])) ea_nil)) ⟨by omega, by omega, by omega, by omega⟩ (fun _ => rfl) (fun _ _ _ _ _ _ _ _ h => h) (fun j H2 e2 hj => ?_) (fun D j hD hj hf H2 acc e2 hDl Q2 q2 => ?_) (fun D H2 acc hD e2 hDl hp => ?_))
    · refine et_B (ev_call (ea_cons (ev_var rfl) (ea_cons (ev_var rfl) ea_nil)) fun H3 e3 Q3 q3 E3 => ?_)
      refine ⟨a, l, 1 + j, rfl, ex_l ((e1.trans e2).trans e3) hS, by omega, by omega, ?_⟩
      have : hasPeriod l (1 + j) = (l.length % (1 + j) == 0 && l.drop (1 + j) == l.take (l.length - (1 + j))) := by
        unfold hasPeriod
        rw [decide_eq_true (show 0 < 1 + j by omega), decide_eq_true (show 1 + j < l.length by omega)]
        simp
      rw [← this]
      exact q3
    · exact ⟨_, rfl, q2 _ H2 (Ex.refl H2) rfl⟩
    · have hacc : acc = nv ((List.range l.length).filter (hasPeriod l)) := by
        rw [paired_vals (H := H2) hp, show ((l.length : Int) - 1).toNat = l.length - 1 by omega, ← range_from_one (g := hasPeriod l) (by simp [hasPeriod])]
        unfold nv
        rw [List.map_map]
        rfl
      have hlen : ((List.range l.length).filter (hasPeriod l)).length ≤ l.length := by
        have := List.length_filter_le (hasPeriod l) (List.range l.length)
        simpa using this
      have e12 := e1.trans e2
      rw [hacc] at hDl
      refine s_retX (g_lcL (f := fun _ => true) (P := fun _ j v H' => WayV K H' (.group (((List.range l.length).filter (hasPeriod l)).getD j 0), wt.bracket + wt.number + look t i (((List.range l.length).filter (hasPeriod l)).getD j 0)) v) (ev_var rfl) (sq_of hDl) (by rw [List.length_map]; omega) (fun _ => rfl) (fun D j v H3 H4 acc hD bu hv => hv.but hD bu) (fun j x H3 e3 hx => et_yes) (fun D2 j x hD2 hx hf H3 acc3 e3 hDl3 Q3 q3 => ?_) (fun D2 H3 acc3 hD2 e3 hDl3 hp3 => ?_))
      · rw [List.getElem?_map] at hx
        cases hpj : ((List.range l.length).filter (hasPeriod l))[j]? with
        | none =>
          rw [hpj] at hx
          cases hx
        | some p =>
          rw [hpj] at hx
          cases hx
          have hmem := List.mem_of_getElem? hpj
          rw [List.mem_filter] at hmem
          have hpf := hasPeriod_facts hmem.2
          obtain ⟨r, hr1, hr2⟩ := hok 0 p hpf.1 hpf.2.1 (by omega)
          have hgd : ((List.range l.length).filter (hasPeriod l)).getD j 0 = p := by
            simp [List.getD, hpj]
          rw [hgd] at q3
          refine eu_tup (ea_cons ev_c (ea_cons (ev_var rfl) (ea_cons (ev_add (ev_var rfl) (ev_tab (ev_var rfl) (ev_var rfl) (ev_var rfl) (hT.ex (e12.trans e3)) hr1 (by simpa using hr2))) ea_nil))) (by simp) H3 (Ex.refl H3) _ fun q H4 hq e4 h4 => q3 _ H4 e4 ⟨q, rfl, ?_⟩
          exact h4
      · refine k D2 H3 acc3 (fresh_back e12 hD2) (e12.trans e3) hDl3 ?_
        rw [List.length_map] at hp3
        have hall : (List.range ((List.range l.length).filter (hasPeriod l)).length).filter (fun _ => true) = List.range ((List.range l.length).filter (hasPeriod l)).length := List.filter_eq_self.mpr fun _ _ => rfl
        rw [hall] at hp3
        have := paired_map (F := WayV K H3) (g := fun j => ((.group (((List.range l.length).filter (hasPeriod l)).getD j 0), wt.bracket + wt.number + look t i (((List.range l.length).filter (hasPeriod l)).getD j 0)) : Way × Nat)) hp3
        rw [range_getD ((List.range l.length).filter (hasPeriod l)) 0 (fun p => ((.group p, wt.bracket + wt.number + look t i p) : Way × Nat))] at this
        exact this

/-- split_ways -/
def rw_spl (n : Nat) (z : Nat → Nat → Nat) : List (Way × Nat) := ((List.range n).filter fun k => k != 0).map fun k => (.split k, z 0 k + z k (n - k))
def sp_split_ways (K : PySem.W.Frag) : Sp := fun vs H Q _ => ∃ (c : Addr) (n : Nat) (t : Table) (i : Nat), vs = [.int (n : Int), .ref c, .int (i : Int)] ∧ n ≤ 1000 ∧ TabAt K H c ([] :: t) ∧ TabOk t i n ∧ RetWays K (rw_spl n (fun a m => look t (i + a) m)) H Q
theorem sc_split_ways : FnScope ["length", "costs", "start", "k"] ["length", "costs", "start"] (C8.fnScope s_split_ways) := C8.fnScope_by (by decide +kernel)
theorem cal_split_ways (D : DF K mg "split_ways" s_split_ways) (T : Tx K mg) : C8.Cal P w K mg base 1 "split_ways" (sp_split_ways K) [] := by
  refine cal_by D sc_split_ways (fun _ _ _ _ _ _ us hl => match us, hl with | [_, _, _], _ => rfl) (fun vs H Q E h => ?_) (fun f cdv A outer s H vs Q E hr h => ?_)
  · obtain ⟨c, n, t, i, rfl, _⟩ := h
    rfl
  · obtain ⟨c, n, t, i, rfl, h1000, hT, hok, k⟩ := h
    refine ⟨_, (pss_one (ps_ret (pe_lc (own := [("k", 3)]) (g := gName 3) rfl sc_split_ways.nd (pi_range2 rfl T.b_range (pa_cons pe_int (pa_cons (pv 0) pa_nil))) (blkOk_by (own := [("k", 3)]) (N := ["length", "costs", "start", "k"]) (sc := C8.fnScope s_split_ways) (by decide +kernel)) (fun _ _ _ _ _ => (pg_name (i := 3) sc_split_ways.nd rfl (Or.inl rfl))) (fun _ _ _ _ _ => pts_nil) (fun _ _ _ _ _ => (pe_tup (pa_cons (C8.pe_gc rfl T.g_SPLIT) (pa_cons (pv 3) (pa_cons (pe_op op_add (pe_ix (Kt.ix_listK (K := K) rfl) (pe_ix (Kt.ix_listK (K := K) rfl) (pv 1) (pv 3) (fun _ _ => rfl)) (pv 2) (fun _ _ => rfl)) (pe_ix (Kt.ix_listK (K := K) rfl) (pe_ix (Kt.ix_listK (K := K) rfl) (pv 1) (pe_op op_sub (pv 0) (pv 3)) (fun _ _ => rfl)) (pe_op op_add (pv 2) (pv 3)) (fun _ _ => rfl))) pa_nil)))))))), ?_⟩
    refine s_retX (g_lcR2 (lo := 1) (n := (n : Int)) (fun _ => true) (fun _ j v H' => WayV K H' (.split (1 + j), look t (i + 0) (1 + j) + look t (i + (1 + j)) (n - (1 + j))) v) (ea_cons ev_c (ea_cons (ev_var rfl) ea_nil)) ⟨by omega, by omega, by omega, by omega⟩ (fun _ => rfl) (fun D j v H3 H4 acc hD bu hv => hv.but hD bu) (fun j H2 e2 hj => et_yes) (fun D j hD hj hf H2 acc e2 hDl Q2 q2 => ?_) (fun D H2 acc hD e2 hDl hp => ?_))
    · obtain ⟨r1, a1, a2⟩ := hok 0 (1 + j) (by omega) (by omega) (by omega)
      obtain ⟨r2, b1, b2⟩ := hok (1 + j) (n - (1 + j)) (by omega) (by omega) (by omega)
      have hlast : Ev (tOp (rI0 fun i j => .int (i - j)) (tVar 0) (tVar 3)) [some (.int (n : Int)), some (.ref c), some (.int (i : Int)), some (.int (1 + (j : Int)))] H2 (.int ((n - (1 + j) : Nat) : Int)) := ev_is (ev_sub (ev_var rfl) (ev_var rfl)) (congrArg V.int (by omega))
      refine eu_tup (ea_cons ev_c (ea_cons (ev_is (ev_var rfl) (w := .int ((1 + j : Nat) : Int)) (congrArg V.int (by omega))) (ea_cons (ev_add (ev_tab (ev_var rfl) (ev_is (ev_var rfl) (w := .int ((1 + j : Nat) : Int)) (congrArg V.int (by omega))) (ev_var rfl) (hT.ex e2) a1 a2) (ev_tab (ev_var rfl) hlast (ev_is (ev_add (ev_var rfl) (ev_var rfl)) (w := .int ((i + (1 + j) : Nat) : Int)) (congrArg V.int (by omega))) (hT.ex e2) b1 b2)) ea_nil))) (by simp) H2 (Ex.refl H2) _ fun q H4 hq e4 h4 => q2 _ H4 e4 ⟨q, rfl, ?_⟩
      exact h4
    · refine k D H2 acc hD e2 hDl ?_
      have hall : (List.range ((n : Int) - 1).toNat).filter (fun _ => true) = List.range (n - 1) := by
        rw [show ((n : Int) - 1).toNat = n - 1 by omega]
        exact List.filter_eq_self.mpr fun _ _ => rfl
      rw [hall] at hp
      have := paired_map (F := WayV K H2) (g := fun j => ((.split (1 + j), look t (i + 0) (1 + j) + look t (i + (1 + j)) (n - (1 + j))) : Way × Nat)) hp
      unfold rw_spl
      have e := range_from_one (n := n) (g := fun k => k != 0) (by decide)
      have hf : (List.range (n - 1)).filter (fun i => (1 + i) != 0) = List.range (n - 1) := List.filter_eq_self.mpr fun i _ => by simp
      rw [hf] at e
      rw [← e, List.map_map]
      exact this
end
end Kt

/-! # All ways of a stretch; the table of best ways -/
namespace Kt
open PySem PySem.Spec PyProof.Rows L2 Evl
open Vbktaf (Weights Way part hasPeriod isMirror allAlike wayRow look Table)
theorem ways_parts (w : Weights) (l : List Nat) (f : Nat → Nat → Nat) : Vbktaf.ways w l f = rw_run w l ++ (rw_per w l (f 0) ++ (rw_mir w l (f 0) ++ rw_spl l.length f)) := by
  unfold Vbktaf.ways rw_run rw_per rw_mir rw_spl
  dsimp only
  rw [List.append_assoc]
theorem Paired.exW {K : PySem.W.Frag} {H H' : Hp} {ws : List (Way × Nat)} {vs : List V} (e : Ex H H') (h : Paired (WayV K H) ws vs) : Paired (WayV K H') ws vs := Paired.mapP h fun _ _ => WayV.ex e
section
variable {P : Program} {w : World} {K : PySem.W.Frag} {mg : Str → Option Value} {base : Heap}
section
variable {σ : L2.St} {H H' : Hp} {ta : TA} {te : TE} {D : Ends} {tz : TS}
/-- a call whose promise is met where its arguments have been reckoned -/
theorem x_call {sp : Sp} {vs : List V} {Q : VK} (h : EvA ta σ H vs) (k : ∀ H1, Ex H H1 → sp (vs ++ []) H1 Q E0) : tCall sp [] E0 ta σ H Q := h H (Ex.refl H) _ k
end
def sp_stretch_ways (K : PySem.W.Frag) (CW : Addr) : Sp := fun vs H Q _ => ∃ (a o c : Addr) (l : List Nat) (w : Weights) (t : Table) (i n : Nat), vs = [.ref a, .ref o, .ref c, .int (i : Int), .int (n : Int)] ∧ SqL K H a (nv l) ∧ l.length ≤ 1000 ∧ 1 ≤ n ∧ i + n ≤ l.length ∧ WtAt CW H o w ∧ TabAt K H c ([] :: t) ∧ TabOk t i n ∧
  RetWays K (Vbktaf.ways w (Vbktaf.part l i n) fun a m => look t (i + a) m) H Q
theorem per_len (w : Weights) (l : List Nat) (z : Nat → Nat) : (rw_per w l z).length ≤ l.length := by
  unfold rw_per
  rw [List.length_map]
  have := List.length_filter_le (hasPeriod l) (List.range l.length)
  simpa using this
theorem spl_len (n : Nat) (z : Nat → Nat → Nat) : (rw_spl n z).length ≤ n := by
  unfold rw_spl
  rw [List.length_map]
  have := List.length_filter_le (fun k => k != 0) (List.range n)
  simpa using this
theorem run_len (w : Weights) (l : List Nat) : (rw_run w l).length ≤ 1 := by
  unfold rw_run
  split <;> simp
theorem mir_len (w : Weights) (l : List Nat) (z : Nat → Nat) : (rw_mir w l z).length ≤ 2 := by
  unfold rw_mir
  split <;> split <;> simp
theorem sc_stretch_ways : FnScope ["row", "weights", "costs", "start", "length", "stitches", "ways"] ["row", "weights", "costs", "start", "length"] (C8.fnScope s_stretch_ways) := C8.fnScope_by (by decide +kernel)
theorem cal_stretch_ways {CW : Addr} (D : DF K mg "stretch_ways" s_stretch_ways) (T : Tx K mg) (TW : WTx K CW) (c_alike_ways : C8.Cal P w K mg base 2 "alike_ways" (sp_alike_ways K CW) []) (c_period_ways : C8.Cal P w K mg base 2 "period_ways" (sp_period_ways K CW) [])
    (c_mirror_ways : C8.Cal P w K mg base 2 "mirror_ways" (sp_mirror_ways K CW) []) (c_split_ways : C8.Cal P w K mg base 1 "split_ways" (sp_split_ways K) []) : C8.Cal P w K mg base 3 "stretch_ways" (sp_stretch_ways K CW) [] := by
  refine cal_by D sc_stretch_ways (fun _ _ _ _ _ _ us hl => match us, hl with | [_, _, _, _, _], _ => rfl) (fun vs H Q E h => ?_) (fun f cdv A outer s H vs Q E hr h => ?_)
  · obtain ⟨a, o, c, l, w, t, i, n, rfl, _⟩ := h
    rfl
  · obtain ⟨a, o, c, l, wt, t, i, n, rfl, hS, h1000, hn, hin, hW, hT, hok, k⟩ := h
    refine ⟨_, (pss_cons (ps_set (i := 5) sc_stretch_ways.nd rfl (Or.inl rfl) (pe_slice sl_list (pv 0) (po_some (pv 3)) (po_some (pe_op op_add (pv 3) (pv 4))))) (pss_cons (ps_set (i := 6) sc_stretch_ways.nd rfl (Or.inl rfl) (C8.pe_c c_alike_ways hr (by decide) rfl (pa_cons (pv 5) (pa_cons (pv 1) pa_nil)))) (pss_cons (ps_expr (pe_bm PySem.F.plainAttrs_list PySem.F.slot_list_extend PySem.F.type_list_extend mt_extend (pv 6) (pa_cons (C8.pe_c c_period_ways hr (by decide) rfl (pa_cons (pv 5) (pa_cons (pv 1) (pa_cons (pv 2) (pa_cons (pv 3) pa_nil))))) pa_nil))) (pss_cons (ps_expr (pe_bm PySem.F.plainAttrs_list PySem.F.slot_list_extend PySem.F.type_list_extend mt_extend (pv 6) (pa_cons (C8.pe_c c_mirror_ways hr (by decide) rfl (pa_cons (pv 5) (pa_cons (pv 1) (pa_cons (pv 2) (pa_cons (pv 3) pa_nil))))) pa_nil))) (pss_cons (ps_expr (pe_bm PySem.F.plainAttrs_list PySem.F.slot_list_extend PySem.F.type_list_extend mt_extend (pv 6) (pa_cons (C8.pe_c c_split_ways hr (by decide) rfl (pa_cons (pv 4) (pa_cons (pv 2) (pa_cons (pv 3) pa_nil)))) pa_nil))) (pss_one (ps_ret (pv 6)))))))), ?_⟩
    have hpl : (Vbktaf.part l i n).length = n := part_length hin
    have hpne := part_ne hn hin
    -- stitches = row[start:start + length]
    refine q_asgL (el_sl (ev_var rfl) (eo_some (ev_var rfl)) (eo_some (ev_is (ev_add (ev_var rfl) (ev_var rfl)) (w := .int ((i + n : Nat) : Int)) rfl)) hS) fun q H1 hq e1 h1 => ?_
    rw [cut_both (by omega) (by rw [List.length_map]; omega), nv_drop, nv_take, show i + n - i = n by omega] at h1
    have h1 : H1 q = some (.lst (nv (Vbktaf.part l i n))) := h1
    -- ways = alike_ways(..)
    refine q_asgX (x_call (ea_cons (ev_var rfl) (ea_cons (ev_var rfl) ea_nil)) fun H2 e2 => ⟨q, o, Vbktaf.part l i n, wt, rfl, sq_of (e2 _ _ h1), hpne, hW.ex (e1.trans e2), fun p H3 v1 hp e3 h3 P3 => ?_⟩)
    have hpH : H p = none := fresh_back (e1.trans e2) hp
    have e13 : Ex H H3 := (e1.trans e2).trans e3
    have l1 := paired_length P3
    have r1 := run_len wt (Vbktaf.part l i n)
    -- ways.extend(period_ways(..))
    refine ⟨_, rfl, Or.inl ⟨rfl, _, sq_of h3⟩, x_call (ea_cons (ev_var rfl) (ea_cons (ev_var rfl) (ea_cons (ev_var rfl) (ea_cons (ev_var rfl) ea_nil)))) fun H4 e4 => ⟨q, o, c, Vbktaf.part l i n, wt, t, i, rfl, sq_of ((e2.trans (e3.trans e4)) _ _ h1), hpne, by omega, hW.ex (e13.trans e4), hT.ex (e13.trans e4), by rw [hpl]; exact hok, fun p4 H5 v2 hp4 e5 h5 P5 => ?_⟩⟩
    have h35 : H5 p = some (.lst v1) := (e4.trans e5) _ _ h3
    have l2 := paired_length P5
    have r2 := per_len wt (Vbktaf.part l i n) (fun m => look t i m)
    refine ⟨p, p4, v1, v2, rfl, rfl, h35, h5, sz_of (by omega), ?_⟩
    have b5 : But p H5 (upd H5 p (.lst (v1 ++ v2))) := fun b o hb h => by rw [upd_ne hb]; exact h
    have Pa : Paired (WayV K (upd H5 p (.lst (v1 ++ v2)))) (rw_run wt (Vbktaf.part l i n) ++ rw_per wt (Vbktaf.part l i n) (fun m => look t i m)) (v1 ++ v2) := Paired.mapP (paired_append (Paired.exW (e4.trans e5) P3) P5) fun _ _ hv => hv.but h35 b5
    have e15 : Ex H (upd H5 p (.lst (v1 ++ v2))) := Ex.mut ((e13.trans e4).trans e5) hpH
    have hq5 : upd H5 p (.lst (v1 ++ v2)) q = some (.lst (nv (Vbktaf.part l i n))) := by
      have hqp : q ≠ p := ne_of_none (e2 _ _ h1) hp
      rw [upd_ne hqp]
      exact (e4.trans e5) _ _ (e3 _ _ (e2 _ _ h1))
    have hp5 : upd H5 p (.lst (v1 ++ v2)) p = some (.lst (v1 ++ v2)) := upd_same
    generalize upd H5 p (.lst (v1 ++ v2)) = H6 at Pa e15 hq5 hp5 ⊢
    -- ways.extend(mirror_ways(..))
    refine ⟨_, rfl, Or.inl ⟨rfl, _, sq_of hp5⟩, x_call (ea_cons (ev_var rfl) (ea_cons (ev_var rfl) (ea_cons (ev_var rfl) (ea_cons (ev_var rfl) ea_nil)))) fun H7 e7 => ⟨q, o, c, Vbktaf.part l i n, wt, t, i, rfl, sq_of (e7 _ _ hq5), hpne, hW.ex (e15.trans e7), hT.ex (e15.trans e7), by rw [hpl]; exact hok, fun p8 H8 v3 hp8 e8 h8 P8 => ?_⟩⟩
    have h68 : H8 p = some (.lst (v1 ++ v2)) := (e7.trans e8) _ _ hp5
    have l3 := paired_length P8
    have r3 := mir_len wt (Vbktaf.part l i n) (fun m => look t i m)
    refine ⟨p, p8, v1 ++ v2, v3, rfl, rfl, h68, h8, sz_of (by rw [List.length_append]; omega), ?_⟩
    have b8 : But p H8 (upd H8 p (.lst ((v1 ++ v2) ++ v3))) := fun b o hb h => by rw [upd_ne hb]; exact h
    have Pb : Paired (WayV K (upd H8 p (.lst ((v1 ++ v2) ++ v3)))) ((rw_run wt (Vbktaf.part l i n) ++ rw_per wt (Vbktaf.part l i n) (fun m => look t i m)) ++ rw_mir wt (Vbktaf.part l i n) (fun m => look t i m)) ((v1 ++ v2) ++ v3) := Paired.mapP (paired_append (Paired.exW (e7.trans e8) Pa) P8) fun _ _ hv => hv.but h68 b8
    have e18 : Ex H (upd H8 p (.lst ((v1 ++ v2) ++ v3))) := Ex.mut ((e15.trans e7).trans e8) hpH
    have hp9 : upd H8 p (.lst ((v1 ++ v2) ++ v3)) p = some (.lst ((v1 ++ v2) ++ v3)) := upd_same
    generalize upd H8 p (.lst ((v1 ++ v2) ++ v3)) = H9 at Pb e18 hp9 ⊢
    -- ways.extend(split_ways(..))
    refine ⟨_, rfl, Or.inl ⟨rfl, _, sq_of hp9⟩, x_call (ea_cons (ev_var rfl) (ea_cons (ev_var rfl) (ea_cons (ev_var rfl) ea_nil))) fun H10 e10 => ⟨c, n, t, i, rfl, by omega, hT.ex (e18.trans e10), hok, fun p11 H11 v4 hp11 e11 h11 P11 => ?_⟩⟩
    have h911 : H11 p = some (.lst ((v1 ++ v2) ++ v3)) := (e10.trans e11) _ _ hp9
    have l4 := paired_length P11
    have r4 := spl_len n (fun a m => look t (i + a) m)
    refine ⟨p, p11, (v1 ++ v2) ++ v3, v4, rfl, rfl, h911, h11, sz_of (by rw [List.length_append, List.length_append]; omega), ?_⟩
    have b11 : But p H11 (upd H11 p (.lst (((v1 ++ v2) ++ v3) ++ v4))) := fun b o hb h => by rw [upd_ne hb]; exact h
    have Pc := Paired.mapP (G := WayV K (upd H11 p (.lst (((v1 ++ v2) ++ v3) ++ v4)))) (paired_append (Paired.exW (e10.trans e11) Pb) P11) fun _ _ hv => hv.but h911 b11
    have e111 : Ex H (upd H11 p (.lst (((v1 ++ v2) ++ v3) ++ v4))) := Ex.mut ((e18.trans e10).trans e11) hpH
    refine s_ret (ev_var rfl) fun H12 e12 => ?_
    refine k p H12 _ hpH (e111.trans e12) (e12 _ _ upd_same) (Paired.exW e12 ?_)
    rw [ways_parts, hpl, ← List.append_assoc, ← List.append_assoc]
    exact Pc
end
end Kt

/-! # The best ways of all stretches, their costs -/
namespace Kt
open PySem PySem.Spec PyProof.Rows L2 Evl
open Vbktaf (Weights Way hasPeriod isMirror allAlike wayRow look Table)
theorem fresh_upd {H : Hp} {p q : Addr} {o : HO} (h : upd H p o q = none) : q ≠ p ∧ H q = none := by
  by_cases e : q = p
  · subst e
    rw [upd_same] at h
    cases h
  · rw [upd_ne e] at h
    exact ⟨e, h⟩
/-- all objects but the bad ones stay -/
def ButB (bad : Addr → Prop) (H H' : Hp) : Prop := ∀ x o, ¬ bad x → H x = some o → H' x = some o
def RowB (bad : Addr → Prop) (K : PySem.W.Frag) (H : Hp) (r : List Nat) (v : V) : Prop := ∃ a, v = .ref a ∧ ¬ bad a ∧ SqL K H a (nv r)
def WysB (bad : Addr → Prop) (K : PySem.W.Frag) (H : Hp) (ws : List (Way × Nat)) (v : V) : Prop := ∃ a vs, v = .ref a ∧ ¬ bad a ∧ SqL K H a vs ∧ Paired (WayV K H) ws vs
theorem sql_but {bad : Addr → Prop} {K : PySem.W.Frag} {H H' : Hp} {a : Addr} {xs : List V} (e : ButB bad H H') (hb : ¬ bad a) (h : SqL K H a xs) : SqL K H' a xs := by
  rcases h with (h | ⟨o, h⟩) | h
  · exact .inl (.inl (e _ _ hb h))
  · exact .inl (.inr ⟨o, e _ _ hb h⟩)
  · exact .inr h
theorem RowB.but {bad : Addr → Prop} {K : PySem.W.Frag} {H H' : Hp} {r : List Nat} {v : V} (e : ButB bad H H') (h : RowB bad K H r v) : RowB bad K H' r v := let ⟨a, z, nb, q⟩ := h; ⟨a, z, nb, sql_but e nb q⟩
theorem WysB.but {bad : Addr → Prop} {K : PySem.W.Frag} {H H' : Hp} {ws : List (Way × Nat)} {v : V} (hb : ∀ x, bad x → ∃ xs, H x = some (.lst xs)) (e : ButB bad H H') (h : WysB bad K H ws v) : WysB bad K H' ws v := by
  obtain ⟨a, vs, z, nb, q, p⟩ := h
  refine ⟨a, vs, z, nb, sql_but e nb q, Paired.mapP p fun x v hv => ?_⟩
  obtain ⟨t, rfl, ht⟩ := hv
  exact ⟨t, rfl, e t _ (fun y => by obtain ⟨xs, hx⟩ := hb t y; rw [ht] at hx; cases hx) ht⟩
theorem RowB.row {bad : Addr → Prop} {K : PySem.W.Frag} {H : Hp} {r : List Nat} {v : V} (h : RowB bad K H r v) : RowV K H r v := let ⟨a, z, _, q⟩ := h; ⟨a, z, q⟩
/-- lists of ways, by length and place -/
def WysV (K : PySem.W.Frag) (H : Hp) (ws : List (Way × Nat)) (v : V) : Prop := ∃ a vs, v = .ref a ∧ SqL K H a vs ∧ Paired (WayV K H) ws vs
theorem WysB.wys {bad : Addr → Prop} {K : PySem.W.Frag} {H : Hp} {ws : List (Way × Nat)} {v : V} (h : WysB bad K H ws v) : WysV K H ws v := let ⟨a, vs, z, _, q⟩ := h; ⟨a, vs, z, q⟩
theorem WysV.ex {K : PySem.W.Frag} {H H' : Hp} {ws : List (Way × Nat)} {v : V} (e : Ex H H') (h : WysV K H ws v) : WysV K H' ws v := let ⟨a, vs, z, q, p⟩ := h; ⟨a, vs, z, ex_l e q, Paired.exW e p⟩
def brow (w : Weights) (l : List Nat) (j : Nat) : List (Way × Nat) := (List.range (l.length - j)).map fun i => bw w l i (j + 1)
def brows (w : Weights) (l : List Nat) (k : Nat) : List (List (Way × Nat)) := [] :: (List.range k).map (brow w l)
theorem brows_succ (w : Weights) (l : List Nat) (k : Nat) : brows w l (k + 1) = brows w l k ++ [brow w l k] := by
  unfold brows
  rw [List.range_succ, List.map_append]
  rfl
theorem brow_cost {w : Weights} {l : List Nat} {k : Nat} (hk : k < l.length) : (brow w l k).map (fun x => x.2) = Vbktaf.rowOf w l (tbl w l k) (k + 1) := by
  rw [rowOf_eq hk]
  unfold brow
  rw [List.map_map]
  rfl
theorem tbl_get {w : Weights} {l : List Nat} {k m : Nat} (hk : k ≤ l.length) (hm : m < k) : (tbl w l k)[m]? = some ((List.range (l.length - m)).map fun i => (bw w l i (m + 1)).2) := by
  have := tbl_row (w := w) (l := l) (k := m) (by omega)
  rw [← tbl_all] at this
  rw [← tbl_pre w l hk, List.getElem?_take, if_pos hm]
  exact this
theorem tabOk_tbl {w : Weights} {l : List Nat} {k i n : Nat} (hk : k ≤ l.length) (hn : n ≤ k + 1) (hi : i + n ≤ l.length) : TabOk (tbl w l k) i n := by
  intro a m h1 h2 h3
  obtain ⟨m, rfl⟩ : ∃ m', m = m' + 1 := ⟨m - 1, by omega⟩
  have g := tbl_get (w := w) (l := l) (k := k) (m := m) hk (by omega)
  refine ⟨_, by simpa using g, ?_⟩
  unfold look
  rw [Nat.add_sub_cancel, List.getD_eq_getElem?_getD (l := tbl w l k), g]
  simp only [Option.getD_some]
  rw [List.getElem?_map, List.getElem?_range (show i + a < l.length - m by omega), List.getD_eq_getElem?_getD, List.getElem?_map, List.getElem?_range (show i + a < l.length - m by omega)]
  rfl
section
variable {P : Program} {w : World} {K : PySem.W.Frag} {mg : Str → Option Value} {base : Heap}
/-- best_ways -/
def sp_best_ways (K : PySem.W.Frag) (CW : Addr) : Sp := fun vs H Q _ => ∃ (a o : Addr) (l : List Nat) (w : Weights), vs = [.ref a, .ref o] ∧ SqL K H a (nv l) ∧ l.length ≤ 1000 ∧ WtAt CW H o w ∧
  ∀ p H2 vs, H p = none → Ex H H2 → H2 p = some (.lst vs) → Paired (WysV K H2) (brows w l l.length) vs → Q (.ref p) H2
theorem sc_best_ways : FnScope ["row", "weights", "best", "costs", "length", "count", "chosen", "start", "way"] ["row", "weights"] (C8.fnScope s_best_ways) := C8.fnScope_by (by decide +kernel)
theorem cal_best_ways {CW : Addr} (D : DF K mg "best_ways" s_best_ways) (T : Tx K mg) (c_stretch_ways : C8.Cal P w K mg base 3 "stretch_ways" (sp_stretch_ways K CW) []) (c_first_least : C8.Cal P w K mg base 3 "first_least" (sp_first_least K) []) (c_way_cost : C8.Cal P w K mg base 1 "way_cost" (sp_way_cost K) []) :
    C8.Cal P w K mg base 4 "best_ways" (sp_best_ways K CW) [] := by
  refine cal_by D sc_best_ways (fun _ _ _ _ _ _ us hl => match us, hl with | [_, _], _ => rfl) (fun vs H Q E h => ?_) (fun f cdv A outer s H vs Q E hr h => ?_)
  · obtain ⟨a, o, l, w, rfl, _⟩ := h
    rfl
  · obtain ⟨a, o, l, wt, rfl, hS, h1000, hW, k⟩ := h
    refine ⟨_, (pss_cons (ps_set (i := 2) sc_best_ways.nd rfl (Or.inl rfl) (pe_lst (pa_cons (pe_lst pa_nil) pa_nil))) (pss_cons (ps_set (i := 3) sc_best_ways.nd rfl (Or.inr rfl) (pe_lst (pa_cons (pe_lst pa_nil) pa_nil))) (pss_cons (ps_for PassesOwn.never rfl (pi_range2 rfl T.b_range (pa_cons pe_int (pa_cons (pe_op op_add (pe_callB call_len_seq (by rfl) T.b_len PySem.boot_len (pa_cons (pv 0) pa_nil)) pe_int) pa_nil))) (pg_name (i := 4) sc_best_ways.nd rfl (Or.inr rfl)) (pss_cons (ps_set (i := 5) sc_best_ways.nd rfl (Or.inl rfl) (pe_op op_add (pe_op op_sub (pe_callB call_len_seq (by rfl) T.b_len PySem.boot_len (pa_cons (pv 0) pa_nil)) (pv 4)) pe_int)) (pss_cons (ps_setLc (i := 6) (own := [("start", 7)]) (g := gName 7) rfl sc_best_ways.nd rfl rfl (sw_true rfl rfl rfl (by decide +kernel)) (pi_range1 rfl T.b_range (pa_cons (pv 5) pa_nil)) (blkOk_by (own := [("start", 7)]) (N := ["row", "weights", "best", "costs", "length", "count", "chosen", "start", "way"]) (sc := C8.fnScope s_best_ways) (by decide +kernel)) (fun _ _ _ _ _ => (pg_name (i := 7) sc_best_ways.nd rfl (Or.inl rfl))) (fun _ _ _ _ _ => pts_nil) (fun _ _ _ _ _ => (C8.pe_c c_first_least hr (by decide) rfl (pa_cons (C8.pe_c c_stretch_ways hr (by decide) rfl (pa_cons (pv 0) (pa_cons (pv 1) (pa_cons (pv 3) (pa_cons (pv 7) (pa_cons (pv 4) pa_nil)))))) pa_nil)))) (pss_cons (ps_expr (pe_bm PySem.F.plainAttrs_list PySem.F.slot_list_append PySem.F.type_list_append mt_append (pv 2) (pa_cons (pv 6) pa_nil))) (pss_one (ps_expr (pe_bm PySem.F.plainAttrs_list PySem.F.slot_list_append PySem.F.type_list_append mt_append (pv 3) (pa_cons (pe_lc (own := [("way", 8)]) (g := gName 8) rfl sc_best_ways.nd (pi_list (pv 6)) (blkOk_by (own := [("way", 8)]) (N := ["row", "weights", "best", "costs", "length", "count", "chosen", "start", "way"]) (sc := C8.fnScope s_best_ways) (by decide +kernel)) (fun _ _ _ _ _ => (pg_name (i := 8) sc_best_ways.nd rfl (Or.inl rfl))) (fun _ _ _ _ _ => pts_nil) (fun _ _ _ _ _ => (C8.pe_c c_way_cost hr (by decide) rfl (pa_cons (pv 8) pa_nil)))) pa_nil)))))))) (pss_one (ps_ret (pv 2)))))), ?_⟩
    -- best = [[]]; costs = [[]]
    refine q_asgX ⟨sz_of (by simp), fun q1 hq1 => ⟨sz_of (by simp), fun b hb => ?_⟩⟩
    refine q_asgX ⟨sz_of (by simp), fun q2 hq2 => ⟨sz_of (by simp), fun c hc => ?_⟩⟩
    obtain ⟨nb1, hb0⟩ := fresh_upd hb
    obtain ⟨n2b, hq2'⟩ := fresh_upd hq2
    obtain ⟨n21, hq20⟩ := fresh_upd hq2'
    obtain ⟨nc2, hc'⟩ := fresh_upd hc
    obtain ⟨ncb, hc''⟩ := fresh_upd hc'
    obtain ⟨nc1, hc0⟩ := fresh_upd hc''
    have e0 : Ex H (upd (upd (upd (upd H q1 (.lst [])) b (.lst [.ref q1])) q2 (.lst [])) c (.lst [.ref q2])) := ((Ex.new hq1).trans (Ex.new hb)).trans ((Ex.new hq2).trans (Ex.new hc))
    have f1 : upd (upd (upd (upd H q1 (.lst [])) b (.lst [.ref q1])) q2 (.lst [])) c (.lst [.ref q2]) b = some (.lst [.ref q1]) := by rw [upd_ne (Ne.symm ncb), upd_ne (Ne.symm n2b), upd_same]
    have f2 : upd (upd (upd (upd H q1 (.lst [])) b (.lst [.ref q1])) q2 (.lst [])) c (.lst [.ref q2]) c = some (.lst [.ref q2]) := upd_same
    have f3 : upd (upd (upd (upd H q1 (.lst [])) b (.lst [.ref q1])) q2 (.lst [])) c (.lst [.ref q2]) q1 = some (.lst []) := by rw [upd_ne (Ne.symm nc1), upd_ne (Ne.symm n21), upd_ne (Ne.symm nb1), upd_same]
    have f4 : upd (upd (upd (upd H q1 (.lst [])) b (.lst [.ref q1])) q2 (.lst [])) c (.lst [.ref q2]) q2 = some (.lst []) := by rw [upd_ne (Ne.symm nc2), upd_same]
    generalize upd (upd (upd (upd H q1 (.lst [])) b (.lst [.ref q1])) q2 (.lst [])) c (.lst [.ref q2]) = H0 at e0 f1 f2 f3 f4 ⊢
    let bad : Addr → Prop := fun x => x = b ∨ x = c
    have nb_1 : ¬ bad q1 := fun z => z.elim (fun z => nb1 z.symm) (fun z => nc1 z.symm)
    have nb_2 : ¬ bad q2 := fun z => z.elim (fun z => n2b z) (fun z => nc2 z.symm)
    refine q_forR2 (lo := 1) (n := ((l.length + 1 : Nat) : Int)) (ea_cons ev_c (ea_cons (ev_is (ev_add (ev_len (ev_var rfl) (ex_l e0 hS)) ev_c) (by rw [List.length_map]; rfl)) ea_nil)) ⟨by omega, by omega, by omega, by omega⟩
      (fun k σ' H' => ∃ (v4 v5 v6 v7 v8 : Option V) (bv cv : List V), σ' = [some (.ref a), some (.ref o), some (.ref b), some (.ref c), v4, v5, v6, v7, v8] ∧ Ex H H' ∧ H' b = some (.lst bv) ∧ H' c = some (.lst cv) ∧ Paired (WysB bad K H') (brows wt l k) bv ∧ Paired (RowB bad K H') ([] :: tbl wt l k) cv)
      (fun H1 e1 => ⟨none, none, none, none, none, _, _, rfl, e0.trans e1, e1 _ _ f1, e1 _ _ f2, .cons ⟨q1, [], rfl, nb_1, sq_of (e1 _ _ f3), .nil⟩ .nil, .cons ⟨q2, rfl, nb_2, sq_of (e1 _ _ f4)⟩ .nil⟩) ?_ ?_
    · rintro j σ' H1 hj ⟨v4, v5, v6, v7, v8, bv, cv, rfl, e1, hb1, hc1, PB, PC⟩
      have hjl : j < l.length := by omega
      have hbl := paired_length PB
      have hcl := paired_length PC
      have lb : (brows wt l j).length = j + 1 := by simp [brows]
      have lc : (([] : List Nat) :: tbl wt l j).length = j + 1 := by simp [tbl_length]
      -- count = len(row) - length + 1
      refine q_asg (v := .int ((l.length - j : Nat) : Int)) (ev_is (ev_add (ev_sub (ev_len (ev_var rfl) (ex_l e1 hS)) (ev_var rfl)) ev_c) (by rw [List.length_map]; exact congrArg V.int (by omega))) fun H2 e2 => ?_
      have e12 := e1.trans e2
      have hT2 : TabAt K H2 c ([] :: tbl wt l j) := ⟨cv, sq_of (e2 _ _ hc1), Paired.mapP PC fun _ _ hr => RowV.ex e2 hr.row⟩
      -- chosen = [..]
      refine q_asgX (g_lcR1 (n := ((l.length - j : Nat) : Int)) (f := fun _ => true) (P := fun _ i v H' => WayV K H' (bw wt l i (j + 1)) v) (ea_cons (ev_var rfl) ea_nil) ⟨by omega, by omega⟩ (fun _ => rfl) (fun D i v H3 H4 acc hD bu hv => hv.but hD bu) (fun i H3 e3 hi => et_yes) (fun D i hD hi hf H3 acc e3 hDl Q3 q3 => ?_) (fun D H3 acc hD e3 hDl hp => ?_))
      · -- first_least(stretch_ways(row, weights, costs, start, length))
        show tCall (sp_stretch_ways K CW) [] E0 _ _ _ (fun x H' => sp_first_least K ([x] ++ []) H' Q3 E0)
        have e13 := e12.trans e3
        have hii : i + (j + 1) ≤ l.length := by omega
        refine x_call (ea_cons (ev_var rfl) (ea_cons (ev_var rfl) (ea_cons (ev_var rfl) (ea_cons (ev_var rfl) (ea_cons (ev_is (ev_var rfl) (w := .int ((j + 1 : Nat) : Int)) (congrArg V.int (by omega))) ea_nil))))) fun H4 e4 => ⟨a, o, c, l, wt, tbl wt l j, i, j + 1, rfl, ex_l (e13.trans e4) hS, h1000, by omega, hii, hW.ex (e13.trans e4), hT2.ex (e3.trans e4), tabOk_tbl (by omega) (Nat.le_refl _) hii, fun p H5 vs hp e5 h5 P5 => ?_⟩
        rw [wy_tbl hii (Nat.le_refl _) (by omega)] at P5
        refine ⟨p, wy wt l i (j + 1), vs, rfl, sq_of h5, P5, ?_, fun v y H6 hy e6 hv _ => ?_⟩
        · exact ways_ne_nil (part_ne (by omega) hii)
        · rw [bw_some (by omega) hii] at hy
          cases hy
          exact q3 v H6 ((e4.trans e5).trans e6) hv
      · have e13 := e12.trans e3
        have hb3 : H3 b = some (.lst bv) := e3 _ _ (e2 _ _ hb1)
        have hc3 : H3 c = some (.lst cv) := e3 _ _ (e2 _ _ hc1)
        have hDb : D ≠ b := fun z => by
          rw [z, e2 _ _ hb1] at hD
          cases hD
        have hDc : D ≠ c := fun z => by
          rw [z, e2 _ _ hc1] at hD
          cases hD
        have nbD : ¬ bad D := fun z => z.elim hDb hDc
        have hbc : b ≠ c := Ne.symm ncb
        have hall : (List.range ((l.length - j : Nat) : Int).toNat).filter (fun _ => true) = List.range (l.length - j) := by
          rw [Int.toNat_natCast]
          exact List.filter_eq_self.mpr fun _ _ => rfl
        rw [hall] at hp
        have PD : Paired (WayV K H3) (brow wt l j) acc := paired_map (g := fun i => bw wt l i (j + 1)) hp
        have lD := paired_length PD
        have lbr : (brow wt l j).length = l.length - j := by simp [brow]
        have badl : ∀ x, bad x → ∃ xs, H3 x = some (.lst xs) := fun x hx => by
          rcases hx with rfl | rfl
          · exact ⟨_, hb3⟩
          · exact ⟨_, hc3⟩
        -- best.append(chosen)
        refine q_app (v := .ref D) hb3 (ev_var rfl) (ev_var rfl) (by omega) fun H4 e4 => ?_
        have hb4 : upd H4 b (.lst (bv ++ [.ref D])) b = some (.lst (bv ++ [.ref D])) := upd_same
        have hc4 : upd H4 b (.lst (bv ++ [.ref D])) c = some (.lst cv) := by
          rw [upd_ne ncb]
          exact e4 _ _ hc3
        have hD4 : upd H4 b (.lst (bv ++ [.ref D])) D = some (.lst acc) := by
          rw [upd_ne hDb]
          exact e4 _ _ hDl
        have bu4 : ButB bad H3 (upd H4 b (.lst (bv ++ [.ref D]))) := fun x o hx h => by
          rw [upd_ne (fun z => hx (Or.inl z))]
          exact e4 _ _ h
        have e14 : Ex H (upd H4 b (.lst (bv ++ [.ref D]))) := Ex.mut (e13.trans e4) hb0
        have PB4 : Paired (WysB bad K (upd H4 b (.lst (bv ++ [.ref D])))) (brows wt l (j + 1)) (bv ++ [.ref D]) := by
          rw [brows_succ]
          refine paired_append (Paired.mapP PB fun _ _ hw => WysB.but badl bu4 (WysB.but (fun x hx => ?_) (fun x o _ h => e3 _ _ (e2 _ _ h)) hw)) (.cons ?_ .nil)
          · rcases hx with rfl | rfl
            · exact ⟨_, hb1⟩
            · exact ⟨_, hc1⟩
          · exact WysB.but badl bu4 ⟨D, acc, rfl, nbD, sq_of hDl, PD⟩
        have PC4 : Paired (RowB bad K (upd H4 b (.lst (bv ++ [.ref D])))) ([] :: tbl wt l j) cv := Paired.mapP PC fun _ _ hr => RowB.but bu4 (RowB.but (fun x o _ h => e3 _ _ (e2 _ _ h)) hr)
        have PD4 : Paired (WayV K (upd H4 b (.lst (bv ++ [.ref D])))) (brow wt l j) acc := Paired.mapP PD fun _ _ hv => WayV.but (e4 _ _ hb3) (fun x o hx h => by rw [upd_ne hx]; exact h) (WayV.ex e4 hv)
        generalize upd H4 b (.lst (bv ++ [.ref D])) = H5 at hb4 hc4 hD4 e14 PB4 PC4 PD4 ⊢
        -- costs.append([way_cost(way) for way in chosen])
        refine ⟨_, rfl, Or.inl ⟨rfl, _, sq_of hc4⟩, ?_⟩
        refine g_lcL (f := fun _ => true) (P := fun _ i v _ => v = .int (((bw wt l i (j + 1)).2 : Nat) : Int)) (ev_var rfl) (sq_of hD4) (by omega) (fun _ => rfl) (fun _ _ _ _ _ _ _ _ h => h) (fun i x H6 e6 hx => et_yes) (fun D2 i x hD2 hx hf H6 acc6 e6 hDl6 Q6 q6 => ?_) (fun D2 H6 acc6 hD2 e6 hDl6 hp6 => ?_)
        · obtain ⟨y, hy, hv⟩ := paired_back PD4 hx
          have hy2 : y = bw wt l i (j + 1) := by
            unfold brow at hy
            have hil : i < l.length - j := by
              have := (List.getElem?_eq_some_iff.mp hx).1
              omega
            rw [List.getElem?_map, List.getElem?_range hil] at hy
            exact (Option.some.inj hy).symm
          subst hy2
          exact x_call (ea_cons (ev_var rfl) ea_nil) fun H7 e7 => ⟨_, x, rfl, WayV.ex (e6.trans e7) hv, fun H8 e8 => q6 _ H8 (e7.trans e8) rfl⟩
        · have hacc : acc6 = nv (Vbktaf.rowOf wt l (tbl wt l j) (j + 1)) := by
            have hall2 : (List.range acc.length).filter (fun _ => true) = List.range (l.length - j) := by
              rw [lD, lbr]
              exact List.filter_eq_self.mpr fun _ _ => rfl
            rw [hall2] at hp6
            rw [paired_vals (H := H6) hp6, rowOf_eq hjl]
            unfold nv
            rw [List.map_map]
            rfl
          have hc6 : H6 c = some (.lst cv) := e6 _ _ hc4
          have hD2c : D2 ≠ c := fun z => by
            rw [z, hc4] at hD2
            cases hD2
          have hD2b : D2 ≠ b := fun z => by
            rw [z, hb4] at hD2
            cases hD2
          refine ⟨c, cv, .ref D2, rfl, rfl, hc6, sz_lt (by omega), ?_⟩
          have bu6 : ButB bad H5 (upd H6 c (.lst (cv ++ [.ref D2]))) := fun x o hx h => by
            rw [upd_ne (fun z => hx (Or.inr z))]
            exact e6 _ _ h
          refine ⟨_, _, _, _, _, bv ++ [.ref D], cv ++ [.ref D2], rfl, Ex.mut (e14.trans e6) hc0, ?_, upd_same, ?_, ?_⟩
          · rw [upd_ne hbc]
            exact e6 _ _ hb4
          · refine Paired.mapP PB4 fun _ _ hw => WysB.but (fun x hx => ?_) bu6 hw
            rcases hx with rfl | rfl
            · exact ⟨_, hb4⟩
            · exact ⟨_, hc4⟩
          · rw [tbl_succ, ← List.cons_append]
            refine paired_append (Paired.mapP PC4 fun _ _ hr => RowB.but bu6 hr) (.cons ⟨D2, rfl, fun z => z.elim hD2b hD2c, ?_⟩ .nil)
            refine sq_of ?_
            rw [upd_ne hD2c, hDl6, hacc]
    · rintro σ' H1 ⟨v4, v5, v6, v7, v8, bv, cv, rfl, e1, hb1, hc1, PB, PC⟩
      rw [show (((l.length + 1 : Nat) : Int) - 1).toNat = l.length by omega] at PB
      exact s_ret (ev_var rfl) fun H2 e2 => k b H2 bv hb0 (e1.trans e2) (e2 _ _ hb1) (Paired.mapP PB fun _ _ hw => hw.wys.ex e2)
end
end Kt

/-! # Costs as lists, digits, counts -/
namespace Kt
open PySem PySem.Spec PyProof.Rows L2 Evl
open Vbktaf (Weights Way hasPeriod isMirror allAlike wayRow look Table)
/-- a tracked list of tracked lists of numbers -/
def RowT (bad : Addr → Prop) (H : Hp) (r : List Nat) (v : V) : Prop := ∃ a, v = .ref a ∧ ¬ bad a ∧ H a = some (.lst (nv r))
theorem RowT.but {bad : Addr → Prop} {H H' : Hp} {r : List Nat} {v : V} (e : ButB bad H H') (h : RowT bad H r v) : RowT bad H' r v := let ⟨a, z, nb, q⟩ := h; ⟨a, z, nb, e _ _ nb q⟩
def no : Addr → Prop := fun _ => False
theorem RowT.ex {bad : Addr → Prop} {H H' : Hp} {r : List Nat} {v : V} (e : Ex H H') (h : RowT bad H r v) : RowT bad H' r v := let ⟨a, z, nb, q⟩ := h; ⟨a, z, nb, e _ _ q⟩
theorem RowT.no {bad : Addr → Prop} {H : Hp} {r : List Nat} {v : V} (h : RowT bad H r v) : RowT no H r v := let ⟨a, z, nb, q⟩ := h; ⟨a, z, fun z => z, q⟩
theorem RowT.row {bad : Addr → Prop} {K : PySem.W.Frag} {H : Hp} {r : List Nat} {v : V} (h : RowT bad H r v) : RowV K H r v := let ⟨a, z, nb, q⟩ := h; ⟨a, z, sq_of q⟩
def TabT (H : Hp) (c : Addr) (t : List (List Nat)) : Prop := ∃ vs, H c = some (.lst vs) ∧ Paired (RowT no H) t vs
theorem TabT.at {K : PySem.W.Frag} {H : Hp} {c : Addr} {t : List (List Nat)} (h : TabT H c t) : TabAt K H c t := let ⟨vs, q, p⟩ := h; ⟨vs, sq_of q, Paired.mapP p fun _ _ => RowT.row⟩
section
variable {K : PySem.W.Frag} {σ : L2.St} {H H' : Hp} {ta tb te : TE}
/-- gives a tracked list of xs -/
def EvN (te : TE) (σ : L2.St) (H : Hp) (xs : List V) : Prop := ∀ H1, Ex H H1 → ∀ Q : VK, (∀ p H2, Ex H1 H2 → H2 p = some (.lst xs) → Q (.ref p) H2) → te σ H1 Q
theorem EvN.mono {xs : List V} (e : Ex H H') (h : EvN te σ H xs) : EvN te σ H' xs := fun H1 a Q q => h H1 (e.trans a) Q q
theorem en_l {xs : List V} (h : EvL te σ H xs) : EvN te σ H xs := fun H1 e Q q => h H1 e Q fun p H2 _ e2 h2 => q p H2 e2 h2
theorem en_v {p : Addr} {xs : List V} (h : Ev te σ H (.ref p)) (hp : H p = some (.lst xs)) : EvN te σ H xs := fun H1 e Q q => h H1 e Q fun H2 e2 => q p H2 e2 (e2 _ _ (e _ _ hp))
theorem el_cat {xs ys : List V} (ha : EvN ta σ H xs) (hb : EvN tb σ H ys) (hz : xs.length + ys.length ≤ 100000) : EvL (tOp rCat ta tb) σ H (xs ++ ys) := fun H1 e Q q =>
  ha H1 e _ fun p H2 e2 h2 => hb H2 (e.trans e2) _ fun p2 H3 e3 h3 => ⟨p, p2, xs, ys, rfl, rfl, e3 _ _ h2, h3, sz_of hz, fun p4 h4 => q p4 _ (fresh_back (e2.trans e3) h4) ((e2.trans e3).trans (Ex.new h4)) upd_same⟩
theorem el_if {b : Bool} {t : TT} {xs : List V} (h : EvT t σ H b) (h1 : b = true → EvL ta σ H xs) (h2 : b = false → EvL tb σ H xs) : EvL (tIf t ta tb) σ H xs := fun H1 e Q q => h H1 e _ fun H2 e2 => by
  cases b with
  | true =>
    show ta σ H2 Q
    exact h1 rfl H2 (e.trans e2) Q fun p H3 hp e3 h3 => q p H3 (fresh_back e2 hp) (e2.trans e3) h3
  | false =>
    show tb σ H2 Q
    exact h2 rfl H2 (e.trans e2) Q fun p H3 hp e3 h3 => q p H3 (fresh_back e2 hp) (e2.trans e3) h3
end
section
variable {P : Program} {w : World} {K : PySem.W.Frag} {mg : Str → Option Value} {base : Heap}
/-- costs_of -/
def sp_costs_of (K : PySem.W.Frag) : Sp := fun vs H Q _ => ∃ (b : Addr) (bv : List V) (rows : List (List (Way × Nat))), vs = [.ref b] ∧ SqL K H b bv ∧ Paired (WysV K H) rows bv ∧ rows.length ≤ 1000 ∧ (∀ r ∈ rows, r.length ≤ 1000) ∧
  ∀ p H2, Ex H H2 → TabT H2 p (rows.map fun r => r.map fun x => x.2) → Q (.ref p) H2
theorem sc_costs_of : FnScope ["best", "costs", "chosen", "way"] ["best"] (C8.fnScope s_costs_of) := C8.fnScope_by (by decide +kernel)
theorem cal_costs_of (D : DF K mg "costs_of" s_costs_of) (T : Tx K mg) (c_way_cost : C8.Cal P w K mg base 1 "way_cost" (sp_way_cost K) []) : C8.Cal P w K mg base 2 "costs_of" (sp_costs_of K) [] := by
  refine cal_by D sc_costs_of (fun _ _ _ _ _ _ us hl => match us, hl with | [_], _ => rfl) (fun vs H Q E h => ?_) (fun f cdv A outer s H vs Q E hr h => ?_)
  · obtain ⟨b, bv, rows, rfl, _⟩ := h
    rfl
  · obtain ⟨b, bv, rows, rfl, hS, PB, h1, h2, k⟩ := h
    refine ⟨_, (pss_cons (ps_set (i := 1) sc_costs_of.nd rfl (Or.inl rfl) (pe_lst pa_nil)) (pss_cons (ps_for PassesOwn.never rfl (pi_list (pv 0)) (pg_name (i := 2) sc_costs_of.nd rfl (Or.inl rfl)) (pss_one (ps_expr (pe_bm PySem.F.plainAttrs_list PySem.F.slot_list_append PySem.F.type_list_append mt_append (pv 1) (pa_cons (pe_lc (own := [("way", 3)]) (g := gName 3) rfl sc_costs_of.nd (pi_list (pv 2)) (blkOk_by (own := [("way", 3)]) (N := ["best", "costs", "chosen", "way"]) (sc := C8.fnScope s_costs_of) (by decide +kernel)) (fun _ _ _ _ _ => (pg_name (i := 3) sc_costs_of.nd rfl (Or.inl rfl))) (fun _ _ _ _ _ => pts_nil) (fun _ _ _ _ _ => (C8.pe_c c_way_cost hr (by decide) rfl (pa_cons (pv 3) pa_nil)))) pa_nil))))) (pss_one (ps_ret (pv 1))))), ?_⟩
    have hlen := paired_length PB
    refine q_asgL (el_lst ea_nil (by simp)) fun c H1 hc e1 hcl => ?_
    let bad : Addr → Prop := fun x => x = c
    refine q_forLn (ev_var rfl) (ex_l e1 hS) (fun i σ' H' => ∃ (v2 v3 : Option V) (cv : List V), σ' = [some (.ref b), some (.ref c), v2, v3] ∧ Ex H H' ∧ H' c = some (.lst cv) ∧ Paired (RowT bad H') ((rows.take i).map fun r => r.map fun x => x.2) cv) (fun H2 e2 => ⟨none, none, [], rfl, e1.trans e2, e2 _ _ hcl, .nil⟩) (fun i σ' H' _ ⟨_, _, _, _, e, _⟩ => ex_l e hS) ?_ ?_
    · rintro i x σ' H2 hx ⟨v2, v3, cv, rfl, e2, hc2, PC⟩
      obtain ⟨r, hr, a, vs, rfl, hv, PV⟩ := paired_back PB hx
      have hrl := h2 r (List.mem_of_getElem? hr)
      have lv := paired_length PV
      have lC := paired_length PC
      rw [List.length_map, List.length_take] at lC
      refine ⟨_, rfl, Or.inl ⟨rfl, _, sq_of hc2⟩, ?_⟩
      refine g_lcL (f := fun _ => true) (P := fun _ j v _ => v = .int (((r.map fun x => x.2).getD j 0 : Nat) : Int)) (ev_var rfl) (ex_l e2 hv) (by omega) (fun _ => rfl) (fun _ _ _ _ _ _ _ _ h => h) (fun j y H3 e3 hy => et_yes) (fun D2 j y hD2 hy hf H3 acc3 e3 hDl3 Q3 q3 => ?_) (fun D2 H3 acc3 hD2 e3 hDl3 hp3 => ?_)
      · obtain ⟨z, hz, hw⟩ := paired_back PV hy
        have hzj : (r.map fun x => x.2).getD j 0 = z.2 := by simp [List.getD, hz]
        rw [hzj] at q3
        exact x_call (ea_cons (ev_var rfl) ea_nil) fun H4 e4 => ⟨z, y, rfl, hw.ex ((e2.trans e3).trans e4), fun H5 e5 => q3 _ H5 (e4.trans e5) rfl⟩
      · have hacc : acc3 = nv (r.map fun x => x.2) := by
          have hall : (List.range vs.length).filter (fun _ => true) = List.range (r.map fun x => x.2).length := by
            rw [lv, List.length_map]
            exact List.filter_eq_self.mpr fun _ _ => rfl
          rw [hall] at hp3
          rw [paired_vals (H := H3) hp3]
          exact range_getD (r.map fun x => x.2) 0 (fun n : Nat => V.int (n : Int))
        have hc3 : H3 c = some (.lst cv) := e3 _ _ hc2
        have hDc : D2 ≠ c := fun z => by
          rw [z, hc2] at hD2
          cases hD2
        refine ⟨c, cv, .ref D2, rfl, rfl, hc3, sz_lt (by omega), ?_⟩
        have bu : ButB bad H2 (upd H3 c (.lst (cv ++ [.ref D2]))) := fun x o hx h => by
          rw [upd_ne hx]
          exact e3 _ _ h
        refine ⟨_, _, cv ++ [.ref D2], rfl, Ex.mut (e2.trans e3) hc, upd_same, ?_⟩
        rw [List.take_succ, hr, List.map_append]
        refine paired_append (Paired.mapP PC fun _ _ h => RowT.but bu h) (.cons ⟨D2, rfl, hDc, ?_⟩ .nil)
        rw [upd_ne hDc, hDl3, hacc]
    · rintro σ' H2 ⟨v2, v3, cv, rfl, e2, hc2, PC⟩
      rw [hlen, List.take_length] at PC
      exact s_ret (ev_var rfl) fun H3 e3 => k c H3 (e2.trans e3) ⟨cv, e3 _ _ hc2, Paired.mapP PC fun _ _ h => (h.ex e3).no⟩
/-- flat_table -/
def sp_flat_table (K : PySem.W.Frag) : Sp := fun vs H Q _ => ∃ (c : Addr) (t : List (List Nat)), vs = [.ref c] ∧ TabT H c t ∧ t.flatten.length ≤ 90000 ∧ RetL (nv t.flatten) H Q
theorem sc_flat_table : FnScope ["costs", "numbers", "as_long"] ["costs"] (C8.fnScope s_flat_table) := C8.fnScope_by (by decide +kernel)
theorem cal_flat_table (D : DF K mg "flat_table" s_flat_table) (T : Tx K mg) : C8.Cal P w K mg base 1 "flat_table" (sp_flat_table K) [] := by
  refine cal_by D sc_flat_table (fun _ _ _ _ _ _ us hl => match us, hl with | [_], _ => rfl) (fun vs H Q E h => ?_) (fun f cdv A outer s H vs Q E hr h => ?_)
  · obtain ⟨c, t, rfl, _⟩ := h
    rfl
  · obtain ⟨c, t, rfl, ⟨cv, hc, PC⟩, hfl, k⟩ := h
    refine ⟨_, (pss_cons (ps_set (i := 1) sc_flat_table.nd rfl (Or.inl rfl) (pe_lst pa_nil)) (pss_cons (ps_for PassesOwn.never rfl (pi_list (pv 0)) (pg_name (i := 2) sc_flat_table.nd rfl (Or.inl rfl)) (pss_one (ps_expr (pe_bm PySem.F.plainAttrs_list PySem.F.slot_list_extend PySem.F.type_list_extend mt_extend (pv 1) (pa_cons (pv 2) pa_nil))))) (pss_one (ps_ret (pv 1))))), ?_⟩
    have hlen := paired_length PC
    refine q_asgL (el_lst ea_nil (by simp)) fun n H1 hn e1 hnl => ?_
    refine q_forLn (K := K) (ev_var rfl) (sq_of (e1 _ _ hc)) (fun i σ' H' => ∃ v2 : Option V, σ' = [some (.ref c), some (.ref n), v2] ∧ Ex H H' ∧ H' n = some (.lst (nv (t.take i).flatten))) (fun H2 e2 => ⟨none, rfl, e1.trans e2, e2 _ _ hnl⟩) (fun i σ' H' _ ⟨_, _, e, _⟩ => sq_of (e _ _ hc)) ?_ ?_
    · rintro i x σ' H2 hx ⟨v2, rfl, e2, hn2⟩
      obtain ⟨r, hr, a, rfl, _, ha⟩ := paired_back PC hx
      have hle : (t.take i).flatten.length + r.length ≤ t.flatten.length := by
        have e : t = t.take i ++ r :: t.drop (i + 1) := by
          have hi : i < t.length := (List.getElem?_eq_some_iff.mp hr).1
          have hri : t[i] = r := by
            have := List.getElem?_eq_getElem hi
            rw [hr] at this
            exact (Option.some.inj this).symm
          rw [← hri, ← List.drop_eq_getElem_cons hi, List.take_append_drop]
        have e2 := congrArg (fun z : List (List Nat) => z.flatten.length) e
        simp only [List.flatten_append, List.flatten_cons, List.length_append] at e2
        omega
      refine ⟨_, rfl, Or.inl ⟨rfl, _, sq_of hn2⟩, _, rfl, n, a, _, _, rfl, rfl, hn2, e2 _ _ ha, sz_of (by rw [List.length_map, List.length_map]; omega), ?_⟩
      refine ⟨_, rfl, Ex.mut e2 hn, ?_⟩
      rw [upd_same, List.take_succ, hr]
      simp [nv]
    · rintro σ' H2 ⟨v2, rfl, e2, hn2⟩
      rw [hlen, List.take_length] at hn2
      exact s_ret (ev_var rfl) fun H3 e3 => k n H3 hn (e2.trans e3) (e3 _ _ hn2)
/-- digits_of -/
def sp_digits_of : Sp := fun vs H Q _ => ∃ n : Nat, vs = [.int (n : Int)] ∧ n < 100 ∧ RetL (nv (Vbktaf.dec n)) H Q
theorem sc_digits_of : FnScope ["number"] ["number"] (C8.fnScope s_digits_of) := C8.fnScope_by (by decide +kernel)
theorem cal_digits_of (D : DF K mg "digits_of" s_digits_of) (T : Tx K mg) : C8.Cal P w K mg base 1 "digits_of" sp_digits_of [] := by
  refine cal_by D sc_digits_of (fun _ _ _ _ _ _ us hl => match us, hl with | [_], _ => rfl) (fun vs H Q E h => ?_) (fun f cdv A outer s H vs Q E hr h => ?_)
  · obtain ⟨n, rfl, _⟩ := h
    rfl
  · obtain ⟨n, rfl, hn, k⟩ := h
    refine ⟨_, (pss_cons (ps_if (pt_cmpR op_lt (pv 0) pe_int (nomark _)) (pss_one (ps_ret (pe_lst (pa_cons (pe_op op_add (C8.pe_gc rfl T.g_DIGIT_0) (pv 0)) pa_nil)))) pss_nil) (pss_one (ps_ret (pe_lst (pa_cons (pe_op op_add (C8.pe_gc rfl T.g_DIGIT_0) (pe_op op_fdivN (pv 0) pe_int)) (pa_cons (pe_op op_add (C8.pe_gc rfl T.g_DIGIT_0) (pe_op op_modN (pv 0) pe_int)) pa_nil)))))), ?_⟩
    rw [dec_small n hn] at k
    refine q_when (b := decide (n < 10)) (et_test (ev_is (ev_op (ev_var rfl) ev_c rv_I0) (congrArg V.bl (decide_eq_decide.mpr (by omega))))) (fun hb H1 e1 => ?_) (fun hb H1 e1 => ?_)
    · rw [if_pos (of_decide_eq_true hb)] at k
      exact s_retL (el_lst (ea_cons (ev_add ev_c (ev_var rfl)) ea_nil) (by simp)) fun p H2 hp e2 h2 => k.go e1 hp e2 h2
    · rw [if_neg (of_decide_eq_false hb)] at k
      have d1 := fdiv_nat n 10
      have d2 := fmod_nat n 10
      refine s_retL (xs := nv [48 + n / 10, 48 + n % 10]) (el_lst (ea_cons (ev_is (ev_add ev_c (ev_op (ev_var rfl) ev_c (rv_I ⟨by decide, by decide⟩))) ?_) (ea_cons (ev_is (ev_add ev_c (ev_op (ev_var rfl) ev_c (rv_I (show (10 : Int) ≠ 0 by decide)))) ?_) ea_nil)) (by simp)) fun p H2 hp e2 h2 => k.go e1 hp e2 h2
      · rw [show ((10 : Nat) : Int) = (10 : Int) from rfl] at d1
        rw [d1]
        exact congrArg V.int (by omega)
      · rw [show ((10 : Nat) : Int) = (10 : Int) from rfl] at d2
        rw [d2]
        exact congrArg V.int (by omega)
/-- stretch_count -/
def sp_stretch_count : Sp := fun vs H Q _ => ∃ n : Nat, vs = [.int (n : Int)] ∧ n ≤ 1000 ∧ RetV (.int ((n * (n + 1) / 2 : Nat) : Int)) H Q
theorem sc_stretch_count : FnScope ["length"] ["length"] (C8.fnScope s_stretch_count) := C8.fnScope_by (by decide +kernel)
theorem cal_stretch_count (D : DF K mg "stretch_count" s_stretch_count) (T : Tx K mg) : C8.Cal P w K mg base 1 "stretch_count" sp_stretch_count [] := by
  refine cal_by D sc_stretch_count (fun _ _ _ _ _ _ us hl => match us, hl with | [_], _ => rfl) (fun vs H Q E h => ?_) (fun f cdv A outer s H vs Q E hr h => ?_)
  · obtain ⟨n, rfl, _⟩ := h
    rfl
  · obtain ⟨n, rfl, hn, k⟩ := h
    refine ⟨_, (pss_one (ps_ret (pe_op op_fdivN (pe_op op_mul (pv 0) (pe_op op_add (pv 0) pe_int)) pe_int))), ?_⟩
    refine s_ret (ev_is (ev_op (ev_op (ev_var rfl) (ev_add (ev_var rfl) ev_c) (rv_I (Or.inl ⟨by omega, by omega⟩))) ev_c (rv_I ⟨by decide, by decide⟩)) ?_) fun H1 e => k H1 e
    refine congrArg V.int ?_
    have := fdiv_nat (n * (n + 1)) 2
    rw [← this]
    simp
end
end Kt

/-! # The told text -/
namespace Kt
open PySem PySem.Spec PyProof.Rows L2 Evl
open Vbktaf (Weights Way hasPeriod isMirror allAlike wayRow look Table dec)
/-- the bytes by a way -/
def txOf (l : List Nat) (tt : Nat → Nat → List Nat) (i n : Nat) : Way → List Nat
  | .run => (97 + l.getD i 0) :: (if n = 1 then [] else dec n)
  | .group p => 40 :: (tt i p ++ 41 :: dec (n / p))
  | .mirror => 60 :: (tt i (n / 2) ++ [62])
  | .odd => 91 :: (tt i ((n + 1) / 2) ++ [93])
  | .split k => tt i k ++ tt (i + k) (n - k)
/-- what a way of n stitches may be -/
def WayOk (n : Nat) : Way → Prop
  | .run => True
  | .group p => 0 < p ∧ p < n ∧ n % p = 0
  | .mirror => n % 2 = 0 ∧ n ≠ 0
  | .odd => n % 2 = 1 ∧ n ≠ 1
  | .split k => k ≠ 0 ∧ k < n
theorem bw_ok {w : Weights} {l : List Nat} {i n : Nat} (h1 : 1 ≤ n) (h : i + n ≤ l.length) : WayOk n (bw w l i n).1 := by
  have m := mem_ways (bw_mem (w := w) h1 h)
  rw [part_length h] at m
  generalize bw w l i n = b at m
  obtain ⟨b1, b2⟩ := b
  cases b1 with
  | run => trivial
  | group p =>
    have q := hasPeriod_facts m.1
    rw [part_length h] at q
    exact q
  | mirror => exact ⟨m.2.1, m.2.2.1⟩
  | odd => exact ⟨m.2.1, m.2.2.1⟩
  | split k => exact ⟨m.1, m.2.1⟩
theorem bt_txOf {w : Weights} {l : List Nat} {i n : Nat} (h1 : 1 ≤ n) (h : i + n ≤ l.length) : bt w l i n = txOf l (bt w l) i n (bw w l i n).1 := by
  rw [bt_eq h1 h]
  have hh : (Vbktaf.part l i 1).headD 0 = l.getD i 0 := by
    have := head_part (l := l) (i := i) (by omega)
    rw [List.getD_eq_getElem?_getD, this]
    rfl
  cases (bw w l i n).1 with
  | run =>
    show _ :: _ = _ :: _
    rw [hh]
  | group p => rfl
  | mirror => rfl
  | odd => rfl
  | split k => rfl
theorem dec_len {n : Nat} (h : n < 100) : (dec n).length ≤ 2 := by
  rw [dec_small n h]
  split <;> simp
theorem bt_len {w : Weights} {l : List Nat} (hl : l.length ≤ 40) : ∀ {n : Nat}, 1 ≤ n → ∀ {i : Nat}, i + n ≤ l.length → (bt w l i n).length + 4 ≤ 5 * n := by
  intro n
  induction n using Nat.strongRecOn with
  | _ n ih =>
    intro h1 i h
    have ok := bw_ok (w := w) h1 h
    have one := bw_one (w := w) (l := l) (i := i)
    rw [bt_txOf h1 h]
    generalize hb : (bw w l i n).1 = b at ok
    cases b with
    | run =>
      show (_ :: _).length + 4 ≤ 5 * n
      by_cases e : n = 1
      · rw [if_pos e]
        simp
        omega
      · rw [if_neg e, List.length_cons]
        have := dec_len (n := n) (by omega)
        omega
    | group p =>
      obtain ⟨a, b, c⟩ := ok
      have q := ih p b a (i := i) (by omega)
      have hd := Nat.div_le_self n p
      have := dec_len (n := n / p) (by omega)
      have e := Nat.div_add_mod n p
      rw [c, Nat.add_zero] at e
      have h3 : 2 ≤ n / p := by
        apply Nat.le_of_not_lt
        intro hlt
        have : n / p ≤ 1 := by omega
        have := Nat.mul_le_mul_left p this
        omega
      have h4 := Nat.mul_le_mul_left p h3
      show (40 :: (bt w l i p ++ 41 :: dec (n / p))).length + 4 ≤ 5 * n
      simp only [List.length_cons, List.length_append]
      omega
    | mirror =>
      obtain ⟨a, b⟩ := ok
      have q := ih (n / 2) (by omega) (by omega) (i := i) (by omega)
      show (60 :: (bt w l i (n / 2) ++ [62])).length + 4 ≤ 5 * n
      simp only [List.length_cons, List.length_append, List.length_nil]
      omega
    | odd =>
      obtain ⟨a, b⟩ := ok
      have q := ih ((n + 1) / 2) (by omega) (by omega) (i := i) (by omega)
      show (91 :: (bt w l i ((n + 1) / 2) ++ [93])).length + 4 ≤ 5 * n
      simp only [List.length_cons, List.length_append, List.length_nil]
      omega
    | split k =>
      obtain ⟨a, b⟩ := ok
      have q1 := ih k (by omega) (by omega) (i := i) (by omega)
      have q2 := ih (n - k) (by omega) (by omega) (i := i + k) (by omega)
      show (bt w l i k ++ bt w l (i + k) (n - k)).length + 4 ≤ 5 * n
      rw [List.length_append]
      omega
/-- texts[m][k] is a tracked list of t -/
def TxL (K : PySem.W.Frag) (H : Hp) (x : Addr) (m k : Nat) (t : List Nat) : Prop := ∃ vs a us p, SqL K H x vs ∧ vs[m]? = some (.ref a) ∧ SqL K H a us ∧ us[k]? = some (.ref p) ∧ H p = some (.lst (nv t))
theorem TxL.ex {K : PySem.W.Frag} {H H' : Hp} {x : Addr} {m k : Nat} {t : List Nat} (h : TxL K H x m k t) (e : Ex H H') : TxL K H' x m k t := by
  obtain ⟨vs, a, us, p, h1, h2, h3, h4, h5⟩ := h
  exact ⟨vs, a, us, p, ex_l e h1, h2, ex_l e h3, h4, e _ _ h5⟩
section
variable {P : Program} {w : World} {K : PySem.W.Frag} {mg : Str → Option Value} {base : Heap}
section
variable {σ : L2.St} {H H' : Hp} {ta tb tc te : TE}
theorem en_txt {x : Addr} {m k : Nat} {t : List Nat} (ha : Ev ta σ H (.ref x)) (hm : Ev tb σ H (.int (m : Int))) (hk : Ev tc σ H (.int (k : Int))) (h : TxL K H x m k t) : EvN (tOp (rIxL K) (tOp (rIxL K) ta tb) tc) σ H (nv t) := by
  obtain ⟨vs, a, us, p, h1, h2, h3, h4, h5⟩ := h
  exact en_v (ev_ixL (ev_ixL ha hm h1 (atI_nat h2)) hk h3 (atI_nat h4)) h5
end
def sp_text_by_way (K : PySem.W.Frag) : Sp := fun vs H Q _ => ∃ (a x : Addr) (v : V) (l : List Nat) (y : Way × Nat) (tt : Nat → Nat → List Nat) (i n : Nat), vs = [.ref a, v, .ref x, .int (i : Int), .int (n : Int)] ∧ SqL K H a (nv l) ∧ WayV K H y v ∧ 1 ≤ n ∧ i + n ≤ l.length ∧ l.length ≤ 40 ∧ WayOk n y.1 ∧
  (∀ j m, 1 ≤ m → m < n → j + m ≤ n → TxL K H x m (i + j) (tt (i + j) m) ∧ (tt (i + j) m).length ≤ 1000) ∧ RetL (nv (txOf l tt i n y.1)) H Q
theorem sc_text_by_way : FnScope ["row", "way", "texts", "start", "length", "kind", "size"] ["row", "way", "texts", "start", "length"] (C8.fnScope s_text_by_way) := C8.fnScope_by (by decide +kernel)
theorem cal_text_by_way (D : DF K mg "text_by_way" s_text_by_way) (T : Tx K mg) (c_digits_of : C8.Cal P w K mg base 1 "digits_of" sp_digits_of []) (c_first_half : C8.Cal P w K mg base 1 "first_half" sp_first_half []) : C8.Cal P w K mg base 2 "text_by_way" (sp_text_by_way K) [] := by
  refine cal_by D sc_text_by_way (fun _ _ _ _ _ _ us hl => match us, hl with | [_, _, _, _, _], _ => rfl) (fun vs H Q E h => ?_) (fun f cdv A outer s H vs Q E hr h => ?_)
  · obtain ⟨a, x, v, l, y, tt, i, n, rfl, _⟩ := h
    rfl
  · obtain ⟨a, x, v, l, y, tt, i, n, rfl, hS, ⟨t, rfl, hw⟩, h1, hin, h40, ok, lk, k⟩ := h
    refine ⟨_, (pss_cons (ps_set (i := 5) sc_text_by_way.nd rfl (Or.inl rfl) (pe_ix ix_tup (pv 1) pe_int (fun _ _ => rfl))) (pss_cons (ps_set (i := 6) sc_text_by_way.nd rfl (Or.inl rfl) (pe_ix ix_tup (pv 1) pe_int (fun _ _ => rfl))) (pss_cons (ps_if (pt_cmpR op_eq (pv 5) (C8.pe_gc rfl T.g_ALIKE) (nomark _)) (pss_one (ps_ret (pe_op op_cat (pe_lst (pa_cons (pe_op op_add (C8.pe_gc rfl T.g_LETTER_A) (pe_ix ix_list (pv 0) (pv 3) (fun _ _ => rfl))) pa_nil)) (pe_ifExp (pt_cmpR op_gt (pv 4) pe_int (nomark _)) (C8.pe_c c_digits_of hr (by decide) rfl (pa_cons (pv 4) pa_nil)) (pe_lst pa_nil))))) pss_nil) (pss_cons (ps_if (pt_cmpR op_eq (pv 5) (C8.pe_gc rfl T.g_PERIOD) (nomark _)) (pss_one (ps_ret (pe_op op_cat (pe_op op_cat (pe_op op_cat (pe_lst (pa_cons (C8.pe_gc rfl T.g_ROUND_OPENING) pa_nil)) (pe_ix ix_list (pe_ix ix_list (pv 2) (pv 6) (fun _ _ => rfl)) (pv 3) (fun _ _ => rfl))) (pe_lst (pa_cons (C8.pe_gc rfl T.g_ROUND_CLOSING) pa_nil))) (C8.pe_c c_digits_of hr (by decide) rfl (pa_cons (pe_op op_fdivN (pv 4) (pv 6)) pa_nil))))) pss_nil) (pss_cons (ps_if (pt_cmpR op_eq (pv 5) (C8.pe_gc rfl T.g_EVEN_MIRROR) (nomark _)) (pss_one (ps_ret (pe_op op_cat (pe_op op_cat (pe_lst (pa_cons (C8.pe_gc rfl T.g_ANGLE_OPENING) pa_nil)) (pe_ix ix_list (pe_ix ix_list (pv 2) (C8.pe_c c_first_half hr (by decide) rfl (pa_cons (pv 4) pa_nil)) (fun _ _ => rfl)) (pv 3) (fun _ _ => rfl))) (pe_lst (pa_cons (C8.pe_gc rfl T.g_ANGLE_CLOSING) pa_nil))))) pss_nil) (pss_cons (ps_if (pt_cmpR op_eq (pv 5) (C8.pe_gc rfl T.g_ODD_MIRROR) (nomark _)) (pss_one (ps_ret (pe_op op_cat (pe_op op_cat (pe_lst (pa_cons (C8.pe_gc rfl T.g_SQUARE_OPENING) pa_nil)) (pe_ix ix_list (pe_ix ix_list (pv 2) (C8.pe_c c_first_half hr (by decide) rfl (pa_cons (pv 4) pa_nil)) (fun _ _ => rfl)) (pv 3) (fun _ _ => rfl))) (pe_lst (pa_cons (C8.pe_gc rfl T.g_SQUARE_CLOSING) pa_nil))))) pss_nil) (pss_one (ps_ret (pe_op op_cat (pe_ix ix_list (pe_ix ix_list (pv 2) (pv 6) (fun _ _ => rfl)) (pv 3) (fun _ _ => rfl)) (pe_ix ix_list (pe_ix ix_list (pv 2) (pe_op op_sub (pv 4) (pv 6)) (fun _ _ => rfl)) (pe_op op_add (pv 3) (pv 6)) (fun _ _ => rfl))))))))))), ?_⟩
    obtain ⟨y1, y2⟩ := y
    have dig : ∀ (σ : L2.St) (H1 : Hp) (te : TE) (m : Nat), m < 100 → Ev te σ H1 (.int (m : Int)) → EvL (tCall sp_digits_of [] E0 (tCons te tNil)) σ H1 (nv (dec m)) := fun σ H1 te m hm he => el_call (ea_cons he ea_nil) fun H2 e2 Q2 q2 E2 => ⟨m, rfl, hm, q2⟩
    have half : ∀ (σ : L2.St) (H1 : Hp) (te : TE), Ev te σ H1 (.int (n : Int)) → Ev (tCall sp_first_half [] E0 (tCons te tNil)) σ H1 (.int (((n + 1) / 2 : Nat) : Int)) := fun σ H1 te he => ev_call (ea_cons he ea_nil) fun H2 e2 Q2 q2 E2 => ⟨n, rfl, q2⟩
    -- kind, size: by the kind of the way
    cases y1 with
    | run =>
      refine q_asg (v := .int 0) (ev_ixT (ev_var rfl) ev_c (st_of hw) rfl) fun H1 e1 => ?_
      refine q_asg (v := .int 0) (ev_ixT (ev_var rfl) ev_c (st_of (e1 _ _ hw)) rfl) fun H2 e2 => ?_
      refine q_when (b := true) (et_test (ev_is (ev_op (ev_var rfl) ev_c (rv_eq rfl)) rfl)) (fun _ H3 e3 => ?_) (fun z => nomatch z)
      have e13 := (e1.trans e2).trans e3
      have hi : l[i]? = some (l.getD i 0) := by
        rw [List.getD_eq_getElem?_getD, List.getElem?_eq_getElem (show i < l.length by omega)]
        rfl
      refine s_retL (el_cat (xs := nv [97 + l.getD i 0]) (ys := nv (if n = 1 then [] else dec n)) (en_l (el_lst (ea_cons (ev_is (ev_add ev_c (ev_ixL (ev_var rfl) (ev_var rfl) (ex_l e13 hS) (atI_nat (nv_get hi)))) rfl) ea_nil) (by simp))) (en_l (el_if (b := decide (1 < n)) (et_test (ev_is (ev_op (ev_var rfl) ev_c rv_I0) (congrArg V.bl (decide_eq_decide.mpr (by omega))))) (fun hb => ?_) (fun hb => ?_))) ?_) fun p H4 hp e4 h4 => k.go e13 hp e4 h4
      · have := of_decide_eq_true hb
        rw [if_neg (by omega)]
        exact dig _ _ _ n (by omega) (ev_var rfl)
      · have := of_decide_eq_false hb
        rw [if_pos (by omega)]
        exact el_lst ea_nil (by simp)
      · have := dec_len (n := n) (by omega)
        rw [List.length_map, List.length_map]
        split <;> simp <;> omega
    | group p =>
      obtain ⟨p0, pn, pm⟩ := ok
      obtain ⟨hl, hlen⟩ := lk 0 p (by omega) pn (by omega)
      rw [Nat.add_zero] at hl hlen
      refine q_asg (v := .int 1) (ev_ixT (ev_var rfl) ev_c (st_of hw) rfl) fun H1 e1 => ?_
      refine q_asg (v := .int (p : Int)) (ev_ixT (ev_var rfl) ev_c (st_of (e1 _ _ hw)) rfl) fun H2 e2 => ?_
      refine q_when (b := false) (et_test (ev_is (ev_op (ev_var rfl) ev_c (rv_eq rfl)) rfl)) (fun z => nomatch z) (fun _ H3 e3 => ?_)
      refine q_when (b := true) (et_test (ev_is (ev_op (ev_var rfl) ev_c (rv_eq rfl)) rfl)) (fun _ H4 e4 => ?_) (fun z => nomatch z)
      have e14 := ((e1.trans e2).trans e3).trans e4
      have hdl : n / p < 100 := by
        have := Nat.div_le_self n p
        omega
      have hd2 := dec_len hdl
      refine s_retL (xs := ((nv [40] ++ nv (tt i p)) ++ nv [41]) ++ nv (dec (n / p))) (el_cat (en_l (el_cat (en_l (el_cat (en_l (el_lst (ea_cons ev_c ea_nil) (by simp))) (en_txt (ev_var rfl) (ev_var rfl) (ev_var rfl) (hl.ex e14)) ?_)) (en_l (el_lst (ea_cons ev_c ea_nil) (by simp))) ?_)) (en_l (dig _ _ _ (n / p) hdl (ev_is (ev_op (ev_var rfl) (ev_var rfl) (rv_I ⟨by omega, by omega⟩)) (congrArg V.int (fdiv_nat n p))))) ?_) fun q H5 hq e5 h5 => ?_
      · simp; omega
      · simp; omega
      · simp; omega
      · refine k.go e14 hq e5 ?_
        rw [h5]
        simp [txOf, nv]
    | mirror =>
      obtain ⟨m2, m0⟩ := ok
      obtain ⟨hl, hlen⟩ := lk 0 ((n + 1) / 2) (by omega) (by omega) (by omega)
      rw [Nat.add_zero] at hl hlen
      refine q_asg (v := .int 2) (ev_ixT (ev_var rfl) ev_c (st_of hw) rfl) fun H1 e1 => ?_
      refine q_asg (v := .int 0) (ev_ixT (ev_var rfl) ev_c (st_of (e1 _ _ hw)) rfl) fun H2 e2 => ?_
      refine q_when (b := false) (et_test (ev_is (ev_op (ev_var rfl) ev_c (rv_eq rfl)) rfl)) (fun z => nomatch z) (fun _ H3 e3 => ?_)
      refine q_when (b := false) (et_test (ev_is (ev_op (ev_var rfl) ev_c (rv_eq rfl)) rfl)) (fun z => nomatch z) (fun _ H4 e4 => ?_)
      refine q_when (b := true) (et_test (ev_is (ev_op (ev_var rfl) ev_c (rv_eq rfl)) rfl)) (fun _ H5 e5 => ?_) (fun z => nomatch z)
      have e15 := (((e1.trans e2).trans e3).trans e4).trans e5
      refine s_retL (xs := (nv [60] ++ nv (tt i ((n + 1) / 2))) ++ nv [62]) (el_cat (en_l (el_cat (en_l (el_lst (ea_cons ev_c ea_nil) (by simp))) (en_txt (ev_var rfl) (half _ _ _ (ev_var rfl)) (ev_var rfl) (hl.ex e15)) ?_)) (en_l (el_lst (ea_cons ev_c ea_nil) (by simp))) ?_) fun q H6 hq e6 h6 => ?_
      · simp; omega
      · simp; omega
      · refine k.go e15 hq e6 ?_
        rw [h6, show (n + 1) / 2 = n / 2 by omega]
        simp [txOf, nv]
    | odd =>
      obtain ⟨m2, m0⟩ := ok
      obtain ⟨hl, hlen⟩ := lk 0 ((n + 1) / 2) (by omega) (by omega) (by omega)
      rw [Nat.add_zero] at hl hlen
      refine q_asg (v := .int 3) (ev_ixT (ev_var rfl) ev_c (st_of hw) rfl) fun H1 e1 => ?_
      refine q_asg (v := .int 0) (ev_ixT (ev_var rfl) ev_c (st_of (e1 _ _ hw)) rfl) fun H2 e2 => ?_
      refine q_when (b := false) (et_test (ev_is (ev_op (ev_var rfl) ev_c (rv_eq rfl)) rfl)) (fun z => nomatch z) (fun _ H3 e3 => ?_)
      refine q_when (b := false) (et_test (ev_is (ev_op (ev_var rfl) ev_c (rv_eq rfl)) rfl)) (fun z => nomatch z) (fun _ H4 e4 => ?_)
      refine q_when (b := false) (et_test (ev_is (ev_op (ev_var rfl) ev_c (rv_eq rfl)) rfl)) (fun z => nomatch z) (fun _ H5 e5 => ?_)
      refine q_when (b := true) (et_test (ev_is (ev_op (ev_var rfl) ev_c (rv_eq rfl)) rfl)) (fun _ H6 e6 => ?_) (fun z => nomatch z)
      have e16 := ((((e1.trans e2).trans e3).trans e4).trans e5).trans e6
      refine s_retL (xs := (nv [91] ++ nv (tt i ((n + 1) / 2))) ++ nv [93]) (el_cat (en_l (el_cat (en_l (el_lst (ea_cons ev_c ea_nil) (by simp))) (en_txt (ev_var rfl) (half _ _ _ (ev_var rfl)) (ev_var rfl) (hl.ex e16)) ?_)) (en_l (el_lst (ea_cons ev_c ea_nil) (by simp))) ?_) fun q H7 hq e7 h7 => ?_
      · simp; omega
      · simp; omega
      · refine k.go e16 hq e7 ?_
        rw [h7]
        simp [txOf, nv]
    | split m =>
      obtain ⟨m0, mn⟩ := ok
      obtain ⟨hl, hlen⟩ := lk 0 m (by omega) (by omega) (by omega)
      obtain ⟨hl2, hlen2⟩ := lk m (n - m) (by omega) (by omega) (by omega)
      rw [Nat.add_zero] at hl hlen
      refine q_asg (v := .int 4) (ev_ixT (ev_var rfl) ev_c (st_of hw) rfl) fun H1 e1 => ?_
      refine q_asg (v := .int (m : Int)) (ev_ixT (ev_var rfl) ev_c (st_of (e1 _ _ hw)) rfl) fun H2 e2 => ?_
      refine q_when (b := false) (et_test (ev_is (ev_op (ev_var rfl) ev_c (rv_eq rfl)) rfl)) (fun z => nomatch z) (fun _ H3 e3 => ?_)
      refine q_when (b := false) (et_test (ev_is (ev_op (ev_var rfl) ev_c (rv_eq rfl)) rfl)) (fun z => nomatch z) (fun _ H4 e4 => ?_)
      refine q_when (b := false) (et_test (ev_is (ev_op (ev_var rfl) ev_c (rv_eq rfl)) rfl)) (fun z => nomatch z) (fun _ H5 e5 => ?_)
      refine q_when (b := false) (et_test (ev_is (ev_op (ev_var rfl) ev_c (rv_eq rfl)) rfl)) (fun z => nomatch z) (fun _ H6 e6 => ?_)
      have e16 := ((((e1.trans e2).trans e3).trans e4).trans e5).trans e6
      refine s_retL (xs := nv (tt i m) ++ nv (tt (i + m) (n - m))) (el_cat (en_txt (ev_var rfl) (ev_var rfl) (ev_var rfl) (hl.ex e16)) (en_txt (ev_var rfl) (ev_is (ev_sub (ev_var rfl) (ev_var rfl)) (congrArg V.int (by omega))) (ev_is (ev_add (ev_var rfl) (ev_var rfl)) (congrArg V.int (by omega))) (hl2.ex e16)) ?_) fun q H7 hq e7 h7 => ?_
      · simp; omega
      · refine k.go e16 hq e7 ?_
        rw [h7]
        simp [txOf, nv]
end
end Kt

/-! # The told text of the whole row; tables told by others -/
namespace Kt
open PySem PySem.Spec PyProof.Rows L2 Evl
open Vbktaf (Weights Way hasPeriod isMirror allAlike wayRow look Table dec)
section
variable {K : PySem.W.Frag} {σ : L2.St} {H H' : Hp} {ta : TA} {te : TE}
/-- a comprehension over enumerate(a list), its target two names -/
theorem g_lcE {a : Addr} {xs : List V} {j1 j2 : Nat} {vs : List Nat} {Q : VK} (P : Addr → Nat → V → Hp → Prop) (h : EvA ta σ H [.ref a]) (hx : SqL K H a xs) (hz : xs.length ≤ 40000) (hw : ∀ x y, wipe (((wipe σ vs).set j1 (some x)).set j2 (some y)) vs = wipe σ vs)
    (mono : ∀ D k v H2 H3 acc, H2 D = some (.lst acc) → But D H2 H3 → P D k v H2 → P D k v H3)
    (he : ∀ (D : Addr) (i : Nat) (x : V), H D = none → xs[i]? = some x → ∀ H1 acc, Ex H H1 → H1 D = some (.lst acc) → ∀ Q : VK, (∀ v H2, Ex H1 H2 → P D i v H2 → Q v H2) → te (((wipe σ vs).set j1 (some (.int (i : Nat)))).set j2 (some x)) H1 Q)
    (k : ∀ D H' acc, H D = none → Ex H H' → H' D = some (.lst acc) → Paired (fun k v => P D k v H') (List.range xs.length) acc → Q (.ref D) H') :
    tLc (iEnum K ta) (gTup K 2 (gCons (gName j1) (gCons (gName j2) gNil))) tYes te vs σ H Q := h H (Ex.refl H) _ fun H1 e1 => ⟨a, xs, rfl, ex_l e1 hx, fun D hD =>
  lc_it (walk_enum (K := K) (a := a) (xs := xs)) (Gw H1 (fun _ => true) P D) ⟨hD, Ex.new hD, [], upd_same, Nat.le_refl _, .nil⟩ (fun i H' _ p => ex_l (e1.trans p.2.1) hx) (fun i x H2 H3 hi p y => by
    obtain ⟨T, u, z, rfl, hT, rfl, hu, hzz⟩ := y
    cases hu
    obtain ⟨p1, p2, acc, p3, p4, p5⟩ := p
    have eT : Ex H2 (upd H2 T (.tup [.int (i : Nat), z])) := Ex.new hT
    refine ⟨T, [.int (i : Nat), z], rfl, st_of upd_same, rfl, _, _, rfl, _, _, rfl, rfl, hw _ _, ?_⟩
    exact gw_turn (mono D) ⟨p1, p2.trans eT, acc, eT _ _ p3, p4, Paired.mapP p5 fun k v hv => mono D k v H2 _ acc p3 (fun b o _ h => eT b o h) hv⟩ (by omega) et_yes (fun _ H4 acc4 e4 => he D i z (fresh_back e1 hD) hzz H4 acc4 (e1.trans e4))) (fun H' p => by
    obtain ⟨p1, p2, acc, p3, p4, p5⟩ := p
    rw [List.filter_eq_self.mpr (fun _ _ => rfl)] at p5
    exact k D H' acc (fresh_back e1 p1) (e1.trans p2) p3 p5)⟩
end
/-- texts of one length, by their places -/
def TrB (bad : Addr → Prop) (H : Hp) (ts : List (List Nat)) (v : V) : Prop := ∃ a us, v = .ref a ∧ ¬ bad a ∧ H a = some (.lst us) ∧ Paired (RowT bad H) ts us
theorem TrB.but {bad : Addr → Prop} {H H' : Hp} {ts : List (List Nat)} {v : V} (e : ButB bad H H') (h : TrB bad H ts v) : TrB bad H' ts v := let ⟨a, us, z, nb, q, p⟩ := h; ⟨a, us, z, nb, e _ _ nb q, Paired.mapP p fun _ _ => RowT.but e⟩
def trow (w : Weights) (l : List Nat) (j : Nat) : List (List Nat) := (List.range (l.length - j)).map fun i => bt w l i (j + 1)
def trows (w : Weights) (l : List Nat) (k : Nat) : List (List (List Nat)) := [] :: (List.range k).map (trow w l)
theorem trows_succ (w : Weights) (l : List Nat) (k : Nat) : trows w l (k + 1) = trows w l k ++ [trow w l k] := by
  unfold trows
  rw [List.range_succ, List.map_append]
  rfl
theorem trows_get {w : Weights} {l : List Nat} {k m i : Nat} (h1 : 1 ≤ m) (h2 : m ≤ k) (h3 : i + m ≤ l.length) : ∃ ts, (trows w l k)[m]? = some ts ∧ ts[i]? = some (bt w l i m) := by
  obtain ⟨m, rfl⟩ : ∃ m', m = m' + 1 := ⟨m - 1, by omega⟩
  refine ⟨trow w l m, ?_, ?_⟩
  · unfold trows
    rw [List.getElem?_cons_succ, List.getElem?_map, List.getElem?_range (by omega)]
    rfl
  · unfold trow
    rw [List.getElem?_map, List.getElem?_range (by omega)]
    rfl
theorem brows_get {w : Weights} {l : List Nat} {k m : Nat} (h1 : 1 ≤ m) (h2 : m ≤ k) : (brows w l k)[m]? = some (brow w l (m - 1)) := by
  obtain ⟨m, rfl⟩ : ∃ m', m = m' + 1 := ⟨m - 1, by omega⟩
  unfold brows
  rw [List.getElem?_cons_succ, List.getElem?_map, List.getElem?_range (by omega)]
  rfl
theorem brow_get {w : Weights} {l : List Nat} {j i : Nat} (h : i < l.length - j) : (brow w l j)[i]? = some (bw w l i (j + 1)) := by
  unfold brow
  rw [List.getElem?_map, List.getElem?_range h]
  rfl
section
variable {P : Program} {w : World} {K : PySem.W.Frag} {mg : Str → Option Value} {base : Heap}
/-- told_text: the whole row's bytes, a list of its own -/
def sp_told_text (K : PySem.W.Frag) : Sp := fun vs H Q _ => ∃ (a b : Addr) (l : List Nat) (w : Weights) (bv : List V), vs = [.ref a, .ref b] ∧ SqL K H a (nv l) ∧ l ≠ [] ∧ l.length ≤ 40 ∧ SqL K H b bv ∧ Paired (WysV K H) (brows w l l.length) bv ∧
  ∀ p H2, Ex H H2 → H2 p = some (.lst (nv (bt w l 0 l.length))) → Q (.ref p) H2
theorem sc_told_text : FnScope ["row", "best", "texts", "length", "ways", "start", "way"] ["row", "best"] (C8.fnScope s_told_text) := C8.fnScope_by (by decide +kernel)
theorem cal_told_text (D : DF K mg "told_text" s_told_text) (T : Tx K mg) (c_text_by_way : C8.Cal P w K mg base 2 "text_by_way" (sp_text_by_way K) []) : C8.Cal P w K mg base 3 "told_text" (sp_told_text K) [] := by
  refine cal_by D sc_told_text (fun _ _ _ _ _ _ us hl => match us, hl with | [_, _], _ => rfl) (fun vs H Q E h => ?_) (fun f cdv A outer s H vs Q E hr h => ?_)
  · obtain ⟨a, b, l, w, bv, rfl, _⟩ := h
    rfl
  · obtain ⟨a, b, l, wt, bv, rfl, hS, hne, h40, hB, PB, k⟩ := h
    have hpos : 0 < l.length := List.length_pos_iff.mpr hne
    refine ⟨_, (pss_cons (ps_set (i := 2) sc_told_text.nd rfl (Or.inr rfl) (pe_lst (pa_cons (pe_lst pa_nil) pa_nil))) (pss_cons (ps_for PassesOwn.never rfl (pi_range2 rfl T.b_range (pa_cons pe_int (pa_cons (pe_op op_add (pe_callB call_len_seq (by rfl) T.b_len PySem.boot_len (pa_cons (pv 0) pa_nil)) pe_int) pa_nil))) (pg_name (i := 3) sc_told_text.nd rfl (Or.inr rfl)) (pss_cons (ps_set (i := 4) sc_told_text.nd rfl (Or.inl rfl) (pe_ix ix_list (pv 1) (pv 3) (fun _ _ => rfl))) (pss_one (ps_expr (pe_bm PySem.F.plainAttrs_list PySem.F.slot_list_append PySem.F.type_list_append mt_append (pv 2) (pa_cons (pe_lc (own := [("start", 5), ("way", 6)])  rfl sc_told_text.nd (pi_enum rfl T.b_enumerate (pa_cons (pv 4) pa_nil)) (blkOk_by (own := [("start", 5), ("way", 6)]) (N := ["row", "best", "texts", "length", "ways", "start", "way"]) (sc := C8.fnScope s_told_text) (by decide +kernel)) (fun _ _ _ _ _ => (Kt.pg_tupK (K := K) (n := 2) rfl rfl (pgs_cons (pg_name (i := 5) sc_told_text.nd rfl (Or.inl rfl)) (pgs_cons (pg_name (i := 6) sc_told_text.nd rfl (Or.inl rfl)) pgs_nil)))) (fun _ _ _ _ _ => pts_nil) (fun _ _ _ _ _ => (C8.pe_c c_text_by_way hr (by decide) rfl (pa_cons (pv 0) (pa_cons (pv 6) (pa_cons (pv 2) (pa_cons (pv 5) (pa_cons (pv 3) pa_nil)))))))) pa_nil)))))) (pss_one (ps_ret (pe_ix ix_list (pe_ix ix_list (pv 2) (pe_callB call_len_seq (by rfl) T.b_len PySem.boot_len (pa_cons (pv 0) pa_nil)) (fun _ _ => rfl)) pe_int (fun _ _ => rfl)))))), ?_⟩
    -- texts = [[]]
    refine q_asgX ⟨sz_of (by simp), fun q1 hq1 => ⟨sz_of (by simp), fun x hx => ?_⟩⟩
    obtain ⟨nx1, hx0⟩ := fresh_upd hx
    have e0 : Ex H (upd (upd H q1 (.lst [])) x (.lst [.ref q1])) := (Ex.new hq1).trans (Ex.new hx)
    have f1 : upd (upd H q1 (.lst [])) x (.lst [.ref q1]) x = some (.lst [.ref q1]) := upd_same
    have f2 : upd (upd H q1 (.lst [])) x (.lst [.ref q1]) q1 = some (.lst []) := by rw [upd_ne (Ne.symm nx1), upd_same]
    generalize upd (upd H q1 (.lst [])) x (.lst [.ref q1]) = H0 at e0 f1 f2 ⊢
    let bad : Addr → Prop := fun z => z = x
    refine q_forR2 (lo := 1) (n := ((l.length + 1 : Nat) : Int)) (ea_cons ev_c (ea_cons (ev_is (ev_add (ev_len (ev_var rfl) (ex_l e0 hS)) ev_c) (by rw [List.length_map]; rfl)) ea_nil)) ⟨by omega, by omega, by omega, by omega⟩
      (fun k σ' H' => ∃ (v3 v4 v5 v6 : Option V) (tv : List V), σ' = [some (.ref a), some (.ref b), some (.ref x), v3, v4, v5, v6] ∧ Ex H H' ∧ H' x = some (.lst tv) ∧ Paired (TrB bad H') (trows wt l k) tv)
      (fun H1 e1 => ⟨none, none, none, none, _, rfl, e0.trans e1, e1 _ _ f1, .cons ⟨q1, [], rfl, Ne.symm nx1, e1 _ _ f2, .nil⟩ .nil⟩) ?_ ?_
    · rintro j σ' H1 hj ⟨v3, v4, v5, v6, tv, rfl, e1, hx1, PT⟩
      have hjl : j < l.length := by omega
      have htl := paired_length PT
      have lt : (trows wt l j).length = j + 1 := by simp [trows]
      obtain ⟨v, hv, ab, us, rfl, hus, PU⟩ := paired_get PB (brows_get (w := wt) (l := l) (k := l.length) (m := j + 1) (by omega) (by omega))
      rw [Nat.add_sub_cancel] at PU
      have lU := paired_length PU
      have lbr : (brow wt l j).length = l.length - j := by simp [brow]
      -- ways = best[length]
      refine q_asg (v := .ref ab) (ev_ixL (ev_var rfl) (ev_is (ev_var rfl) (w := .int ((j + 1 : Nat) : Int)) (congrArg V.int (by omega))) (ex_l e1 hB) (atI_nat hv)) fun H2 e2 => ?_
      have e12 := e1.trans e2
      have hx2 : H2 x = some (.lst tv) := e2 _ _ hx1
      -- texts.append([..])
      refine ⟨_, rfl, Or.inl ⟨rfl, _, sq_of hx2⟩, ?_⟩
      refine g_lcE (a := ab) (xs := us) (P := fun D i v H' => ∃ p, v = .ref p ∧ p ≠ x ∧ p ≠ D ∧ H' p = some (.lst (nv (bt wt l i (j + 1))))) (ea_cons (ev_var rfl) ea_nil) (ex_l e12 hus) (by omega) (fun _ _ => rfl) (fun D i v H3 H4 acc hD bu ⟨p, hp, h1, h2, h3⟩ => ⟨p, hp, h1, h2, bu _ _ h2 h3⟩) (fun D i y hD hy H3 acc e3 hDl Q3 q3 => ?_) (fun D H3 acc hD e3 hDl hp => ?_)
      · have hil : i < l.length - j := by
          have := (List.getElem?_eq_some_iff.mp hy).1
          omega
        obtain ⟨yw, hyw, hwv⟩ := paired_back PU hy
        rw [brow_get hil] at hyw
        cases hyw
        have hii : i + (j + 1) ≤ l.length := by omega
        have e13 := e12.trans e3
        have hDx : D ≠ x := fun z => by
          rw [z, hx2] at hD
          cases hD
        refine x_call (ea_cons (ev_var rfl) (ea_cons (ev_var rfl) (ea_cons (ev_var rfl) (ea_cons (ev_var rfl) (ea_cons (ev_is (ev_var rfl) (w := .int ((j + 1 : Nat) : Int)) (congrArg V.int (by omega))) ea_nil))))) fun H4 e4 => ⟨a, x, y, l, bw wt l i (j + 1), bt wt l, i, j + 1, rfl, ex_l (e13.trans e4) hS, hwv.ex (e13.trans e4), by omega, hii, h40, bw_ok (by omega) hii, fun jj m m1 m2 m3 => ⟨?_, ?_⟩, fun p H5 hp5 e5 h5 => ?_⟩
        · obtain ⟨ts, ht1, ht2⟩ := trows_get (w := wt) (l := l) (k := j) (m := m) (i := i + jj) m1 (by omega) (by omega)
          obtain ⟨v2, hv2, a2, us2, rfl, _, hus2, P2⟩ := paired_get PT ht1
          obtain ⟨v9, hv9, p9, rfl, _, hp9⟩ := paired_get P2 ht2
          have e24 := (e2.trans e3).trans e4
          exact ⟨tv, a2, us2, p9, sq_of (e24 _ _ hx1), hv2, sq_of (e24 _ _ hus2), hv9, e24 _ _ hp9⟩
        · have := bt_len (w := wt) (l := l) h40 (n := m) m1 (i := i + jj) (by omega)
          omega
        · rw [← bt_txOf (by omega) hii] at h5
          refine q3 (.ref p) H5 (e4.trans e5) ⟨p, rfl, ?_, ?_, h5⟩
          · intro z
            rw [z, e4 _ _ (e3 _ _ hx2)] at hp5
            cases hp5
          · intro z
            rw [z, e4 _ _ hDl] at hp5
            cases hp5
      · have hDx : D ≠ x := fun z => by
          rw [z, hx2] at hD
          cases hD
        have hx3 : H3 x = some (.lst tv) := e3 _ _ hx2
        refine ⟨x, tv, .ref D, rfl, rfl, hx3, sz_lt (by omega), ?_⟩
        have bu : ButB bad H1 (upd H3 x (.lst (tv ++ [.ref D]))) := fun z o hz h => by
          rw [upd_ne hz]
          exact e3 _ _ (e2 _ _ h)
        refine ⟨_, _, _, _, tv ++ [.ref D], rfl, Ex.mut (e12.trans e3) hx0, upd_same, ?_⟩
        rw [trows_succ]
        refine paired_append (Paired.mapP PT fun _ _ h => TrB.but bu h) (.cons ⟨D, acc, rfl, hDx, ?_, ?_⟩ .nil)
        · rw [upd_ne hDx]
          exact hDl
        · rw [lU, lbr] at hp
          refine paired_map (g := fun i => bt wt l i (j + 1)) (Paired.mapP hp fun i v ⟨p, hpv, h1, h2, h3⟩ => ⟨p, hpv, h1, ?_⟩)
          rw [upd_ne h1]
          exact h3
    · rintro σ' H1 ⟨v3, v4, v5, v6, tv, rfl, e1, hx1, PT⟩
      rw [show (((l.length + 1 : Nat) : Int) - 1).toNat = l.length by omega] at PT
      obtain ⟨ts, ht1, ht2⟩ := trows_get (w := wt) (l := l) (k := l.length) (m := l.length) (i := 0) hpos (Nat.le_refl _) (by omega)
      obtain ⟨v2, hv2, a2, us2, rfl, _, hus2, P2⟩ := paired_get PT ht1
      obtain ⟨v9, hv9, p9, rfl, _, hp9⟩ := paired_get P2 ht2
      refine s_ret (ev_ixL (ev_ixL (ev_var rfl) (ev_is (ev_len (ev_var rfl) (ex_l e1 hS)) (w := .int (l.length : Int)) (by rw [List.length_map])) (sq_of hx1) (atI_nat hv2)) ev_c (sq_of hus2) (atI_nat (j := 0) hv9)) fun H2 e2 => ?_
      exact k p9 H2 (e1.trans e2) (e2 _ _ hp9)
end
end Kt

/-! # Tables told by others -/
namespace Kt
open PySem PySem.Spec PyProof.Rows L2 Evl
open Vbktaf (Weights Way hasPeriod isMirror allAlike wayRow look Table dec tableOf)
/-- where the stretches of the k-th length begin in a flat table of n stitches -/
def off (n : Nat) : Nat → Nat
  | 0 => 0
  | k + 1 => off n k + (n - k)
theorem off_succ (n : Nat) : ∀ k, off (n + 1) (k + 1) = (n + 1) + off n k
  | 0 => by simp [off]
  | k + 1 => by
    have := off_succ n k
    show off (n + 1) (k + 1) + (n + 1 - (k + 1)) = _
    rw [this]
    show n + 1 + off n k + (n + 1 - (k + 1)) = n + 1 + (off n k + (n - k))
    omega
theorem tableOf_eq : ∀ (n : Nat) (l : List Nat), tableOf n l = (List.range n).map fun k => (l.drop (off n k)).take (n - k)
  | 0, l => rfl
  | n + 1, l => by
    show l.take (n + 1) :: tableOf n (l.drop (n + 1)) = _
    rw [tableOf_eq n, List.range_succ_eq_map, List.map_cons, List.map_map]
    congr 1
    apply List.map_congr_left
    intro k _
    show ((l.drop (n + 1)).drop (off n k)).take (n - k) = (l.drop (off (n + 1) (k + 1))).take (n + 1 - (k + 1))
    rw [off_succ, List.drop_drop, Nat.add_sub_add_right]
theorem off_sum : ∀ {n k : Nat}, k ≤ n → 2 * off n k + (n - k) * (n - k + 1) = n * (n + 1)
  | n, 0, _ => by simp [off]
  | n, k + 1, h => by
    have ih := off_sum (n := n) (k := k) (by omega)
    obtain ⟨m, hm⟩ : ∃ m, n - k = m + 1 := ⟨n - k - 1, by omega⟩
    have hm2 : n - (k + 1) = m := by omega
    show 2 * (off n k + (n - k)) + (n - (k + 1)) * (n - (k + 1) + 1) = n * (n + 1)
    rw [hm, hm2]
    rw [hm] at ih
    rw [← ih]
    have e1 : (m + 1) * (m + 1 + 1) = m * (m + 1) + 2 * (m + 1) := by
      rw [Nat.add_mul, Nat.mul_add m (m + 1) 1]
      omega
    rw [e1]
    omega
theorem off_le {n k : Nat} (h : k < n) : off n k + (n - k) ≤ n * (n + 1) / 2 := by
  have := off_sum (n := n) (k := k + 1) (by omega)
  have e : off n (k + 1) = off n k + (n - k) := rfl
  rw [e] at this
  omega
/-- whether a stretch's number is no more than the cost of any of its ways -/
def goodAt (w : Weights) (l : List Nat) (t : Table) (k i : Nat) : Bool := (Vbktaf.ways w (Vbktaf.part l i (k + 1)) fun a m => look t (i + a) m).all fun x => decide (look t i (k + 1) ≤ x.2)
theorem proves_eq {w : Weights} {l : List Nat} {t : Table} (h1 : t.length = l.length) (h2 : ∀ k, k < l.length → (t.getD k []).length = l.length - k) : Vbktaf.proves w l t = (List.range l.length).all fun k => (List.range (l.length - k)).all fun i => goodAt w l t k i := by
  unfold Vbktaf.proves goodAt
  rw [h1]
  simp only [beq_self_eq_true, Bool.true_and]
  rw [Bool.eq_iff_iff]
  simp only [List.all_eq_true, List.mem_range, Bool.and_eq_true, beq_iff_eq]
  constructor
  · intro h k hk
    exact (h k hk).2
  · intro h k hk
    exact ⟨h2 k hk, h k hk⟩
section
variable {K : PySem.W.Frag} {σ : L2.St} {H H' : Hp} {ta : TA} {D : Ends} {tu : TS}
theorem s_forE {a : Addr} {xs : List V} {j1 j2 : Nat} (h : EvA ta σ H [.ref a]) (hx : SqL K H a xs) (Pv : Nat → L2.St → Hp → Prop) (h0 : ∀ H1, Ex H H1 → Pv 0 σ H1) (hl : ∀ i σ' H', i ≤ xs.length → Pv i σ' H' → SqL K H' a xs)
    (hs : ∀ (i : Nat) x σ' H' H2, xs[i]? = some x → Pv i σ' H' → Ex H' H2 → tu { D with nx := Pv (i + 1), ct := Pv (i + 1), bk := D.nx } ((σ'.set j1 (some (.int (i : Nat)))).set j2 (some x)) H2) (hd : ∀ σ' H', Pv xs.length σ' H' → D.nx σ' H') :
    tFor (iEnum K ta) (gTup K 2 (gCons (gName j1) (gCons (gName j2) gNil))) tu D σ H := h H (Ex.refl H) _ fun H1 e1 => ⟨a, xs, rfl, ex_l e1 hx, for_it (walk_enum (K := K) (a := a) (xs := xs)) Pv (h0 H1 e1) hl (fun i x σ' H2 H3 hi p y => by
    obtain ⟨T, u, z, rfl, hT, rfl, hu, hzz⟩ := y
    cases hu
    exact ⟨T, [.int (i : Nat), z], rfl, st_of upd_same, rfl, _, _, rfl, _, _, rfl, rfl, hs i z σ' H2 _ hzz p (Ex.new hT)⟩) hd⟩
end
section
variable {P : Program} {w : World} {K : PySem.W.Frag} {mg : Str → Option Value} {base : Heap}
/-- table_of -/
def sp_table_of (K : PySem.W.Frag) : Sp := fun vs H Q _ => ∃ (a : Addr) (l : List Nat) (n : Nat), vs = [.ref a, .int (n : Int)] ∧ SqL K H a (nv l) ∧ n ≤ 1000 ∧ l.length = n * (n + 1) / 2 ∧ ∀ p H2, Ex H H2 → TabT H2 p ([] :: tableOf n l) → Q (.ref p) H2
theorem sc_table_of : FnScope ["numbers", "length", "costs", "place", "size", "count"] ["numbers", "length"] (C8.fnScope s_table_of) := C8.fnScope_by (by decide +kernel)
theorem cal_table_of (D : DF K mg "table_of" s_table_of) (T : Tx K mg) : C8.Cal P w K mg base 1 "table_of" (sp_table_of K) [] := by
  refine cal_by D sc_table_of (fun _ _ _ _ _ _ us hl => match us, hl with | [_, _], _ => rfl) (fun vs H Q E h => ?_) (fun f cdv A outer s H vs Q E hr h => ?_)
  · obtain ⟨a, l, n, rfl, _⟩ := h
    rfl
  · obtain ⟨a, l, n, rfl, hS, h1000, hlen, k⟩ := h
    refine ⟨_, (pss_cons (ps_set (i := 2) sc_table_of.nd rfl (Or.inl rfl) (pe_lst (pa_cons (pe_lst pa_nil) pa_nil))) (pss_cons (ps_set (i := 3) sc_table_of.nd rfl (Or.inl rfl) pe_int) (pss_cons (ps_for PassesOwn.never rfl (pi_range2 rfl T.b_range (pa_cons pe_int (pa_cons (pe_op op_add (pv 1) pe_int) pa_nil))) (pg_name (i := 4) sc_table_of.nd rfl (Or.inl rfl)) (pss_cons (ps_set (i := 5) sc_table_of.nd rfl (Or.inl rfl) (pe_op op_add (pe_op op_sub (pv 1) (pv 4)) pe_int)) (pss_cons (ps_expr (pe_bm PySem.F.plainAttrs_list PySem.F.slot_list_append PySem.F.type_list_append mt_append (pv 2) (pa_cons (pe_slice sl_list (pv 0) (po_some (pv 3)) (po_some (pe_op op_add (pv 3) (pv 5)))) pa_nil))) (pss_one (ps_aug (i := 3) sc_table_of.nd rfl (Or.inl rfl) (pv 5) ip_add))))) (pss_one (ps_ret (pv 2)))))), ?_⟩
    refine q_asgX ⟨sz_of (by simp), fun q1 hq1 => ⟨sz_of (by simp), fun c hc => ?_⟩⟩
    obtain ⟨nc1, hc0⟩ := fresh_upd hc
    have e0 : Ex H (upd (upd H q1 (.lst [])) c (.lst [.ref q1])) := (Ex.new hq1).trans (Ex.new hc)
    have f1 : upd (upd H q1 (.lst [])) c (.lst [.ref q1]) c = some (.lst [.ref q1]) := upd_same
    have f2 : upd (upd H q1 (.lst [])) c (.lst [.ref q1]) q1 = some (.lst []) := by rw [upd_ne (Ne.symm nc1), upd_same]
    generalize upd (upd H q1 (.lst [])) c (.lst [.ref q1]) = H0 at e0 f1 f2 ⊢
    let bad : Addr → Prop := fun z => z = c
    refine q_asg (v := .int ((off n 0 : Nat) : Int)) ev_c fun H1 e1 => ?_
    refine q_forR2 (lo := 1) (n := ((n + 1 : Nat) : Int)) (ea_cons ev_c (ea_cons (ev_is (ev_add (ev_var rfl) ev_c) rfl) ea_nil)) ⟨by omega, by omega, by omega, by omega⟩
      (fun k σ' H' => ∃ (v4 v5 : Option V) (cv : List V), σ' = [some (.ref a), some (.int (n : Int)), some (.ref c), some (.int ((off n k : Nat) : Int)), v4, v5] ∧ Ex H H' ∧ H' c = some (.lst cv) ∧ Paired (RowT bad H') ([] :: (List.range k).map fun k => (l.drop (off n k)).take (n - k)) cv)
      (fun H2 e2 => ⟨none, none, _, rfl, (e0.trans e1).trans e2, e2 _ _ (e1 _ _ f1), .cons ⟨q1, rfl, Ne.symm nc1, e2 _ _ (e1 _ _ f2)⟩ .nil⟩) ?_ ?_
    · rintro j σ' H2 hj ⟨v4, v5, cv, rfl, e2, hc2, PC⟩
      have hjn : j < n := by omega
      have lC := paired_length PC
      have ho := off_le hjn
      refine q_asg (v := .int ((n - j : Nat) : Int)) (ev_is (ev_add (ev_sub (ev_var rfl) (ev_var rfl)) ev_c) (congrArg V.int (by omega))) fun H3 e3 => ?_
      have hc3 : H3 c = some (.lst cv) := e3 _ _ hc2
      refine q_appL hc3 (ev_var rfl) (el_sl (ev_var rfl) (eo_some (ev_var rfl)) (eo_some (ev_is (ev_add (ev_var rfl) (ev_var rfl)) (w := .int ((off n j + (n - j) : Nat) : Int)) (congrArg V.int (by omega)))) (ex_l (e2.trans e3) hS)) (by simp at lC; omega) fun p H4 hp e4 h4 => ?_
      rw [cut_both (by omega) (by rw [List.length_map, hlen]; omega), nv_drop, nv_take, show off n j + (n - j) - off n j = n - j by omega] at h4
      have hpc : p ≠ c := fun z => by
        rw [z, hc3] at hp
        cases hp
      refine s_aug (a := ((off n j : Nat) : Int)) (b := ((n - j : Nat) : Int)) rfl (ev_var rfl) fun H5 e5 => ?_
      have bu : ButB bad H2 (upd H4 c (.lst (cv ++ [.ref p]))) := fun z o hz h => by
        rw [upd_ne hz]
        exact e4 _ _ (e3 _ _ h)
      have hc5 : H5 c = some (.lst (cv ++ [.ref p])) := e5 _ _ upd_same
      refine ⟨some (.int (1 + (j : Int))), some (.int ((n - j : Nat) : Int)), cv ++ [.ref p], rfl, (Ex.mut ((e2.trans e3).trans e4) hc0).trans e5, hc5, ?_⟩
      · rw [List.range_succ, List.map_append, ← List.cons_append]
        refine paired_append (Paired.mapP PC fun _ _ h => (RowT.but bu h).ex e5) (.cons ⟨p, rfl, hpc, e5 _ _ ?_⟩ .nil)
        rw [upd_ne hpc]
        exact h4
    · rintro σ' H2 ⟨v4, v5, cv, rfl, e2, hc2, PC⟩
      rw [show (((n + 1 : Nat) : Int) - 1).toNat = n by omega, ← tableOf_eq] at PC
      exact s_ret (ev_var rfl) fun H3 e3 => k c H3 (e2.trans e3) ⟨cv, e3 _ _ hc2, Paired.mapP PC fun _ _ h => (h.ex e3).no⟩
/-- is_right_table -/
def sp_is_right_table (K : PySem.W.Frag) (CW : Addr) : Sp := fun vs H Q _ => ∃ (a o c : Addr) (l : List Nat) (w : Weights) (t : Table), vs = [.ref a, .ref o, .ref c] ∧ SqL K H a (nv l) ∧ l.length ≤ 1000 ∧ WtAt CW H o w ∧ TabAt K H c ([] :: t) ∧ t.length = l.length ∧ (∀ k, k < l.length → (t.getD k []).length = l.length - k) ∧
  RetV (.bl (Vbktaf.proves w l t)) H Q
theorem sc_is_right_table : FnScope ["row", "weights", "costs", "length", "start", "cost"] ["row", "weights", "costs"] (C8.fnScope s_is_right_table) := C8.fnScope_by (by decide +kernel)
theorem cal_is_right_table {CW : Addr} (D : DF K mg "is_right_table" s_is_right_table) (T : Tx K mg) (c_stretch_ways : C8.Cal P w K mg base 3 "stretch_ways" (sp_stretch_ways K CW) []) (c_first_least : C8.Cal P w K mg base 3 "first_least" (sp_first_least K) []) (c_way_cost : C8.Cal P w K mg base 1 "way_cost" (sp_way_cost K) []) :
    C8.Cal P w K mg base 4 "is_right_table" (sp_is_right_table K CW) [] := by
  refine cal_by D sc_is_right_table (fun _ _ _ _ _ _ us hl => match us, hl with | [_, _, _], _ => rfl) (fun vs H Q E h => ?_) (fun f cdv A outer s H vs Q E hr h => ?_)
  · obtain ⟨a, o, c, l, w, t, rfl, _⟩ := h
    rfl
  · obtain ⟨a, o, c, l, wt, t, rfl, hS, h1000, hW, hT, ht1, ht2, k⟩ := h
    refine ⟨_, (pss_cons (ps_for PassesOwn.never rfl (pi_range2 rfl T.b_range (pa_cons pe_int (pa_cons (pe_op op_add (pe_callB call_len_seq (by rfl) T.b_len PySem.boot_len (pa_cons (pv 0) pa_nil)) pe_int) pa_nil))) (pg_name (i := 3) sc_is_right_table.nd rfl (Or.inl rfl)) (pss_one (ps_for PassesOwn.never rfl (pi_enum rfl T.b_enumerate (pa_cons (pe_ix ix_list (pv 2) (pv 3) (fun _ _ => rfl)) pa_nil)) (pg_tup rfl (pgs_cons (pg_name (i := 4) sc_is_right_table.nd rfl (Or.inl rfl)) (pgs_cons (pg_name (i := 5) sc_is_right_table.nd rfl (Or.inl rfl)) pgs_nil))) (pss_one (ps_if (pt_cmpR op_gt (pv 5) (C8.pe_c c_way_cost hr (by decide) rfl (pa_cons (C8.pe_c c_first_least hr (by decide) rfl (pa_cons (C8.pe_c c_stretch_ways hr (by decide) rfl (pa_cons (pv 0) (pa_cons (pv 1) (pa_cons (pv 2) (pa_cons (pv 4) (pa_cons (pv 3) pa_nil)))))) pa_nil)) pa_nil)) (nomark _)) (pss_one (ps_ret pe_bl)) pss_nil))))) (pss_one (ps_ret pe_bl))), ?_⟩
    rw [proves_eq ht1 ht2] at k
    have tget : ∀ m, m < l.length → t[m]? = some (t.getD m []) := fun m hm => by
      rw [List.getD_eq_getElem?_getD, List.getElem?_eq_getElem (show m < t.length by omega)]
      rfl
    have tok : ∀ i n, i + n ≤ l.length → TabOk t i n := fun i n hin aa m m1 m2 m3 => by
      refine ⟨t.getD (m - 1) [], ?_, ?_⟩
      · obtain ⟨m, rfl⟩ : ∃ m', m = m' + 1 := ⟨m - 1, by omega⟩
        simpa using tget m (by omega)
      · have hl := ht2 (m - 1) (by omega)
        unfold look
        rw [List.getD_eq_getElem?_getD (l := t.getD (m - 1) []), List.getElem?_eq_getElem (show i + aa < (t.getD (m - 1) []).length by omega)]
        rfl
    refine q_forR2 (lo := 1) (n := ((l.length + 1 : Nat) : Int)) (ea_cons ev_c (ea_cons (ev_is (ev_add (ev_len (ev_var rfl) hS) ev_c) (by rw [List.length_map]; rfl)) ea_nil)) ⟨by omega, by omega, by omega, by omega⟩
      (fun j σ' H' => ∃ v3 v4 v5 : Option V, σ' = [some (.ref a), some (.ref o), some (.ref c), v3, v4, v5] ∧ Ex H H' ∧ ∀ k, k < j → ∀ i, i < l.length - k → goodAt wt l t k i = true)
      (fun H1 e1 => ⟨none, none, none, rfl, e1, fun k hk => by omega⟩) ?_ ?_
    · rintro j σ' H1 hj ⟨v3, v4, v5, rfl, e1, hg⟩
      have hjl : j < l.length := by omega
      obtain ⟨cv, hcv, PT⟩ := hT
      obtain ⟨v, hv, ar, rfl, har⟩ := paired_get PT (i := j + 1) (x := t.getD j []) (by simpa using tget j hjl)
      have hrl := ht2 j hjl
      have hlen : (nv (t.getD j [])).length = l.length - j := by rw [List.length_map, hrl]
      refine s_forE (K := K) (a := ar) (xs := nv (t.getD j [])) (ea_cons (ev_ixL (ev_var rfl) (ev_is (ev_var rfl) (w := .int ((j + 1 : Nat) : Int)) (congrArg V.int (by omega))) (ex_l e1 hcv) (atI_nat hv)) ea_nil) (ex_l e1 har)
        (fun i σ' H' => ∃ v4 v5 : Option V, σ' = [some (.ref a), some (.ref o), some (.ref c), some (.int (1 + (j : Int))), v4, v5] ∧ Ex H H' ∧ ∀ i', i' < i → goodAt wt l t j i' = true) (fun H2 e2 => ⟨_, _, rfl, e1.trans e2, fun i' hi' => by omega⟩) (fun i σ' H' _ ⟨_, _, _, e, _⟩ => ex_l e har) ?_ ?_
      · rintro i x σ' H2 H3 hx ⟨v4, v5, rfl, e2, hgi⟩ e3
        have hil : i < l.length - j := by
          have := (List.getElem?_eq_some_iff.mp hx).1
          omega
        have e23 := e2.trans e3
        have hii : i + (j + 1) ≤ l.length := by omega
        have hxv : x = .int ((look t i (j + 1) : Nat) : Int) := by
          rw [List.getElem?_map, List.getElem?_eq_getElem (show i < (t.getD j []).length by omega)] at hx
          have := (Option.some.inj hx).symm
          rw [this]
          unfold look
          rw [Nat.add_sub_cancel, List.getD_eq_getElem?_getD (l := t.getD j []), List.getElem?_eq_getElem (show i < (t.getD j []).length by omega)]
          rfl
        obtain ⟨y, hy⟩ := firstBest_some (ways_ne_nil (w := wt) (f := fun aa m => look t (i + aa) m) (part_ne (show 1 ≤ j + 1 by omega) hii))
        have hwc : Ev (tCall (sp_way_cost K) [] E0 (tCons (tCall (sp_first_least K) [] E0 (tCons (tCall (sp_stretch_ways K CW) [] E0 (tCons (tVar 0) (tCons (tVar 1) (tCons (tVar 2) (tCons (tVar 4) (tCons (tVar 3) tNil)))))) tNil)) tNil)) [some (.ref a), some (.ref o), some (.ref c), some (.int (1 + (j : Int))), some (.int (i : Nat)), some x] H3 (.int ((y.2 : Nat) : Int)) := fun H4 e4 Q4 q4 => by
          have e24 := e23.trans e4
          show tCall (sp_stretch_ways K CW) [] E0 _ _ _ (fun z H' => sp_first_least K ([z] ++ []) H' (fun z H' => sp_way_cost K ([z] ++ []) H' Q4 E0) E0)
          refine x_call (ea_cons (ev_var rfl) (ea_cons (ev_var rfl) (ea_cons (ev_var rfl) (ea_cons (ev_var rfl) (ea_cons (ev_is (ev_var rfl) (w := .int ((j + 1 : Nat) : Int)) (congrArg V.int (by omega))) ea_nil))))) fun H5 e5 => ⟨a, o, c, l, wt, t, i, j + 1, rfl, ex_l (e24.trans e5) hS, h1000, by omega, hii, hW.ex (e24.trans e5), TabAt.ex ⟨cv, hcv, PT⟩ (e24.trans e5), tok i (j + 1) hii, fun p H6 vs hp e6 h6 P6 => ?_⟩
          refine ⟨p, _, vs, rfl, sq_of h6, P6, ways_ne_nil (part_ne (by omega) hii), fun z y' H7 hy' e7 hz _ => ?_⟩
          rw [hy] at hy'
          cases hy'
          exact ⟨_, z, rfl, hz, fun H8 e8 => q4 H8 (((e5.trans e6).trans e7).trans e8)⟩
        refine s_when (b := decide (y.2 < look t i (j + 1))) (et_test (ev_is (ev_op (ev_is (ev_var rfl) hxv) hwc rv_I0) (congrArg V.bl (decide_eq_decide.mpr (by omega))))) (fun hb H4 e4 => ?_) (fun hb H4 e4 => ?_)
        · have hlt := of_decide_eq_true hb
          refine s_ret ev_c fun H5 e5 => ?_
          have hbad : ((List.range l.length).all fun k => (List.range (l.length - k)).all fun i => goodAt wt l t k i) = false := by
            rw [Bool.eq_false_iff]
            intro hall
            rw [List.all_eq_true] at hall
            have h1 := hall j (List.mem_range.mpr hjl)
            rw [List.all_eq_true] at h1
            have h2 := h1 i (List.mem_range.mpr hil)
            unfold goodAt at h2
            rw [List.all_eq_true] at h2
            have h3 := of_decide_eq_true (h2 y (firstBest_mem hy))
            omega
          rw [hbad] at k
          exact k H5 ((e23.trans e4).trans e5)
        · have hge := of_decide_eq_false hb
          refine ⟨_, _, rfl, e23.trans e4, fun i' hi' => ?_⟩
          by_cases e : i' = i
          · subst e
            unfold goodAt
            rw [List.all_eq_true]
            intro z hz
            have := firstBest_least hy z hz
            exact decide_eq_true (by omega)
          · exact hgi i' (by omega)
      · rintro σ' H2 ⟨v4, v5, rfl, e2, hgi⟩
        refine ⟨_, _, _, rfl, e2, fun k hk i hi => ?_⟩
        by_cases e : k = j
        · subst e
          exact hgi i (by rw [hlen]; exact hi)
        · exact hg k (by omega) i hi
    · rintro σ' H1 ⟨v3, v4, v5, rfl, e1, hg⟩
      rw [show (((l.length + 1 : Nat) : Int) - 1).toNat = l.length by omega] at hg
      have hall : ((List.range l.length).all fun k => (List.range (l.length - k)).all fun i => goodAt wt l t k i) = true := by
        rw [List.all_eq_true]
        intro k hk
        rw [List.all_eq_true]
        intro i hi
        exact hg k (List.mem_range.mp hk) i (List.mem_range.mp hi)
      rw [hall] at k
      exact s_ret ev_c fun H2 e2 => k H2 (e1.trans e2)
end
end Kt

/-! # A text that is being read: the objects, how they lie in the heap -/
namespace Kt
open PySem PySem.Spec PyProof.Rows L2 Evl
theorem put_here {f : Str} {v x : V} {r : List (Str × V)} : putF f v ((f, x) :: r) = (f, v) :: r := if_pos rfl
theorem put_past {f g : Str} {v x : V} {r : List (Str × V)} (h : ¬ g = f) : putF f v ((g, x) :: r) = (g, x) :: putF f v r := if_neg h
def lvF (c : Int) (n : Nat) (p : Addr) : List (Str × V) := [("closing", .int c), ("length", .int (n : Int)), ("stitches", .ref p)]
theorem lvF_closing (c : Int) (n : Nat) (p : Addr) : (lvF c n p).lookup ("closing" : Str) = some (.int c) := lk_here
theorem lvF_length (c : Int) (n : Nat) (p : Addr) : (lvF c n p).lookup ("length" : Str) = some (.int (n : Int)) := ((lk_past (by decide +kernel)).trans lk_here)
theorem lvF_stitches (c : Int) (n : Nat) (p : Addr) : (lvF c n p).lookup ("stitches" : Str) = some (.ref p) := ((lk_past (by decide +kernel)).trans ((lk_past (by decide +kernel)).trans lk_here))
theorem lvF_put_length (c : Int) (n : Nat) (p : Addr) (z : Nat) : putF "length" (.int (z : Int)) (lvF c n p) = lvF c z p := ((put_past (by decide +kernel)).trans (congrArg _ put_here))
def rdF (tx : Addr) (pl : Nat) (fk : Nat) (fp : Nat) (lv : Addr) (de : Nat) (le : Nat) (nu : Nat) (ro : Nat) (ot : Nat) : List (Str × V) := [("text", .ref tx), ("place", .int (pl : Int)), ("fault_kind", .int (fk : Int)), ("fault_place", .int (fp : Int)), ("levels", .ref lv), ("depth", .int (de : Int)), ("letters", .int (le : Int)), ("numbers", .int (nu : Int)), ("rounds", .int (ro : Int)), ("others", .int (ot : Int))]
theorem rdF_text (tx : Addr) (pl : Nat) (fk : Nat) (fp : Nat) (lv : Addr) (de : Nat) (le : Nat) (nu : Nat) (ro : Nat) (ot : Nat) : (rdF tx pl fk fp lv de le nu ro ot).lookup ("text" : Str) = some (.ref tx) := lk_here
theorem rdF_place (tx : Addr) (pl : Nat) (fk : Nat) (fp : Nat) (lv : Addr) (de : Nat) (le : Nat) (nu : Nat) (ro : Nat) (ot : Nat) : (rdF tx pl fk fp lv de le nu ro ot).lookup ("place" : Str) = some (.int (pl : Int)) := ((lk_past (by decide +kernel)).trans lk_here)
theorem rdF_fault_kind (tx : Addr) (pl : Nat) (fk : Nat) (fp : Nat) (lv : Addr) (de : Nat) (le : Nat) (nu : Nat) (ro : Nat) (ot : Nat) : (rdF tx pl fk fp lv de le nu ro ot).lookup ("fault_kind" : Str) = some (.int (fk : Int)) := ((lk_past (by decide +kernel)).trans ((lk_past (by decide +kernel)).trans lk_here))
theorem rdF_fault_place (tx : Addr) (pl : Nat) (fk : Nat) (fp : Nat) (lv : Addr) (de : Nat) (le : Nat) (nu : Nat) (ro : Nat) (ot : Nat) : (rdF tx pl fk fp lv de le nu ro ot).lookup ("fault_place" : Str) = some (.int (fp : Int)) := ((lk_past (by decide +kernel)).trans ((lk_past (by decide +kernel)).trans ((lk_past (by decide +kernel)).trans lk_here)))
theorem rdF_levels (tx : Addr) (pl : Nat) (fk : Nat) (fp : Nat) (lv : Addr) (de : Nat) (le : Nat) (nu : Nat) (ro : Nat) (ot : Nat) : (rdF tx pl fk fp lv de le nu ro ot).lookup ("levels" : Str) = some (.ref lv) := ((lk_past (by decide +kernel)).trans ((lk_past (by decide +kernel)).trans ((lk_past (by decide +kernel)).trans ((lk_past (by decide +kernel)).trans lk_here))))
theorem rdF_depth (tx : Addr) (pl : Nat) (fk : Nat) (fp : Nat) (lv : Addr) (de : Nat) (le : Nat) (nu : Nat) (ro : Nat) (ot : Nat) : (rdF tx pl fk fp lv de le nu ro ot).lookup ("depth" : Str) = some (.int (de : Int)) := ((lk_past (by decide +kernel)).trans ((lk_past (by decide +kernel)).trans ((lk_past (by decide +kernel)).trans ((lk_past (by decide +kernel)).trans ((lk_past (by decide +kernel)).trans lk_here)))))
theorem rdF_letters (tx : Addr) (pl : Nat) (fk : Nat) (fp : Nat) (lv : Addr) (de : Nat) (le : Nat) (nu : Nat) (ro : Nat) (ot : Nat) : (rdF tx pl fk fp lv de le nu ro ot).lookup ("letters" : Str) = some (.int (le : Int)) := ((lk_past (by decide +kernel)).trans ((lk_past (by decide +kernel)).trans ((lk_past (by decide +kernel)).trans ((lk_past (by decide +kernel)).trans ((lk_past (by decide +kernel)).trans ((lk_past (by decide +kernel)).trans lk_here))))))
theorem rdF_numbers (tx : Addr) (pl : Nat) (fk : Nat) (fp : Nat) (lv : Addr) (de : Nat) (le : Nat) (nu : Nat) (ro : Nat) (ot : Nat) : (rdF tx pl fk fp lv de le nu ro ot).lookup ("numbers" : Str) = some (.int (nu : Int)) := ((lk_past (by decide +kernel)).trans ((lk_past (by decide +kernel)).trans ((lk_past (by decide +kernel)).trans ((lk_past (by decide +kernel)).trans ((lk_past (by decide +kernel)).trans ((lk_past (by decide +kernel)).trans ((lk_past (by decide +kernel)).trans lk_here)))))))
theorem rdF_rounds (tx : Addr) (pl : Nat) (fk : Nat) (fp : Nat) (lv : Addr) (de : Nat) (le : Nat) (nu : Nat) (ro : Nat) (ot : Nat) : (rdF tx pl fk fp lv de le nu ro ot).lookup ("rounds" : Str) = some (.int (ro : Int)) := ((lk_past (by decide +kernel)).trans ((lk_past (by decide +kernel)).trans ((lk_past (by decide +kernel)).trans ((lk_past (by decide +kernel)).trans ((lk_past (by decide +kernel)).trans ((lk_past (by decide +kernel)).trans ((lk_past (by decide +kernel)).trans ((lk_past (by decide +kernel)).trans lk_here))))))))
theorem rdF_others (tx : Addr) (pl : Nat) (fk : Nat) (fp : Nat) (lv : Addr) (de : Nat) (le : Nat) (nu : Nat) (ro : Nat) (ot : Nat) : (rdF tx pl fk fp lv de le nu ro ot).lookup ("others" : Str) = some (.int (ot : Int)) := ((lk_past (by decide +kernel)).trans ((lk_past (by decide +kernel)).trans ((lk_past (by decide +kernel)).trans ((lk_past (by decide +kernel)).trans ((lk_past (by decide +kernel)).trans ((lk_past (by decide +kernel)).trans ((lk_past (by decide +kernel)).trans ((lk_past (by decide +kernel)).trans ((lk_past (by decide +kernel)).trans lk_here)))))))))
theorem rdF_put_place (tx : Addr) (pl : Nat) (fk : Nat) (fp : Nat) (lv : Addr) (de : Nat) (le : Nat) (nu : Nat) (ro : Nat) (ot : Nat) (z : Nat) : putF "place" (.int (z : Int)) (rdF tx pl fk fp lv de le nu ro ot) = rdF tx z fk fp lv de le nu ro ot := ((put_past (by decide +kernel)).trans (congrArg _ put_here))
theorem rdF_put_fault_kind (tx : Addr) (pl : Nat) (fk : Nat) (fp : Nat) (lv : Addr) (de : Nat) (le : Nat) (nu : Nat) (ro : Nat) (ot : Nat) (z : Nat) : putF "fault_kind" (.int (z : Int)) (rdF tx pl fk fp lv de le nu ro ot) = rdF tx pl z fp lv de le nu ro ot := ((put_past (by decide +kernel)).trans (congrArg _ ((put_past (by decide +kernel)).trans (congrArg _ put_here))))
theorem rdF_put_fault_place (tx : Addr) (pl : Nat) (fk : Nat) (fp : Nat) (lv : Addr) (de : Nat) (le : Nat) (nu : Nat) (ro : Nat) (ot : Nat) (z : Nat) : putF "fault_place" (.int (z : Int)) (rdF tx pl fk fp lv de le nu ro ot) = rdF tx pl fk z lv de le nu ro ot := ((put_past (by decide +kernel)).trans (congrArg _ ((put_past (by decide +kernel)).trans (congrArg _ ((put_past (by decide +kernel)).trans (congrArg _ put_here))))))
theorem rdF_put_depth (tx : Addr) (pl : Nat) (fk : Nat) (fp : Nat) (lv : Addr) (de : Nat) (le : Nat) (nu : Nat) (ro : Nat) (ot : Nat) (z : Nat) : putF "depth" (.int (z : Int)) (rdF tx pl fk fp lv de le nu ro ot) = rdF tx pl fk fp lv z le nu ro ot := ((put_past (by decide +kernel)).trans (congrArg _ ((put_past (by decide +kernel)).trans (congrArg _ ((put_past (by decide +kernel)).trans (congrArg _ ((put_past (by decide +kernel)).trans (congrArg _ ((put_past (by decide +kernel)).trans (congrArg _ put_here))))))))))
theorem rdF_put_letters (tx : Addr) (pl : Nat) (fk : Nat) (fp : Nat) (lv : Addr) (de : Nat) (le : Nat) (nu : Nat) (ro : Nat) (ot : Nat) (z : Nat) : putF "letters" (.int (z : Int)) (rdF tx pl fk fp lv de le nu ro ot) = rdF tx pl fk fp lv de z nu ro ot := ((put_past (by decide +kernel)).trans (congrArg _ ((put_past (by decide +kernel)).trans (congrArg _ ((put_past (by decide +kernel)).trans (congrArg _ ((put_past (by decide +kernel)).trans (congrArg _ ((put_past (by decide +kernel)).trans (congrArg _ ((put_past (by decide +kernel)).trans (congrArg _ put_here))))))))))))
theorem rdF_put_numbers (tx : Addr) (pl : Nat) (fk : Nat) (fp : Nat) (lv : Addr) (de : Nat) (le : Nat) (nu : Nat) (ro : Nat) (ot : Nat) (z : Nat) : putF "numbers" (.int (z : Int)) (rdF tx pl fk fp lv de le nu ro ot) = rdF tx pl fk fp lv de le z ro ot := ((put_past (by decide +kernel)).trans (congrArg _ ((put_past (by decide +kernel)).trans (congrArg _ ((put_past (by decide +kernel)).trans (congrArg _ ((put_past (by decide +kernel)).trans (congrArg _ ((put_past (by decide +kernel)).trans (congrArg _ ((put_past (by decide +kernel)).trans (congrArg _ ((put_past (by decide +kernel)).trans (congrArg _ put_here))))))))))))))
theorem rdF_put_rounds (tx : Addr) (pl : Nat) (fk : Nat) (fp : Nat) (lv : Addr) (de : Nat) (le : Nat) (nu : Nat) (ro : Nat) (ot : Nat) (z : Nat) : putF "rounds" (.int (z : Int)) (rdF tx pl fk fp lv de le nu ro ot) = rdF tx pl fk fp lv de le nu z ot := ((put_past (by decide +kernel)).trans (congrArg _ ((put_past (by decide +kernel)).trans (congrArg _ ((put_past (by decide +kernel)).trans (congrArg _ ((put_past (by decide +kernel)).trans (congrArg _ ((put_past (by decide +kernel)).trans (congrArg _ ((put_past (by decide +kernel)).trans (congrArg _ ((put_past (by decide +kernel)).trans (congrArg _ ((put_past (by decide +kernel)).trans (congrArg _ put_here))))))))))))))))
theorem rdF_put_others (tx : Addr) (pl : Nat) (fk : Nat) (fp : Nat) (lv : Addr) (de : Nat) (le : Nat) (nu : Nat) (ro : Nat) (ot : Nat) (z : Nat) : putF "others" (.int (z : Int)) (rdF tx pl fk fp lv de le nu ro ot) = rdF tx pl fk fp lv de le nu ro z := ((put_past (by decide +kernel)).trans (congrArg _ ((put_past (by decide +kernel)).trans (congrArg _ ((put_past (by decide +kernel)).trans (congrArg _ ((put_past (by decide +kernel)).trans (congrArg _ ((put_past (by decide +kernel)).trans (congrArg _ ((put_past (by decide +kernel)).trans (congrArg _ ((put_past (by decide +kernel)).trans (congrArg _ ((put_past (by decide +kernel)).trans (congrArg _ ((put_past (by decide +kernel)).trans (congrArg _ put_here))))))))))))))))))
theorem lvF_no_take (c : Int) (n : Nat) (p : Addr) : (lvF c n p).lookup ("take" : Str) = none := ((lk_past (by decide +kernel)).trans ((lk_past (by decide +kernel)).trans ((lk_past (by decide +kernel)).trans rfl)))
theorem rdF_no_is_right (tx : Addr) (pl : Nat) (fk : Nat) (fp : Nat) (lv : Addr) (de : Nat) (le : Nat) (nu : Nat) (ro : Nat) (ot : Nat) : (rdF tx pl fk fp lv de le nu ro ot).lookup ("is_right" : Str) = none := ((lk_past (by decide +kernel)).trans ((lk_past (by decide +kernel)).trans ((lk_past (by decide +kernel)).trans ((lk_past (by decide +kernel)).trans ((lk_past (by decide +kernel)).trans ((lk_past (by decide +kernel)).trans ((lk_past (by decide +kernel)).trans ((lk_past (by decide +kernel)).trans ((lk_past (by decide +kernel)).trans ((lk_past (by decide +kernel)).trans rfl))))))))))
theorem rdF_no_fault (tx : Addr) (pl : Nat) (fk : Nat) (fp : Nat) (lv : Addr) (de : Nat) (le : Nat) (nu : Nat) (ro : Nat) (ot : Nat) : (rdF tx pl fk fp lv de le nu ro ot).lookup ("fault" : Str) = none := ((lk_past (by decide +kernel)).trans ((lk_past (by decide +kernel)).trans ((lk_past (by decide +kernel)).trans ((lk_past (by decide +kernel)).trans ((lk_past (by decide +kernel)).trans ((lk_past (by decide +kernel)).trans ((lk_past (by decide +kernel)).trans ((lk_past (by decide +kernel)).trans ((lk_past (by decide +kernel)).trans ((lk_past (by decide +kernel)).trans rfl))))))))))
theorem rdF_no_told (tx : Addr) (pl : Nat) (fk : Nat) (fp : Nat) (lv : Addr) (de : Nat) (le : Nat) (nu : Nat) (ro : Nat) (ot : Nat) : (rdF tx pl fk fp lv de le nu ro ot).lookup ("told" : Str) = none := ((lk_past (by decide +kernel)).trans ((lk_past (by decide +kernel)).trans ((lk_past (by decide +kernel)).trans ((lk_past (by decide +kernel)).trans ((lk_past (by decide +kernel)).trans ((lk_past (by decide +kernel)).trans ((lk_past (by decide +kernel)).trans ((lk_past (by decide +kernel)).trans ((lk_past (by decide +kernel)).trans ((lk_past (by decide +kernel)).trans rfl))))))))))
theorem rdF_no_cost (tx : Addr) (pl : Nat) (fk : Nat) (fp : Nat) (lv : Addr) (de : Nat) (le : Nat) (nu : Nat) (ro : Nat) (ot : Nat) : (rdF tx pl fk fp lv de le nu ro ot).lookup ("cost" : Str) = none := ((lk_past (by decide +kernel)).trans ((lk_past (by decide +kernel)).trans ((lk_past (by decide +kernel)).trans ((lk_past (by decide +kernel)).trans ((lk_past (by decide +kernel)).trans ((lk_past (by decide +kernel)).trans ((lk_past (by decide +kernel)).trans ((lk_past (by decide +kernel)).trans ((lk_past (by decide +kernel)).trans ((lk_past (by decide +kernel)).trans rfl))))))))))
theorem rdF_no_fail (tx : Addr) (pl : Nat) (fk : Nat) (fp : Nat) (lv : Addr) (de : Nat) (le : Nat) (nu : Nat) (ro : Nat) (ot : Nat) : (rdF tx pl fk fp lv de le nu ro ot).lookup ("fail" : Str) = none := ((lk_past (by decide +kernel)).trans ((lk_past (by decide +kernel)).trans ((lk_past (by decide +kernel)).trans ((lk_past (by decide +kernel)).trans ((lk_past (by decide +kernel)).trans ((lk_past (by decide +kernel)).trans ((lk_past (by decide +kernel)).trans ((lk_past (by decide +kernel)).trans ((lk_past (by decide +kernel)).trans ((lk_past (by decide +kernel)).trans rfl))))))))))
theorem rdF_no_take_byte (tx : Addr) (pl : Nat) (fk : Nat) (fp : Nat) (lv : Addr) (de : Nat) (le : Nat) (nu : Nat) (ro : Nat) (ot : Nat) : (rdF tx pl fk fp lv de le nu ro ot).lookup ("take_byte" : Str) = none := ((lk_past (by decide +kernel)).trans ((lk_past (by decide +kernel)).trans ((lk_past (by decide +kernel)).trans ((lk_past (by decide +kernel)).trans ((lk_past (by decide +kernel)).trans ((lk_past (by decide +kernel)).trans ((lk_past (by decide +kernel)).trans ((lk_past (by decide +kernel)).trans ((lk_past (by decide +kernel)).trans ((lk_past (by decide +kernel)).trans rfl))))))))))
theorem rdF_no_take_letter (tx : Addr) (pl : Nat) (fk : Nat) (fp : Nat) (lv : Addr) (de : Nat) (le : Nat) (nu : Nat) (ro : Nat) (ot : Nat) : (rdF tx pl fk fp lv de le nu ro ot).lookup ("take_letter" : Str) = none := ((lk_past (by decide +kernel)).trans ((lk_past (by decide +kernel)).trans ((lk_past (by decide +kernel)).trans ((lk_past (by decide +kernel)).trans ((lk_past (by decide +kernel)).trans ((lk_past (by decide +kernel)).trans ((lk_past (by decide +kernel)).trans ((lk_past (by decide +kernel)).trans ((lk_past (by decide +kernel)).trans ((lk_past (by decide +kernel)).trans rfl))))))))))
theorem rdF_no_take_number (tx : Addr) (pl : Nat) (fk : Nat) (fp : Nat) (lv : Addr) (de : Nat) (le : Nat) (nu : Nat) (ro : Nat) (ot : Nat) : (rdF tx pl fk fp lv de le nu ro ot).lookup ("take_number" : Str) = none := ((lk_past (by decide +kernel)).trans ((lk_past (by decide +kernel)).trans ((lk_past (by decide +kernel)).trans ((lk_past (by decide +kernel)).trans ((lk_past (by decide +kernel)).trans ((lk_past (by decide +kernel)).trans ((lk_past (by decide +kernel)).trans ((lk_past (by decide +kernel)).trans ((lk_past (by decide +kernel)).trans ((lk_past (by decide +kernel)).trans rfl))))))))))
theorem rdF_no_take_opening (tx : Addr) (pl : Nat) (fk : Nat) (fp : Nat) (lv : Addr) (de : Nat) (le : Nat) (nu : Nat) (ro : Nat) (ot : Nat) : (rdF tx pl fk fp lv de le nu ro ot).lookup ("take_opening" : Str) = none := ((lk_past (by decide +kernel)).trans ((lk_past (by decide +kernel)).trans ((lk_past (by decide +kernel)).trans ((lk_past (by decide +kernel)).trans ((lk_past (by decide +kernel)).trans ((lk_past (by decide +kernel)).trans ((lk_past (by decide +kernel)).trans ((lk_past (by decide +kernel)).trans ((lk_past (by decide +kernel)).trans ((lk_past (by decide +kernel)).trans rfl))))))))))
theorem rdF_no_take_closing (tx : Addr) (pl : Nat) (fk : Nat) (fp : Nat) (lv : Addr) (de : Nat) (le : Nat) (nu : Nat) (ro : Nat) (ot : Nat) : (rdF tx pl fk fp lv de le nu ro ot).lookup ("take_closing" : Str) = none := ((lk_past (by decide +kernel)).trans ((lk_past (by decide +kernel)).trans ((lk_past (by decide +kernel)).trans ((lk_past (by decide +kernel)).trans ((lk_past (by decide +kernel)).trans ((lk_past (by decide +kernel)).trans ((lk_past (by decide +kernel)).trans ((lk_past (by decide +kernel)).trans ((lk_past (by decide +kernel)).trans ((lk_past (by decide +kernel)).trans rfl))))))))))
theorem rdF_no_take_repeat (tx : Addr) (pl : Nat) (fk : Nat) (fp : Nat) (lv : Addr) (de : Nat) (le : Nat) (nu : Nat) (ro : Nat) (ot : Nat) : (rdF tx pl fk fp lv de le nu ro ot).lookup ("take_repeat" : Str) = none := ((lk_past (by decide +kernel)).trans ((lk_past (by decide +kernel)).trans ((lk_past (by decide +kernel)).trans ((lk_past (by decide +kernel)).trans ((lk_past (by decide +kernel)).trans ((lk_past (by decide +kernel)).trans ((lk_past (by decide +kernel)).trans ((lk_past (by decide +kernel)).trans ((lk_past (by decide +kernel)).trans ((lk_past (by decide +kernel)).trans rfl))))))))))
theorem rdF_no_take_mirrored (tx : Addr) (pl : Nat) (fk : Nat) (fp : Nat) (lv : Addr) (de : Nat) (le : Nat) (nu : Nat) (ro : Nat) (ot : Nat) : (rdF tx pl fk fp lv de le nu ro ot).lookup ("take_mirrored" : Str) = none := ((lk_past (by decide +kernel)).trans ((lk_past (by decide +kernel)).trans ((lk_past (by decide +kernel)).trans ((lk_past (by decide +kernel)).trans ((lk_past (by decide +kernel)).trans ((lk_past (by decide +kernel)).trans ((lk_past (by decide +kernel)).trans ((lk_past (by decide +kernel)).trans ((lk_past (by decide +kernel)).trans ((lk_past (by decide +kernel)).trans rfl))))))))))
theorem rdF_no_take_end (tx : Addr) (pl : Nat) (fk : Nat) (fp : Nat) (lv : Addr) (de : Nat) (le : Nat) (nu : Nat) (ro : Nat) (ot : Nat) : (rdF tx pl fk fp lv de le nu ro ot).lookup ("take_end" : Str) = none := ((lk_past (by decide +kernel)).trans ((lk_past (by decide +kernel)).trans ((lk_past (by decide +kernel)).trans ((lk_past (by decide +kernel)).trans ((lk_past (by decide +kernel)).trans ((lk_past (by decide +kernel)).trans ((lk_past (by decide +kernel)).trans ((lk_past (by decide +kernel)).trans ((lk_past (by decide +kernel)).trans ((lk_past (by decide +kernel)).trans rfl))))))))))
/-- a level: what closes it, how many stitches, these -/
structure PL where
  c : Int
  n : Nat
  xs : List Nat
/-- a reading: place, fault, depth, counts, levels (the top first) -/
structure RS where
  pl : Nat
  fk : Nat
  fp : Nat
  de : Nat
  le : Nat
  nu : Nat
  ro : Nat
  ot : Nat
  lvs : List PL
abbrev AD := Addr × Addr × Addr
def LvAt (CL : Addr) (H0 H : Hp) (L : PL) (d : AD) : Prop := H d.1 = some (.ins CL d.2.1 (lvF L.c L.n d.2.2)) ∧ H d.2.2 = some (.lst (nv L.xs)) ∧ H0 d.1 = none ∧ H0 d.2.2 = none
def rdS (tx lv : Addr) (S : RS) : List (Str × V) := rdF tx S.pl S.fk S.fp lv S.de S.le S.nu S.ro S.ot
structure RdOk (K : PySem.W.Frag) (CR CL : Addr) (H0 H : Hp) (r tx : Addr) (b : List Nat) (S : RS) (ex : List PL) (dx lv : Addr) (ad ea : List AD) : Prop where
  e : Ex H0 H
  r0 : H0 r = none
  txt : SqL K H0 tx (nv b)
  ins : H r = some (.ins CR dx (rdS tx lv S))
  lv0 : H0 lv = none
  lvl : H lv = some (.lst (ad.reverse.map fun d => V.ref d.1))
  lvs : Paired (LvAt CL H0 H) S.lvs ad
  exs : Paired (LvAt CL H0 H) ex ea
  nda : ((ad ++ ea).map (·.1)).Nodup
  ndp : ((ad ++ ea).map (·.2.2)).Nodup
  lvp : ∀ d ∈ ad ++ ea, d.2.2 ≠ lv
  rna : ∀ d ∈ ad ++ ea, d.1 ≠ r
/-- what the top has written of the two classes -/
structure LTx (K : PySem.W.Frag) (C : Addr) : Prop where
  cl : Cls K C
  nC : NoAttr K C "closing"
  nN : NoAttr K C "length"
  nS : NoAttr K C "stitches"
structure RTx (K : PySem.W.Frag) (C : Addr) : Prop where
  cl : Cls K C
  nT : NoAttr K C "text"
  nP : NoAttr K C "place"
  nK : NoAttr K C "fault_kind"
  nF : NoAttr K C "fault_place"
  nL : NoAttr K C "levels"
  nD : NoAttr K C "depth"
  nE : NoAttr K C "letters"
  nN : NoAttr K C "numbers"
  nR : NoAttr K C "rounds"
  nO : NoAttr K C "others"
section
variable {K : PySem.W.Frag} {CR CL : Addr} {H0 H H' : Hp} {r tx : Addr} {b : List Nat} {S S' : RS} {ex : List PL} {dx lv : Addr} {ad ea : List AD}
theorem LvAt.grow {L : PL} {d : AD} (e : Ex H H') (h : LvAt CL H0 H L d) : LvAt CL H0 H' L d := ⟨e _ _ h.1, e _ _ h.2.1, h.2.2⟩
/-- more objects -/
theorem RdOk.grow (R : RdOk K CR CL H0 H r tx b S ex dx lv ad ea) (e : Ex H H') : RdOk K CR CL H0 H' r tx b S ex dx lv ad ea :=
  ⟨R.e.trans e, R.r0, R.txt, e _ _ R.ins, R.lv0, e _ _ R.lvl, Paired.mapP R.lvs fun _ _ => LvAt.grow e, Paired.mapP R.exs fun _ _ => LvAt.grow e, R.nda, R.ndp, R.lvp, R.rna⟩
theorem paired_memR {α β : Type} {F G : α → β → Prop} : ∀ {l : List α} {m : List β}, Paired F l m → (∀ x y, y ∈ m → F x y → G x y) → Paired G l m
  | _, _, .nil, _ => .nil
  | _, _, .cons q t, h => .cons (h _ _ (by simp) q) (paired_memR t fun x y hy f => h x y (by simp [hy]) f)
/-- the reading's own numbers are stored -/
theorem RdOk.setR (R : RdOk K CR CL H0 H r tx b S ex dx lv ad ea) (hl : S'.lvs = S.lvs) : RdOk K CR CL H0 (upd H r (.ins CR dx (rdS tx lv S'))) r tx b S' ex dx lv ad ea := by
  have lst : ∀ {a : Addr} {xs : List V}, H a = some (.lst xs) → a ≠ r := fun h z => by
    rw [z, R.ins] at h
    cases h
  have keep : ∀ L d, d ∈ ad ++ ea → LvAt CL H0 H L d → LvAt CL H0 (upd H r (.ins CR dx (rdS tx lv S'))) L d := fun L d hd h => ⟨by rw [upd_ne (R.rna d hd)]; exact h.1, by rw [upd_ne (lst h.2.1)]; exact h.2.1, h.2.2⟩
  refine ⟨Ex.mut R.e R.r0, R.r0, R.txt, upd_same, R.lv0, ?_, ?_, ?_, R.nda, R.ndp, R.lvp, R.rna⟩
  · rw [upd_ne (lst R.lvl)]
    exact R.lvl
  · rw [hl]
    exact paired_memR R.lvs fun L d hd h => keep L d (List.mem_append_left _ hd) h
  · exact paired_memR R.exs fun L d hd h => keep L d (List.mem_append_right _ hd) h
theorem ne_of_nodup {α β : Type} {f : α → β} {d : α} {r : List α} (h : ((d :: r).map f).Nodup) : ∀ x ∈ r, f x ≠ f d := by
  intro x hx e
  rw [List.map_cons, List.nodup_cons] at h
  exact h.1 (e ▸ List.mem_map.mpr ⟨x, hx, rfl⟩)
/-- the top level's length alone is stored -/
theorem RdOk.setTop1 {L : PL} {rest : List PL} {d : AD} {ad' : List AD} {n : Nat} (R : RdOk K CR CL H0 H r tx b S ex dx lv (d :: ad') ea) (hl : S.lvs = L :: rest) :
    RdOk K CR CL H0 (upd H d.1 (.ins CL d.2.1 (lvF L.c n d.2.2))) r tx b { S with lvs := { L with n := n } :: rest } ex dx lv (d :: ad') ea := by
  have hlv := R.lvs
  rw [hl] at hlv
  cases hlv with
  | cons h0 ht =>
    have lst : ∀ {a : Addr} {xs : List V}, H a = some (.lst xs) → a ≠ d.1 := fun h z => by
      rw [z, h0.1] at h
      cases h
    have nd := ne_of_nodup (f := fun d : AD => d.1) (d := d) (r := ad' ++ ea) R.nda
    have keep : ∀ L' d', d' ∈ ad' ++ ea → LvAt CL H0 H L' d' → LvAt CL H0 (upd H d.1 (.ins CL d.2.1 (lvF L.c n d.2.2))) L' d' := fun L' d' hd h => ⟨by rw [upd_ne (nd d' hd)]; exact h.1, by rw [upd_ne (lst h.2.1)]; exact h.2.1, h.2.2⟩
    refine ⟨Ex.mut R.e h0.2.2.1, R.r0, R.txt, ?_, R.lv0, ?_, .cons ⟨upd_same, ?_, h0.2.2⟩ (paired_memR ht fun L' d' hd h => keep L' d' (List.mem_append_left _ hd) h), paired_memR R.exs fun L' d' hd h => keep L' d' (List.mem_append_right _ hd) h, R.nda, R.ndp, R.lvp, R.rna⟩
    · rw [upd_ne (Ne.symm (R.rna d (by simp)))]
      exact R.ins
    · rw [upd_ne (lst R.lvl)]
      exact R.lvl
    · rw [upd_ne (lst h0.2.1)]
      exact h0.2.1
/-- the top level's stitches are stored -/
theorem RdOk.setTop2 {L : PL} {rest : List PL} {d : AD} {ad' : List AD} {xs : List Nat} (R : RdOk K CR CL H0 H r tx b S ex dx lv (d :: ad') ea) (hl : S.lvs = L :: rest) :
    RdOk K CR CL H0 (upd H d.2.2 (.lst (nv xs))) r tx b { S with lvs := { L with xs := xs } :: rest } ex dx lv (d :: ad') ea := by
  have hlv := R.lvs
  rw [hl] at hlv
  cases hlv with
  | cons h0 ht =>
    have ins : ∀ {a C dx : Addr} {fs : List (Str × V)}, H a = some (.ins C dx fs) → a ≠ d.2.2 := fun h z => by
      rw [z, h0.2.1] at h
      cases h
    have nd := ne_of_nodup (f := fun d : AD => d.2.2) (d := d) (r := ad' ++ ea) R.ndp
    have keep : ∀ L' d', d' ∈ ad' ++ ea → LvAt CL H0 H L' d' → LvAt CL H0 (upd H d.2.2 (.lst (nv xs))) L' d' := fun L' d' hd h => ⟨by rw [upd_ne (ins h.1)]; exact h.1, by rw [upd_ne (nd d' hd)]; exact h.2.1, h.2.2⟩
    refine ⟨Ex.mut R.e h0.2.2.2, R.r0, R.txt, ?_, R.lv0, ?_, .cons ⟨?_, upd_same, h0.2.2⟩ (paired_memR ht fun L' d' hd h => keep L' d' (List.mem_append_left _ hd) h), paired_memR R.exs fun L' d' hd h => keep L' d' (List.mem_append_right _ hd) h, R.nda, R.ndp, R.lvp, R.rna⟩
    · rw [upd_ne (ins R.ins)]
      exact R.ins
    · rw [upd_ne (Ne.symm (R.lvp d (by simp)))]
      exact R.lvl
    · rw [upd_ne (ins h0.1)]
      exact h0.1
/-- the top level is stored -/
theorem RdOk.top {L : PL} {rest : List PL} {d : AD} {ad' : List AD} {n : Nat} {xs : List Nat} (R : RdOk K CR CL H0 H r tx b S ex dx lv (d :: ad') ea) (hl : S.lvs = L :: rest) (hk : ∀ x o, x ≠ d.1 → x ≠ d.2.2 → H x = some o → H' x = some o)
    (h1 : H' d.1 = some (.ins CL d.2.1 (lvF L.c n d.2.2))) (h2 : H' d.2.2 = some (.lst (nv xs))) : RdOk K CR CL H0 H' r tx b { S with lvs := { L with n := n, xs := xs } :: rest } ex dx lv (d :: ad') ea := by
  have hlv := R.lvs
  rw [hl] at hlv
  cases hlv with
  | cons h0 ht =>
    have ins : ∀ {a C dx : Addr} {fs : List (Str × V)}, H a = some (.ins C dx fs) → a ≠ d.2.2 := fun h z => by
      rw [z, h0.2.1] at h
      cases h
    have lst : ∀ {a : Addr} {xs : List V}, H a = some (.lst xs) → a ≠ d.1 := fun h z => by
      rw [z, h0.1] at h
      cases h
    have nd := ne_of_nodup (f := fun d : AD => d.2.2) (d := d) (r := ad' ++ ea) R.ndp
    have na := ne_of_nodup (f := fun d : AD => d.1) (d := d) (r := ad' ++ ea) R.nda
    have keep : ∀ L' d', d' ∈ ad' ++ ea → LvAt CL H0 H L' d' → LvAt CL H0 H' L' d' := fun L' d' hd h => ⟨hk _ _ (na d' hd) (ins h.1) h.1, hk _ _ (lst h.2.1) (nd d' hd) h.2.1, h.2.2⟩
    refine ⟨fun x o h => hk x o (fun z => ?_) (fun z => ?_) (R.e x o h), R.r0, R.txt, hk _ _ (Ne.symm (R.rna d (by simp))) (ins R.ins) R.ins, R.lv0, hk _ _ (lst R.lvl) (Ne.symm (R.lvp d (by simp))) R.lvl, .cons ⟨h1, h2, h0.2.2⟩ (paired_memR ht fun L' d' hd h => keep L' d' (List.mem_append_left _ hd) h), paired_memR R.exs fun L' d' hd h => keep L' d' (List.mem_append_right _ hd) h, R.nda, R.ndp, R.lvp, R.rna⟩
    · rw [z, h0.2.2.1] at h
      cases h
    · rw [z, h0.2.2.2] at h
      cases h
theorem putF_len (f : Str) (v : V) : ∀ fs : List (Str × V), (putF f v fs).length ≤ fs.length + 1
  | [] => Nat.le_refl _
  | (g, x) :: r => by
    unfold putF
    split
    · simp
    · have := putF_len f v r
      simp
      omega
theorem rdS_len (tx lv : Addr) (S : RS) : (rdS tx lv S).length < 1000 := by
  show 10 < 1000
  decide
theorem lvF_len (c : Int) (n : Nat) (p : Addr) : (lvF c n p).length < 1000 := by
  show 3 < 1000
  decide
/-- the top level is taken off -/
theorem RdOk.pop {L : PL} {rest : List PL} {d : AD} {ad' : List AD} (R : RdOk K CR CL H0 H r tx b S ex dx lv (d :: ad') ea) (hl : S.lvs = L :: rest) :
    RdOk K CR CL H0 (upd H lv (.lst (ad'.reverse.map fun d => V.ref d.1))) r tx b { S with lvs := rest } (L :: ex) dx lv ad' (d :: ea) := by
  have hlv := R.lvs
  rw [hl] at hlv
  cases hlv with
  | cons h0 ht =>
    have ins : ∀ {a C dx : Addr} {fs : List (Str × V)}, H a = some (.ins C dx fs) → a ≠ lv := fun h z => by
      rw [z, R.lvl] at h
      cases h
    have keep : ∀ L' d', d' ∈ (d :: ad') ++ ea → LvAt CL H0 H L' d' → LvAt CL H0 (upd H lv (.lst (ad'.reverse.map fun d => V.ref d.1))) L' d' := fun L' d' hd h => ⟨by rw [upd_ne (ins h.1)]; exact h.1, by rw [upd_ne (R.lvp d' hd)]; exact h.2.1, h.2.2⟩
    have perm : (ad' ++ d :: ea).Perm ((d :: ad') ++ ea) := List.perm_middle
    have mem : ∀ x ∈ ad' ++ d :: ea, x ∈ (d :: ad') ++ ea := fun x hx => perm.mem_iff.mp hx
    refine ⟨Ex.mut R.e R.lv0, R.r0, R.txt, ?_, R.lv0, upd_same, paired_memR ht fun L' d' hd h => keep L' d' (by simp [hd]) h, .cons (keep L d (by simp) h0) (paired_memR R.exs fun L' d' hd h => keep L' d' (by simp [hd]) h), ?_, ?_, fun x hx => R.lvp x (mem x hx), fun x hx => R.rna x (mem x hx)⟩
    · rw [upd_ne (ins R.ins)]
      exact R.ins
    · exact ((perm.map _).nodup_iff).mpr R.nda
    · exact ((perm.map _).nodup_iff).mpr R.ndp
/-- a new level is put on: a new instance d.1 and its list d.2.2, laid since -/
theorem RdOk.push {L : PL} {d : AD} (R : RdOk K CR CL H0 H r tx b S ex dx lv ad ea) (hn1 : H d.1 = none) (hn2 : H d.2.2 = none) (e : Ex H H') (hd : H' d.1 = some (.ins CL d.2.1 (lvF L.c L.n d.2.2))) (hp : H' d.2.2 = some (.lst (nv L.xs))) :
    RdOk K CR CL H0 (upd H' lv (.lst ((d :: ad).reverse.map fun d => V.ref d.1))) r tx b { S with lvs := L :: S.lvs } ex dx lv (d :: ad) ea := by
  have R' := R.grow e
  have ins : ∀ {a C dx : Addr} {fs : List (Str × V)}, H' a = some (.ins C dx fs) → a ≠ lv := fun h z => by
    rw [z, R'.lvl] at h
    cases h
  have plv : d.2.2 ≠ lv := fun z => by
    rw [z, R.lvl] at hn2
    cases hn2
  have keep : ∀ L' d', d' ∈ ad ++ ea → LvAt CL H0 H' L' d' → LvAt CL H0 (upd H' lv (.lst ((d :: ad).reverse.map fun d => V.ref d.1))) L' d' := fun L' d' hd h => ⟨by rw [upd_ne (ins h.1)]; exact h.1, by rw [upd_ne (R.lvp d' hd)]; exact h.2.1, h.2.2⟩
  have at1 : ∀ x ∈ ad ++ ea, ∃ L', LvAt CL H0 H L' x := fun x hx => by
    rcases List.mem_append.mp hx with hx | hx
    · obtain ⟨i, hi, ei⟩ := List.getElem_of_mem hx
      obtain ⟨L', _, h⟩ := paired_back R.lvs (i := i) (y := x) (by rw [List.getElem?_eq_getElem hi, ei])
      exact ⟨L', h⟩
    · obtain ⟨i, hi, ei⟩ := List.getElem_of_mem hx
      obtain ⟨L', _, h⟩ := paired_back R.exs (i := i) (y := x) (by rw [List.getElem?_eq_getElem hi, ei])
      exact ⟨L', h⟩
  refine ⟨Ex.mut R'.e R.lv0, R.r0, R.txt, ?_, R.lv0, upd_same, .cons ⟨?_, ?_, fresh_back R.e hn1, fresh_back R.e hn2⟩ (paired_memR R'.lvs fun L' d' hd h => keep L' d' (List.mem_append_left _ hd) h), paired_memR R'.exs fun L' d' hd h => keep L' d' (List.mem_append_right _ hd) h, ?_, ?_, ?_, ?_⟩
  · rw [upd_ne (ins R'.ins)]
    exact R'.ins
  · rw [upd_ne (ins hd)]
    exact hd
  · rw [upd_ne plv]
    exact hp
  · rw [List.cons_append, List.map_cons, List.nodup_cons]
    refine ⟨fun hm => ?_, R.nda⟩
    obtain ⟨x, hx, ex⟩ := List.mem_map.mp hm
    obtain ⟨L', h⟩ := at1 x hx
    have := h.1
    rw [ex, hn1] at this
    cases this
  · rw [List.cons_append, List.map_cons, List.nodup_cons]
    refine ⟨fun hm => ?_, R.ndp⟩
    obtain ⟨x, hx, ex⟩ := List.mem_map.mp hm
    obtain ⟨L', h⟩ := at1 x hx
    have := h.2.1
    rw [ex, hn2] at this
    cases this
  · intro x hx
    rw [List.cons_append] at hx
    rcases List.mem_cons.mp hx with rfl | hx
    · exact plv
    · exact R.lvp x hx
  · intro x hx
    rw [List.cons_append] at hx
    rcases List.mem_cons.mp hx with rfl | hx
    · intro z
      rw [z, R.ins] at hn1
      cases hn1
    · exact R.rna x hx
end
end Kt

/-! # A text that is being read: its methods -/
namespace Kt
open PySem PySem.Spec PyProof.Rows L2 Evl
section
variable {P : Program} {w : World} {K : PySem.W.Frag} {mg : Str → Option Value} {base : Heap} {CR CL : Addr}
/-- Level.__init__ -/
def sp_lv_init (CL : Addr) : Sp := fun vs H Q _ => ∃ (a dx : Addr) (c : Int), vs = [.ref a, .int c] ∧ H a = some (.ins CL dx []) ∧
  ∀ p H', H p = none → (∀ x o, x ≠ a → H x = some o → H' x = some o) → H' a = some (.ins CL dx (lvF c 0 p)) → H' p = some (.lst []) → Q .non H'
theorem sc_Level_init : FnScope ["self", "closing"] ["self", "closing"] (C8.fnScope s_Level_init) := C8.fnScope_by (by decide +kernel)
theorem mak_Level (D : CF K mg CL "Level" "Level.__init__" s_Level_init) (TL : LTx K CL) : C8.Mak P w K mg base 1 "Level" CL (sp_lv_init CL) [] := by
  refine mak_by D sc_Level_init (fun _ _ _ _ _ _ us hl => match us, hl with | [_, _], _ => rfl) (fun vs H Q E h => ?_) (fun f cdv A outer s H vs Q E hr h => ?_)
  · obtain ⟨a, dx, c, rfl, _⟩ := h
    rfl
  · obtain ⟨a, dx, c, rfl, ha, k⟩ := h
    refine ⟨_, (pss_cons (ps_fld (pv 0) (pv 1) rfl) (pss_cons (ps_fld (pv 0) pe_int rfl) (pss_one (ps_fld (pv 0) (pe_lst pa_nil) rfl)))), ?_⟩
    refine ⟨_, rfl, _, rfl, a, CL, dx, [], rfl, ha, TL.cl, TL.nC, by decide, ?_⟩
    refine ⟨_, rfl, a, CL, dx, _, rfl, upd_same, TL.cl, TL.nN, Nat.lt_of_le_of_lt (putF_len _ _ _) (by decide), ?_⟩
    refine ⟨sz_of (by simp), fun p hp => ?_⟩
    obtain ⟨h1, h2⟩ := fresh_upd hp
    obtain ⟨h3, h4⟩ := fresh_upd h2
    refine ⟨_, rfl, a, CL, dx, _, rfl, by rw [upd_ne (Ne.symm h1), upd_same], TL.cl, TL.nS, Nat.lt_of_le_of_lt (putF_len _ _ _) (Nat.lt_of_le_of_lt (Nat.add_le_add_right (putF_len _ _ _) 1) (by decide)), ?_⟩
    refine k p _ h4 (fun x o hx h => ?_) ?_ ?_
    · by_cases z : x = p
      · rw [z, h4] at h
        cases h
      · rw [upd_ne hx, upd_ne z, upd_ne hx, upd_ne hx]
        exact h
    · rw [upd_same]
      have : putF "stitches" (.ref p) (putF "length" (.int 0) (putF "closing" (.int c) [])) = lvF c 0 p := by
        show putF "stitches" (.ref p) (putF "length" (.int 0) [("closing", .int c)]) = _
        rw [put_past (by decide +kernel)]
        show putF "stitches" (.ref p) [("closing", .int c), ("length", .int 0)] = _
        rw [put_past (by decide +kernel), put_past (by decide +kernel)]
        rfl
      rw [this]
    · rw [upd_ne h1, upd_same]
/-- Level.take -/
def sp_take (CL : Addr) : Sp := fun vs H Q _ => ∃ (a dx p y : Addr) (c : Int) (n m : Nat) (xs ys : List Nat), vs = [.ref a, .int (m : Int), .ref y] ∧ H a = some (.ins CL dx (lvF c n p)) ∧ H p = some (.lst (nv xs)) ∧ H y = some (.lst (nv ys)) ∧ xs.length + ys.length ≤ 90000 ∧
  ∀ H', (∀ x o, x ≠ a → x ≠ p → H x = some o → H' x = some o) → H' a = some (.ins CL dx (lvF c (n + m) p)) → H' p = some (.lst (nv (if n + m ≤ 40 then xs ++ ys else xs))) → Q .non H'
theorem sc_Level_take : FnScope ["self", "length", "stitches"] ["self", "length", "stitches"] (C8.fnScope s_Level_take) := C8.fnScope_by (by decide +kernel)
theorem met_take (D : MF K CL "take" "Level.take" s_Level_take) (T : Tx K mg) (TL : LTx K CL) : C8.Met P w K mg base 1 CL "take" (sp_take CL) [] := by
  refine met_by D sc_Level_take (fun _ _ _ _ _ _ us hl => match us, hl with | [_, _, _], _ => rfl) (fun vs H Q E h => ?_) (fun f cdv A outer s H vs Q E hr h => ?_)
  · obtain ⟨a, dx, p, y, c, n, m, xs, ys, rfl, _⟩ := h
    rfl
  · obtain ⟨a, dx, p, y, c, n, m, xs, ys, rfl, ha, hp, hy, hz, k⟩ := h
    refine ⟨_, (pss_cons (ps_fldaug (pv 0) (pv 1) in_add) (pss_one (ps_if (pt_cmpR op_le (pe_fld (pv 0) rfl) (C8.pe_gc rfl T.g_MOST_STITCHES) (nomark _)) (pss_one (ps_expr (pe_bm PySem.F.plainAttrs_list PySem.F.slot_list_extend PySem.F.type_list_extend mt_extend (pe_fld (pv 0) rfl) (pa_cons (pv 2) pa_nil)))) pss_nil))), ?_⟩
    have npa : p ≠ a := fun z => by
      rw [z, ha] at hp
      cases hp
    have nya : y ≠ a := fun z => by
      rw [z, ha] at hy
      cases hy
    refine ⟨_, rfl, a, CL, dx, _, _, rfl, ha, TL.cl, TL.nN, lvF_length _ _ _, _, rfl, _, _, rfl, rfl, dx, _, ha, lvF_len _ _ _, ?_⟩
    rw [show (.int ((n : Int) + (m : Int)) : V) = .int ((n + m : Nat) : Int) from rfl, lvF_put_length]
    have ha2 : upd H a (.ins CL dx (lvF c (n + m) p)) a = some (.ins CL dx (lvF c (n + m) p)) := upd_same
    refine s_when (b := decide (n + m ≤ 40)) (et_test (ev_is (ev_op (ev_fld (ev_var rfl) ha2 TL.cl TL.nN (lvF_length _ _ _)) ev_c rv_I0) (congrArg V.bl (decide_eq_decide.mpr (by omega))))) (fun hb H1 e1 => ?_) (fun hb H1 e1 => ?_)
    · have hb' := of_decide_eq_true hb
      rw [if_pos hb'] at k
      have hp1 : H1 p = some (.lst (nv xs)) := e1 _ _ (by rw [upd_ne npa]; exact hp)
      have hy1 : H1 y = some (.lst (nv ys)) := e1 _ _ (by rw [upd_ne nya]; exact hy)
      refine ⟨_, rfl, a, CL, dx, _, _, rfl, e1 _ _ ha2, TL.cl, TL.nS, lvF_stitches _ _ _, Or.inl ⟨rfl, _, sq_of hp1⟩, _, rfl, p, y, _, _, rfl, rfl, hp1, hy1, sz_of (by rw [List.length_map, List.length_map]; exact Nat.le_trans hz (by decide)), ?_⟩
      refine k _ (fun x o h1 h2 h => ?_) ?_ ?_
      · rw [upd_ne h2]
        exact e1 _ _ (by rw [upd_ne h1]; exact h)
      · rw [upd_ne (Ne.symm npa)]
        exact e1 _ _ ha2
      · rw [upd_same]
        simp [nv]
    · have hb' := of_decide_eq_false hb
      rw [if_neg hb'] at k
      refine k H1 (fun x o h1 h2 h => e1 _ _ (by rw [upd_ne h1]; exact h)) (e1 _ _ ha2) (e1 _ _ (by rw [upd_ne npa]; exact hp))
/-- what a method does to a reading -/
def RdTo (K : PySem.W.Frag) (CR CL : Addr) (H0 : Hp) (r tx : Addr) (b : List Nat) (S : RS) (ex : List PL) (dx lv : Addr) (ad ea : List AD) (v : V) (Q : VK) : Prop := ∀ H', RdOk K CR CL H0 H' r tx b S ex dx lv ad ea → Q v H'
/-- Reading.is_right -/
def sp_is_right (CR : Addr) : Sp := fun vs H Q _ => ∃ (r dx tx lv : Addr) (S : RS), vs = [.ref r] ∧ H r = some (.ins CR dx (rdS tx lv S)) ∧ RetV (.bl (decide (S.fk = 0))) H Q
theorem sc_Reading_is_right : FnScope ["self"] ["self"] (C8.fnScope s_Reading_is_right) := C8.fnScope_by (by decide +kernel)
theorem met_is_right (D : MF K CR "is_right" "Reading.is_right" s_Reading_is_right) (T : Tx K mg) (TR : RTx K CR) : C8.Met P w K mg base 1 CR "is_right" (sp_is_right CR) [] := by
  refine met_by D sc_Reading_is_right (fun _ _ _ _ _ _ us hl => match us, hl with | [_], _ => rfl) (fun vs H Q E h => ?_) (fun f cdv A outer s H vs Q E hr h => ?_)
  · obtain ⟨r, dx, tx, lv, S, rfl, _⟩ := h
    rfl
  · obtain ⟨r, dx, tx, lv, S, rfl, hi, k⟩ := h
    refine ⟨_, (pss_one (ps_ret (pe_cmpR op_eq (pe_fld (pv 0) rfl) (C8.pe_gc rfl T.g_NO_FAULT) (nomark _)))), ?_⟩
    exact s_ret (ev_is (ev_op (ev_fld (ev_var rfl) hi TR.cl TR.nK (rdF_fault_kind _ _ _ _ _ _ _ _ _ _)) ev_c (rv_eq rfl)) (congrArg V.bl (decide_eq_decide.mpr (by simp)))) fun H1 e => k H1 e
/-- Reading.fault -/
def sp_fault (CR : Addr) : Sp := fun vs H Q _ => ∃ (r dx tx lv : Addr) (S : RS), vs = [.ref r] ∧ H r = some (.ins CR dx (rdS tx lv S)) ∧ RetL (nv [S.fk, S.fp]) H Q
theorem sc_Reading_fault : FnScope ["self"] ["self"] (C8.fnScope s_Reading_fault) := C8.fnScope_by (by decide +kernel)
theorem met_fault (D : MF K CR "fault" "Reading.fault" s_Reading_fault) (T : Tx K mg) (TR : RTx K CR) : C8.Met P w K mg base 1 CR "fault" (sp_fault CR) [] := by
  refine met_by D sc_Reading_fault (fun _ _ _ _ _ _ us hl => match us, hl with | [_], _ => rfl) (fun vs H Q E h => ?_) (fun f cdv A outer s H vs Q E hr h => ?_)
  · obtain ⟨r, dx, tx, lv, S, rfl, _⟩ := h
    rfl
  · obtain ⟨r, dx, tx, lv, S, rfl, hi, k⟩ := h
    refine ⟨_, (pss_one (ps_ret (pe_lst (pa_cons (pe_fld (pv 0) rfl) (pa_cons (pe_fld (pv 0) rfl) pa_nil))))), ?_⟩
    exact s_retL (el_lst (ea_cons (ev_fld (ev_var rfl) hi TR.cl TR.nK (rdF_fault_kind _ _ _ _ _ _ _ _ _ _)) (ea_cons (ev_fld (ev_var rfl) hi TR.cl TR.nF (rdF_fault_place _ _ _ _ _ _ _ _ _ _)) ea_nil)) (by simp)) fun p H1 hp e h1 => k p H1 hp e h1
/-- Reading.fail -/
def mFail (S : RS) (k p : Nat) : RS := { S with fk := k, fp := p }
def sp_fail (K : PySem.W.Frag) (CR CL : Addr) : Sp := fun vs H Q _ => ∃ (H0 : Hp) (r tx : Addr) (b : List Nat) (S : RS) (ex : List PL) (dx lv : Addr) (ad ea : List AD) (kd p : Nat), vs = [.ref r, .int (kd : Int), .int (p : Int)] ∧ RdOk K CR CL H0 H r tx b S ex dx lv ad ea ∧ ∀ H', But r H H' → RdOk K CR CL H0 H' r tx b (mFail S kd p) ex dx lv ad ea → Q .non H'
theorem sc_Reading_fail : FnScope ["self", "kind", "place"] ["self", "kind", "place"] (C8.fnScope s_Reading_fail) := C8.fnScope_by (by decide +kernel)
theorem met_fail (D : MF K CR "fail" "Reading.fail" s_Reading_fail) (T : Tx K mg) (TR : RTx K CR) : C8.Met P w K mg base 1 CR "fail" (sp_fail K CR CL) [] := by
  refine met_by D sc_Reading_fail (fun _ _ _ _ _ _ us hl => match us, hl with | [_, _, _], _ => rfl) (fun vs H Q E h => ?_) (fun f cdv A outer s H vs Q E hr h => ?_)
  · obtain ⟨H0, r, tx, b, S, ex, dx, lv, ad, ea, kd, p, rfl, _⟩ := h
    rfl
  · obtain ⟨H0, r, tx, b, S, ex, dx, lv, ad, ea, kd, p, rfl, R, k⟩ := h
    refine ⟨_, (pss_cons (ps_fld (pv 0) (pv 1) rfl) (pss_one (ps_fld (pv 0) (pv 2) rfl))), ?_⟩
    refine ⟨_, rfl, _, rfl, r, CR, dx, _, rfl, R.ins, TR.cl, TR.nK, rdS_len _ _ _, ?_⟩
    refine ⟨_, rfl, _, rfl, r, CR, dx, _, rfl, upd_same, TR.cl, TR.nF, Nat.lt_of_le_of_lt (putF_len _ _ _) (by have := rdS_len tx lv S; show 10 + 1 < 1000; decide), ?_⟩
    unfold rdS
    rw [rdF_put_fault_kind, rdF_put_fault_place, upd_upd]
    exact k _ (fun x o hx h => by rw [upd_ne hx]; exact h) (R.setR (S' := mFail S kd p) rfl)
/-- Reading.take_number -/
def mNumber (b : List Nat) (S : RS) : RS := { (if numOf (digs (b.drop S.pl)) = 0 then mFail S 2 S.pl else S) with nu := S.nu + 1, pl := S.pl + (digs (b.drop S.pl)).length }
def numAt (b : List Nat) (pl : Nat) : Nat := numOf (digs (b.drop pl))
def sp_take_number (K : PySem.W.Frag) (CR CL : Addr) : Sp := fun vs H Q _ => ∃ (H0 : Hp) (r tx : Addr) (b : List Nat) (S : RS) (ex : List PL) (dx lv : Addr) (ad ea : List AD), vs = [.ref r] ∧ RdOk K CR CL H0 H r tx b S ex dx lv ad ea ∧ b.length ≤ 1000 ∧ ((b.drop S.pl).head?.any Vbktaf.isDigit) = true ∧ RdTo K CR CL H0 r tx b (mNumber b S) ex dx lv ad ea (.int ((numAt b S.pl : Nat) : Int)) Q
theorem digs_ne {b : List Nat} (h : (b.head?.any Vbktaf.isDigit) = true) : digs b ≠ [] := by
  cases b with
  | nil => cases h
  | cons c r =>
    have hc : Vbktaf.isDigit c = true := h
    unfold digs
    rw [List.takeWhile_cons, if_pos hc]
    simp
theorem digs_nine (b : List Nat) : ∀ x ∈ digs b, x ≤ 9 := by
  intro x hx
  unfold digs at hx
  obtain ⟨c, hc, rfl⟩ := List.mem_map.mp hx
  have := List.all_eq_true.mp List.all_takeWhile c hc
  unfold Vbktaf.isDigit at this
  simp only [Bool.and_eq_true, decide_eq_true_eq] at this
  omega
theorem sc_Reading_take_number : FnScope ["self", "digits", "number"] ["self"] (C8.fnScope s_Reading_take_number) := C8.fnScope_by (by decide +kernel)
theorem met_take_number (D : MF K CR "take_number" "Reading.take_number" s_Reading_take_number) (T : Tx K mg) (TR : RTx K CR) (c_digits_from : C8.Cal P w K mg base 2 "digits_from" (sp_digits_from K) []) (c_number_of : C8.Cal P w K mg base 1 "number_of" (sp_number_of K) []) (c_Reading_fail : C8.Met P w K mg base 1 CR "fail" (sp_fail K CR CL) []) :
    C8.Met P w K mg base 3 CR "take_number" (sp_take_number K CR CL) [] := by
  refine met_by D sc_Reading_take_number (fun _ _ _ _ _ _ us hl => match us, hl with | [_], _ => rfl) (fun vs H Q E h => ?_) (fun f cdv A outer s H vs Q E hr h => ?_)
  · obtain ⟨H0, r, tx, b, S, ex, dx, lv, ad, ea, rfl, _⟩ := h
    rfl
  · obtain ⟨H0, r, tx, b, S, ex, dx, lv, ad, ea, rfl, R, hb, hd, k⟩ := h
    refine ⟨_, (pss_cons (ps_set (i := 1) sc_Reading_take_number.nd rfl (Or.inl rfl) (C8.pe_c c_digits_from hr (by decide) rfl (pa_cons (pe_fld (pv 0) rfl) (pa_cons (pe_fld (pv 0) rfl) pa_nil)))) (pss_cons (ps_set (i := 2) sc_Reading_take_number.nd rfl (Or.inl rfl) (C8.pe_c c_number_of hr (by decide) rfl (pa_cons (pv 1) pa_nil))) (pss_cons (ps_if (pt_cmpR op_eq (pv 2) pe_int (nomark _)) (pss_one (ps_expr (C8.pe_mt c_Reading_fail hr (by decide) (pv 0) (pa_cons (C8.pe_gc rfl T.g_WRONG_NUMBER) (pa_cons (pe_fld (pv 0) rfl) pa_nil))))) pss_nil) (pss_cons (ps_fldaug (pv 0) pe_int in_add) (pss_cons (ps_fldaug (pv 0) (pe_callB call_len_seq (by rfl) T.b_len PySem.boot_len (pa_cons (pv 1) pa_nil)) in_add) (pss_one (ps_ret (pv 2)))))))), ?_⟩
    refine q_asgX (x_call (ea_cons (ev_fld (ev_var rfl) R.ins TR.cl TR.nT (rdF_text _ _ _ _ _ _ _ _ _ _)) (ea_cons (ev_fld (ev_var rfl) R.ins TR.cl TR.nP (rdF_place _ _ _ _ _ _ _ _ _ _)) ea_nil)) fun H1 e1 => ⟨tx, b, S.pl, rfl, ex_l (R.e.trans e1) R.txt, hb, fun q H2 hq e2 h2 => ?_⟩)
    refine q_asgX (x_call (ea_cons (ev_var rfl) ea_nil) fun H3 e3 => ⟨q, digs (b.drop S.pl), rfl, sq_of (e3 _ _ h2), digs_ne hd, digs_nine _, fun H4 e4 => ?_⟩)
    have R4 := R.grow (((e1.trans e2).trans e3).trans e4)
    have hq4 : H4 q = some (.lst (nv (digs (b.drop S.pl)))) := (e3.trans e4) _ _ h2
    have hqr : q ≠ r := fun z => by
      rw [z, R4.ins] at hq4
      cases hq4
    have fin : ∀ (S1 : RS) (H5 : Hp), RdOk K CR CL H0 H5 r tx b S1 ex dx lv ad ea → H5 q = some (.lst (nv (digs (b.drop S.pl)))) → S1.nu = S.nu → S1.pl = S.pl → S1 = (if numOf (digs (b.drop S.pl)) = 0 then mFail S 2 S.pl else S) →
        tSeq (sFldAug K (tVar 0) (tC (.int 1)) rAdd "numbers") (tSeq (sFldAug K (tVar 0) (tCB (fun xs H Q => ∃ p ys, xs = [V.ref p] ∧ (SqL K H p ys ∨ SqT K H p ys) ∧ Q (V.int ys.length) H) (tCons (tVar 1) tNil)) rAdd "place") (tRet (tVar 2))) { nx := fun _ H' => Q .non H', rt := Q } [some (.ref r), some (.ref q), some (.int ((numAt b S.pl : Nat) : Int))] H5 := by
      intro S1 H5 R5 hq5 en ep eS
      refine ⟨_, rfl, r, CR, dx, _, _, rfl, R5.ins, TR.cl, TR.nN, rdF_numbers _ _ _ _ _ _ _ _ _ _, _, _, rfl, rfl, dx, _, R5.ins, rdS_len _ _ _, ?_⟩
      unfold rdS
      rw [show (.int ((S1.nu : Int) + 1) : V) = .int ((S1.nu + 1 : Nat) : Int) from rfl, rdF_put_numbers]
      have R6 := R5.setR (S' := { S1 with nu := S1.nu + 1 }) rfl
      have hq6 : upd H5 r (.ins CR dx (rdS tx lv { S1 with nu := S1.nu + 1 })) q = some (.lst (nv (digs (b.drop S.pl)))) := by
        rw [upd_ne hqr]
        exact hq5
      refine ⟨_, rfl, r, CR, dx, _, _, rfl, R6.ins, TR.cl, TR.nP, rdF_place _ _ _ _ _ _ _ _ _ _, _, rfl, q, _, rfl, Or.inl (sq_of hq6), _, _, rfl, rfl, dx, _, R6.ins, rdS_len _ _ _, ?_⟩
      unfold rdS
      rw [show (.int (((S1.pl : Nat) : Int) + (((nv (digs (b.drop S.pl))).length : Nat) : Int)) : V) = .int ((S1.pl + (digs (b.drop S.pl)).length : Nat) : Int) by rw [List.length_map]; rfl, rdF_put_place]
      have R7 := R6.setR (S' := { S1 with nu := S1.nu + 1, pl := S1.pl + (digs (b.drop S.pl)).length }) rfl
      refine ⟨_, rfl, k _ ?_⟩
      have eM : mNumber b S = { S1 with nu := S1.nu + 1, pl := S1.pl + (digs (b.drop S.pl)).length } := by
        unfold mNumber
        rw [← eS, en, ep]
      rw [eM]
      exact R7
    refine q_when (b := decide (numAt b S.pl = 0)) (et_test (ev_is (ev_op (ev_var rfl) ev_c (rv_eq rfl)) (congrArg V.bl (decide_eq_decide.mpr (by unfold numAt; simp))))) (fun hz H5 e5 => ?_) (fun hz H5 e5 => ?_)
    · have hz' : numOf (digs (b.drop S.pl)) = 0 := of_decide_eq_true hz
      have R5 := R4.grow e5
      refine ⟨_, rfl, r, dx, _, rfl, R5.ins, rdF_no_fail _ _ _ _ _ _ _ _ _ _, ?_⟩
      refine (ea_cons ev_c (ea_cons (ev_fld (ev_var rfl) R5.ins TR.cl TR.nP (rdF_place _ _ _ _ _ _ _ _ _ _)) ea_nil)) H5 (Ex.refl H5) _ fun H6 e6 => ⟨H0, r, tx, b, S, ex, dx, lv, ad, ea, 2, S.pl, rfl, R5.grow e6, fun H7 b7 R7 => ?_⟩
      exact fin (mFail S 2 S.pl) H7 R7 (b7 _ _ hqr (e6 _ _ (e5 _ _ hq4))) rfl rfl (by rw [if_pos hz'])
    · have hz' : ¬ numOf (digs (b.drop S.pl)) = 0 := of_decide_eq_false hz
      exact fin S H5 (R4.grow e5) (e5 _ _ hq4) rfl rfl (by rw [if_neg hz'])
end
end Kt

/-! # A text that is being read: letters, brackets -/
namespace Kt
open PySem PySem.Spec PyProof.Rows L2 Evl
def mTake (m : Nat) (ys : List Nat) (S : RS) : RS := match S.lvs with
  | [] => S
  | L :: rest => { S with lvs := ⟨L.c, L.n + m, if L.n + m ≤ 40 then L.xs ++ ys else L.xs⟩ :: rest }
section
variable {P : Program} {w : World} {K : PySem.W.Frag} {mg : Str → Option Value} {base : Heap} {CR CL : Addr}
section
variable {H0 H H' : Hp} {r tx : Addr} {b : List Nat} {S : RS} {ex : List PL} {dx lv : Addr} {ad ea : List AD} {σ : L2.St} {t1 t2 : TE} {Q : VK}
theorem q_fldR {v : V} {tv : TE} {f : Str} {tz : TS} {D : Ends} (h : Ev tv σ H v) (h0 : σ[0]? = some (some (.ref r))) (k : ∀ H1, Ex H H1 → ∃ a C dx fs, V.ref r = .ref a ∧ H1 a = some (.ins C dx fs) ∧ Cls K C ∧ NoAttr K C f ∧ fs.length < 1000 ∧ tz D σ (upd H1 a (.ins C dx (putF f v fs)))) :
    tSeq (sFld K (tVar 0) tv f) tz D σ H := h H (Ex.refl H) _ fun H1 e1 => ⟨.ref r, h0, k H1 e1⟩
/-- levels[-1] -/
theorem ev_last {d : AD} {ad' : List AD} (TR : RTx K CR) (R : RdOk K CR CL H0 H r tx b S ex dx lv (d :: ad') ea) (h0 : σ[0]? = some (some (.ref r))) : Ev (tOp (rIxL K) (tFld K (tVar 0) "levels") (tUn (rU fun i => .int (-i)) (tC (.int 1)))) σ H (.ref d.1) := by
  refine ev_ixL (ev_fld (ev_var h0) R.ins TR.cl TR.nL (rdF_levels _ _ _ _ _ _ _ _ _ _)) (ev_un ev_c ru_neg) (sq_of R.lvl) ?_
  rw [List.reverse_cons, List.map_append]
  exact atI_last _ _
theorem RdOk.ad_cons {L : PL} {rest : List PL} (R : RdOk K CR CL H0 H r tx b S ex dx lv ad ea) (hl : S.lvs = L :: rest) : ∃ d ad', ad = d :: ad' := by
  have h := R.lvs
  rw [hl] at h
  cases h with
  | cons h0 ht => exact ⟨_, _, rfl⟩
/-- self.levels[-1].take(m, ys) -/
theorem x_take {L : PL} {rest : List PL} {m : Nat} {ys : List Nat} (TR : RTx K CR) (R : RdOk K CR CL H0 H r tx b S ex dx lv ad ea) (hl : S.lvs = L :: rest) (h0 : σ[0]? = some (some (.ref r))) (h1 : Ev t1 σ H (.int (m : Int))) (h2 : EvN t2 σ H (nv ys)) (hz : L.xs.length + ys.length ≤ 90000)
    (k : RdTo K CR CL H0 r tx b (mTake m ys S) ex dx lv ad ea .non Q) : tMeth CL "take" (sp_take CL) [] E0 (tOp (rIxL K) (tFld K (tVar 0) "levels") (tUn (rU fun i => .int (-i)) (tC (.int 1)))) (tCons t1 (tCons t2 tNil)) σ H Q := by
  obtain ⟨d, ad', rfl⟩ := R.ad_cons hl
  refine ev_last TR R h0 H (Ex.refl H) _ fun H1 e1 => ?_
  have R1 := R.grow e1
  have hlv := R1.lvs
  rw [hl] at hlv
  cases hlv with
  | cons hd ht =>
    refine ⟨d.1, d.2.1, _, rfl, hd.1, lvF_no_take _ _ _, ?_⟩
    refine h1 H1 e1 _ fun H2 e2 => h2 H2 (e1.trans e2) _ fun y H3 e3 hy => ?_
    have R3 := R1.grow (e2.trans e3)
    refine ⟨d.1, d.2.1, d.2.2, y, L.c, L.n, m, L.xs, ys, rfl, (e2.trans e3) _ _ hd.1, (e2.trans e3) _ _ hd.2.1, hy, hz, fun H4 hk ha hp => k H4 ?_⟩
    have := R3.top hl hk ha hp
    unfold mTake
    rw [hl]
    exact this
end
/-- Reading.take_letter -/
def digAt (b : List Nat) (pl : Nat) : Bool := (b.drop pl).head?.any Vbktaf.isDigit
def mLetter (b : List Nat) (st : Nat) (S : RS) : RS :=
  if digAt b (S.pl + 1) = true then mTake (numAt b (S.pl + 1)) (List.replicate (numAt b (S.pl + 1)) st) (mNumber b { S with le := S.le + 1, pl := S.pl + 1 })
  else mTake 1 [st] { S with le := S.le + 1, pl := S.pl + 1 }
theorem mNumber_lvs (b : List Nat) (S : RS) : (mNumber b S).lvs = S.lvs := by
  unfold mNumber mFail
  split <;> rfl
theorem numOf_le {d : List Nat} (h : ∀ x ∈ d, x ≤ 9) : numOf d ≤ 99 := by
  unfold numOf
  split
  · omega
  · rename_i c
    have hl : d.length ≤ 2 := Nat.le_of_not_lt fun z => c (Or.inl z)
    have := fold_small (d := d) (n := 0) h
    have hp : 10 ^ d.length ≤ 10 ^ 2 := Nat.pow_le_pow_right (by decide) hl
    dsimp only
    split <;> omega
theorem numAt_le (b : List Nat) (pl : Nat) : numAt b pl ≤ 99 := numOf_le (digs_nine _)
def sp_take_letter (K : PySem.W.Frag) (CR CL : Addr) : Sp := fun vs H Q _ => ∃ (H0 : Hp) (r tx : Addr) (b : List Nat) (S : RS) (ex : List PL) (dx lv : Addr) (ad ea : List AD) (st : Nat) (L : PL) (rest : List PL), vs = [.ref r, .int (st : Int)] ∧ RdOk K CR CL H0 H r tx b S ex dx lv ad ea ∧ b.length ≤ 1000 ∧ S.lvs = L :: rest ∧ L.xs.length ≤ 40 ∧
  RdTo K CR CL H0 r tx b (mLetter b st S) ex dx lv ad ea .non Q
theorem nv_rep (n st : Nat) : (List.replicate ((n : Int).toNat) [V.int (st : Int)]).flatten = nv (List.replicate n st) := by
  rw [Int.toNat_natCast]
  induction n with
  | zero => rfl
  | succ n ih =>
    rw [List.replicate_succ, List.flatten_cons, ih]
    rfl
theorem sc_Reading_take_letter : FnScope ["self", "stitch", "times"] ["self", "stitch"] (C8.fnScope s_Reading_take_letter) := C8.fnScope_by (by decide +kernel)
theorem met_take_letter (D : MF K CR "take_letter" "Reading.take_letter" s_Reading_take_letter) (T : Tx K mg) (TR : RTx K CR) (c_is_digit_at : C8.Cal P w K mg base 1 "is_digit_at" (sp_is_digit_at K) []) (c_Reading_take_number : C8.Met P w K mg base 3 CR "take_number" (sp_take_number K CR CL) []) (c_Level_take : C8.Met P w K mg base 1 CL "take" (sp_take CL) []) :
    C8.Met P w K mg base 4 CR "take_letter" (sp_take_letter K CR CL) [] := by
  refine met_by D sc_Reading_take_letter (fun _ _ _ _ _ _ us hl => match us, hl with | [_, _], _ => rfl) (fun vs H Q E h => ?_) (fun f cdv A outer s H vs Q E hr h => ?_)
  · obtain ⟨H0, r, tx, b, S, ex, dx, lv, ad, ea, st, L, rest, rfl, _⟩ := h
    rfl
  · obtain ⟨H0, r, tx, b, S, ex, dx, lv, ad, ea, st, L, rest, rfl, R, hb, hl, hx, k⟩ := h
    refine ⟨_, (pss_cons (ps_fldaug (pv 0) pe_int in_add) (pss_cons (ps_fldaug (pv 0) pe_int in_add) (pss_cons (ps_set (i := 2) sc_Reading_take_letter.nd rfl (Or.inl rfl) pe_int) (pss_cons (ps_if (pt_val (C8.pe_c c_is_digit_at hr (by decide) rfl (pa_cons (pe_fld (pv 0) rfl) (pa_cons (pe_fld (pv 0) rfl) pa_nil)))) (pss_one (ps_set (i := 2) sc_Reading_take_letter.nd rfl (Or.inl rfl) (C8.pe_mt0 c_Reading_take_number hr (by decide) (pv 0)))) pss_nil) (pss_one (ps_expr (C8.pe_mt c_Level_take hr (by decide) (pe_ix ix_list (pe_fld (pv 0) rfl) (pe_un un_neg pe_int) (fun _ _ => rfl)) (pa_cons (pv 2) (pa_cons (pe_op op_rep (pe_lst (pa_cons (pv 1) pa_nil)) (pv 2)) pa_nil))))))))), ?_⟩
    -- self.letters += 1; self.place += 1
    refine ⟨_, rfl, r, CR, dx, _, _, rfl, R.ins, TR.cl, TR.nE, rdF_letters _ _ _ _ _ _ _ _ _ _, _, _, rfl, rfl, dx, _, R.ins, rdS_len _ _ _, ?_⟩
    unfold rdS
    rw [show (.int ((S.le : Int) + 1) : V) = .int ((S.le + 1 : Nat) : Int) from rfl, rdF_put_letters]
    have R1 := R.setR (S' := { S with le := S.le + 1 }) rfl
    refine ⟨_, rfl, r, CR, dx, _, _, rfl, R1.ins, TR.cl, TR.nP, rdF_place _ _ _ _ _ _ _ _ _ _, _, _, rfl, rfl, dx, _, R1.ins, rdS_len _ _ _, ?_⟩
    unfold rdS
    rw [show (.int (((S.pl : Nat) : Int) + 1) : V) = .int ((S.pl + 1 : Nat) : Int) from rfl, rdF_put_place]
    have R2 := R1.setR (S' := { S with le := S.le + 1, pl := S.pl + 1 }) rfl
    rw [upd_upd] at R2
    rw [upd_upd]
    change RdOk K CR CL H0 (upd H r (.ins CR dx (rdF tx (S.pl + 1) S.fk S.fp lv S.de (S.le + 1) S.nu S.ro S.ot))) r tx b { S with le := S.le + 1, pl := S.pl + 1 } ex dx lv ad ea at R2
    generalize upd H r (.ins CR dx (rdF tx (S.pl + 1) S.fk S.fp lv S.de (S.le + 1) S.nu S.ro S.ot)) = H2 at R2 ⊢
    -- times = 1
    refine q_asg (v := .int ((1 : Nat) : Int)) ev_c fun H3 e3 => ?_
    have R3 := R2.grow e3
    have hdig : EvT (tB (tCall (sp_is_digit_at K) [] E0 (tCons (tFld K (tVar 0) "text") (tCons (tFld K (tVar 0) "place") tNil)))) [some (.ref r), some (.int (st : Int)), some (.int ((1 : Nat) : Int))] H3 (digAt b (S.pl + 1)) :=
      et_B (ev_call (ea_cons (ev_fld (ev_var rfl) R3.ins TR.cl TR.nT (rdF_text _ _ _ _ _ _ _ _ _ _)) (ea_cons (ev_fld (ev_var rfl) R3.ins TR.cl TR.nP (rdF_place _ _ _ _ _ _ _ _ _ _)) ea_nil)) fun H4 e4 Q4 q4 E4 => ⟨tx, b, S.pl + 1, rfl, ex_l (R3.e.trans e4) R3.txt, q4⟩)
    have fin : ∀ (n : Nat) (S5 : RS) (H5 : Hp), n ≤ 99 → S5.lvs = S.lvs → RdOk K CR CL H0 H5 r tx b S5 ex dx lv ad ea → mTake n (List.replicate n st) S5 = mLetter b st S → tDrop (tMeth CL "take" (sp_take CL) [] E0 (tOp (rIxL K) (tFld K (tVar 0) "levels") (tUn (rU fun i => .int (-i)) (tC (.int 1)))) (tCons (tVar 2) (tCons (tOp rRep (tLst (tCons (tVar 1) tNil)) (tVar 2)) tNil))) { nx := fun _ H' => Q .non H', rt := Q } [some (.ref r), some (.int (st : Int)), some (.int (n : Int))] H5 := by
      intro n S5 H5 hn hl5 R5 hS
      refine x_take TR R5 (hl5.trans hl) rfl (ev_var rfl) (ys := List.replicate n st) (fun H6 e6 Q6 q6 => ?_) (by rw [List.length_replicate]; omega) (by rw [hS]; exact k)
      refine el_lst (ea_cons (ev_var rfl) ea_nil) (by simp) H6 (Ex.refl H6) _ fun p H7 hp e7 h7 => ⟨_, rfl, p, (n : Int), _, rfl, rfl, h7, by omega, by omega, sz_of (by simp; omega), fun q hq => q6 q _ (e7.trans (Ex.new hq)) ?_⟩
      rw [upd_same, nv_rep]
    refine q_when hdig (fun hd H4 e4 => ?_) (fun hd H4 e4 => ?_)
    · have R4 := R3.grow e4
      refine ⟨_, rfl, r, dx, _, rfl, R4.ins, rdF_no_take_number _ _ _ _ _ _ _ _ _ _, ?_⟩
      refine ⟨H0, r, tx, b, _, ex, dx, lv, ad, ea, rfl, R4, hb, hd, fun H5 R5 => ?_⟩
      refine fin (numAt b (S.pl + 1)) (mNumber b { S with le := S.le + 1, pl := S.pl + 1 }) H5 (numAt_le _ _) (mNumber_lvs b _) R5 ?_
      unfold mLetter
      rw [if_pos hd]
    · refine fin 1 { S with le := S.le + 1, pl := S.pl + 1 } H4 (by omega) rfl (R3.grow e4) ?_
      unfold mLetter
      rw [if_neg (by rw [hd]; decide)]
      rfl
/-- Reading.take_opening -/
def mOpening (c : Int) (S : RS) : RS := if 8 < S.lvs.length then mFail S 4 S.pl else { S with pl := S.pl + 1, de := max S.de S.lvs.length, lvs := ⟨c, 0, []⟩ :: S.lvs }
def sp_take_opening (K : PySem.W.Frag) (CR CL : Addr) : Sp := fun vs H Q _ => ∃ (H0 : Hp) (r tx : Addr) (b : List Nat) (S : RS) (ex : List PL) (dx lv : Addr) (ad ea : List AD) (c : Int), vs = [.ref r, .int c] ∧ RdOk K CR CL H0 H r tx b S ex dx lv ad ea ∧ S.lvs.length ≤ 1000 ∧
  ∀ H' ad', RdOk K CR CL H0 H' r tx b (mOpening c S) ex dx lv ad' ea → Q .non H'
theorem sc_Reading_take_opening : FnScope ["self", "closing"] ["self", "closing"] (C8.fnScope s_Reading_take_opening) := C8.fnScope_by (by decide +kernel)
theorem met_take_opening (D : MF K CR "take_opening" "Reading.take_opening" s_Reading_take_opening) (T : Tx K mg) (TR : RTx K CR) (c_Level : C8.Mak P w K mg base 1 "Level" CL (sp_lv_init CL) []) (c_Reading_fail : C8.Met P w K mg base 1 CR "fail" (sp_fail K CR CL) []) :
    C8.Met P w K mg base 3 CR "take_opening" (sp_take_opening K CR CL) [] := by
  refine met_by D sc_Reading_take_opening (fun _ _ _ _ _ _ us hl => match us, hl with | [_, _], _ => rfl) (fun vs H Q E h => ?_) (fun f cdv A outer s H vs Q E hr h => ?_)
  · obtain ⟨H0, r, tx, b, S, ex, dx, lv, ad, ea, c, rfl, _⟩ := h
    rfl
  · obtain ⟨H0, r, tx, b, S, ex, dx, lv, ad, ea, c, rfl, R, h1000, k⟩ := h
    refine ⟨_, (pss_one (ps_if (pt_cmpR op_gt (pe_callB call_len_seq (by rfl) T.b_len PySem.boot_len (pa_cons (pe_fld (pv 0) rfl) pa_nil)) (C8.pe_gc rfl T.g_MOST_BRACKETS) (nomark _)) (pss_one (ps_expr (C8.pe_mt c_Reading_fail hr (by decide) (pv 0) (pa_cons (C8.pe_gc rfl T.g_TOO_DEEP) (pa_cons (pe_fld (pv 0) rfl) pa_nil))))) (pss_cons (ps_fldaug (pv 0) pe_int in_add) (pss_cons (ps_fld (pv 0) (pe_callB (call_max2 rfl) (by rfl) T.b_max (by decide +kernel) (pa_cons (pe_fld (pv 0) rfl) (pa_cons (pe_callB call_len_seq (by rfl) T.b_len PySem.boot_len (pa_cons (pe_fld (pv 0) rfl) pa_nil)) pa_nil))) rfl) (pss_one (ps_expr (pe_bm PySem.F.plainAttrs_list PySem.F.slot_list_append PySem.F.type_list_append mt_append (pe_fld (pv 0) rfl) (pa_cons (C8.pe_mk c_Level hr (by decide) rfl (pa_cons (pv 1) pa_nil)) pa_nil)))))))), ?_⟩
    have hal : ad.length = S.lvs.length := paired_length R.lvs
    have hll : ∀ {H1 : Hp} {S1 : RS}, RdOk K CR CL H0 H1 r tx b S1 ex dx lv ad ea → Ev (tCB (rLenS K) (tCons (tFld K (tVar 0) "levels") tNil)) [some (.ref r), some (.int c)] H1 (.int ((S.lvs.length : Nat) : Int)) := fun {H1 S1} R1 => ev_is (ev_len (ev_fld (ev_var rfl) R1.ins TR.cl TR.nL (rdF_levels _ _ _ _ _ _ _ _ _ _)) (sq_of R1.lvl)) (by rw [List.length_map, List.length_reverse, hal])
    refine s_if (b := decide (8 < S.lvs.length)) (et_test (ev_is (ev_op (hll R) ev_c rv_I0) (congrArg V.bl (decide_eq_decide.mpr (by omega))))) (fun hb H1 e1 => ?_) (fun hb H1 e1 => ?_)
    · have R1 := R.grow e1
      refine ⟨_, rfl, r, dx, _, rfl, R1.ins, rdF_no_fail _ _ _ _ _ _ _ _ _ _, ?_⟩
      refine (ea_cons ev_c (ea_cons (ev_fld (ev_var rfl) R1.ins TR.cl TR.nP (rdF_place _ _ _ _ _ _ _ _ _ _)) ea_nil)) H1 (Ex.refl H1) _ fun H2 e2 => ⟨H0, r, tx, b, S, ex, dx, lv, ad, ea, 4, S.pl, rfl, R1.grow e2, fun H3 _ R3 => k H3 ad ?_⟩
      unfold mOpening
      rw [if_pos (of_decide_eq_true hb)]
      exact R3
    · have R1 := R.grow e1
      -- self.place += 1
      refine ⟨_, rfl, r, CR, dx, _, _, rfl, R1.ins, TR.cl, TR.nP, rdF_place _ _ _ _ _ _ _ _ _ _, _, _, rfl, rfl, dx, _, R1.ins, rdS_len _ _ _, ?_⟩
      unfold rdS
      rw [show (.int ((S.pl : Int) + 1) : V) = .int ((S.pl + 1 : Nat) : Int) from rfl, rdF_put_place]
      have R2 := R1.setR (S' := { S with pl := S.pl + 1 }) rfl
      change RdOk K CR CL H0 (upd H1 r (.ins CR dx (rdF tx (S.pl + 1) S.fk S.fp lv S.de S.le S.nu S.ro S.ot))) r tx b { S with pl := S.pl + 1 } ex dx lv ad ea at R2
      generalize upd H1 r (.ins CR dx (rdF tx (S.pl + 1) S.fk S.fp lv S.de S.le S.nu S.ro S.ot)) = H2 at R2 ⊢
      -- self.depth = max(self.depth, len(self.levels))
      refine q_fldR (ev_max2 (ev_fld (ev_var rfl) R2.ins TR.cl TR.nD (rdF_depth _ _ _ _ _ _ _ _ _ _)) (hll R2)) rfl fun H3 e3 => ?_
      have R3 := R2.grow e3
      refine ⟨r, CR, dx, _, rfl, R3.ins, TR.cl, TR.nD, rdS_len _ _ _, ?_⟩
      have hmax : (if ((S.lvs.length : Nat) : Int) > (S.de : Int) then ((S.lvs.length : Nat) : Int) else (S.de : Int)) = ((max S.de S.lvs.length : Nat) : Int) := by
        split <;> omega
      rw [hmax]
      unfold rdS
      rw [rdF_put_depth]
      have R4 := R3.setR (S' := { S with pl := S.pl + 1, de := max S.de S.lvs.length }) rfl
      change RdOk K CR CL H0 (upd H3 r (.ins CR dx (rdF tx (S.pl + 1) S.fk S.fp lv (max S.de S.lvs.length) S.le S.nu S.ro S.ot))) r tx b { S with pl := S.pl + 1, de := max S.de S.lvs.length } ex dx lv ad ea at R4
      generalize upd H3 r (.ins CR dx (rdF tx (S.pl + 1) S.fk S.fp lv (max S.de S.lvs.length) S.le S.nu S.ro S.ot)) = H4 at R4 ⊢
      -- self.levels.append(Level(closing))
      refine ⟨_, rfl, r, CR, dx, _, _, rfl, R4.ins, TR.cl, TR.nL, rdF_levels _ _ _ _ _ _ _ _ _ _, Or.inl ⟨rfl, _, sq_of R4.lvl⟩, ?_⟩
      refine ⟨_, rfl, fun x xd hx hxd hne => ?_⟩
      refine ⟨x, xd, c, rfl, upd_same, fun p H5 hp hk ha hpl => ⟨rfl, ?_⟩⟩
      obtain ⟨p1, hp2⟩ := fresh_upd hp
      obtain ⟨p3, hp4⟩ := fresh_upd hp2
      have e45 : Ex H4 H5 := fun y o h => by
        have y1 : y ≠ x := ne_of_none h hx
        have y2 : y ≠ xd := ne_of_none h hxd
        exact hk y o y1 (by rw [upd_ne y1, upd_ne y2]; exact h)
      refine ⟨lv, _, .ref x, rfl, rfl, e45 _ _ R4.lvl, sz_lt (by rw [List.length_map, List.length_reverse, hal]; omega), ?_⟩
      have R6 := R4.push (L := ⟨c, 0, []⟩) (d := (x, xd, p)) hx hp4 e45 ha hpl
      rw [List.reverse_cons, List.map_append] at R6
      refine k _ ((x, xd, p) :: ad) ?_
      unfold mOpening
      rw [if_neg (of_decide_eq_false hb)]
      exact R6
end
end Kt

/-! # A text that is being read: closing brackets, the end, a byte -/
namespace Kt
open PySem PySem.Spec PyProof.Rows L2 Evl
def mRepeat (b : List Nat) (I : PL) (S : RS) : RS :=
  if digAt b S.pl = true then mTake (I.n * numAt b S.pl) (List.replicate (numAt b S.pl) I.xs).flatten (mNumber b { S with ro := S.ro + 1 })
  else mFail { S with ro := S.ro + 1 } 1 S.pl
def mMirrored (I : PL) (o : Bool) (S : RS) : RS := mTake (I.n * 2 - (if o = true then 1 else 0)) (I.xs ++ I.xs.reverse.drop (if o = true then 1 else 0)) { S with ot := S.ot + 1 }
def mClosing (b : List Nat) (byte : Nat) (S : RS) : RS := match S.lvs with
  | [] => S
  | I :: rest => if byte = 41 then mRepeat b I { S with pl := S.pl + 1, lvs := rest } else mMirrored I (decide (byte = 93)) { S with pl := S.pl + 1, lvs := rest }
theorem nv_flat (n : Nat) (xs : List Nat) : (List.replicate ((n : Int).toNat) (nv xs)).flatten = nv (List.replicate n xs).flatten := by
  rw [Int.toNat_natCast]
  induction n with
  | zero => rfl
  | succ n ih =>
    rw [List.replicate_succ, List.flatten_cons, ih, List.replicate_succ, List.flatten_cons]
    simp [nv]
theorem rep_len (n : Nat) (xs : List Nat) : (List.replicate n xs).flatten.length = n * xs.length := by
  induction n with
  | zero => simp
  | succ n ih =>
    rw [List.replicate_succ, List.flatten_cons, List.length_append, ih, Nat.succ_mul]
    omega
section
variable {P : Program} {w : World} {K : PySem.W.Frag} {mg : Str → Option Value} {base : Heap} {CR CL : Addr}
/-- what stands beside is let go -/
theorem RdOk.drop {H0 H : Hp} {r tx : Addr} {b : List Nat} {S : RS} {ex : List PL} {dx lv : Addr} {ad ea : List AD} (R : RdOk K CR CL H0 H r tx b S ex dx lv ad ea) : RdOk K CR CL H0 H r tx b S [] dx lv ad [] :=
  ⟨R.e, R.r0, R.txt, R.ins, R.lv0, R.lvl, R.lvs, .nil, by
    rw [List.append_nil]
    have := R.nda
    rw [List.map_append] at this
    exact (List.nodup_append.mp this).1, by
    rw [List.append_nil]
    have := R.ndp
    rw [List.map_append] at this
    exact (List.nodup_append.mp this).1, fun d hd => R.lvp d (by rw [List.append_nil] at hd; exact List.mem_append_left _ hd), fun d hd => R.rna d (by rw [List.append_nil] at hd; exact List.mem_append_left _ hd)⟩
theorem RdOk.inner {H0 H : Hp} {r tx : Addr} {b : List Nat} {S : RS} {I : PL} {ex : List PL} {dx lv : Addr} {ad ea : List AD} {d : AD} (R : RdOk K CR CL H0 H r tx b S (I :: ex) dx lv ad (d :: ea)) : LvAt CL H0 H I d := by
  have h := R.exs
  cases h with
  | cons h0 _ => exact h0
/-- Reading.take_repeat -/
def sp_take_repeat (K : PySem.W.Frag) (CR CL : Addr) : Sp := fun vs H Q _ => ∃ (H0 : Hp) (r tx : Addr) (b : List Nat) (S : RS) (I : PL) (ex : List PL) (dx lv : Addr) (ad : List AD) (d : AD) (ea : List AD) (L : PL) (rest : List PL), vs = [.ref r, .ref d.1] ∧ RdOk K CR CL H0 H r tx b S (I :: ex) dx lv ad (d :: ea) ∧ b.length ≤ 1000 ∧ S.lvs = L :: rest ∧ L.xs.length ≤ 40 ∧ I.xs.length ≤ 40 ∧
  RdTo K CR CL H0 r tx b (mRepeat b I S) (I :: ex) dx lv ad (d :: ea) .non Q
theorem sc_Reading_take_repeat : FnScope ["self", "inner", "times"] ["self", "inner"] (C8.fnScope s_Reading_take_repeat) := C8.fnScope_by (by decide +kernel)
theorem met_take_repeat (D : MF K CR "take_repeat" "Reading.take_repeat" s_Reading_take_repeat) (T : Tx K mg) (TR : RTx K CR) (TL : LTx K CL) (c_is_digit_at : C8.Cal P w K mg base 1 "is_digit_at" (sp_is_digit_at K) []) (c_Reading_take_number : C8.Met P w K mg base 3 CR "take_number" (sp_take_number K CR CL) [])
    (c_Level_take : C8.Met P w K mg base 1 CL "take" (sp_take CL) []) (c_Reading_fail : C8.Met P w K mg base 1 CR "fail" (sp_fail K CR CL) []) : C8.Met P w K mg base 4 CR "take_repeat" (sp_take_repeat K CR CL) [] := by
  refine met_by D sc_Reading_take_repeat (fun _ _ _ _ _ _ us hl => match us, hl with | [_, _], _ => rfl) (fun vs H Q E h => ?_) (fun f cdv A outer s H vs Q E hr h => ?_)
  · obtain ⟨H0, r, tx, b, S, I, ex, dx, lv, ad, d, ea, L, rest, rfl, _⟩ := h
    rfl
  · obtain ⟨H0, r, tx, b, S, I, ex, dx, lv, ad, d, ea, L, rest, rfl, R, hb, hl, hx, hi, k⟩ := h
    refine ⟨_, (pss_cons (ps_fldaug (pv 0) pe_int in_add) (pss_one (ps_if (pt_val (C8.pe_c c_is_digit_at hr (by decide) rfl (pa_cons (pe_fld (pv 0) rfl) (pa_cons (pe_fld (pv 0) rfl) pa_nil)))) (pss_cons (ps_set (i := 2) sc_Reading_take_repeat.nd rfl (Or.inl rfl) (C8.pe_mt0 c_Reading_take_number hr (by decide) (pv 0))) (pss_one (ps_expr (C8.pe_mt c_Level_take hr (by decide) (pe_ix ix_list (pe_fld (pv 0) rfl) (pe_un un_neg pe_int) (fun _ _ => rfl)) (pa_cons (pe_op op_mul (pe_fld (pv 1) rfl) (pv 2)) (pa_cons (pe_op op_rep (pe_fld (pv 1) rfl) (pv 2)) pa_nil)))))) (pss_one (ps_expr (C8.pe_mt c_Reading_fail hr (by decide) (pv 0) (pa_cons (C8.pe_gc rfl T.g_WRONG_BYTE) (pa_cons (pe_fld (pv 0) rfl) pa_nil)))))))), ?_⟩
    refine ⟨_, rfl, r, CR, dx, _, _, rfl, R.ins, TR.cl, TR.nR, rdF_rounds _ _ _ _ _ _ _ _ _ _, _, _, rfl, rfl, dx, _, R.ins, rdS_len _ _ _, ?_⟩
    unfold rdS
    rw [show (.int ((S.ro : Int) + 1) : V) = .int ((S.ro + 1 : Nat) : Int) from rfl, rdF_put_rounds]
    have R1 := R.setR (S' := { S with ro := S.ro + 1 }) rfl
    change RdOk K CR CL H0 (upd H r (.ins CR dx (rdF tx S.pl S.fk S.fp lv S.de S.le S.nu (S.ro + 1) S.ot))) r tx b { S with ro := S.ro + 1 } (I :: ex) dx lv ad (d :: ea) at R1
    generalize upd H r (.ins CR dx (rdF tx S.pl S.fk S.fp lv S.de S.le S.nu (S.ro + 1) S.ot)) = H1 at R1 ⊢
    have hdig : EvT (tB (tCall (sp_is_digit_at K) [] E0 (tCons (tFld K (tVar 0) "text") (tCons (tFld K (tVar 0) "place") tNil)))) [some (.ref r), some (.ref d.1), none] H1 (digAt b S.pl) :=
      et_B (ev_call (ea_cons (ev_fld (ev_var rfl) R1.ins TR.cl TR.nT (rdF_text _ _ _ _ _ _ _ _ _ _)) (ea_cons (ev_fld (ev_var rfl) R1.ins TR.cl TR.nP (rdF_place _ _ _ _ _ _ _ _ _ _)) ea_nil)) fun H4 e4 Q4 q4 E4 => ⟨tx, b, S.pl, rfl, ex_l (R1.e.trans e4) R1.txt, q4⟩)
    refine s_if hdig (fun hd H2 e2 => ?_) (fun hd H2 e2 => ?_)
    · have R2 := R1.grow e2
      refine ⟨_, rfl, r, dx, _, rfl, R2.ins, rdF_no_take_number _ _ _ _ _ _ _ _ _ _, ?_⟩
      refine ⟨H0, r, tx, b, _, _, dx, lv, ad, _, rfl, R2, hb, hd, fun H3 R3 => ?_⟩
      have h99 := numAt_le b S.pl
      have h99' := numAt_le b ({ S with ro := S.ro + 1 } : RS).pl
      have hlen' : I.xs.length * numAt b ({ S with ro := S.ro + 1 } : RS).pl ≤ 40 * 99 := Nat.mul_le_mul hi h99'
      have hin := R3.inner
      have hlen : I.xs.length * numAt b S.pl ≤ 40 * 99 := Nat.mul_le_mul hi h99
      refine x_take TR R3 ((mNumber_lvs b _).trans hl) rfl (m := I.n * numAt b S.pl) (ys := (List.replicate (numAt b S.pl) I.xs).flatten) (ev_is (ev_op (ev_fld (ev_var rfl) hin.1 TL.cl TL.nN (lvF_length _ _ _)) (ev_var rfl) (rv_I (Or.inr ⟨by omega, by omega⟩))) (by simp)) (fun H4 e4 Q4 q4 => ?_) (by rw [rep_len, Nat.mul_comm]; omega) (fun H4 R4 => k H4 ?_)
      · refine ev_fld (ev_var rfl) (e4 _ _ hin.1) TL.cl TL.nS (lvF_stitches _ _ _) H4 (Ex.refl H4) _ fun H5 e5 => ⟨_, rfl, d.2.2, _, _, rfl, rfl, (e4.trans e5) _ _ hin.2.1, by omega, by omega, sz_of (by rw [List.length_map, Int.toNat_natCast]; omega), fun q hq => q4 q _ (e5.trans (Ex.new hq)) ?_⟩
        rw [upd_same, nv_flat]
      · unfold mRepeat
        rw [if_pos hd]
        exact R4
    · have R2 := R1.grow e2
      refine ⟨_, rfl, r, dx, _, rfl, R2.ins, rdF_no_fail _ _ _ _ _ _ _ _ _ _, ?_⟩
      refine (ea_cons ev_c (ea_cons (ev_fld (ev_var rfl) R2.ins TR.cl TR.nP (rdF_place _ _ _ _ _ _ _ _ _ _)) ea_nil)) H2 (Ex.refl H2) _ fun H3 e3 => ⟨H0, r, tx, b, _, _, dx, lv, ad, _, 1, S.pl, rfl, R2.grow e3, fun H4 _ R4 => k H4 ?_⟩
      unfold mRepeat
      rw [if_neg (by rw [hd]; decide)]
      exact R4
/-- Reading.take_mirrored -/
def sp_take_mirrored (K : PySem.W.Frag) (CR CL : Addr) : Sp := fun vs H Q _ => ∃ (H0 : Hp) (r tx : Addr) (b : List Nat) (S : RS) (I : PL) (ex : List PL) (dx lv : Addr) (ad : List AD) (d : AD) (ea : List AD) (L : PL) (rest : List PL) (o : Bool), vs = [.ref r, .ref d.1, .bl o] ∧ RdOk K CR CL H0 H r tx b S (I :: ex) dx lv ad (d :: ea) ∧ S.lvs = L :: rest ∧ L.xs.length ≤ 40 ∧ I.xs.length ≤ 40 ∧ 1 ≤ I.n ∧
  RdTo K CR CL H0 r tx b (mMirrored I o S) (I :: ex) dx lv ad (d :: ea) .non Q
theorem sc_Reading_take_mirrored : FnScope ["self", "inner", "is_last_once", "once", "backwards"] ["self", "inner", "is_last_once"] (C8.fnScope s_Reading_take_mirrored) := C8.fnScope_by (by decide +kernel)
theorem met_take_mirrored (D : MF K CR "take_mirrored" "Reading.take_mirrored" s_Reading_take_mirrored) (T : Tx K mg) (TR : RTx K CR) (TL : LTx K CL) (c_Level_take : C8.Met P w K mg base 1 CL "take" (sp_take CL) []) : C8.Met P w K mg base 2 CR "take_mirrored" (sp_take_mirrored K CR CL) [] := by
  refine met_by D sc_Reading_take_mirrored (fun _ _ _ _ _ _ us hl => match us, hl with | [_, _, _], _ => rfl) (fun vs H Q E h => ?_) (fun f cdv A outer s H vs Q E hr h => ?_)
  · obtain ⟨H0, r, tx, b, S, I, ex, dx, lv, ad, d, ea, L, rest, o, rfl, _⟩ := h
    rfl
  · obtain ⟨H0, r, tx, b, S, I, ex, dx, lv, ad, d, ea, L, rest, o, rfl, R, hl, hx, hi, hn, k⟩ := h
    refine ⟨_, (pss_cons (ps_fldaug (pv 0) pe_int in_add) (pss_cons (ps_set (i := 3) sc_Reading_take_mirrored.nd rfl (Or.inl rfl) (pe_ifExp (pt_val (pv 2)) pe_int pe_int)) (pss_cons (ps_set (i := 4) sc_Reading_take_mirrored.nd rfl (Or.inl rfl) (Kt.pe_listRev rfl rfl T.b_list rfl T.b_reversed (pe_fld (pv 1) rfl))) (pss_one (ps_expr (C8.pe_mt c_Level_take hr (by decide) (pe_ix ix_list (pe_fld (pv 0) rfl) (pe_un un_neg pe_int) (fun _ _ => rfl)) (pa_cons (pe_op op_sub (pe_op op_mul (pe_fld (pv 1) rfl) pe_int) (pv 3)) (pa_cons (pe_op op_cat (pe_fld (pv 1) rfl) (pe_slice sl_list (pv 4) (po_some (pv 3)) po_none)) pa_nil)))))))), ?_⟩
    refine ⟨_, rfl, r, CR, dx, _, _, rfl, R.ins, TR.cl, TR.nO, rdF_others _ _ _ _ _ _ _ _ _ _, _, _, rfl, rfl, dx, _, R.ins, rdS_len _ _ _, ?_⟩
    unfold rdS
    rw [show (.int ((S.ot : Int) + 1) : V) = .int ((S.ot + 1 : Nat) : Int) from rfl, rdF_put_others]
    have R1 := R.setR (S' := { S with ot := S.ot + 1 }) rfl
    change RdOk K CR CL H0 (upd H r (.ins CR dx (rdF tx S.pl S.fk S.fp lv S.de S.le S.nu S.ro (S.ot + 1)))) r tx b { S with ot := S.ot + 1 } (I :: ex) dx lv ad (d :: ea) at R1
    generalize upd H r (.ins CR dx (rdF tx S.pl S.fk S.fp lv S.de S.le S.nu S.ro (S.ot + 1))) = H1 at R1 ⊢
    -- once
    refine q_asg (v := .int ((if o = true then 1 else 0 : Nat) : Int)) (ev_if (b := o) (et_B (ev_var rfl)) (fun h => by rw [if_pos h]; exact ev_c) (fun h => by rw [if_neg (by rw [h]; decide)]; exact ev_c)) fun H2 e2 => ?_
    have R2 := R1.grow e2
    have hin2 := R2.inner
    -- backwards
    refine q_asgL (el_rev (ev_fld (ev_var rfl) hin2.1 TL.cl TL.nS (lvF_stitches _ _ _)) (sq_of hin2.2.1)) fun q H3 hq e3 h3 => ?_
    rw [← List.map_reverse] at h3
    have R3 := R2.grow e3
    have hin := R3.inner
    generalize ho : (if o = true then 1 else 0 : Nat) = on
    have hon : on ≤ 1 := by
      rw [← ho]
      split <;> omega
    refine x_take TR R3 hl rfl (m := I.n * 2 - on) (ys := I.xs ++ I.xs.reverse.drop on) (ev_is (ev_sub (ev_op (ev_fld (ev_var rfl) hin.1 TL.cl TL.nN (lvF_length _ _ _)) ev_c (rv_I (Or.inr ⟨by omega, by omega⟩))) (ev_var rfl)) (congrArg V.int (by omega))) (en_l ?_) (by simp; omega) (fun H4 R4 => k H4 ?_)
    · have hc := el_cat (xs := nv I.xs) (ys := cutV (nv I.xs.reverse) (some (on : Int)) none) (en_v (ev_fld (ev_var (i := 1) (σ := [some (.ref r), some (.ref d.1), some (.bl o), some (.int (on : Int)), some (.ref q)]) rfl) hin.1 TL.cl TL.nS (lvF_stitches _ _ _)) hin.2.1) (en_l (el_sl (K := K) (ev_var (i := 4) rfl) (eo_some (ev_var (i := 3) rfl)) eo_none (sq_of h3))) (by have := cutV_length (nv I.xs.reverse) (some (on : Int)) none; simp at this ⊢; omega)
      rw [cut_from, nv_drop, ← List.map_append] at hc
      exact hc
    · unfold mMirrored
      rw [ho]
      exact R4
/-- Reading.take_closing -/
def sp_take_closing (K : PySem.W.Frag) (CR CL : Addr) : Sp := fun vs H Q _ => ∃ (H0 : Hp) (r tx : Addr) (b : List Nat) (S : RS) (dx lv : Addr) (ad : List AD) (I L : PL) (rest : List PL) (byte : Nat), vs = [.ref r, .int (byte : Int)] ∧ RdOk K CR CL H0 H r tx b S [] dx lv ad [] ∧ b.length ≤ 1000 ∧ S.lvs = I :: L :: rest ∧ L.xs.length ≤ 40 ∧ I.xs.length ≤ 40 ∧ 1 ≤ I.n ∧
  ∀ H' ad', RdOk K CR CL H0 H' r tx b (mClosing b byte S) [] dx lv ad' [] → Q .non H'
theorem sc_Reading_take_closing : FnScope ["self", "byte", "inner"] ["self", "byte"] (C8.fnScope s_Reading_take_closing) := C8.fnScope_by (by decide +kernel)
theorem met_take_closing (D : MF K CR "take_closing" "Reading.take_closing" s_Reading_take_closing) (T : Tx K mg) (TR : RTx K CR) (c_Reading_take_repeat : C8.Met P w K mg base 4 CR "take_repeat" (sp_take_repeat K CR CL) []) (c_Reading_take_mirrored : C8.Met P w K mg base 2 CR "take_mirrored" (sp_take_mirrored K CR CL) []) :
    C8.Met P w K mg base 5 CR "take_closing" (sp_take_closing K CR CL) [] := by
  refine met_by D sc_Reading_take_closing (fun _ _ _ _ _ _ us hl => match us, hl with | [_, _], _ => rfl) (fun vs H Q E h => ?_) (fun f cdv A outer s H vs Q E hr h => ?_)
  · obtain ⟨H0, r, tx, b, S, dx, lv, ad, I, L, rest, byte, rfl, _⟩ := h
    rfl
  · obtain ⟨H0, r, tx, b, S, dx, lv, ad, I, L, rest, byte, rfl, R, hb, hl, hx, hi, hn, k⟩ := h
    refine ⟨_, (pss_cons (ps_fldaug (pv 0) pe_int in_add) (pss_cons (ps_set (i := 2) sc_Reading_take_closing.nd rfl (Or.inl rfl) (pe_bm0 PySem.F.plainAttrs_list PySem.F.slot_list_pop PySem.F.type_list_pop mt_pop (pe_fld (pv 0) rfl))) (pss_one (ps_if (pt_cmpR op_eq (pv 1) (C8.pe_gc rfl T.g_ROUND_CLOSING) (nomark _)) (pss_one (ps_expr (C8.pe_mt c_Reading_take_repeat hr (by decide) (pv 0) (pa_cons (pv 2) pa_nil)))) (pss_one (ps_expr (C8.pe_mt c_Reading_take_mirrored hr (by decide) (pv 0) (pa_cons (pv 2) (pa_cons (pe_cmpR op_eq (pv 1) (C8.pe_gc rfl T.g_SQUARE_CLOSING) (nomark _)) pa_nil))))))))), ?_⟩
    refine ⟨_, rfl, r, CR, dx, _, _, rfl, R.ins, TR.cl, TR.nP, rdF_place _ _ _ _ _ _ _ _ _ _, _, _, rfl, rfl, dx, _, R.ins, rdS_len _ _ _, ?_⟩
    unfold rdS
    rw [show (.int ((S.pl : Int) + 1) : V) = .int ((S.pl + 1 : Nat) : Int) from rfl, rdF_put_place]
    have R1 := R.setR (S' := { S with pl := S.pl + 1 }) rfl
    change RdOk K CR CL H0 (upd H r (.ins CR dx (rdF tx (S.pl + 1) S.fk S.fp lv S.de S.le S.nu S.ro S.ot))) r tx b { S with pl := S.pl + 1 } [] dx lv ad [] at R1
    generalize upd H r (.ins CR dx (rdF tx (S.pl + 1) S.fk S.fp lv S.de S.le S.nu S.ro S.ot)) = H1 at R1 ⊢
    obtain ⟨d, ad', rfl⟩ := R1.ad_cons hl
    -- inner = self.levels.pop()
    have hll : ((d :: ad').reverse.map fun d : AD => V.ref d.1) = (ad'.reverse.map fun d : AD => V.ref d.1) ++ [V.ref d.1] := by
      rw [List.reverse_cons, List.map_append]
      rfl
    have hlv := R1.lvl
    rw [hll] at hlv
    refine ⟨_, rfl, r, CR, dx, _, _, rfl, R1.ins, TR.cl, TR.nL, rdF_levels _ _ _ _ _ _ _ _ _ _, Or.inl ⟨rfl, _, sq_of hlv⟩, lv, _, V.ref d.1, rfl, rfl, hlv, by simp, ?_⟩
    have R2 := R1.pop (S := { S with pl := S.pl + 1 }) hl
    have hdl : ((ad'.reverse.map fun d : AD => V.ref d.1) ++ [V.ref d.1]).dropLast = ad'.reverse.map fun d : AD => V.ref d.1 := by simp
    rw [hdl]
    generalize upd H1 lv (.lst (ad'.reverse.map fun d : AD => V.ref d.1)) = H2 at R2 ⊢
    have hcl : ∀ S3, S3 = mClosing b byte S → ∀ H3, RdOk K CR CL H0 H3 r tx b S3 [I] dx lv ad' [d] → Q .non H3 := fun S3 e H3 R3 => by
      rw [e] at R3
      exact k H3 ad' R3.drop
    refine s_if (b := decide (byte = 41)) (et_test (ev_is (ev_op (ev_var rfl) ev_c (rv_eq rfl)) (congrArg V.bl (decide_eq_decide.mpr (by simp; omega))))) (fun hd H3 e3 => ?_) (fun hd H3 e3 => ?_)
    · have R3 := R2.grow e3
      refine ⟨_, rfl, r, dx, _, rfl, R3.ins, rdF_no_take_repeat _ _ _ _ _ _ _ _ _ _, ?_⟩
      refine ⟨_, rfl, H0, r, tx, b, _, I, [], dx, lv, ad', d, [], L, rest, rfl, R3, hb, rfl, hx, hi, fun H4 R4 => hcl _ ?_ H4 R4⟩
      unfold mClosing
      rw [hl]
      dsimp only
      rw [if_pos (of_decide_eq_true hd)]
    · have R3 := R2.grow e3
      refine ⟨_, rfl, r, dx, _, rfl, R3.ins, rdF_no_take_mirrored _ _ _ _ _ _ _ _ _ _, ?_⟩
      refine (ea_cons (ev_var rfl) (ea_cons (ev_is (ev_op (ev_var rfl) ev_c (rv_eq rfl)) (w := .bl (decide (byte = 93))) (congrArg V.bl (decide_eq_decide.mpr (by simp; omega)))) ea_nil)) H3 (Ex.refl H3) _ fun H4 e4 => ?_
      refine ⟨H0, r, tx, b, _, I, [], dx, lv, ad', d, [], L, rest, _, rfl, R3.grow e4, rfl, hx, hi, hn, fun H5 R5 => hcl _ ?_ H5 R5⟩
      unfold mClosing
      rw [hl]
      dsimp only
      rw [if_neg (of_decide_eq_false hd)]
end
end Kt

/-! # The program's reading, step by step, against the specification's -/
namespace Kt
open Vbktaf (Ex size unroll depth joined isLetter isDigit number closing)
def mByte (b : List Nat) (S : RS) : RS := match S.lvs with
  | [] => S
  | L :: _ =>
    if isLetter (b.getD S.pl 0) = true then mLetter b (b.getD S.pl 0 - 97) S
    else match closeV ((b.getD S.pl 0 : Nat) : Int) with
      | some z => mOpening z S
      | none => if 0 < L.n ∧ ((b.getD S.pl 0 : Nat) : Int) = L.c then mClosing b (b.getD S.pl 0) S else mFail S 1 S.pl
def mEnd (b : List Nat) (S : RS) : RS := match S.lvs with
  | [L] => if L.n = 0 then mFail S 1 b.length else if 40 < L.n then mFail S 3 b.length else S
  | _ => mFail S 1 b.length
/-! ## numbers -/
theorem fold_digs : ∀ (d : List Nat) (n : Nat), (d.map fun c => c - 48).foldl (fun n c => n * 10 + c) n = d.foldl (fun n c => 10 * n + (c - 48)) n
  | [], _ => rfl
  | c :: r, n => by
    rw [List.map_cons, List.foldl_cons, List.foldl_cons, Nat.mul_comm n 10]
    exact fold_digs r _
theorem head_digs (d : List Nat) (h : ∀ x ∈ d, isDigit x = true) : (d.map fun c => c - 48).head? = some 0 ↔ d.head? = some 48 := by
  cases d with
  | nil => simp
  | cons c r =>
    have hc := h c (by simp)
    unfold isDigit at hc
    simp only [Bool.and_eq_true, decide_eq_true_eq] at hc
    simp
    omega
theorem digs_length (b : List Nat) : (digs b).length = (b.takeWhile isDigit).length := by
  unfold digs
  rw [List.length_map]
theorem num_none {a : Nat} {b : List Nat} (h : (b.head?.any isDigit) = false) : number a b = .error (1, a) := by
  have : b.takeWhile isDigit = [] := by
    cases b with
    | nil => rfl
    | cons c r =>
      have hc : isDigit c = false := h
      rw [List.takeWhile_cons, if_neg (by rw [hc]; decide)]
  unfold number
  rw [this]
  rfl
theorem num_some {a : Nat} {b : List Nat} (h : (b.head?.any isDigit) = true) : number a b = if numOf (digs b) = 0 then .error (2, a) else .ok (numOf (digs b), a + (digs b).length, b.drop (digs b).length) := by
  have hne : (b.takeWhile isDigit).isEmpty = false := by
    cases b with
    | nil => cases h
    | cons c r =>
      have hc : isDigit c = true := h
      rw [List.takeWhile_cons, if_pos hc]
      rfl
  have hall : ∀ x ∈ b.takeWhile isDigit, isDigit x = true := fun x hx => List.all_eq_true.mp List.all_takeWhile x hx
  have hh := head_digs _ hall
  have hN : numOf (digs b) = if 2 < (b.takeWhile isDigit).length ∨ (b.takeWhile isDigit).head? = some 48 then 0 else if 2 ≤ (b.takeWhile isDigit).foldl (fun n c => 10 * n + (c - 48)) 0 then (b.takeWhile isDigit).foldl (fun n c => 10 * n + (c - 48)) 0 else 0 := by
    unfold numOf digs
    rw [List.length_map, fold_digs]
    dsimp only
    by_cases c : 2 < (b.takeWhile isDigit).length ∨ (b.takeWhile isDigit).head? = some 48
    · rw [if_pos c, if_pos (by rcases c with c | c; exact Or.inl c; exact Or.inr (hh.mpr c))]
    · rw [if_neg c, if_neg (fun z => c (by rcases z with z | z; exact Or.inl z; exact Or.inr (hh.mp z)))]
  unfold number
  dsimp only
  rw [hne, if_neg (by decide), digs_length]
  by_cases c : 2 < (b.takeWhile isDigit).length ∨ (b.takeWhile isDigit).head? = some 48
  · rw [if_pos c] at hN
    rw [if_pos hN, if_pos (by rcases c with c | c; exact Or.inl c; exact Or.inr (Or.inl c))]
  · rw [if_neg c] at hN
    by_cases c3 : (b.takeWhile isDigit).foldl (fun n c => 10 * n + (c - 48)) 0 < 2
    · rw [if_neg (by omega)] at hN
      rw [if_pos hN, if_pos (Or.inr (Or.inr c3))]
    · rw [if_pos (by omega)] at hN
      rw [if_neg (by rintro (z | z | z); exact c (Or.inl z); exact c (Or.inr z); exact c3 z), if_neg (by rw [hN]; omega), hN]
/-! ## what stands on the levels -/
structure LvRel (L : PL) (p : Int × Option Ex) : Prop where
  c : L.c = p.1
  n : L.n = szO p.2
  xs : szO p.2 ≤ 40 → L.xs = unO p.2
  len : L.xs.length ≤ 40
  pos : ∀ x, p.2 = some x → 1 ≤ size x
def ClOk : List (Int × Option Ex) → Prop
  | [] => False
  | [p] => p.1 = -1
  | p :: q :: r => (p.1 = 41 ∨ p.1 = 62 ∨ p.1 = 93) ∧ ClOk (q :: r)
def sumS (f : Ex → Nat) : List (Int × Option Ex) → Nat
  | [] => 0
  | (_, none) :: r => sumS f r
  | (_, some x) :: r => f x + sumS f r
def dS : List (Int × Option Ex) → Nat
  | [] => 0
  | (_, e) :: r => max (r.length + dpO e) (dS r)
def stk (s : MS) : List (Int × Option Ex) := (s.c, s.e) :: s.us
structure Rel (b : List Nat) (S : RS) (s : MS) : Prop where
  fk : S.fk = 0
  pl : S.pl = s.at_
  rest : s.b = b.drop S.pl
  le_ : S.pl ≤ b.length
  dp : s.us.length ≤ 8
  lvs : PySem.Paired LvRel S.lvs (stk s)
  cl : ClOk (stk s)
  de : S.de = dS (stk s)
  le : S.le = sumS nLet (stk s)
  nu : S.nu = sumS nNum (stk s)
  ro : S.ro = sumS nRnd (stk s)
  ot : S.ot = sumS nOth (stk s)
/-- one part more on a level -/
theorem lvRel_take {L : PL} {c : Int} {e : Option Ex} {x : Ex} {ys : List Nat} (h : LvRel L (c, e)) (hx : 1 ≤ size x) (hy : size x ≤ 40 → ys = unroll x) : LvRel ⟨L.c, L.n + size x, if L.n + size x ≤ 40 then L.xs ++ ys else L.xs⟩ (c, some (joined e x)) := by
  have hs := szO_joined e x
  have hu := unO_joined e x
  have hn : L.n = szO e := h.n
  refine ⟨h.c, by rw [hs, hn], fun q => ?_, ?_, fun z hz => ?_⟩
  · rw [hs] at q
    rw [if_pos (by omega), hu, h.xs (show szO e ≤ 40 by omega), hy (by omega)]
  · dsimp only
    split
    · rename_i q
      rw [List.length_append, h.xs (show szO e ≤ 40 by omega), hy (by omega), unroll_length]
      have : (unO e).length = szO e := by
        cases e with
        | none => rfl
        | some z => exact unroll_length z
      show (unO e).length + size x ≤ 40
      omega
    · exact h.len
  · have : szO (some (joined e x)) = size z := by
      have hz' : joined e x = z := Option.some.inj hz
      rw [← hz']
      rfl
    omega
theorem sumS_joined (f : Ex → Nat) (hf : ∀ a b, f (.seq a b) = f a + f b) (c c' : Int) (e : Option Ex) (x : Ex) (r : List (Int × Option Ex)) : sumS f ((c, some (joined e x)) :: r) = f x + sumS f ((c', e) :: r) := by
  cases e with
  | none => rfl
  | some z =>
    show f (.seq z x) + sumS f r = f x + (f z + sumS f r)
    rw [hf]
    omega
theorem dS_joined (c c' : Int) (e : Option Ex) (x : Ex) (r : List (Int × Option Ex)) : dS ((c, some (joined e x)) :: r) = max (r.length + depth x) (dS ((c', e) :: r)) := by
  show max (r.length + dpO (some (joined e x))) (dS r) = max (r.length + depth x) (max (r.length + dpO e) (dS r))
  rw [dpO_joined]
  omega
/-- what a step gives: a fault, or the next state -/
def StepTo (b : List Nat) (S : RS) : Except Vbktaf.Fault MS → Prop
  | .error k => S.fk = k.1 ∧ S.fp = k.2 ∧ k.1 ≠ 0
  | .ok s => Rel b S s
theorem head_drop {b : List Nat} {pl c : Nat} {r : List Nat} (h : b.drop pl = c :: r) : b.getD pl 0 = c ∧ b.drop (pl + 1) = r ∧ pl < b.length := by
  have hl : pl < b.length := by
    apply Nat.lt_of_not_le
    intro z
    rw [List.drop_eq_nil_of_le z] at h
    cases h
  rw [List.drop_eq_getElem_cons hl] at h
  cases h
  refine ⟨?_, rfl, hl⟩
  rw [List.getD_eq_getElem?_getD, List.getElem?_eq_getElem hl]
  rfl
theorem paired_cons {α β : Type} {F : α → β → Prop} {l : List α} {y : β} {m : List β} (h : PySem.Paired F l (y :: m)) : ∃ x r, l = x :: r ∧ F x y ∧ PySem.Paired F r m := by
  cases h with
  | cons h t => exact ⟨_, _, rfl, h, t⟩
theorem times_rep (n : Nat) (l : List Nat) : Vbktaf.times n l = (List.replicate n l).flatten := by
  unfold Vbktaf.times
  induction n with
  | zero => rfl
  | succ n ih =>
    rw [List.range_succ, List.flatMap_append, ih, List.replicate_succ']
    simp
theorem drop_len {b : List Nat} {pl : Nat} (h : pl ≤ b.length) : (digs (b.drop pl)).length + pl ≤ b.length := by
  rw [digs_length]
  have := (List.takeWhile_prefix (p := isDigit) (l := b.drop pl)).length_le
  rw [List.length_drop] at this
  omega
/-- a letter -/
theorem step_letter {b : List Nat} {S : RS} {s : MS} {c : Nat} {r : List Nat} (R : Rel b S s) (hb : s.b = c :: r) (hc : isLetter c = true) : StepTo b (mLetter b (c - 97) S) (mstep s) := by
  have hd := head_drop (R.rest ▸ hb)
  obtain ⟨L, rest, hl, hL, ht⟩ := paired_cons R.lvs
  have hp := R.pl
  have hdr : b.drop (S.pl + 1) = r := hd.2.1
  unfold mstep
  rw [hb]
  dsimp only
  rw [if_pos hc]
  have hdig : digAt b (S.pl + 1) = r.head?.any isDigit := by
    unfold digAt
    rw [hdr]
  cases hq : r.head?.any isDigit with
  | true =>
    rw [if_pos rfl, num_some hq]
    unfold mLetter
    rw [hdig, hq, if_pos rfl]
    have hna : numAt b (S.pl + 1) = numOf (digs r) := by
      unfold numAt
      rw [hdr]
    by_cases hz : numOf (digs r) = 0
    · rw [if_pos hz]
      dsimp only
      unfold mTake mNumber
      rw [hdr, if_pos hz]
      dsimp only [mFail]
      rw [hl]
      exact ⟨rfl, by rw [hp], show (2 : Nat) ≠ 0 by decide⟩
    · rw [if_neg hz]
      dsimp only
      have n2 : 2 ≤ numOf (digs r) := by
        unfold numOf at hz ⊢
        split at hz
        · exact absurd rfl hz
        · rename_i c1
          rw [if_neg c1]
          dsimp only at hz ⊢
          split at hz
          · rename_i c2
            rw [if_pos c2]
            exact c2
          · exact absurd rfl hz
      have hlen := drop_len (b := b) (pl := S.pl + 1) (by omega)
      rw [hdr] at hlen
      unfold mTake mNumber
      rw [hdr, hna, if_neg hz]
      dsimp only
      rw [hl]
      have hx := lvRel_take (x := .run (c - 97) (numOf (digs r))) (ys := List.replicate (numOf (digs r)) (c - 97)) hL (by show 1 ≤ numOf (digs r); omega) (fun _ => rfl)
      refine ⟨R.fk, by show S.pl + 1 + _ = _; rw [hp], ?_, by show S.pl + 1 + _ ≤ _; omega, R.dp, .cons hx ht, ?_, ?_, ?_, ?_, ?_, ?_⟩
      · show r.drop (digs r).length = b.drop (S.pl + 1 + (digs r).length)
        rw [← List.drop_drop, hdr]
      · have := R.cl
        unfold stk at this ⊢
        cases hu : s.us with
        | nil =>
          rw [hu] at this
          exact this
        | cons q w =>
          rw [hu] at this
          exact this
      · show S.de = dS ((s.c, some (joined s.e _)) :: s.us)
        rw [dS_joined s.c s.c, R.de]
        show dS (stk s) = max (s.us.length + 0) (dS (stk s))
        unfold stk dS
        omega
      · show S.le + 1 = sumS nLet ((s.c, some (joined s.e _)) :: s.us)
        rw [sumS_joined nLet (fun _ _ => rfl) s.c s.c, R.le]
        show _ = 1 + sumS nLet (stk s)
        omega
      · show S.nu + 1 = sumS nNum ((s.c, some (joined s.e _)) :: s.us)
        rw [sumS_joined nNum (fun _ _ => rfl) s.c s.c, R.nu]
        show _ = (if numOf (digs r) = 1 then 0 else 1) + sumS nNum (stk s)
        rw [if_neg (by omega)]
        omega
      · show S.ro = sumS nRnd ((s.c, some (joined s.e _)) :: s.us)
        rw [sumS_joined nRnd (fun _ _ => rfl) s.c s.c, R.ro]
        show _ = 0 + sumS nRnd (stk s)
        omega
      · show S.ot = sumS nOth ((s.c, some (joined s.e _)) :: s.us)
        rw [sumS_joined nOth (fun _ _ => rfl) s.c s.c, R.ot]
        show _ = 0 + sumS nOth (stk s)
        omega
  | false =>
    rw [if_neg (by decide)]
    unfold mLetter
    rw [hdig, hq, if_neg (by decide)]
    unfold mTake
    dsimp only
    rw [hl]
    have hx := lvRel_take (x := .run (c - 97) 1) (ys := [c - 97]) hL (by show 1 ≤ 1; omega) (fun _ => rfl)
    refine ⟨R.fk, by show S.pl + 1 = _; rw [hp], hdr.symm, by show S.pl + 1 ≤ _; omega, R.dp, .cons hx ht, ?_, ?_, ?_, ?_, ?_, ?_⟩
    · have := R.cl
      unfold stk at this ⊢
      cases hu : s.us with
      | nil =>
        rw [hu] at this
        exact this
      | cons q w =>
        rw [hu] at this
        exact this
    · show S.de = dS ((s.c, some (joined s.e _)) :: s.us)
      rw [dS_joined s.c s.c, R.de]
      show dS (stk s) = max (s.us.length + 0) (dS (stk s))
      unfold stk dS
      omega
    · show S.le + 1 = sumS nLet ((s.c, some (joined s.e _)) :: s.us)
      rw [sumS_joined nLet (fun _ _ => rfl) s.c s.c, R.le]
      show _ = 1 + sumS nLet (stk s)
      omega
    · show S.nu = sumS nNum ((s.c, some (joined s.e _)) :: s.us)
      rw [sumS_joined nNum (fun _ _ => rfl) s.c s.c, R.nu]
      show _ = 0 + sumS nNum (stk s)
      omega
    · show S.ro = sumS nRnd ((s.c, some (joined s.e _)) :: s.us)
      rw [sumS_joined nRnd (fun _ _ => rfl) s.c s.c, R.ro]
      show _ = 0 + sumS nRnd (stk s)
      omega
    · show S.ot = sumS nOth ((s.c, some (joined s.e _)) :: s.us)
      rw [sumS_joined nOth (fun _ _ => rfl) s.c s.c, R.ot]
      show _ = 0 + sumS nOth (stk s)
      omega
/-- an opening bracket -/
theorem step_open {b : List Nat} {S : RS} {s : MS} {c : Nat} {r : List Nat} (R : Rel b S s) (hb : s.b = c :: r) (hc : isLetter c = false) (h3 : c = 40 ∨ c = 60 ∨ c = 91) : StepTo b (mOpening ((closing c : Nat) : Int) S) (mstep s) := by
  have hd := head_drop (R.rest ▸ hb)
  have hp := R.pl
  have hlen := paired_length R.lvs
  have hsl : (stk s).length = s.us.length + 1 := by simp [stk]
  unfold mstep
  rw [hb]
  dsimp only
  rw [if_neg (by rw [hc]; decide), if_pos h3]
  unfold mOpening
  by_cases c8 : 8 ≤ s.us.length
  · rw [if_pos c8, if_pos (by omega)]
    exact ⟨rfl, hp, show (4 : Nat) ≠ 0 by decide⟩
  · rw [if_neg c8, if_neg (by omega)]
    refine ⟨R.fk, by show S.pl + 1 = _; rw [hp], hd.2.1.symm, by show S.pl + 1 ≤ _; omega, by show s.us.length + 1 ≤ 8; omega, .cons ⟨rfl, rfl, fun _ => rfl, by simp, fun x z => nomatch z⟩ R.lvs, ⟨?_, R.cl⟩, ?_, ?_, ?_, ?_, ?_⟩
    · show ((closing c : Nat) : Int) = 41 ∨ ((closing c : Nat) : Int) = 62 ∨ ((closing c : Nat) : Int) = 93
      rcases h3 with z | z | z
      · subst z; exact Or.inl rfl
      · subst z; exact Or.inr (Or.inl rfl)
      · subst z; exact Or.inr (Or.inr rfl)
    · show max S.de S.lvs.length = dS ((_, none) :: stk s)
      rw [R.de]
      show _ = max ((stk s).length + 0) (dS (stk s))
      omega
    · exact R.le
    · exact R.nu
    · exact R.ro
    · exact R.ot
theorem sz_ge {e : Option Ex} {c : Int} {L : PL} (h : LvRel L (c, e)) (hn : 0 < L.n) : ∃ x, e = some x := by
  cases e with
  | none =>
    have := h.n
    simp [szO] at this
    omega
  | some x => exact ⟨x, rfl⟩
/-- a closing bracket -/
theorem step_close {b : List Nat} {S : RS} {s : MS} {c : Nat} {r : List Nat} {L : PL} {rest : List PL} (R : Rel b S s) (hb : s.b = c :: r) (hc : isLetter c = false) (h3 : ¬ (c = 40 ∨ c = 60 ∨ c = 91)) (hl : S.lvs = L :: rest) (hn : 0 < L.n) (hcl : (c : Int) = L.c) :
    StepTo b (mClosing b c S) (mstep s) ∧ ∃ L2 rest2, rest = L2 :: rest2 ∧ L2.xs.length ≤ 40 ∧ L.xs.length ≤ 40 := by
  have hd := head_drop (R.rest ▸ hb)
  have hp := R.pl
  have hlv := R.lvs
  rw [hl] at hlv
  obtain ⟨L', rest', e', hL, ht⟩ := paired_cons hlv
  cases e'
  obtain ⟨x, hx⟩ := sz_ge hL hn
  have hLc : L.c = s.c := hL.c
  cases hu : s.us with
  | nil =>
    have := R.cl
    unfold stk at this
    rw [hu] at this
    have h1 : s.c = -1 := this
    omega
  | cons q us =>
    obtain ⟨c0, e0⟩ := q
    rw [hu] at ht
    obtain ⟨L2, rest2, e2, hL2, ht2⟩ := paired_cons ht
    subst e2
    refine ⟨?_, L2, rest2, rfl, hL2.len, hL.len⟩
    have hdr : b.drop (S.pl + 1) = r := hd.2.1
    have hdp : us.length ≤ 8 := by
      have := R.dp
      rw [hu] at this
      simp at this
      omega
    have hcl2 : ClOk ((c0, e0) :: us) := by
      have := R.cl
      unfold stk at this
      rw [hu] at this
      exact this.2
    have hpos : 1 ≤ size x := hL.pos x hx
    have hLn : L.n = size x := by
      have := hL.n
      rw [hx] at this
      exact this
    have hLx : size x ≤ 40 → L.xs = unroll x := fun q => by
      have := hL.xs (by rw [hx]; exact q)
      rw [hx] at this
      exact this
    have hde : S.de = max (us.length + 1 + depth x) (dS ((c0, e0) :: us)) := by
      rw [R.de]
      unfold stk
      rw [hu, hx]
      rfl
    have hsum : ∀ f, sumS f (stk s) = f x + sumS f ((c0, e0) :: us) := fun f => by
      unfold stk
      rw [hu, hx]
      rfl
    unfold mstep
    rw [hb]
    dsimp only
    rw [if_neg (by rw [hc]; decide), if_neg h3, hx, hu]
    dsimp only
    rw [if_pos (by rw [hcl, hLc])]
    unfold mClosing
    rw [hl]
    dsimp only
    by_cases c41 : c = 41
    · rw [if_pos c41, if_pos c41]
      unfold mRepeat
      dsimp only
      have hdig : digAt b (S.pl + 1) = r.head?.any isDigit := by
        unfold digAt
        rw [hdr]
      rw [hdig]
      cases hq : r.head?.any isDigit with
      | false =>
        rw [if_neg (by decide), num_none hq]
        exact ⟨rfl, by show S.pl + 1 = s.at_ + 1; rw [hp], show (1 : Nat) ≠ 0 by decide⟩
      | true =>
        rw [if_pos rfl, num_some hq]
        have hna : numAt b (S.pl + 1) = numOf (digs r) := by
          unfold numAt
          rw [hdr]
        by_cases hz : numOf (digs r) = 0
        · rw [if_pos hz]
          dsimp only
          unfold mTake mNumber
          dsimp only
          rw [hdr, if_pos hz]
          exact ⟨rfl, by show S.pl + 1 = s.at_ + 1; rw [hp], show (2 : Nat) ≠ 0 by decide⟩
        · rw [if_neg hz]
          dsimp only
          have hlen := drop_len (b := b) (pl := S.pl + 1) (by omega)
          rw [hdr] at hlen
          unfold mTake mNumber
          dsimp only
          rw [hdr, hna, if_neg hz]
          dsimp only
          have hsz : size (.group x (numOf (digs r))) = L.n * numOf (digs r) := by
            show numOf (digs r) * size x = _
            rw [hLn, Nat.mul_comm]
          have hg := lvRel_take (x := .group x (numOf (digs r))) (ys := (List.replicate (numOf (digs r)) L.xs).flatten) hL2 (by
            show 1 ≤ numOf (digs r) * size x
            exact Nat.le_trans (by decide) (Nat.mul_le_mul (show 1 ≤ numOf (digs r) by omega) hpos)) (fun hq40 => by
            show _ = Vbktaf.times (numOf (digs r)) (unroll x)
            rw [times_rep, hLx]
            have : size x ≤ numOf (digs r) * size x := Nat.le_mul_of_pos_left _ (by omega)
            exact Nat.le_trans this hq40)
          rw [hsz] at hg
          refine ⟨R.fk, by show S.pl + 1 + _ = _; rw [hp], ?_, by show S.pl + 1 + _ ≤ _; omega, hdp, .cons hg ht2, ?_, ?_, ?_, ?_, ?_, ?_⟩
          · show r.drop (digs r).length = b.drop (S.pl + 1 + (digs r).length)
            rw [← List.drop_drop, hdr]
          · show ClOk ((c0, some (joined e0 _)) :: us)
            cases us with
            | nil => exact hcl2
            | cons q w => exact hcl2
          · show S.de = dS ((c0, some (joined e0 _)) :: us)
            rw [dS_joined c0 c0, hde]
            show _ = max (us.length + (depth x + 1)) _
            omega
          · show S.le = sumS nLet ((c0, some (joined e0 _)) :: us)
            rw [sumS_joined nLet (fun _ _ => rfl) c0 c0, R.le, hsum]
            rfl
          · show S.nu + 1 = sumS nNum ((c0, some (joined e0 _)) :: us)
            rw [sumS_joined nNum (fun _ _ => rfl) c0 c0, R.nu, hsum]
            show _ = nNum x + 1 + _
            omega
          · show S.ro + 1 = sumS nRnd ((c0, some (joined e0 _)) :: us)
            rw [sumS_joined nRnd (fun _ _ => rfl) c0 c0, R.ro, hsum]
            show _ = nRnd x + 1 + _
            omega
          · show S.ot = sumS nOth ((c0, some (joined e0 _)) :: us)
            rw [sumS_joined nOth (fun _ _ => rfl) c0 c0, R.ot, hsum]
            rfl
    · rw [if_neg c41, if_neg c41]
      unfold mMirrored mTake
      dsimp only
      have hodd : (c == 93) = decide (c = 93) := by
        by_cases z : c = 93 <;> simp [z]
      have hsz : size (.mirror (c == 93) x) = L.n * 2 - (if decide (c = 93) = true then 1 else 0) := by
        show (if (c == 93) = true then 2 * size x - 1 else 2 * size x) = _
        rw [hodd, hLn]
        split <;> omega
      have hg := lvRel_take (x := .mirror (c == 93) x) (ys := L.xs ++ L.xs.reverse.drop (if decide (c = 93) = true then 1 else 0)) hL2 (by
        rw [hsz, hLn]
        split <;> omega) (fun hq40 => by
        rw [hsz, hLn] at hq40
        have h40 : size x ≤ 40 := by
          split at hq40 <;> omega
        show _ = unroll x ++ (if (c == 93) = true then (unroll x).reverse.drop 1 else (unroll x).reverse)
        rw [hLx h40, hodd]
        split <;> rfl)
      rw [hsz] at hg
      refine ⟨R.fk, by show S.pl + 1 = _; rw [hp], hdr.symm, by show S.pl + 1 ≤ _; omega, hdp, .cons hg ht2, ?_, ?_, ?_, ?_, ?_, ?_⟩
      · show ClOk ((c0, some (joined e0 _)) :: us)
        cases us with
        | nil => exact hcl2
        | cons q w => exact hcl2
      · show S.de = dS ((c0, some (joined e0 _)) :: us)
        rw [dS_joined c0 c0, hde]
        show _ = max (us.length + (depth x + 1)) _
        omega
      · show S.le = sumS nLet ((c0, some (joined e0 _)) :: us)
        rw [sumS_joined nLet (fun _ _ => rfl) c0 c0, R.le, hsum]
        rfl
      · show S.nu = sumS nNum ((c0, some (joined e0 _)) :: us)
        rw [sumS_joined nNum (fun _ _ => rfl) c0 c0, R.nu, hsum]
        rfl
      · show S.ro = sumS nRnd ((c0, some (joined e0 _)) :: us)
        rw [sumS_joined nRnd (fun _ _ => rfl) c0 c0, R.ro, hsum]
        rfl
      · show S.ot + 1 = sumS nOth ((c0, some (joined e0 _)) :: us)
        rw [sumS_joined nOth (fun _ _ => rfl) c0 c0, R.ot, hsum]
        show _ = nOth x + 1 + _
        omega
/-- any other byte -/
theorem step_bad {b : List Nat} {S : RS} {s : MS} {c : Nat} {r : List Nat} {L : PL} {rest : List PL} (R : Rel b S s) (hb : s.b = c :: r) (hc : isLetter c = false) (h3 : ¬ (c = 40 ∨ c = 60 ∨ c = 91)) (hl : S.lvs = L :: rest) (hn : ¬ (0 < L.n ∧ (c : Int) = L.c)) : StepTo b (mFail S 1 S.pl) (mstep s) := by
  have hlv := R.lvs
  rw [hl] at hlv
  obtain ⟨L', rest', e', hL, ht⟩ := paired_cons hlv
  cases e'
  have hp := R.pl
  have fail : StepTo b (mFail S 1 S.pl) (.error (1, s.at_)) := ⟨rfl, hp, show (1 : Nat) ≠ 0 by decide⟩
  unfold mstep
  rw [hb]
  dsimp only
  rw [if_neg (by rw [hc]; decide), if_neg h3]
  split
  · rename_i x c0 e0 us hx hu
    rw [if_neg]
    · exact fail
    · intro z
      apply hn
      have h1 : L.n = size x := by
        have := hL.n
        rw [hx] at this
        exact this
      have h2 := hL.pos x hx
      exact ⟨by omega, by rw [z]; exact hL.c.symm⟩
  · exact fail
/-- the end -/
theorem end_rel {b : List Nat} {S : RS} {s : MS} (R : Rel b S s) (hb : s.b = []) : match mend s with
    | .error k => (mEnd b S).fk = k.1 ∧ (mEnd b S).fp = k.2 ∧ k.1 ≠ 0
    | .ok x => (mEnd b S) = S ∧ S.lvs = [⟨-1, size x, unroll x⟩] ∧ S.de = depth x ∧ S.le = nLet x ∧ S.nu = nNum x ∧ S.ro = nRnd x ∧ S.ot = nOth x := by
  have hpl : S.pl = b.length := by
    have := R.rest
    rw [hb] at this
    have h1 := congrArg List.length this
    rw [List.length_drop] at h1
    have := R.le_
    simp at h1
    omega
  have hat : s.at_ = b.length := by
    rw [← R.pl]
    exact hpl
  obtain ⟨L, rest, hl, hL, ht⟩ := paired_cons R.lvs
  unfold mend mEnd
  rw [hl]
  cases hu : s.us with
  | nil =>
    rw [hu] at ht
    cases ht
    dsimp only
    cases hx : s.e with
    | none =>
      have hn : L.n = 0 := by
        have := hL.n
        rw [hx] at this
        exact this
      rw [if_pos hn]
      exact ⟨rfl, hat.symm, show (1 : Nat) ≠ 0 by decide⟩
    | some x =>
      have hn : L.n = size x := by
        have := hL.n
        rw [hx] at this
        exact this
      have hp1 := hL.pos x hx
      dsimp only
      rw [if_neg (show ¬ L.n = 0 by omega)]
      by_cases c40 : Vbktaf.LONG < size x
      · rw [if_pos c40, if_pos (by rw [hn]; exact c40)]
        exact ⟨rfl, hat.symm, show (3 : Nat) ≠ 0 by decide⟩
      · rw [if_neg c40, if_neg (by rw [hn]; exact c40)]
        have h40 : size x ≤ 40 := Nat.le_of_not_lt c40
        have hcl := R.cl
        have hde := R.de
        have h1 := R.le
        have h2 := R.nu
        have h3 := R.ro
        have h4 := R.ot
        unfold stk at hcl hde h1 h2 h3 h4
        rw [hu, hx] at hcl hde h1 h2 h3 h4
        refine ⟨rfl, ?_, ?_, by simpa [sumS] using h1, by simpa [sumS] using h2, by simpa [sumS] using h3, by simpa [sumS] using h4⟩
        · have e1 : L.c = -1 := hL.c.trans hcl
          have e2 : L.xs = unroll x := by
            have := hL.xs (by rw [hx]; exact h40)
            rw [hx] at this
            exact this
          cases L
          dsimp only at e1 e2 hn
          rw [e1, e2, hn]
        · rw [hde]
          show max (0 + depth x) 0 = depth x
          omega
  | cons q us =>
    rw [hu] at ht
    obtain ⟨L2, rest2, e2, _, _⟩ := paired_cons ht
    subst e2
    dsimp only
    exact ⟨rfl, hat.symm, show (1 : Nat) ≠ 0 by decide⟩
theorem rel_start (b : List Nat) : Rel b ⟨0, 0, 0, 0, 0, 0, 0, 0, [⟨-1, 0, []⟩]⟩ (ms0 b) :=
  ⟨rfl, rfl, rfl, Nat.zero_le _, Nat.zero_le _, .cons ⟨rfl, rfl, fun _ => rfl, by simp, fun x z => nomatch z⟩ .nil, rfl, rfl, rfl, rfl, rfl, rfl⟩
end Kt

/-! # A text that is being read: a byte, the end, the whole text -/
namespace Kt
open PySem PySem.Spec PyProof.Rows L2 Evl
section
variable {P : Program} {w : World} {K : PySem.W.Frag} {mg : Str → Option Value} {base : Heap} {CR CL : Addr}
/-- Reading.take_end -/
def sp_take_end (K : PySem.W.Frag) (CR CL : Addr) : Sp := fun vs H Q _ => ∃ (H0 : Hp) (r tx : Addr) (b : List Nat) (S : RS) (ex : List PL) (dx lv : Addr) (ad ea : List AD), vs = [.ref r] ∧ RdOk K CR CL H0 H r tx b S ex dx lv ad ea ∧ S.lvs ≠ [] ∧ RdTo K CR CL H0 r tx b (mEnd b S) ex dx lv ad ea .non Q
theorem sc_Reading_take_end : FnScope ["self"] ["self"] (C8.fnScope s_Reading_take_end) := C8.fnScope_by (by decide +kernel)
theorem met_take_end (D : MF K CR "take_end" "Reading.take_end" s_Reading_take_end) (T : Tx K mg) (TR : RTx K CR) (TL : LTx K CL) (c_Reading_fail : C8.Met P w K mg base 1 CR "fail" (sp_fail K CR CL) []) : C8.Met P w K mg base 2 CR "take_end" (sp_take_end K CR CL) [] := by
  refine met_by D sc_Reading_take_end (fun _ _ _ _ _ _ us hl => match us, hl with | [_], _ => rfl) (fun vs H Q E h => ?_) (fun f cdv A outer s H vs Q E hr h => ?_)
  · obtain ⟨H0, r, tx, b, S, ex, dx, lv, ad, ea, rfl, _⟩ := h
    rfl
  · obtain ⟨H0, r, tx, b, S, ex, dx, lv, ad, ea, rfl, R, hne, k⟩ := h
    refine ⟨_, (pss_one (ps_if (PW.pt (pw_or (pt_cmpR op_gt (pe_callB call_len_seq (by rfl) T.b_len PySem.boot_len (pa_cons (pe_fld (pv 0) rfl) pa_nil)) pe_int (nomark _)) (pw_or1 (pt_cmpR op_eq (pe_fld (pe_ix ix_list (pe_fld (pv 0) rfl) pe_int (fun _ _ => rfl)) rfl) pe_int (nomark _))))) (pss_one (ps_expr (C8.pe_mt c_Reading_fail hr (by decide) (pv 0) (pa_cons (C8.pe_gc rfl T.g_WRONG_BYTE) (pa_cons (pe_callB call_len_seq (by rfl) T.b_len PySem.boot_len (pa_cons (pe_fld (pv 0) rfl) pa_nil)) pa_nil))))) (pss_one (ps_if (pt_cmpR op_gt (pe_fld (pe_ix ix_list (pe_fld (pv 0) rfl) pe_int (fun _ _ => rfl)) rfl) (C8.pe_gc rfl T.g_MOST_STITCHES) (nomark _)) (pss_one (ps_expr (C8.pe_mt c_Reading_fail hr (by decide) (pv 0) (pa_cons (C8.pe_gc rfl T.g_TOO_LONG) (pa_cons (pe_callB call_len_seq (by rfl) T.b_len PySem.boot_len (pa_cons (pe_fld (pv 0) rfl) pa_nil)) pa_nil))))) pss_nil)))), ?_⟩
    have hal : ad.length = S.lvs.length := paired_length R.lvs
    have hll : EvT (tTest (tOp (rI0 fun i j => .bl (decide (j < i))) (tCB (rLenS K) (tCons (tFld K (tVar 0) "levels") tNil)) (tC (.int 1)))) [some (.ref r)] H (decide (1 < S.lvs.length)) :=
      et_test (ev_is (ev_op (ev_len (ev_fld (ev_var rfl) R.ins TR.cl TR.nL (rdF_levels _ _ _ _ _ _ _ _ _ _)) (sq_of R.lvl)) ev_c rv_I0) (by rw [List.length_map, List.length_reverse, hal]; exact congrArg V.bl (decide_eq_decide.mpr (by omega))))
    have fail : ∀ (kd : Nat) (H1 : Hp), Ex H H1 → mEnd b S = mFail S kd b.length → ∀ (tk : TE), (∀ H', Ev tk [some (.ref r)] H' (.int (kd : Int))) → tDrop (tMeth CR "fail" (sp_fail K CR CL) [] E0 (tVar 0) (tCons tk (tCons (tCB (rLenS K) (tCons (tFld K (tVar 0) "text") tNil)) tNil))) { nx := fun _ H' => Q .non H', rt := Q } [some (.ref r)] H1 := fun kd H1 e1 hm tk htk => by
      have R1 := R.grow e1
      refine ⟨_, rfl, r, dx, _, rfl, R1.ins, rdF_no_fail _ _ _ _ _ _ _ _ _ _, ?_⟩
      refine (ea_cons (htk H1) (ea_cons (ev_is (ev_len (ev_fld (ev_var rfl) R1.ins TR.cl TR.nT (rdF_text _ _ _ _ _ _ _ _ _ _)) (ex_l R1.e R1.txt)) (w := .int (b.length : Int)) (by rw [List.length_map])) ea_nil)) H1 (Ex.refl H1) _ fun H2 e2 => ⟨H0, r, tx, b, S, ex, dx, lv, ad, ea, kd, b.length, rfl, R1.grow e2, fun H3 _ R3 => k H3 ?_⟩
      rw [hm]
      exact R3
    cases hl : S.lvs with
    | nil => exact absurd hl hne
    | cons L rest =>
      obtain ⟨d, ad', rfl⟩ := R.ad_cons hl
      cases rest with
      | nil =>
        have hlv := R.lvs
        rw [hl] at hlv
        cases hlv with
        | cons hd ht =>
          cases ht
          have h0 : ∀ H1, Ex H H1 → Ev (tFld K (tOp (rIxL K) (tFld K (tVar 0) "levels") (tC (.int 0))) "length") [some (.ref r)] H1 (.int (L.n : Int)) := fun H1 e1 =>
            ev_fld (ev_ixL (ev_fld (ev_var rfl) (e1 _ _ R.ins) TR.cl TR.nL (rdF_levels _ _ _ _ _ _ _ _ _ _)) ev_c (sq_of (e1 _ _ R.lvl)) (atI_nat (j := 0) rfl)) (e1 _ _ hd.1) TL.cl TL.nN (lvF_length _ _ _)
          rw [hl] at hll
          refine s_if (b := decide (1 < [L].length) || decide (L.n = 0)) (et_or hll fun _ => et_test (ev_is (ev_op (h0 H (Ex.refl H)) ev_c (rv_eq rfl)) (congrArg V.bl (decide_eq_decide.mpr (by simp))))) (fun hb H1 e1 => ?_) (fun hb H1 e1 => ?_)
          · refine fail 1 H1 e1 ?_ _ (fun _ => ev_c)
            unfold mEnd
            rw [hl]
            dsimp only
            rw [if_pos (by simpa using hb)]
          · have hb' : ¬ L.n = 0 := by simpa using hb
            refine s_when (b := decide (40 < L.n)) (et_test (ev_is (ev_op (h0 H1 e1) ev_c rv_I0) (congrArg V.bl (decide_eq_decide.mpr (by omega))))) (fun hc H2 e2 => ?_) (fun hc H2 e2 => ?_)
            · refine fail 3 H2 (e1.trans e2) ?_ _ (fun _ => ev_c)
              unfold mEnd
              rw [hl]
              dsimp only
              rw [if_neg hb', if_pos (of_decide_eq_true hc)]
            · refine k H2 ?_
              unfold mEnd
              rw [hl]
              dsimp only
              rw [if_neg hb', if_neg (of_decide_eq_false hc)]
              exact R.grow (e1.trans e2)
      | cons L2 rest2 =>
        have h1 : decide (1 < S.lvs.length) = true := by
          rw [hl]
          simp
        rw [h1] at hll
        refine s_if (b := true || false) (et_or hll fun z => nomatch z) (fun hb H1 e1 => ?_) (fun z => nomatch z)
        refine fail 1 H1 e1 ?_ _ (fun _ => ev_c)
        unfold mEnd
        rw [hl]
/-- Reading.take_byte -/
def sp_take_byte (K : PySem.W.Frag) (CR CL : Addr) : Sp := fun vs H Q _ => ∃ (H0 : Hp) (r tx : Addr) (b : List Nat) (S : RS) (s : MS) (dx lv : Addr) (ad : List AD), vs = [.ref r] ∧ RdOk K CR CL H0 H r tx b S [] dx lv ad [] ∧ b.length ≤ 1000 ∧ Rel b S s ∧ s.b ≠ [] ∧ ∀ H' S' ad', RdOk K CR CL H0 H' r tx b S' [] dx lv ad' [] → StepTo b S' (mstep s) → Q .non H'
theorem closeV_nat {c : Nat} : closeV (c : Int) = if c = 40 ∨ c = 60 ∨ c = 91 then some ((Vbktaf.closing c : Nat) : Int) else none := by
  unfold closeV Vbktaf.closing
  by_cases h1 : c = 40
  · subst h1; rfl
  · by_cases h2 : c = 60
    · subst h2; rfl
    · by_cases h3 : c = 91
      · subst h3; rfl
      · rw [if_neg (by omega), if_neg (by omega), if_neg (by omega), if_neg (by omega)]
theorem us_small {b : List Nat} {S : RS} {s : MS} {L : PL} {rest : List PL} (R : Rel b S s) (hl : S.lvs = L :: rest) : L.xs.length ≤ 40 := by
  have := R.lvs
  rw [hl] at this
  obtain ⟨_, _, e, h, _⟩ := paired_cons this
  cases e
  exact h.len
theorem sc_Reading_take_byte : FnScope ["self", "byte", "level"] ["self"] (C8.fnScope s_Reading_take_byte) := C8.fnScope_by (by decide +kernel)
theorem met_take_byte {aC : Addr} (D : MF K CR "take_byte" "Reading.take_byte" s_Reading_take_byte) (T : Tx K mg) (TC : (∃ u, mg "CLOSINGS" = some u ∧ L2.RelV (.ref aC) u) ∧ CD K aC) (TR : RTx K CR) (TL : LTx K CL) (c_is_letter : C8.Cal P w K mg base 1 "is_letter" sp_is_letter []) (c_Reading_take_letter : C8.Met P w K mg base 4 CR "take_letter" (sp_take_letter K CR CL) [])
    (c_Reading_take_opening : C8.Met P w K mg base 3 CR "take_opening" (sp_take_opening K CR CL) []) (c_Reading_take_closing : C8.Met P w K mg base 5 CR "take_closing" (sp_take_closing K CR CL) []) (c_Reading_fail : C8.Met P w K mg base 1 CR "fail" (sp_fail K CR CL) []) : C8.Met P w K mg base 6 CR "take_byte" (sp_take_byte K CR CL) [] := by
  refine met_by D sc_Reading_take_byte (fun _ _ _ _ _ _ us hl => match us, hl with | [_], _ => rfl) (fun vs H Q E h => ?_) (fun f cdv A outer s H vs Q E hr h => ?_)
  · obtain ⟨H0, r, tx, b, S, ms, dx, lv, ad, rfl, _⟩ := h
    rfl
  · obtain ⟨H0, r, tx, b, S, ms, dx, lv, ad, rfl, R, hb, RL, hne, k⟩ := h
    refine ⟨_, (pss_cons (ps_set (i := 1) sc_Reading_take_byte.nd rfl (Or.inl rfl) (pe_ix ix_list (pe_fld (pv 0) rfl) (pe_fld (pv 0) rfl) (fun _ _ => rfl))) (pss_cons (ps_set (i := 2) sc_Reading_take_byte.nd rfl (Or.inl rfl) (pe_ix ix_list (pe_fld (pv 0) rfl) (pe_un un_neg pe_int) (fun _ _ => rfl))) (pss_one (ps_if (pt_val (C8.pe_c c_is_letter hr (by decide) rfl (pa_cons (pv 1) pa_nil))) (pss_one (ps_expr (C8.pe_mt c_Reading_take_letter hr (by decide) (pv 0) (pa_cons (pe_op op_sub (pv 1) (C8.pe_gc rfl T.g_LETTER_A)) pa_nil)))) (pss_one (ps_if (pt_cmpR Kt.op_inC (pv 1) (C8.pe_gc rfl TC.1) (by with_unfolding_all rfl)) (pss_one (ps_expr (C8.pe_mt c_Reading_take_opening hr (by decide) (pv 0) (pa_cons (pe_ix Kt.ix_C (C8.pe_gc rfl TC.1) (pv 1) (fun _ _ => rfl)) pa_nil)))) (pss_one (ps_if (PW.pt (pw_and (pt_cmpR op_gt (pe_fld (pv 2) rfl) pe_int (nomark _)) (pw_and1 (pt_cmpR op_eq (pv 1) (pe_fld (pv 2) rfl) (nomark _))))) (pss_one (ps_expr (C8.pe_mt c_Reading_take_closing hr (by decide) (pv 0) (pa_cons (pv 1) pa_nil)))) (pss_one (ps_expr (C8.pe_mt c_Reading_fail hr (by decide) (pv 0) (pa_cons (C8.pe_gc rfl T.g_WRONG_BYTE) (pa_cons (pe_fld (pv 0) rfl) pa_nil))))))))))))), ?_⟩
    obtain ⟨c, rs, hcr⟩ : ∃ c rs, ms.b = c :: rs := by
      cases hm : ms.b with
      | nil => exact absurd hm hne
      | cons c rs => exact ⟨c, rs, rfl⟩
    have hd := head_drop (RL.rest ▸ hcr)
    have hget : b[S.pl]? = some c := by
      have h1 := hd.1
      rw [List.getD_eq_getElem?_getD, List.getElem?_eq_getElem hd.2.2] at h1
      rw [List.getElem?_eq_getElem hd.2.2]
      exact congrArg some h1
    obtain ⟨L, rest, hl, hLr, hlt⟩ := paired_cons RL.lvs
    obtain ⟨d, ad', rfl⟩ := R.ad_cons hl
    -- byte, level
    refine q_asg (v := .int (c : Int)) (ev_ixL (ev_fld (ev_var rfl) R.ins TR.cl TR.nT (rdF_text _ _ _ _ _ _ _ _ _ _)) (ev_fld (ev_var rfl) R.ins TR.cl TR.nP (rdF_place _ _ _ _ _ _ _ _ _ _)) (ex_l R.e R.txt) (atI_nat (nv_get hget))) fun H1 e1 => ?_
    have R1 := R.grow e1
    refine q_asg (v := .ref d.1) (ev_last TR R1 rfl) fun H2 e2 => ?_
    have R2 := R1.grow e2
    have hlv := R2.lvs
    rw [hl] at hlv
    cases hlv with
    | cons hd2 ht2 =>
      refine s_if (b := Vbktaf.isLetter c) (et_B (ev_is (ev_call (z := .bl (decide ((97 : Int) ≤ (c : Int)) && decide ((c : Int) ≤ 122))) (ea_cons (ev_var rfl) ea_nil) fun H3 e3 Q3 q3 E3 => ⟨(c : Int), rfl, q3⟩) ?_)) (fun hlet H3 e3 => ?_) (fun hlet H3 e3 => ?_)
      · refine congrArg V.bl ?_
        unfold Vbktaf.isLetter
        congr 1
        · exact decide_eq_decide.mpr (by omega)
        · exact decide_eq_decide.mpr (by omega)
      · have R3 := R2.grow e3
        have h97 : 97 ≤ c := by
          unfold Vbktaf.isLetter at hlet
          simp only [Bool.and_eq_true, decide_eq_true_eq] at hlet
          exact hlet.1
        refine ⟨_, rfl, r, dx, _, rfl, R3.ins, rdF_no_take_letter _ _ _ _ _ _ _ _ _ _, ?_⟩
        refine (ea_cons (ev_is (ev_sub (ev_var rfl) ev_c) (w := .int ((c - 97 : Nat) : Int)) (congrArg V.int (by omega))) ea_nil) H3 (Ex.refl H3) _ fun H4 e4 => ?_
        exact ⟨H0, r, tx, b, S, [], dx, lv, _, [], c - 97, L, rest, rfl, R3.grow e4, hb, hl, us_small RL hl, fun H5 R5 => k H5 _ _ R5 (step_letter RL hcr hlet)⟩
      · refine s_if (b := (closeV (c : Int)).isSome) (et_test (ev_op (ev_var rfl) ev_c fun H4 e4 Q4 q4 => ⟨(c : Int), aC, rfl, rfl, TC.2, q4 H4 (Ex.refl H4)⟩)) (fun hop H4 e4 => ?_) (fun hop H4 e4 => ?_)
        · have R4 := R2.grow (e3.trans e4)
          have h3 : c = 40 ∨ c = 60 ∨ c = 91 := by
            rw [closeV_nat] at hop
            by_cases z : c = 40 ∨ c = 60 ∨ c = 91
            · exact z
            · rw [if_neg z] at hop
              cases hop
          have hcv : closeV (c : Int) = some ((Vbktaf.closing c : Nat) : Int) := by
            rw [closeV_nat, if_pos h3]
          refine ⟨_, rfl, r, dx, _, rfl, R4.ins, rdF_no_take_opening _ _ _ _ _ _ _ _ _ _, ?_⟩
          refine (ea_cons (x := .int ((Vbktaf.closing c : Nat) : Int)) (ev_op ev_c (ev_var rfl) fun H5 e5 Q5 q5 => ⟨aC, (c : Int), _, rfl, rfl, TC.2, hcv, q5 H5 (Ex.refl H5)⟩) ea_nil) H4 (Ex.refl H4) _ fun H5 e5 => ?_
          have h1000 : S.lvs.length ≤ 1000 := by
            have h1 := paired_length RL.lvs
            have h2 := RL.dp
            simp [stk] at h1
            omega
          exact ⟨H0, r, tx, b, S, [], dx, lv, _, [], _, rfl, R4.grow e5, h1000, fun H6 ad6 R6 => k H6 _ ad6 R6 (step_open RL hcr hlet h3)⟩
        · have h3 : ¬ (c = 40 ∨ c = 60 ∨ c = 91) := fun z => by
            rw [closeV_nat, if_pos z] at hop
            cases hop
          have e34 := e3.trans e4
          refine s_if (b := decide (0 < L.n) && decide ((c : Int) = L.c)) (et_and (et_test (ev_is (ev_op (ev_fld (ev_var rfl) (e34 _ _ hd2.1) TL.cl TL.nN (lvF_length _ _ _)) ev_c rv_I0) (congrArg V.bl (decide_eq_decide.mpr (by omega))))) fun _ => et_test (ev_is (ev_op (ev_var rfl) (ev_fld (ev_var rfl) (e34 _ _ hd2.1) TL.cl TL.nC (lvF_closing _ _ _)) (rv_eq rfl)) (congrArg V.bl (decide_eq_decide.mpr (by simp))))) (fun hcl H5 e5 => ?_) (fun hcl H5 e5 => ?_)
          · have hcl' : 0 < L.n ∧ (c : Int) = L.c := by simpa using hcl
            obtain ⟨hst, L2, rest2, er, hx2, hx1⟩ := step_close RL hcr hlet h3 hl hcl'.1 hcl'.2
            subst er
            have R5 := R2.grow (e34.trans e5)
            refine ⟨_, rfl, r, dx, _, rfl, R5.ins, rdF_no_take_closing _ _ _ _ _ _ _ _ _ _, ?_⟩
            exact ⟨_, rfl, H0, r, tx, b, S, dx, lv, _, L, L2, rest2, c, rfl, R5, hb, hl, hx2, hx1, hcl'.1, fun H6 ad6 R6 => k H6 _ ad6 R6 hst⟩
          · have hcl' : ¬ (0 < L.n ∧ (c : Int) = L.c) := by
              intro z
              rw [decide_eq_true z.1, decide_eq_true z.2] at hcl
              cases hcl
            have R5 := R2.grow (e34.trans e5)
            refine ⟨_, rfl, r, dx, _, rfl, R5.ins, rdF_no_fail _ _ _ _ _ _ _ _ _ _, ?_⟩
            refine (ea_cons ev_c (ea_cons (ev_fld (ev_var rfl) R5.ins TR.cl TR.nP (rdF_place _ _ _ _ _ _ _ _ _ _)) ea_nil)) H5 (Ex.refl H5) _ fun H6 e6 => ⟨H0, r, tx, b, S, [], dx, lv, _, [], 1, S.pl, rfl, R5.grow e6, fun H7 _ R7 => k H7 _ _ R7 (step_bad RL hcr hlet h3 hl hcl')⟩
end
end Kt

/-! # The whole text read -/
namespace Kt
open PySem PySem.Spec PyProof.Rows L2 Evl
open Vbktaf (Weights)
section
variable {P : Program} {w : World} {K : PySem.W.Frag} {mg : Str → Option Value} {base : Heap} {CR CL : Addr}
section
variable {σ : L2.St} {H H' : Hp} {ta : TE} {t : TA}
theorem ev_meth {C a dx : Addr} {fs : List (Str × V)} {m : Str} {sp : Sp} {vs : List V} {z : V} (ha : Ev ta σ H (.ref a)) (hi : H a = some (.ins C dx fs)) (hn : fs.lookup m = none) (h : EvA t σ H vs) (hs : SpV sp (.ref a :: (vs ++ [])) H z) : Ev (tMeth C m sp [] E0 ta t) σ H z := fun H1 e Q q =>
  ha H1 e _ fun H2 e2 => ⟨a, dx, fs, rfl, (e.trans e2) _ _ hi, hn, h H2 (e.trans e2) _ fun H3 e3 => hs H3 ((e.trans e2).trans e3) Q (fun H4 e4 => q H4 ((e2.trans e3).trans e4)) E0⟩
end
def S0 : RS := ⟨0, 0, 0, 0, 0, 0, 0, 0, [⟨-1, 0, []⟩]⟩
/-- Reading.__init__ -/
def sp_rd_init (K : PySem.W.Frag) (CR CL : Addr) : Sp := fun vs H Q _ => ∃ (H0 : Hp) (r dx tx : Addr) (b : List Nat), vs = [.ref r, .ref tx] ∧ Ex H0 H ∧ H0 r = none ∧ H r = some (.ins CR dx []) ∧ SqL K H0 tx (nv b) ∧ ∀ H' lv ad, RdOk K CR CL H0 H' r tx b S0 [] dx lv ad [] → Q .non H'
theorem sc_Reading_init : FnScope ["self", "text"] ["self", "text"] (C8.fnScope s_Reading_init) := C8.fnScope_by (by decide +kernel)
theorem put4 (tx : Addr) : putF "fault_place" (.int 0) (putF "fault_kind" (.int 0) (putF "place" (.int 0) (putF "text" (.ref tx) []))) = ([("text", .ref tx), ("place", .int 0), ("fault_kind", .int 0), ("fault_place", .int 0)] : List (Str × V)) := by
  show putF "fault_place" (.int 0) (putF "fault_kind" (.int 0) (putF "place" (.int 0) [("text", .ref tx)])) = _
  rw [put_past (by decide +kernel)]
  show putF "fault_place" (.int 0) (putF "fault_kind" (.int 0) [("text", .ref tx), ("place", .int 0)]) = _
  rw [put_past (by decide +kernel), put_past (by decide +kernel)]
  show putF "fault_place" (.int 0) [("text", .ref tx), ("place", .int 0), ("fault_kind", .int 0)] = _
  rw [put_past (by decide +kernel), put_past (by decide +kernel), put_past (by decide +kernel)]
  rfl
theorem put_new {f : Str} {v : V} : ∀ {fs : List (Str × V)}, (∀ p ∈ fs, ¬ p.1 = f) → putF f v fs = fs ++ [(f, v)]
  | [], _ => rfl
  | (g, x) :: r, h => by
    rw [put_past (h (g, x) (by simp)), put_new (fun p hp => h p (by simp [hp]))]
    rfl
theorem put10 (tx lv : Addr) : putF "others" (.int 0) (putF "rounds" (.int 0) (putF "numbers" (.int 0) (putF "letters" (.int 0) (putF "depth" (.int 0) (putF "levels" (.ref lv) ([("text", .ref tx), ("place", .int 0), ("fault_kind", .int 0), ("fault_place", .int 0)] : List (Str × V))))))) = rdS tx lv S0 := by
  have nm : ∀ {fs : List (Str × V)} {ns : List Str} {f : Str}, fs.map (·.1) = ns → (ns.all fun g => !decide (g = f)) = true → ∀ p ∈ fs, ¬ p.1 = f := fun {fs ns f} e h p hp z => by
    have := List.all_eq_true.mp h p.1 (e ▸ List.mem_map.mpr ⟨p, hp, rfl⟩)
    rw [decide_eq_true z] at this
    cases this
  rw [put_new (f := "levels") (nm (ns := ["text", "place", "fault_kind", "fault_place"]) rfl (by decide +kernel)), put_new (f := "depth") (nm (ns := ["text", "place", "fault_kind", "fault_place", "levels"]) rfl (by decide +kernel)),
    put_new (f := "letters") (nm (ns := ["text", "place", "fault_kind", "fault_place", "levels", "depth"]) rfl (by decide +kernel)), put_new (f := "numbers") (nm (ns := ["text", "place", "fault_kind", "fault_place", "levels", "depth", "letters"]) rfl (by decide +kernel)),
    put_new (f := "rounds") (nm (ns := ["text", "place", "fault_kind", "fault_place", "levels", "depth", "letters", "numbers"]) rfl (by decide +kernel)), put_new (f := "others") (nm (ns := ["text", "place", "fault_kind", "fault_place", "levels", "depth", "letters", "numbers", "rounds"]) rfl (by decide +kernel))]
  rfl
theorem mak_Reading (D : CF K mg CR "Reading" "Reading.__init__" s_Reading_init) (T : Tx K mg) (TR : RTx K CR) (c_Level : C8.Mak P w K mg base 1 "Level" CL (sp_lv_init CL) []) : C8.Mak P w K mg base 3 "Reading" CR (sp_rd_init K CR CL) [] := by
  refine mak_by D sc_Reading_init (fun _ _ _ _ _ _ us hl => match us, hl with | [_, _], _ => rfl) (fun vs H Q E h => ?_) (fun f cdv A outer s H vs Q E hr h => ?_)
  · obtain ⟨H0, r, dx, tx, b, rfl, _⟩ := h
    rfl
  · obtain ⟨H0, r, dx, tx, b, rfl, e0, r0, hi, hS, k⟩ := h
    refine ⟨_, (pss_cons (ps_fld (pv 0) (pv 1) rfl) (pss_cons (ps_fld (pv 0) pe_int rfl) (pss_cons (ps_fld (pv 0) (C8.pe_gc rfl T.g_NO_FAULT) rfl) (pss_cons (ps_fld (pv 0) pe_int rfl) (pss_cons (ps_fld (pv 0) (pe_lst (pa_cons (C8.pe_mk c_Level hr (by decide) rfl (pa_cons (C8.pe_gc rfl T.g_NO_CLOSING) pa_nil)) pa_nil)) rfl) (pss_cons (ps_fld (pv 0) pe_int rfl) (pss_cons (ps_fld (pv 0) pe_int rfl) (pss_cons (ps_fld (pv 0) pe_int rfl) (pss_cons (ps_fld (pv 0) pe_int rfl) (pss_one (ps_fld (pv 0) pe_int rfl))))))))))), ?_⟩
    have l1 : ∀ (f : Str) (v : V) (fs : List (Str × V)) (n : Nat), fs.length ≤ n → (putF f v fs).length ≤ n + 1 := fun f v fs n h => Nat.le_trans (putF_len f v fs) (Nat.add_le_add_right h 1)
    have lt : ∀ {fs : List (Str × V)} {n : Nat}, fs.length ≤ n → n < 1000 → fs.length < 1000 := fun h h2 => Nat.lt_of_le_of_lt h h2
    refine ⟨_, rfl, _, rfl, r, CR, dx, _, rfl, hi, TR.cl, TR.nT, lt (n := 0) (Nat.le_refl _) (by decide), ?_⟩
    refine ⟨_, rfl, r, CR, dx, _, rfl, upd_same, TR.cl, TR.nP, lt (l1 _ _ _ 0 (Nat.le_refl _)) (by decide), ?_⟩
    refine ⟨_, rfl, r, CR, dx, _, rfl, upd_same, TR.cl, TR.nK, lt (l1 _ _ _ 1 (l1 _ _ _ 0 (Nat.le_refl _))) (by decide), ?_⟩
    refine ⟨_, rfl, r, CR, dx, _, rfl, upd_same, TR.cl, TR.nF, lt (l1 _ _ _ 2 (l1 _ _ _ 1 (l1 _ _ _ 0 (Nat.le_refl _)))) (by decide), ?_⟩
    rw [upd_upd, upd_upd, upd_upd, put4]
    have e4 : Ex H0 (upd H r (.ins CR dx [("text", .ref tx), ("place", .int 0), ("fault_kind", .int 0), ("fault_place", .int 0)])) := Ex.mut e0 r0
    have hi4 : upd H r (.ins CR dx [("text", .ref tx), ("place", .int 0), ("fault_kind", .int 0), ("fault_place", .int 0)]) r = some (.ins CR dx [("text", .ref tx), ("place", .int 0), ("fault_kind", .int 0), ("fault_place", .int 0)]) := upd_same
    generalize upd H r (.ins CR dx [("text", .ref tx), ("place", .int 0), ("fault_kind", .int 0), ("fault_place", .int 0)]) = H4 at e4 hi4 ⊢
    -- self.levels = [Level(NO_CLOSING)]
    refine fun x xd hx hxd hne => ?_
    refine ⟨x, xd, -1, rfl, upd_same, fun p H5 hp hk ha hpl => ⟨rfl, sz_of (by simp), fun lv hlv => ?_⟩⟩
    obtain ⟨p1, hp2⟩ := fresh_upd hp
    obtain ⟨p3, hp4⟩ := fresh_upd hp2
    have e45 : Ex H4 H5 := fun y o h => by
      have y1 : y ≠ x := ne_of_none h hx
      have y2 : y ≠ xd := ne_of_none h hxd
      exact hk y o y1 (by rw [upd_ne y1, upd_ne y2]; exact h)
    have hi5 := e45 _ _ hi4
    have nrl : r ≠ lv := ne_of_none hi5 hlv
    have nxl : x ≠ lv := ne_of_none ha hlv
    have npl : p ≠ lv := ne_of_none hpl hlv
    have nxr : x ≠ r := fun z => by
      rw [z, hi4] at hx
      cases hx
    have npr : p ≠ r := fun z => by
      rw [z, hi4] at hp4
      cases hp4
    refine ⟨_, rfl, r, CR, dx, _, rfl, by rw [upd_ne nrl]; exact hi5, TR.cl, TR.nL, lt (n := 4) (Nat.le_refl _) (by decide), ?_⟩
    refine ⟨_, rfl, r, CR, dx, _, rfl, upd_same, TR.cl, TR.nD, lt (l1 _ _ _ 4 (Nat.le_refl _)) (by decide), ?_⟩
    refine ⟨_, rfl, r, CR, dx, _, rfl, upd_same, TR.cl, TR.nE, lt (l1 _ _ _ 5 (l1 _ _ _ 4 (Nat.le_refl _))) (by decide), ?_⟩
    refine ⟨_, rfl, r, CR, dx, _, rfl, upd_same, TR.cl, TR.nN, lt (l1 _ _ _ 6 (l1 _ _ _ 5 (l1 _ _ _ 4 (Nat.le_refl _)))) (by decide), ?_⟩
    refine ⟨_, rfl, r, CR, dx, _, rfl, upd_same, TR.cl, TR.nR, lt (l1 _ _ _ 7 (l1 _ _ _ 6 (l1 _ _ _ 5 (l1 _ _ _ 4 (Nat.le_refl _))))) (by decide), ?_⟩
    refine ⟨_, rfl, r, CR, dx, _, rfl, upd_same, TR.cl, TR.nO, lt (l1 _ _ _ 8 (l1 _ _ _ 7 (l1 _ _ _ 6 (l1 _ _ _ 5 (l1 _ _ _ 4 (Nat.le_refl _)))))) (by decide), ?_⟩
    rw [upd_upd, upd_upd, upd_upd, upd_upd, upd_upd, put10]
    have x0 : H0 x = none := fresh_back e4 hx
    have p0 : H0 p = none := fresh_back e4 hp4
    have lv0 : H0 lv = none := fresh_back (e4.trans e45) hlv
    refine k _ lv [(x, xd, p)] ⟨?_, r0, hS, upd_same, lv0, ?_, .cons ⟨?_, ?_, x0, p0⟩ .nil, .nil, ?_, ?_, ?_, ?_⟩
    · exact Ex.mut ((e4.trans e45).trans (Ex.new hlv)) r0
    · rw [upd_ne (Ne.symm nrl), upd_same]
      rfl
    · rw [upd_ne nxr, upd_ne nxl]
      exact ha
    · rw [upd_ne npr, upd_ne npl]
      exact hpl
    · simp
    · simp
    · intro d hd
      simp at hd
      subst hd
      exact npl
    · intro d hd
      simp at hd
      subst hd
      exact nxr
/-- what a reading ends with -/
def ReadTo (b : List Nat) (S : RS) : Prop := match Vbktaf.read b with
  | .error k => S.fk = k.1 ∧ S.fp = k.2 ∧ k.1 ≠ 0
  | .ok x => S.fk = 0 ∧ S.lvs = [⟨-1, Vbktaf.size x, Vbktaf.unroll x⟩] ∧ S.de = Vbktaf.depth x ∧ S.le = nLet x ∧ S.nu = nNum x ∧ S.ro = nRnd x ∧ S.ot = nOth x
def sp_read_text (K : PySem.W.Frag) (CR CL : Addr) : Sp := fun vs H Q _ => ∃ (tx : Addr) (b : List Nat), vs = [.ref tx] ∧ SqL K H tx (nv b) ∧ b.length ≤ 1000 ∧ ∀ H' r dx lv ad S, RdOk K CR CL H H' r tx b S [] dx lv ad [] → ReadTo b S → Q (.ref r) H'
theorem sc_read_text : FnScope ["text", "reading"] ["text"] (C8.fnScope s_read_text) := C8.fnScope_by (by decide +kernel)
theorem cal_read_text (D : DF K mg "read_text" s_read_text) (T : Tx K mg) (TR : RTx K CR) (c_Reading : C8.Mak P w K mg base 3 "Reading" CR (sp_rd_init K CR CL) []) (c_Reading_is_right : C8.Met P w K mg base 1 CR "is_right" (sp_is_right CR) []) (c_Reading_take_byte : C8.Met P w K mg base 6 CR "take_byte" (sp_take_byte K CR CL) [])
    (c_Reading_take_end : C8.Met P w K mg base 2 CR "take_end" (sp_take_end K CR CL) []) : C8.Cal P w K mg base 7 "read_text" (sp_read_text K CR CL) [] := by
  refine cal_by D sc_read_text (fun _ _ _ _ _ _ us hl => match us, hl with | [_], _ => rfl) (fun vs H Q E h => ?_) (fun f cdv A outer s H vs Q E hr h => ?_)
  · obtain ⟨tx, b, rfl, _⟩ := h
    rfl
  · obtain ⟨tx, b, rfl, hS, hb, k⟩ := h
    refine ⟨_, (pss_cons (ps_set (i := 1) sc_read_text.nd rfl (Or.inl rfl) (C8.pe_mk c_Reading hr (by decide) rfl (pa_cons (pv 0) pa_nil))) (pss_cons (ps_while PassesOwn.never (PW.pt (pw_and (pt_val (C8.pe_mt0 c_Reading_is_right hr (by decide) (pv 1))) (pw_and1 (pt_cmpR op_lt (pe_fld (pv 1) rfl) (pe_callB call_len_seq (by rfl) T.b_len PySem.boot_len (pa_cons (pv 0) pa_nil)) (nomark _))))) (pss_one (ps_expr (C8.pe_mt0 c_Reading_take_byte hr (by decide) (pv 1))))) (pss_cons (ps_if (pt_val (C8.pe_mt0 c_Reading_is_right hr (by decide) (pv 1))) (pss_one (ps_expr (C8.pe_mt0 c_Reading_take_end hr (by decide) (pv 1)))) pss_nil) (pss_one (ps_ret (pv 1)))))), ?_⟩
    refine ⟨_, rfl, fun r dx hr0 hd0 hne => ?_⟩
    have e0 : Ex H (upd (upd H dx (.own r)) r (.ins CR dx [])) := fun y o h => by
      rw [upd_ne (ne_of_none h hr0), upd_ne (ne_of_none h hd0)]
      exact h
    refine ⟨H, r, dx, tx, b, rfl, e0, hr0, upd_same, hS, fun H1 lv ad R1 => ⟨rfl, ?_⟩⟩
    have right : ∀ (H2 : Hp) (S : RS) (ad : List AD), RdOk K CR CL H H2 r tx b S [] dx lv ad [] → EvT (tB (tMeth CR "is_right" (sp_is_right CR) [] E0 (tVar 1) tNil)) [some (.ref tx), some (.ref r)] H2 (decide (S.fk = 0)) := fun H2 S ad R2 =>
      et_B (ev_meth (ev_var rfl) R2.ins (rdF_no_is_right _ _ _ _ _ _ _ _ _ _) ea_nil fun H3 e3 Q3 q3 E3 => ⟨r, dx, tx, lv, S, rfl, e3 _ _ R2.ins, q3⟩)
    refine q_while (fun m σ' H' => σ' = [some (.ref tx), some (.ref r)] ∧ ∃ (S : RS) (ad : List AD), RdOk K CR CL H H' r tx b S [] dx lv ad [] ∧ ((∃ ms, Rel b S ms ∧ mres (ms0 b) = mres ms ∧ m = ms.b.length + 1) ∨ (∃ kf : Vbktaf.Fault, S.fk = kf.1 ∧ S.fp = kf.2 ∧ kf.1 ≠ 0 ∧ mres (ms0 b) = .error kf ∧ m = 0)))
      (b.length + 1) ⟨rfl, S0, ad, R1, Or.inl ⟨ms0 b, rel_start b, rfl, rfl⟩⟩ ?_
    rintro m σ' H2 ⟨rfl, S, ad2, R2, hor⟩
    have test : EvT (tAnd (tB (tMeth CR "is_right" (sp_is_right CR) [] E0 (tVar 1) tNil)) (tTest (tOp (rI0 fun i j => .bl (decide (i < j))) (tFld K (tVar 1) "place") (tCB (rLenS K) (tCons (tVar 0) tNil))))) [some (.ref tx), some (.ref r)] H2 (decide (S.fk = 0) && decide (S.pl < b.length)) :=
      et_and (right H2 S ad2 R2) fun _ => et_test (ev_is (ev_op (ev_fld (ev_var rfl) R2.ins TR.cl TR.nP (rdF_place _ _ _ _ _ _ _ _ _ _)) (ev_len (ev_var rfl) (ex_l R2.e hS)) rv_I0) (by rw [List.length_map]; exact congrArg V.bl (decide_eq_decide.mpr (by omega))))
    refine ⟨_, test, fun ht H3 e3 => ?_, fun ht H3 e3 => ?_⟩
    · have ht' : S.fk = 0 ∧ S.pl < b.length := by simpa using ht
      have R3 := R2.grow e3
      rcases hor with ⟨ms, RL, hm, rfl⟩ | ⟨kf, h1, h2, h3, h4, h5⟩
      · have hbne : ms.b ≠ [] := fun z => by
          have h1 := RL.rest
          rw [z] at h1
          have h2 := congrArg List.length h1
          rw [List.length_drop] at h2
          simp at h2
          omega
        refine ⟨fun σ2 H4 => σ2 = [some (.ref tx), some (.ref r)] ∧ ∃ (S : RS) (ad : List AD), RdOk K CR CL H H4 r tx b S [] dx lv ad [] ∧ StepTo b S (mstep ms), ?_, ?_⟩
        · rintro σ2 H4 ⟨rfl, S4, ad4, R4, st⟩
          cases hst : mstep ms with
          | error kf =>
            rw [hst] at st
            exact ⟨0, by omega, rfl, S4, ad4, R4, Or.inr ⟨kf, st.1, st.2.1, st.2.2, hm.trans (mres_err hbne hst), rfl⟩⟩
          | ok s2 =>
            rw [hst] at st
            have hless := (mstep_less hst).1
            exact ⟨s2.b.length + 1, by omega, rfl, S4, ad4, R4, Or.inl ⟨s2, st, hm.trans (mres_step hst), rfl⟩⟩
        · refine ⟨_, rfl, r, dx, _, rfl, R3.ins, rdF_no_take_byte _ _ _ _ _ _ _ _ _ _, ?_⟩
          exact ⟨H, r, tx, b, S, ms, dx, lv, ad2, rfl, R3, hb, RL, hbne, fun H4 S4 ad4 R4 st => ⟨rfl, S4, ad4, R4, st⟩⟩
      · exact absurd (h1.symm.trans ht'.1) h3
    · have R3 := R2.grow e3
      refine q_when (right H3 S ad2 R3) (fun hz H4 e4 => ?_) (fun hz H4 e4 => ?_)
      · have hz' : S.fk = 0 := of_decide_eq_true hz
        have R4 := R3.grow e4
        rcases hor with ⟨ms, RL, hm, rfl⟩ | ⟨kf, h1, h2, h3, h4, h5⟩
        · have hpl : ¬ S.pl < b.length := fun z => by
            rw [decide_eq_true hz', decide_eq_true z] at ht
            cases ht
          have hbn : ms.b = [] := by
            rw [RL.rest]
            exact List.drop_eq_nil_of_le (by omega)
          have hne2 : S.lvs ≠ [] := fun z => by
            have := RL.lvs
            rw [z] at this
            cases this
          refine ⟨_, rfl, r, dx, _, rfl, R4.ins, rdF_no_take_end _ _ _ _ _ _ _ _ _ _, ?_⟩
          refine ⟨H, r, tx, b, S, [], dx, lv, ad2, [], rfl, R4, hne2, fun H5 R5 => ?_⟩
          refine ⟨_, rfl, k H5 r dx lv ad2 (mEnd b S) R5 ?_⟩
          have he := end_rel RL hbn
          unfold ReadTo
          rw [read_mres, hm, mres_nil hbn]
          cases hme : mend ms with
          | error kf =>
            rw [hme] at he
            exact he
          | ok x =>
            rw [hme] at he
            dsimp only at he ⊢
            rw [he.1]
            exact ⟨hz', he.2⟩
        · exact absurd (h1.symm.trans hz') h3
      · have hz' : ¬ S.fk = 0 := of_decide_eq_false hz
        rcases hor with ⟨ms, RL, hm, rfl⟩ | ⟨kf, h1, h2, h3, h4, h5⟩
        · exact absurd RL.fk hz'
        · refine ⟨_, rfl, k H4 r dx lv ad2 S (R3.grow e4) ?_⟩
          unfold ReadTo
          rw [read_mres, h4]
          exact ⟨h1, h2, h3⟩
end
end Kt

/-! # Ranges, refusals, runs; what a reading is asked for behind its end -/
namespace Kt
open PySem PySem.Spec PyProof.Rows L2 Evl
open Vbktaf (Weights inr runsOf)
section
variable {P : Program} {w : World} {K : PySem.W.Frag} {mg : Str → Option Value} {base : Heap} {CR CL CW CP : Addr}
section
variable {σ : L2.St} {H H' : Hp} {ta : TE}
theorem et_tru {a : Addr} {xs : List V} (h : Ev ta σ H (.ref a)) (hx : SqL K H a xs) : EvT (fun σ H Q => ta σ H fun x H' => ∃ k, TruV K x H' k ∧ Q k H') σ H (!xs.isEmpty) := fun H1 e Q q =>
  h H1 e _ fun H2 e2 => ⟨_, Or.inl ⟨xs, ex_l (e.trans e2) hx, rfl⟩, q H2 e2⟩
end
theorem ev_all {σ : L2.St} {H : Hp} {ta : TE} {bs : List Bool} (h : EvL ta σ H (bs.map V.bl)) : Ev (tCB (rAll K) (tCons ta tNil)) σ H (.bl (bs.all id)) := fun H1 e Q q =>
  h H1 e _ fun p H2 hp e2 h2 => ⟨p, bs, rfl, sq_of h2, q H2 e2⟩
theorem el_is {σ : L2.St} {H : Hp} {ta : TE} {xs ys : List V} (h : EvL ta σ H xs) (e : xs = ys) : EvL ta σ H ys := by
  rw [← e]
  exact h
/-- weights in their ranges -/
def WOk (w : Weights) : Prop := 1 ≤ w.letter ∧ w.letter ≤ 9 ∧ w.number ≤ 9 ∧ w.bracket ≤ 9 ∧ w.mirror ≤ 9
theorem given_all {n : Nat} {v : Nat → V} : given n (fun _ => true) v = (List.range n).map v := by
  unfold given
  rw [List.filter_eq_self.mpr fun _ _ => rfl]
theorem iv_get {l : List Int} {i : Nat} {x : V} (h : (iv l)[i]? = some x) : x = .int (l.getD i 0) := by
  rw [List.getElem?_map] at h
  obtain ⟨y, hy, rfl⟩ := Option.map_eq_some_iff.mp h
  simp [List.getD, hy]
/-- are_within -/
def sp_are_within (K : PySem.W.Frag) : Sp := fun vs H Q _ => ∃ (a : Addr) (ns : List Int) (lo hi : Int), vs = [.ref a, .int lo, .int hi] ∧ SqL K H a (iv ns) ∧ ns.length ≤ 40000 ∧ RetV (.bl (ns.all fun c => inr c lo hi)) H Q
theorem sc_are_within : FnScope ["numbers", "least", "greatest", "number"] ["numbers", "least", "greatest"] (C8.fnScope s_are_within) := C8.fnScope_by (by decide +kernel)
theorem cal_are_within (D : DF K mg "are_within" s_are_within) (T : Tx K mg) : C8.Cal P w K mg base 1 "are_within" (sp_are_within K) [] := by
  refine cal_by D sc_are_within (fun _ _ _ _ _ _ us hl => match us, hl with | [_, _, _], _ => rfl) (fun vs H Q E h => ?_) (fun f cdv A outer s H vs Q E hr h => ?_)
  · obtain ⟨a, ns, lo, hi, rfl, _⟩ := h
    rfl
  · obtain ⟨a, ns, lo, hi, rfl, hS, hn, k⟩ := h
    refine ⟨_, (pss_one (ps_ret (pe_callB (cr_all rfl) (by rfl) T.b_all (by decide +kernel) (pa_cons (pe_lc (own := [("number", 3)]) (g := gName 3) rfl sc_are_within.nd (pi_list (pv 0)) (blkOk_by (own := [("number", 3)]) (N := ["numbers", "least", "greatest", "number"]) (sc := C8.fnScope s_are_within) (by decide +kernel)) (fun _ _ _ _ _ => (pg_name (i := 3) sc_are_within.nd rfl (Or.inl rfl))) (fun _ _ _ _ _ => pts_nil) (fun _ _ _ _ _ => (pe_chain op_le op_le (pv 1) (pv 3) (pv 2)))) pa_nil)))), ?_⟩
    refine s_ret (ev_is (ev_all (bs := ns.map fun c => inr c lo hi) (el_is (el_lcL (fun _ => true) (fun i => .bl (inr (ns.getD i 0) lo hi)) (ev_var rfl) hS (by simpa using hn) (fun _ => rfl) (fun _ _ _ _ _ => et_yes) (fun i x H1 e1 hx _ => ?_)) ?_)) ?_) fun H1 e => k H1 e
    · rw [iv_get hx]
      exact ev_chain (ev_var rfl) (ev_var rfl) fun _ => ev_var rfl
    · rw [given_all, List.length_map, List.map_map]
      exact range_getD ns 0 fun c => V.bl (inr c lo hi)
    · rw [List.all_map]
      rfl
/-- is_text -/
def sp_is_text (K : PySem.W.Frag) : Sp := fun vs H Q _ => ∃ (a : Addr) (ns : List Int), vs = [.ref a] ∧ SqL K H a (iv ns) ∧ ns.length ≤ 40000 ∧ RetV (.bl (Vbktaf.isText ns)) H Q
theorem sc_is_text : FnScope ["numbers"] ["numbers"] (C8.fnScope s_is_text) := C8.fnScope_by (by decide +kernel)
theorem cal_is_text (D : DF K mg "is_text" s_is_text) (T : Tx K mg) (c_are_within : C8.Cal P w K mg base 1 "are_within" (sp_are_within K) []) : C8.Cal P w K mg base 2 "is_text" (sp_is_text K) [] := by
  refine cal_by D sc_is_text (fun _ _ _ _ _ _ us hl => match us, hl with | [_], _ => rfl) (fun vs H Q E h => ?_) (fun f cdv A outer s H vs Q E hr h => ?_)
  · obtain ⟨a, ns, rfl, _⟩ := h
    rfl
  · obtain ⟨a, ns, rfl, hS, hn, k⟩ := h
    refine ⟨_, (pss_one (ps_ret (pe_and (pe_cmpR op_le (pe_callB call_len_seq (by rfl) T.b_len PySem.boot_len (pa_cons (pv 0) pa_nil)) (C8.pe_gc rfl T.g_MOST_BYTES) (nomark _)) (pe_one (C8.pe_c c_are_within hr (by decide) rfl (pa_cons (pv 0) (pa_cons pe_int (pa_cons (C8.pe_gc rfl T.g_LAST_BYTE) pa_nil)))))))), ?_⟩
    refine s_ret (v := .bl (Vbktaf.isText ns)) (ev_is (ev_andV (a := decide (ns.length ≤ 400)) (b := ns.all fun c => inr c 0 255) (ev_is (ev_op (ev_len (ev_var rfl) hS) ev_c rv_I0) (by rw [List.length_map]; exact congrArg V.bl (decide_eq_decide.mpr (by omega)))) fun _ => ?_) rfl) fun H1 e => k H1 e
    exact ev_call (ea_cons (ev_var rfl) (ea_cons ev_c (ea_cons ev_c ea_nil))) fun H1 e1 Q1 q1 E1 => ⟨a, ns, 0, 255, rfl, ex_l e1 hS, hn, q1⟩
/-- Reading.told -/
def sp_told (K : PySem.W.Frag) (CR CL : Addr) : Sp := fun vs H Q _ => ∃ (r dx tx lv d dd p : Addr) (S : RS) (c : Int) (n : Nat), vs = [.ref r] ∧ H r = some (.ins CR dx (rdS tx lv S)) ∧ H lv = some (.lst [.ref d]) ∧ H d = some (.ins CL dd (lvF c n p)) ∧ RetV (.ref p) H Q
theorem sc_Reading_told : FnScope ["self"] ["self"] (C8.fnScope s_Reading_told) := C8.fnScope_by (by decide +kernel)
theorem met_told (D : MF K CR "told" "Reading.told" s_Reading_told) (T : Tx K mg) (TR : RTx K CR) (TL : LTx K CL) : C8.Met P w K mg base 1 CR "told" (sp_told K CR CL) [] := by
  refine met_by D sc_Reading_told (fun _ _ _ _ _ _ us hl => match us, hl with | [_], _ => rfl) (fun vs H Q E h => ?_) (fun f cdv A outer s H vs Q E hr h => ?_)
  · obtain ⟨r, dx, tx, lv, d, dd, p, S, c, n, rfl, _⟩ := h
    rfl
  · obtain ⟨r, dx, tx, lv, d, dd, p, S, c, n, rfl, hi, hl, hd, k⟩ := h
    refine ⟨_, (pss_one (ps_ret (pe_fld (pe_ix ix_list (pe_fld (pv 0) rfl) pe_int (fun _ _ => rfl)) rfl))), ?_⟩
    exact s_ret (ev_fld (ev_ixL (ev_fld (ev_var rfl) hi TR.cl TR.nL (rdF_levels _ _ _ _ _ _ _ _ _ _)) ev_c (sq_of hl) rfl) hd TL.cl TL.nS (lvF_stitches _ _ _)) fun H1 e => k H1 e
/-- Reading.cost -/
def sp_rd_cost (CR CW : Addr) : Sp := fun vs H Q _ => ∃ (r dx tx lv o : Addr) (S : RS) (w : Weights), vs = [.ref r, .ref o] ∧ H r = some (.ins CR dx (rdS tx lv S)) ∧ WtAt CW H o w ∧ WOk w ∧ RetV (.int ((S.le * w.letter + S.nu * w.number + S.ro * w.bracket + S.ot * w.mirror : Nat) : Int)) H Q
theorem sc_Reading_cost : FnScope ["self", "weights", "signs"] ["self", "weights"] (C8.fnScope s_Reading_cost) := C8.fnScope_by (by decide +kernel)
theorem met_cost (D : MF K CR "cost" "Reading.cost" s_Reading_cost) (T : Tx K mg) (TR : RTx K CR) (TW : WTx K CW) : C8.Met P w K mg base 1 CR "cost" (sp_rd_cost CR CW) [] := by
  refine met_by D sc_Reading_cost (fun _ _ _ _ _ _ us hl => match us, hl with | [_, _], _ => rfl) (fun vs H Q E h => ?_) (fun f cdv A outer s H vs Q E hr h => ?_)
  · obtain ⟨r, dx, tx, lv, o, S, w, rfl, _⟩ := h
    rfl
  · obtain ⟨r, dx, tx, lv, o, S, w, rfl, hi, ⟨ox, hw⟩, ⟨w0, w1, w2, w3, w4⟩, k⟩ := h
    refine ⟨_, (pss_cons (ps_set (i := 2) sc_Reading_cost.nd rfl (Or.inl rfl) (pe_op op_add (pe_op op_mul (pe_fld (pv 0) rfl) (pe_fld (pv 1) rfl)) (pe_op op_mul (pe_fld (pv 0) rfl) (pe_fld (pv 1) rfl)))) (pss_one (ps_ret (pe_op op_add (pe_op op_add (pv 2) (pe_op op_mul (pe_fld (pv 0) rfl) (pe_fld (pv 1) rfl))) (pe_op op_mul (pe_fld (pv 0) rfl) (pe_fld (pv 1) rfl)))))), ?_⟩
    refine q_asg (ev_add (ev_op (ev_fld (ev_var rfl) hi TR.cl TR.nE (rdF_letters _ _ _ _ _ _ _ _ _ _)) (ev_fld (ev_var rfl) hw TW.cl TW.nL (wF_l w)) (rv_I (Or.inr ⟨by omega, by omega⟩))) (ev_op (ev_fld (ev_var rfl) hi TR.cl TR.nN (rdF_numbers _ _ _ _ _ _ _ _ _ _)) (ev_fld (ev_var rfl) hw TW.cl TW.nN (wF_n w)) (rv_I (Or.inr ⟨by omega, by omega⟩)))) fun H1 e1 => ?_
    have hi1 := e1 _ _ hi
    have hw1 := e1 _ _ hw
    refine s_ret (ev_is (ev_add (ev_add (ev_var rfl) (ev_op (ev_fld (ev_var rfl) hi1 TR.cl TR.nR (rdF_rounds _ _ _ _ _ _ _ _ _ _)) (ev_fld (ev_var rfl) hw1 TW.cl TW.nB (wF_b w)) (rv_I (Or.inr ⟨by omega, by omega⟩)))) (ev_op (ev_fld (ev_var rfl) hi1 TR.cl TR.nO (rdF_others _ _ _ _ _ _ _ _ _ _)) (ev_fld (ev_var rfl) hw1 TW.cl TW.nO (wF_o w)) (rv_I (Or.inr ⟨by omega, by omega⟩)))) ?_) fun H2 e2 => k H2 (e1.trans e2)
    refine congrArg V.int ?_
    simp only [Int.natCast_add, Int.natCast_mul]
/-- runs_of -/
def fl2 (rs : List (Nat × Nat)) : List Nat := rs.flatMap fun x => [x.1, x.2]
def addRun (c : Nat) : List (Nat × Nat) → List (Nat × Nat)
  | [] => [(c, 1)]
  | [x] => if x.1 = c then [(x.1, x.2 + 1)] else [x, (c, 1)]
  | x :: y :: r => x :: addRun c (y :: r)
theorem addRun_last (c : Nat) (x : Nat × Nat) : ∀ rs : List (Nat × Nat), addRun c (rs ++ [x]) = if x.1 = c then rs ++ [(x.1, x.2 + 1)] else rs ++ [x, (c, 1)]
  | [] => rfl
  | [y] => by
    show y :: addRun c [x] = _
    unfold addRun
    split <;> rfl
  | y :: z :: r => by
    show y :: addRun c (z :: r ++ [x]) = _
    rw [addRun_last c x (z :: r)]
    split <;> rfl
theorem runsOf_ne : ∀ {l : List Nat}, l ≠ [] → runsOf l ≠ []
  | [], h => absurd rfl h
  | c :: r, _ => by
    unfold runsOf
    split
    · simp
    · split <;> simp
theorem runsOf_cons (a : Nat) (l : List Nat) : runsOf (a :: l) = match runsOf l with
    | [] => [(a, 1)]
    | x :: r => if x.1 = a then (a, x.2 + 1) :: r else (a, 1) :: x :: r := rfl
theorem runsOf_snoc (c : Nat) : ∀ l : List Nat, runsOf (l ++ [c]) = addRun c (runsOf l)
  | [] => rfl
  | a :: l => by
    rw [List.cons_append, runsOf_cons, runsOf_snoc c l, runsOf_cons]
    rcases hl : runsOf l with _ | ⟨x, r⟩
    · unfold addRun
      dsimp only
      by_cases h : c = a
      · rw [if_pos h, if_pos h.symm]
      · rw [if_neg h, if_neg (Ne.symm h)]
    · rcases r with _ | ⟨y, r⟩
      · dsimp only
        by_cases h : x.1 = a
        · rw [if_pos h]
          unfold addRun
          by_cases h2 : x.1 = c
          · rw [if_pos h2]
            dsimp only
            rw [if_pos h, if_pos (h.symm.trans h2)]
          · rw [if_neg h2]
            dsimp only
            rw [if_pos h, if_neg (fun z => h2 (h.trans z))]
        · rw [if_neg h]
          show (match addRun c [x] with
            | [] => [(a, 1)]
            | x :: r => if x.1 = a then (a, x.2 + 1) :: r else (a, 1) :: x :: r) = (a, 1) :: addRun c [x]
          unfold addRun
          by_cases h2 : x.1 = c
          · rw [if_pos h2]
            dsimp only
            rw [if_neg h]
          · rw [if_neg h2]
            dsimp only
            rw [if_neg h]
      · show (match x :: addRun c (y :: r) with
            | [] => [(a, 1)]
            | x :: r => if x.1 = a then (a, x.2 + 1) :: r else (a, 1) :: x :: r) = addRun c (if x.1 = a then (a, x.2 + 1) :: y :: r else (a, 1) :: x :: y :: r)
        dsimp only
        split <;> rfl
theorem runsOf_len : ∀ l : List Nat, (runsOf l).length ≤ l.length
  | [] => Nat.le_refl _
  | a :: l => by
    have := runsOf_len l
    rw [runsOf_cons]
    split
    · simp
    · rename_i x r hl
      rw [hl] at this
      simp only [List.length_cons] at this ⊢
      split <;> simp only [List.length_cons] <;> omega
theorem fl2_len (rs : List (Nat × Nat)) : (fl2 rs).length = 2 * rs.length := by
  induction rs with
  | nil => rfl
  | cons x r ih =>
    unfold fl2 at ih ⊢
    rw [List.flatMap_cons, List.length_append, ih, List.length_cons]
    simp only [List.length_cons, List.length_nil]
    omega
theorem fl2_snoc (rs : List (Nat × Nat)) (x : Nat × Nat) : fl2 (rs ++ [x]) = fl2 rs ++ [x.1, x.2] := by
  unfold fl2
  rw [List.flatMap_append]
  simp
theorem atI_two {α : Type} (xs : List α) (u v : α) : atI (xs ++ [u, v]) (-2) = some u := by
  have hl : (xs ++ [u, v]).length = xs.length + 2 := by simp
  have e : ixN (xs ++ [u, v]).length (-2) = some xs.length := by
    unfold ixN
    rw [hl, if_neg (by decide), if_pos (by omega)]
    congr 1
    omega
  unfold atI
  rw [e]
  simp
theorem ix_one {α : Type} (xs : List α) (u v : α) : ixN (xs ++ [u, v]).length (-1) = some (xs.length + 1) := by
  have hl : (xs ++ [u, v]).length = xs.length + 2 := by simp
  unfold ixN
  rw [hl, if_neg (by decide), if_pos (by omega)]
  congr 1
  omega
theorem atI_one {α : Type} (xs : List α) (u v : α) : atI (xs ++ [u, v]) (-1) = some v := by
  unfold atI
  rw [ix_one]
  simp
def sp_runs_of (K : PySem.W.Frag) : Sp := fun vs H Q _ => ∃ (a : Addr) (l : List Nat), vs = [.ref a] ∧ SqL K H a (nv l) ∧ l.length ≤ 1000 ∧ RetL (nv (fl2 (runsOf l))) H Q
theorem sc_runs_of : FnScope ["row", "runs", "stitch"] ["row"] (C8.fnScope s_runs_of) := C8.fnScope_by (by decide +kernel)
theorem cal_runs_of (D : DF K mg "runs_of" s_runs_of) (T : Tx K mg) : C8.Cal P w K mg base 1 "runs_of" (sp_runs_of K) [] := by
  refine cal_by D sc_runs_of (fun _ _ _ _ _ _ us hl => match us, hl with | [_], _ => rfl) (fun vs H Q E h => ?_) (fun f cdv A outer s H vs Q E hr h => ?_)
  · obtain ⟨a, l, rfl, _⟩ := h
    rfl
  · obtain ⟨a, l, rfl, hS, hn, k⟩ := h
    refine ⟨_, (pss_cons (ps_set (i := 1) sc_runs_of.nd rfl (Or.inl rfl) (pe_lst pa_nil)) (pss_cons (ps_for PassesOwn.never rfl (pi_list (pv 0)) (pg_name (i := 2) sc_runs_of.nd rfl (Or.inl rfl)) (pss_one (ps_if (PW.pt (pw_and (pt_truth (pv 1) (by intro _; rfl)) (pw_and1 (pt_cmpR op_eq (pe_ix ix_list (pv 1) (pe_un un_neg pe_int) (fun _ _ => rfl)) (pv 2) (nomark _))))) (pss_one (ps_augS (pv 1) (pe_un un_neg pe_int) Kt.pget_list pe_int ip_add set_list)) (pss_one (ps_expr (pe_bm PySem.F.plainAttrs_list PySem.F.slot_list_extend PySem.F.type_list_extend mt_extend (pv 1) (pa_cons (pe_lst (pa_cons (pv 2) (pa_cons pe_int pa_nil))) pa_nil))))))) (pss_one (ps_ret (pv 1))))), ?_⟩
    refine q_asgL (el_lst ea_nil (by simp)) fun n H1 hn1 e1 hnl => ?_
    refine q_forLn (K := K) (ev_var rfl) (ex_l e1 hS) (fun i σ' H' => ∃ v2 : Option V, σ' = [some (.ref a), some (.ref n), v2] ∧ Ex H H' ∧ H' n = some (.lst (nv (fl2 (runsOf (l.take i)))))) (fun H2 e2 => ⟨none, rfl, e1.trans e2, e2 _ _ hnl⟩) (fun i σ' H' _ ⟨_, _, e, _⟩ => ex_l e hS) ?_ ?_
    · rintro i x σ' H2 hx ⟨v2, rfl, e2, hn2⟩
      rw [List.getElem?_map] at hx
      obtain ⟨c, hc, rfl⟩ := Option.map_eq_some_iff.mp hx
      have hi : i < l.length := (List.getElem?_eq_some_iff.mp hc).1
      have hstep : runsOf (l.take (i + 1)) = addRun c (runsOf (l.take i)) := by
        rw [List.take_succ, hc]
        exact runsOf_snoc c _
      have hlen := runsOf_len (l.take i)
      rw [List.length_take] at hlen
      have hl2 := fl2_len (runsOf (l.take i))
      rcases List.eq_nil_or_concat (runsOf (l.take i)) with hz | ⟨rs, x, hz⟩
      · have hn2' := hn2
        rw [hz] at hn2'
        refine s_if (et_and (et_is (et_tru (ev_var rfl) (sq_of hn2')) rfl) (b := false) fun z => by cases z) (fun hb H3 e3 => ?_) (fun hb H3 e3 => ?_)
        · cases hb
        · refine ⟨_, rfl, Or.inl ⟨rfl, _, sq_of (e3 _ _ hn2')⟩, ?_⟩
          refine el_lst (vs := [.int (c : Int), .int 1]) (ea_cons (ev_var rfl) (ea_cons ev_c ea_nil)) (by simp) H3 (Ex.refl H3) _ fun p H4 hp e4 h4 => ?_
          refine ⟨n, p, _, _, rfl, rfl, e4 _ _ (e3 _ _ hn2'), h4, sz_of (by simp [fl2]), ?_⟩
          refine ⟨_, rfl, Ex.mut ((e2.trans e3).trans e4) hn1, ?_⟩
          rw [upd_same, hstep, hz]
          rfl
      · have hz' : runsOf (l.take i) = rs ++ [x] := by rw [hz, List.concat_eq_append]
        have hn2' : H2 n = some (.lst (nv (fl2 rs) ++ [.int (x.1 : Int), .int (x.2 : Int)])) := by
          rw [hn2, hz', fl2_snoc]
          simp [nv]
        rw [hz', addRun_last] at hstep
        rw [hz'] at hl2
        rw [hz'] at hlen
        rw [List.length_append] at hl2 hlen
        simp only [List.length_cons, List.length_nil] at hl2 hlen
        have hl3 : (fl2 rs).length = 2 * rs.length := fl2_len rs
        refine s_if (b := decide (x.1 = c)) (et_is (et_and (a := true) (b := decide (x.1 = c)) (et_is (et_tru (ev_var rfl) (sq_of hn2')) (by simp)) fun _ => et_test (ev_is (ev_op (ev_ixL (ev_var rfl) (ev_un ev_c ru_neg) (sq_of hn2') (atI_two _ _ _)) (ev_var rfl) (rv_eq rfl)) (congrArg V.bl (decide_eq_decide.mpr (by simp; omega))))) (by simp)) (fun hb H3 e3 => ?_) (fun hb H3 e3 => ?_)
        · have hb' := of_decide_eq_true hb
          rw [if_pos hb'] at hstep
          refine ⟨_, rfl, _, rfl, n, _, _, _, rfl, rfl, sq_of (e3 _ _ hn2'), atI_one _ _ _, _, _, rfl, rfl, n, _, _, _, rfl, rfl, e3 _ _ hn2', ix_one _ _ _, ?_⟩
          refine ⟨_, rfl, Ex.mut (e2.trans e3) hn1, ?_⟩
          rw [upd_same, hstep, fl2_snoc]
          simp [nv]
        · have hb' := of_decide_eq_false hb
          rw [if_neg hb'] at hstep
          refine ⟨_, rfl, Or.inl ⟨rfl, _, sq_of (e3 _ _ hn2')⟩, ?_⟩
          refine el_lst (vs := [.int (c : Int), .int 1]) (ea_cons (ev_var rfl) (ea_cons ev_c ea_nil)) (by simp) H3 (Ex.refl H3) _ fun p H4 hp e4 h4 => ?_
          refine ⟨n, p, _, _, rfl, rfl, e4 _ _ (e3 _ _ hn2'), h4, sz_of (by simp; omega), ?_⟩
          refine ⟨_, rfl, Ex.mut ((e2.trans e3).trans e4) hn1, ?_⟩
          rw [upd_same, hstep]
          have : rs ++ [x, (c, 1)] = rs ++ [x] ++ [(c, 1)] := by simp
          rw [this, fl2_snoc, fl2_snoc]
          simp [nv]
    · rintro σ' H2 ⟨v2, rfl, e2, hn2⟩
      have hll : (nv l).length = l.length := List.length_map _
      rw [hll, List.take_length] at hn2
      exact s_ret (ev_var rfl) fun H3 e3 => k n H3 hn1 (e2.trans e3) (e3 _ _ hn2)
end
end Kt

/-! # Refusals; the pattern in the heap -/
namespace Kt
open PySem PySem.Spec PyProof.Rows L2 Evl
open Vbktaf (Weights inr State)
section
variable {P : Program} {w : World} {K : PySem.W.Frag} {mg : Str → Option Value} {base : Heap} {CR CL CW CP : Addr}
theorem inr_chain (i lo hi hi' : Int) (h : hi' = hi + 1) : (decide (lo ≤ i) && decide (i < hi')) = inr i lo hi := by
  unfold inr
  rw [decide_eq_decide.mpr (show i < hi' ↔ i ≤ hi by omega)]
/-- stretch_refusal -/
def refS (l : List Nat) (i n : Int) : Int := if (!(inr i 0 39 && inr n 1 40)) = true then -1 else if l.isEmpty = true then -2 else if (l.length : Int) < i + n then -3 else 0
def sp_stretch_refusal (K : PySem.W.Frag) : Sp := fun vs H Q _ => ∃ (a : Addr) (l : List Nat) (i n : Int), vs = [.ref a, .int i, .int n] ∧ SqL K H a (nv l) ∧ RetV (.int (refS l i n)) H Q
theorem sc_stretch_refusal : FnScope ["row", "start", "length"] ["row", "start", "length"] (C8.fnScope s_stretch_refusal) := C8.fnScope_by (by decide +kernel)
theorem nv_empty (l : List Nat) : (nv l).isEmpty = l.isEmpty := by cases l <;> rfl
theorem cal_stretch_refusal (D : DF K mg "stretch_refusal" s_stretch_refusal) (T : Tx K mg) : C8.Cal P w K mg base 1 "stretch_refusal" (sp_stretch_refusal K) [] := by
  refine cal_by D sc_stretch_refusal (fun _ _ _ _ _ _ us hl => match us, hl with | [_, _, _], _ => rfl) (fun vs H Q E h => ?_) (fun f cdv A outer s H vs Q E hr h => ?_)
  · obtain ⟨a, l, i, n, rfl, _⟩ := h
    rfl
  · obtain ⟨a, l, i, n, rfl, hS, k⟩ := h
    refine ⟨_, (pss_cons (ps_if (pt_not (PW.pt (pw_and (pt_chain op_le op_lt pe_int (pv 1) (C8.pe_gc rfl T.g_MOST_STITCHES)) (pw_and1 (pt_chain op_le op_le pe_int (pv 2) (C8.pe_gc rfl T.g_MOST_STITCHES)))))) (pss_one (ps_ret (C8.pe_gc rfl T.g_OUT_OF_RANGE))) pss_nil) (pss_cons (ps_if (pt_not (pt_truth (pv 0) (by intro _; rfl))) (pss_one (ps_ret (C8.pe_gc rfl T.g_ROW_IS_EMPTY))) pss_nil) (pss_cons (ps_if (pt_cmpR op_gt (pe_op op_add (pv 1) (pv 2)) (pe_callB call_len_seq (by rfl) T.b_len PySem.boot_len (pa_cons (pv 0) pa_nil)) (nomark _)) (pss_one (ps_ret (C8.pe_gc rfl T.g_NO_SUCH_PLACE))) pss_nil) (pss_one (ps_ret (C8.pe_gc rfl T.g_DONE)))))), ?_⟩
    refine q_when (b := !(inr i 0 39 && inr n 1 40)) (et_not (et_and (et_test (ev_is (ev_chain ev_c (ev_var rfl) fun _ => ev_c) (congrArg V.bl (inr_chain i 0 39 40 rfl)))) fun _ => et_test (ev_chain ev_c (ev_var rfl) fun _ => ev_c))) (fun hb H1 e1 => ?_) (fun hb H1 e1 => ?_)
    · refine s_ret ev_c fun H2 e2 => ?_
      have := k H2 (e1.trans e2)
      unfold refS at this
      rw [if_pos hb] at this
      exact this
    · refine q_when (b := l.isEmpty) (et_is (et_not (et_tru (ev_var rfl) (ex_l e1 hS))) (by rw [Bool.not_not, nv_empty])) (fun hc H2 e2 => ?_) (fun hc H2 e2 => ?_)
      · refine s_ret ev_c fun H3 e3 => ?_
        have := k H3 ((e1.trans e2).trans e3)
        unfold refS at this
        rw [if_neg (by rw [hb]; decide), if_pos hc] at this
        exact this
      · refine q_when (b := decide ((l.length : Int) < i + n)) (et_test (ev_is (ev_op (ev_add (ev_var rfl) (ev_var rfl)) (ev_len (ev_var rfl) (ex_l (e1.trans e2) hS)) rv_I0) (by rw [List.length_map]))) (fun hd H3 e3 => ?_) (fun hd H3 e3 => ?_)
        · refine s_ret ev_c fun H4 e4 => ?_
          have := k H4 (((e1.trans e2).trans e3).trans e4)
          unfold refS at this
          rw [if_neg (by rw [hb]; decide), if_neg (by rw [hc]; decide), if_pos (of_decide_eq_true hd)] at this
          exact this
        · refine s_ret ev_c fun H4 e4 => ?_
          have := k H4 (((e1.trans e2).trans e3).trans e4)
          unfold refS at this
          rw [if_neg (by rw [hb]; decide), if_neg (by rw [hc]; decide), if_neg (of_decide_eq_false hd)] at this
          exact this
/-- table_refusal -/
def refT (l : List Nat) (ns : List Int) : Int := if (!(decide (ns.length ≤ 820) && ns.all fun c => inr c 0 1000)) = true then -1 else if l.isEmpty = true then -2 else if ns.length ≠ l.length * (l.length + 1) / 2 then -6 else 0
def sp_table_refusal (K : PySem.W.Frag) : Sp := fun vs H Q _ => ∃ (a b : Addr) (l : List Nat) (ns : List Int), vs = [.ref a, .ref b] ∧ SqL K H a (nv l) ∧ l.length ≤ 1000 ∧ SqL K H b (iv ns) ∧ ns.length ≤ 40000 ∧ RetV (.int (refT l ns)) H Q
theorem sc_table_refusal : FnScope ["row", "numbers"] ["row", "numbers"] (C8.fnScope s_table_refusal) := C8.fnScope_by (by decide +kernel)
theorem cal_table_refusal (D : DF K mg "table_refusal" s_table_refusal) (T : Tx K mg) (c_stretch_count : C8.Cal P w K mg base 1 "stretch_count" sp_stretch_count []) (c_are_within : C8.Cal P w K mg base 1 "are_within" (sp_are_within K) []) : C8.Cal P w K mg base 2 "table_refusal" (sp_table_refusal K) [] := by
  refine cal_by D sc_table_refusal (fun _ _ _ _ _ _ us hl => match us, hl with | [_, _], _ => rfl) (fun vs H Q E h => ?_) (fun f cdv A outer s H vs Q E hr h => ?_)
  · obtain ⟨a, b, l, ns, rfl, _⟩ := h
    rfl
  · obtain ⟨a, b, l, ns, rfl, hS, hl, hN, hn, k⟩ := h
    refine ⟨_, (pss_cons (ps_if (PW.pt (pw_or (pt_cmpR op_gt (pe_callB call_len_seq (by rfl) T.b_len PySem.boot_len (pa_cons (pv 1) pa_nil)) (C8.pe_c c_stretch_count hr (by decide) rfl (pa_cons (C8.pe_gc rfl T.g_MOST_STITCHES) pa_nil)) (nomark _)) (pw_or1 (pt_not (pt_val (C8.pe_c c_are_within hr (by decide) rfl (pa_cons (pv 1) (pa_cons pe_int (pa_cons (C8.pe_gc rfl T.g_MOST_COST) pa_nil))))))))) (pss_one (ps_ret (C8.pe_gc rfl T.g_OUT_OF_RANGE))) pss_nil) (pss_cons (ps_if (pt_not (pt_truth (pv 0) (by intro _; rfl))) (pss_one (ps_ret (C8.pe_gc rfl T.g_ROW_IS_EMPTY))) pss_nil) (pss_cons (ps_if (pt_cmpR op_ne (pe_callB call_len_seq (by rfl) T.b_len PySem.boot_len (pa_cons (pv 1) pa_nil)) (C8.pe_c c_stretch_count hr (by decide) rfl (pa_cons (pe_callB call_len_seq (by rfl) T.b_len PySem.boot_len (pa_cons (pv 0) pa_nil)) pa_nil)) (nomark _)) (pss_one (ps_ret (C8.pe_gc rfl T.g_WRONG_COUNT))) pss_nil) (pss_one (ps_ret (C8.pe_gc rfl T.g_DONE)))))), ?_⟩
    refine q_when (b := !(decide (ns.length ≤ 820) && ns.all fun c => inr c 0 1000)) (et_is (et_or (a := !decide (ns.length ≤ 820)) (b := !(ns.all fun c => inr c 0 1000)) (et_test (ev_is (ev_op (ev_len (ev_var rfl) hN) (ev_call (z := .int ((40 * (40 + 1) / 2 : Nat) : Int)) (ea_cons ev_c ea_nil) fun H1 e1 Q1 q1 E1 => ⟨40, rfl, by decide, q1⟩) rv_I0) ?_)) fun _ => et_not (et_B (ev_call (ea_cons (ev_var rfl) (ea_cons ev_c (ea_cons ev_c ea_nil))) fun H1 e1 Q1 q1 E1 => ⟨b, ns, 0, 1000, rfl, ex_l e1 hN, hn, q1⟩))) (by rw [Bool.not_and])) (fun hb H1 e1 => ?_) (fun hb H1 e1 => ?_)
    · rw [List.length_map, ← decide_not]
      exact congrArg V.bl (decide_eq_decide.mpr (by omega))
    · refine s_ret ev_c fun H2 e2 => ?_
      have := k H2 (e1.trans e2)
      unfold refT at this
      rw [if_pos hb] at this
      exact this
    · refine q_when (b := l.isEmpty) (et_is (et_not (et_tru (ev_var rfl) (ex_l e1 hS))) (by rw [Bool.not_not, nv_empty])) (fun hc H2 e2 => ?_) (fun hc H2 e2 => ?_)
      · refine s_ret ev_c fun H3 e3 => ?_
        have := k H3 ((e1.trans e2).trans e3)
        unfold refT at this
        rw [if_neg (by rw [hb]; decide), if_pos hc] at this
        exact this
      · refine q_when (b := decide (ns.length ≠ l.length * (l.length + 1) / 2)) (et_test (ev_is (ev_op (ev_len (ev_var rfl) (ex_l (e1.trans e2) hN)) (ev_call (z := .int ((l.length * (l.length + 1) / 2 : Nat) : Int)) (ea_cons (ev_len (ev_var rfl) (ex_l (e1.trans e2) hS)) ea_nil) fun H1 e1 Q1 q1 E1 => ⟨l.length, by rw [List.length_map]; rfl, hl, q1⟩) (rv_ne rfl)) ?_)) (fun hd H3 e3 => ?_) (fun hd H3 e3 => ?_)
        · rw [List.length_map, ← decide_not]
          refine congrArg V.bl (decide_eq_decide.mpr ?_)
          constructor
          · intro h z
            exact h (by rw [z])
          · intro h z
            have := V.int.inj z
            exact h (by omega)
        · refine s_ret ev_c fun H4 e4 => ?_
          have := k H4 (((e1.trans e2).trans e3).trans e4)
          unfold refT at this
          rw [if_neg (by rw [hb]; decide), if_neg (by rw [hc]; decide), if_pos (of_decide_eq_true hd)] at this
          exact this
        · refine s_ret ev_c fun H4 e4 => ?_
          have := k H4 (((e1.trans e2).trans e3).trans e4)
          unfold refT at this
          rw [if_neg (by rw [hb]; decide), if_neg (by rw [hc]; decide), if_neg (of_decide_eq_false hd)] at this
          exact this
/-- Weights.__init__ -/
def sp_wt_init (CW : Addr) : Sp := fun vs H Q _ => ∃ (a dx : Addr) (w : Weights), vs = [.ref a, .int (w.letter : Int), .int (w.number : Int), .int (w.bracket : Int), .int (w.mirror : Int)] ∧ H a = some (.ins CW dx []) ∧ ∀ H', But a H H' → H' a = some (.ins CW dx (wF w)) → Q .non H'
theorem sc_Weights_init : FnScope ["self", "letter", "number", "brackets", "others"] ["self", "letter", "number", "brackets", "others"] (C8.fnScope s_Weights_init) := C8.fnScope_by (by decide +kernel)
theorem nm_of {fs : List (Str × V)} {ns : List Str} {f : Str} (e : fs.map (·.1) = ns) (h : (ns.all fun g => !decide (g = f)) = true) : ∀ p ∈ fs, ¬ p.1 = f := fun p hp z => by
  have := List.all_eq_true.mp h p.1 (e ▸ List.mem_map.mpr ⟨p, hp, rfl⟩)
  rw [decide_eq_true z] at this
  cases this
theorem mak_Weights (D : CF K mg CW "Weights" "Weights.__init__" s_Weights_init) (TW : WTx K CW) : C8.Mak P w K mg base 1 "Weights" CW (sp_wt_init CW) [] := by
  refine mak_by D sc_Weights_init (fun _ _ _ _ _ _ us hl => match us, hl with | [_, _, _, _, _], _ => rfl) (fun vs H Q E h => ?_) (fun f cdv A outer s H vs Q E hr h => ?_)
  · obtain ⟨a, dx, w, rfl, _⟩ := h
    rfl
  · obtain ⟨a, dx, w, rfl, ha, k⟩ := h
    refine ⟨_, (pss_cons (ps_fld (pv 0) (pv 1) rfl) (pss_cons (ps_fld (pv 0) (pv 2) rfl) (pss_cons (ps_fld (pv 0) (pv 3) rfl) (pss_one (ps_fld (pv 0) (pv 4) rfl))))), ?_⟩
    have l1 : ∀ (f : Str) (v : V) (fs : List (Str × V)) (n : Nat), fs.length ≤ n → (putF f v fs).length ≤ n + 1 := fun f v fs n h => Nat.le_trans (putF_len f v fs) (Nat.add_le_add_right h 1)
    have lt : ∀ {fs : List (Str × V)} {n : Nat}, fs.length ≤ n → n < 1000 → fs.length < 1000 := fun h h2 => Nat.lt_of_le_of_lt h h2
    refine ⟨_, rfl, _, rfl, a, CW, dx, _, rfl, ha, TW.cl, TW.nL, lt (n := 0) (Nat.le_refl _) (by decide), ?_⟩
    refine ⟨_, rfl, _, rfl, a, CW, dx, _, rfl, upd_same, TW.cl, TW.nN, lt (l1 _ _ _ 0 (Nat.le_refl _)) (by decide), ?_⟩
    refine ⟨_, rfl, _, rfl, a, CW, dx, _, rfl, upd_same, TW.cl, TW.nB, lt (l1 _ _ _ 1 (l1 _ _ _ 0 (Nat.le_refl _))) (by decide), ?_⟩
    refine ⟨_, rfl, _, rfl, a, CW, dx, _, rfl, upd_same, TW.cl, TW.nO, lt (l1 _ _ _ 2 (l1 _ _ _ 1 (l1 _ _ _ 0 (Nat.le_refl _)))) (by decide), ?_⟩
    rw [upd_upd, upd_upd, upd_upd]
    have e4 : putF "others" (.int (w.mirror : Int)) (putF "brackets" (.int (w.bracket : Int)) (putF "number" (.int (w.number : Int)) (putF "letter" (.int (w.letter : Int)) []))) = wF w := by
      rw [put_new (f := "letter") (fs := []) (by simp), put_new (f := "number") (nm_of (ns := ["letter"]) rfl (by decide +kernel)), put_new (f := "brackets") (nm_of (ns := ["letter", "number"]) rfl (by decide +kernel)), put_new (f := "others") (nm_of (ns := ["letter", "number", "brackets"]) rfl (by decide +kernel))]
      rfl
    rw [e4]
    exact k _ (fun x o hx h => by rw [upd_ne hx]; exact h) upd_same
/-! ## the pattern -/
def ptF (r o : Addr) : List (Str × V) := [("row", .ref r), ("weights", .ref o)]
theorem ptF_row (r o : Addr) : (ptF r o).lookup ("row" : Str) = some (.ref r) := lk_here
theorem ptF_weights (r o : Addr) : (ptF r o).lookup ("weights" : Str) = some (.ref o) := (lk_past (by decide +kernel)).trans lk_here
theorem ptF_put_row (r o r' : Addr) : putF "row" (.ref r') (ptF r o) = ptF r' o := put_here
theorem ptF_put_weights (r o o' : Addr) : putF "weights" (.ref o') (ptF r o) = ptF r o' := (put_past (by decide +kernel)).trans (congrArg _ put_here)
structure PTx (K : PySem.W.Frag) (C : Addr) : Prop where
  cl : Cls K C
  nR : NoAttr K C "row"
  nW : NoAttr K C "weights"
/-- a pattern that holds a state -/
structure PatAt (CW CP : Addr) (H : Hp) (p dx r o : Addr) (s : State) : Prop where
  ins : H p = some (.ins CP dx (ptF r o))
  row : H r = some (.lst (nv s.word))
  wt : WtAt CW H o s.weights
  wok : WOk s.weights
  len : s.word.length ≤ 40
  low : ∀ c ∈ s.word, c ≤ 25
section
variable {H H' : Hp} {p dx r o : Addr} {s : State}
theorem PatAt.ex (h : PatAt CW CP H p dx r o s) (e : Ex H H') : PatAt CW CP H' p dx r o s := ⟨e _ _ h.ins, e _ _ h.row, h.wt.ex e, h.wok, h.len, h.low⟩
theorem PatAt.ne_row (h : PatAt CW CP H p dx r o s) : r ≠ p := fun z => by
  have := h.row
  rw [z, h.ins] at this
  cases this
theorem PatAt.ne_wt (h : PatAt CW CP H p dx r o s) : o ≠ p := fun z => by
  obtain ⟨ox, hx⟩ := h.wt
  rw [z, h.ins] at hx
  have := congrArg (fun q => match q with
    | some (HO.ins _ _ fs) => fs.length
    | _ => 0) hx
  cases this
/-- the pattern has another row now -/
theorem PatAt.setRow (h : PatAt CW CP H p dx r o s) {r' : Addr} {l : List Nat} (hr : H r' = some (.lst (nv l))) (hl : l.length ≤ 40) (hw : ∀ c ∈ l, c ≤ 25) : PatAt CW CP (upd H p (.ins CP dx (ptF r' o))) p dx r' o { s with word := l } := by
  have nr : r' ≠ p := fun z => by
    rw [z, h.ins] at hr
    cases hr
  obtain ⟨ox, hx⟩ := id h.wt
  exact ⟨upd_same, by rw [upd_ne nr]; exact hr, ⟨ox, by rw [upd_ne h.ne_wt]; exact hx⟩, h.wok, hl, hw⟩
theorem PatAt.setWt (h : PatAt CW CP H p dx r o s) {o' : Addr} {w : Weights} (hne : o' ≠ p) (hw : WtAt CW H o' w) (hk : WOk w) : PatAt CW CP (upd H p (.ins CP dx (ptF r o'))) p dx r o' { s with weights := w } := by
  obtain ⟨ox, hx⟩ := hw
  exact ⟨upd_same, by rw [upd_ne h.ne_row]; exact h.row, ⟨ox, by rw [upd_ne hne]; exact hx⟩, hk, h.len, h.low⟩
end
/-- Pattern.__init__ -/
def sp_pt_init (CW CP : Addr) : Sp := fun vs H Q _ => ∃ (a dx : Addr), vs = [.ref a] ∧ H a = some (.ins CP dx []) ∧ ∀ r o H', But a H H' → PatAt CW CP H' a dx r o Vbktaf.start → Q .non H'
theorem sc_Pattern_init : FnScope ["self"] ["self"] (C8.fnScope s_Pattern_init) := C8.fnScope_by (by decide +kernel)
theorem mak_Pattern (D : CF K mg CP "Pattern" "Pattern.__init__" s_Pattern_init) (TP : PTx K CP) (c_Weights : C8.Mak P w K mg base 1 "Weights" CW (sp_wt_init CW) []) : C8.Mak P w K mg base 3 "Pattern" CP (sp_pt_init CW CP) [] := by
  refine mak_by D sc_Pattern_init (fun _ _ _ _ _ _ us hl => match us, hl with | [_], _ => rfl) (fun vs H Q E h => ?_) (fun f cdv A outer s H vs Q E hr h => ?_)
  · obtain ⟨a, dx, rfl, _⟩ := h
    rfl
  · obtain ⟨a, dx, rfl, ha, k⟩ := h
    refine ⟨_, (pss_cons (ps_fld (pv 0) (pe_lst pa_nil) rfl) (pss_one (ps_fld (pv 0) (C8.pe_mk c_Weights hr (by decide) rfl (pa_cons pe_int (pa_cons pe_int (pa_cons pe_int (pa_cons pe_int pa_nil))))) rfl))), ?_⟩
    refine ⟨sz_of (by simp), fun r hr0 => ?_⟩
    have nra : r ≠ a := fun z => by
      rw [z, ha] at hr0
      cases hr0
    refine ⟨_, rfl, a, CP, dx, _, rfl, by rw [upd_ne (Ne.symm nra)]; exact ha, TP.cl, TP.nR, by decide, ?_⟩
    rw [show putF "row" (.ref r) [] = ([("row", .ref r)] : List (Str × V)) from rfl]
    have h1 : upd (upd H r (.lst [])) a (.ins CP dx [("row", .ref r)]) a = some (.ins CP dx [("row", .ref r)]) := upd_same
    have h2 : upd (upd H r (.lst [])) a (.ins CP dx [("row", .ref r)]) r = some (.lst []) := by rw [upd_ne nra, upd_same]
    have b1 : But a H (upd (upd H r (.lst [])) a (.ins CP dx [("row", .ref r)])) := fun x o hx h => by
      rw [upd_ne hx, upd_ne (ne_of_none h hr0)]
      exact h
    generalize upd (upd H r (.lst [])) a (.ins CP dx [("row", .ref r)]) = H1 at h1 h2 b1 ⊢
    refine fun x xd hx hxd hne => ?_
    refine ⟨x, xd, ⟨1, 1, 1, 1⟩, rfl, upd_same, fun H2 b2 hi => ⟨rfl, ?_⟩⟩
    have e12 : Ex H1 H2 := fun y o h => by
      have y1 : y ≠ x := ne_of_none h hx
      have y2 : y ≠ xd := ne_of_none h hxd
      exact b2 y o y1 (by rw [upd_ne y1, upd_ne y2]; exact h)
    have nxa : x ≠ a := fun z => by
      rw [z, h1] at hx
      cases hx
    refine ⟨_, rfl, a, CP, dx, _, rfl, e12 _ _ h1, TP.cl, TP.nW, (show 1 < 1000 by decide), ?_⟩
    have hp : putF "weights" (.ref x) [("row", .ref r)] = ptF r x := (put_past (by decide +kernel)).trans rfl
    rw [hp]
    refine k r x _ (fun y o hy h => by rw [upd_ne hy]; exact e12 _ _ (b1 _ _ hy h)) ⟨upd_same, ?_, ⟨xd, ?_⟩, ⟨by decide, by decide, by decide, by decide, by decide⟩, by decide, fun c hc => by cases hc⟩
    · rw [upd_ne nra]
      exact e12 _ _ h2
    · rw [upd_ne nxa]
      exact hi
end
end Kt

/-! # What a call promises; the first calls -/
namespace Kt
open PySem PySem.Spec PyProof.Rows L2 Evl
open Vbktaf (Weights inr State)
/-! ## the letters of a text that is right -/
section
open Vbktaf
def LowE (x : Ex) : Prop := ∀ c ∈ unroll x, c ≤ 25
def LowO (e : Option Ex) : Prop := ∀ x, e = some x → LowE x
theorem low_times {n : Nat} {l : List Nat} (h : ∀ c ∈ l, c ≤ 25) : ∀ c ∈ times n l, c ≤ 25 := by
  intro c hc
  unfold times at hc
  obtain ⟨_, _, h2⟩ := List.mem_flatMap.mp hc
  exact h c h2
theorem low_joined {e : Option Ex} {y : Ex} (h : LowO e) (hy : LowE y) : LowO (some (joined e y)) := by
  rintro x rfl'
  cases rfl'
  cases e with
  | none => exact hy
  | some z =>
    intro c hc
    unfold joined unroll at hc
    rcases List.mem_append.mp hc with h1 | h1
    · exact h z rfl c h1
    · exact hy c h1
theorem low_run {c n : Nat} (h : isLetter c = true) : LowE (.run (c - 97) n) := by
  intro d hd
  unfold unroll at hd
  have := (List.mem_replicate.mp hd).2
  unfold isLetter at h
  simp only [Bool.and_eq_true, decide_eq_true_eq] at h
  omega
theorem low_group {x : Ex} {n : Nat} (h : LowE x) : LowE (.group x n) := by
  intro d hd
  unfold unroll at hd
  exact low_times h d hd
theorem low_mirror {x : Ex} {o : Bool} (h : LowE x) : LowE (.mirror o x) := by
  intro d hd
  unfold unroll at hd
  rcases List.mem_append.mp hd with h1 | h1
  · exact h d h1
  · split at h1
    · exact h d (List.mem_reverse.mp (List.mem_of_mem_drop h1))
    · exact h d (List.mem_reverse.mp h1)
def LowM (s : MS) : Prop := LowO s.e ∧ ∀ p ∈ s.us, LowO p.2
theorem mstep_low {s s' : MS} (L : LowM s) (h : mstep s = .ok s') : LowM s' := by
  obtain ⟨L1, L2⟩ := L
  unfold mstep at h
  split at h
  · cases h
  · rename_i c r e
    split at h
    · rename_i hl
      split at h
      · split at h
        · cases h
        · cases h
          exact ⟨low_joined L1 (low_run hl), L2⟩
      · cases h
        exact ⟨low_joined L1 (low_run hl), L2⟩
    · split at h
      · split at h
        · cases h
        · cases h
          refine ⟨fun x hx => (by cases hx), fun p hp => ?_⟩
          rcases List.mem_cons.mp hp with rfl | hp
          · exact L1
          · exact L2 p hp
      · split at h
        · rename_i x c0 e0 us he hus
          rw [hus] at L2
          have Lx : LowE x := L1 x he
          have L0 : LowO e0 := L2 (c0, e0) (List.mem_cons_self)
          split at h
          · split at h
            · split at h
              · cases h
              · cases h
                exact ⟨low_joined L0 (low_group Lx), fun p hp => L2 p (List.mem_cons_of_mem _ hp)⟩
            · cases h
              exact ⟨low_joined L0 (low_mirror Lx), fun p hp => L2 p (List.mem_cons_of_mem _ hp)⟩
          · cases h
        · cases h
theorem mrun_low : ∀ (f : Nat) (s : MS) (x : Ex), LowM s → mrun f s = .ok x → LowE x ∧ size x ≤ 40
  | 0, s, x, _, h => by cases h
  | f + 1, s, x, L, h => by
    unfold mrun at h
    split at h
    · unfold mend at h
      split at h
      · rename_i y hus he
        split at h
        · cases h
        · rename_i hz
          cases h
          exact ⟨L.1 x he, Nat.le_of_not_lt hz⟩
      · cases h
    · split at h
      · cases h
      · rename_i s' hs
        exact mrun_low f s' x (mstep_low L hs) h
theorem read_low {t : Bytes} {x : Ex} (h : Vbktaf.read t = .ok x) : LowE x ∧ size x ≤ 40 := by
  rw [read_mres] at h
  exact mrun_low _ _ x ⟨fun y hy => (by cases hy), fun p hp => (List.not_mem_nil hp).elim⟩ h
end
/-! ## what a call promises -/
def callN : Nat → List Int → Option Vbktaf.Call
  | 0, [a, b, c, d] => some (.weights a b c d)
  | 1, l => some (.word l)
  | 2, t => some (.read t)
  | 3, [] => some .tell
  | 4, [] => some .shortest
  | 5, t => some (.cost t)
  | 6, [i, n] => some (.stretch i n)
  | 7, [] => some .table
  | 8, l => some (.proves l)
  | 9, [i, n] => some (.ways i n)
  | 10, [] => some .runs
  | 11, [] => some .repeat_
  | 12, [] => some .mirrored
  | 13, [i, c] => some (.change i c)
  | 14, [i, c] => some (.insert i c)
  | 15, [i] => some (.remove i)
  | 16, [] => some .reverse
  | 17, t => some (.unroll t)
  | 18, t => some (.more t)
  | 19, [] => some .double
  | 20, [a, b] => some (.swap a b)
  | 21, [] => some .sizes
  | _, _ => none
def CallTo (CW CP : Addr) (p dx r0 : Addr) (H : Hp) (rs : State × List Int) (Q : VK) : Prop := ∀ q r o H', H q = none → (r = r0 ∨ H r = none) → But p H H' → PatAt CW CP H' p dx r o rs.1 → H' q = some (.lst (iv rs.2)) → Q (.ref q) H'
def sp_call (CW CP : Addr) (n : Nat) : Sp := fun vs H Q _ => ∃ (p dx r o g : Addr) (s : State) (ns : List Int) (c : Vbktaf.Call), vs = [.ref p, .ref g] ∧ PatAt CW CP H p dx r o s ∧ H g = some (.lst (iv ns)) ∧ ns.length ≤ 1000 ∧ callN n ns = some c ∧ CallTo CW CP p dx r H (Vbktaf.step s c) Q
theorem But.ex {p : Addr} {H H1 H2 : Hp} (b : But p H H1) (e : Ex H1 H2) : But p H H2 := fun x o hx h => e _ _ (b x o hx h)
theorem But.of {p : Addr} {H H1 : Hp} (e : Ex H H1) : But p H H1 := fun x o _ h => e _ _ h
theorem But.set {p : Addr} {H H1 : Hp} {u : HO} (b : But p H H1) : But p H (upd H1 p u) := fun x o hx h => by
  rw [upd_ne hx]
  exact b x o hx h
theorem guard1 {s : State} {k : Int} {b : Bool} {f : Unit → State × List Int} : Vbktaf.guarded s [(k, b)] f = if b = true then (s, [k]) else f () := by
  unfold Vbktaf.guarded
  cases b <;> rfl
theorem guard2 {s : State} {k k2 : Int} {b b2 : Bool} {f : Unit → State × List Int} : Vbktaf.guarded s [(k, b), (k2, b2)] f = if b = true then (s, [k]) else if b2 = true then (s, [k2]) else f () := by
  unfold Vbktaf.guarded
  cases b <;> cases b2 <;> rfl
theorem guard3 {s : State} {k k2 k3 : Int} {b b2 b3 : Bool} {f : Unit → State × List Int} : Vbktaf.guarded s [(k, b), (k2, b2), (k3, b3)] f = if b = true then (s, [k]) else if b2 = true then (s, [k2]) else if b3 = true then (s, [k3]) else f () := by
  unfold Vbktaf.guarded
  cases b <;> cases b2 <;> cases b3 <;> rfl
theorem iv_nats : ∀ {l : List Int}, (∀ c ∈ l, 0 ≤ c) → iv l = nv (Vbktaf.nats l)
  | [], _ => rfl
  | a :: l, h => by
    show V.int a :: iv l = V.int ((a.toNat : Nat) : Int) :: nv (Vbktaf.nats l)
    rw [iv_nats (fun c hc => h c (List.mem_cons_of_mem _ hc)), Int.toNat_of_nonneg (h a List.mem_cons_self)]
theorem nv_ints (l : List Nat) : nv l = iv (Vbktaf.ints l) := nv_iv l
theorem nats_len (l : List Int) : (Vbktaf.nats l).length = l.length := List.length_map _
section
variable {P : Program} {w : World} {K : PySem.W.Frag} {mg : Str → Option Value} {base : Heap} {CR CL CW CP : Addr}
section
variable {σ : L2.St} {H H' : Hp} {ta te : TE} {tr : TA}
theorem ev_callL {sp : Sp} {xs vs : List V} {z : V} (h : EvL ta σ H xs) (hr : EvA tr σ H vs) (hs : ∀ p H1, Ex H H1 → H1 p = some (.lst xs) → SpV sp (.ref p :: (vs ++ [])) H1 z) : Ev (tCall sp [] E0 (tCons ta tr)) σ H z := fun H1 e Q q =>
  h H1 e _ fun p H2 hp e2 h2 => hr H2 (e.trans e2) _ fun H3 e3 => hs p H3 ((e.trans e2).trans e3) (e3 _ _ h2) H3 (Ex.refl H3) Q (fun H4 e4 => q H4 ((e2.trans e3).trans e4)) E0
theorem q_fldX {f : Str} {tz : TS} {D : Ends} (h : te σ H fun v H1 => ∃ x, σ[0]? = some (some x) ∧ ∃ a C dx fs, x = .ref a ∧ H1 a = some (.ins C dx fs) ∧ Cls K C ∧ NoAttr K C f ∧ fs.length < 1000 ∧ tz D σ (upd H1 a (.ins C dx (putF f v fs)))) : tSeq (sFld K (tVar 0) te f) tz D σ H := h
theorem x_make {C : Addr} {sp : Sp} {vs : List V} {Q : VK} (h : EvA tr σ H vs) (k : ∀ H1, Ex H H1 → ∀ x dx, H1 x = none → H1 dx = none → dx ≠ x → sp (.ref x :: (vs ++ [])) (upd (upd H1 dx (.own x)) x (.ins C dx [])) (fun v H2 => v = .non ∧ Q (.ref x) H2) E0) : tMake C sp [] E0 tr σ H Q := h H (Ex.refl H) _ k
/-- a call's last word -/
theorem ret_call {p dx r r0 o : Addr} {H1 : Hp} {rs : State × List Int} {Q : VK} {D : Ends} (k : CallTo CW CP p dx r0 H rs Q) (hD : D.rt = Q) (h0 : r = r0 ∨ H r = none) (b : But p H H1) (hp : PatAt CW CP H1 p dx r o rs.1) (h : EvL te σ H1 (iv rs.2)) : tRet te D σ H1 :=
  s_retL h fun q H2 hq e2 h2 => by
    rw [hD]
    refine k q r o H2 ?_ h0 (b.ex e2) (hp.ex e2) h2
    cases hz : H q with
    | none => rfl
    | some u =>
      by_cases c : q = p
      · rw [c, hp.ins] at hq
        cases hq
      · rw [b q u c hz] at hq
        cases hq
theorem ret_callX {p dx r r0 o : Addr} {H1 : Hp} {rs rs' : State × List Int} {Q : VK} {D : Ends} (k : CallTo CW CP p dx r0 H rs Q) (hrs : rs = rs') (hD : D.rt = Q) (h0 : r = r0 ∨ H r = none) (b : But p H H1) (hp : PatAt CW CP H1 p dx r o rs'.1) (h : EvL te σ H1 (iv rs'.2)) : tRet te D σ H1 := by
  subst hrs
  exact ret_call k hD h0 b hp h
end
theorem inr_nat {a lo hi : Int} (h0 : 0 ≤ lo) (h : inr a lo hi = true) : ((a.toNat : Nat) : Int) = a ∧ lo ≤ a ∧ a ≤ hi := by
  unfold inr at h
  simp only [Bool.and_eq_true, decide_eq_true_eq] at h
  exact ⟨Int.toNat_of_nonneg (by omega), h.1, h.2⟩
/-- call_weights -/
theorem sc_call_weights : FnScope ["pattern", "given"] ["pattern", "given"] (C8.fnScope s_call_weights) := C8.fnScope_by (by decide +kernel)
theorem cal_call_weights (D : DF K mg "call_weights" s_call_weights) (T : Tx K mg) (TP : PTx K CP) (c_are_within : C8.Cal P w K mg base 1 "are_within" (sp_are_within K) []) (c_Weights : C8.Mak P w K mg base 1 "Weights" CW (sp_wt_init CW) []) : C8.Cal P w K mg base 8 "call_weights" (sp_call CW CP 0) [] := by
  refine cal_by D sc_call_weights (fun _ _ _ _ _ _ us hl => match us, hl with | [_, _], _ => rfl) (fun vs H Q E h => ?_) (fun f cdv A outer s H vs Q E hr h => ?_)
  · obtain ⟨p, dx, r, o, g, s, ns, c, rfl, _⟩ := h
    rfl
  · obtain ⟨p, dx, r, o, g, s, ns, c, rfl, hp, hg, hn, hc, k⟩ := h
    refine ⟨_, (pss_cons (ps_if (pt_not (PW.pt (pw_and (pt_chain op_le op_le pe_int (pe_ix ix_list (pv 1) pe_int (fun _ _ => rfl)) (C8.pe_gc rfl T.g_MOST_WEIGHT)) (pw_and1 (pt_val (C8.pe_c c_are_within hr (by decide) rfl (pa_cons (pe_slice sl_list (pv 1) (po_some pe_int) po_none) (pa_cons pe_int (pa_cons (C8.pe_gc rfl T.g_MOST_WEIGHT) pa_nil))))))))) (pss_one (ps_ret (pe_lst (pa_cons (C8.pe_gc rfl T.g_OUT_OF_RANGE) pa_nil)))) pss_nil) (pss_cons (ps_fld (pv 0) (C8.pe_mk c_Weights hr (by decide) rfl (pa_cons (pe_ix ix_list (pv 1) pe_int (fun _ _ => rfl)) (pa_cons (pe_ix ix_list (pv 1) pe_int (fun _ _ => rfl)) (pa_cons (pe_ix ix_list (pv 1) pe_int (fun _ _ => rfl)) (pa_cons (pe_ix ix_list (pv 1) pe_int (fun _ _ => rfl)) pa_nil))))) rfl) (pss_one (ps_ret (pe_lst (pa_cons (C8.pe_gc rfl T.g_DONE) pa_nil)))))), ?_⟩
    obtain ⟨a, b, c', d, rfl, rfl⟩ : ∃ a b c' d, ns = [a, b, c', d] ∧ c = .weights a b c' d := by
      unfold callN at hc
      split at hc <;> first | (cases hc; done) | (cases hc; exact ⟨_, _, _, _, rfl, rfl⟩) | (rename_i h1; cases h1)
    have hstep : Vbktaf.step s (.weights a b c' d) = if (!(inr a 1 9 && (inr b 0 9 && (inr c' 0 9 && inr d 0 9)))) = true then (s, [-1]) else ({ s with weights := ⟨a.toNat, b.toNat, c'.toNat, d.toNat⟩ }, [0]) := by
      unfold Vbktaf.step
      exact guard1
    have at_ : ∀ {H1 : Hp} {i : Nat} {z : Int} {σ : L2.St} {te : TE}, Ex H H1 → σ[1]? = some (some (.ref g)) → Ev te σ H1 (.int (i : Int)) → (iv [a, b, c', d])[i]? = some (.int z) → Ev (tOp (rIxL K) (tVar 1) te) σ H1 (.int z) := fun {H1 i z σ te} e h1 hi h => ev_ixL (ev_var h1) hi (sq_of (e _ _ hg)) (by
      have hi2 : i < (iv [a, b, c', d]).length := (List.getElem?_eq_some_iff.mp h).1
      unfold atI
      rw [ixN_nat hi2]
      exact h)
    refine q_when (b := !(inr a 1 9 && (inr b 0 9 && (inr c' 0 9 && inr d 0 9)))) (et_not (et_and (et_test (ev_chain ev_c (at_ (i := 0) (Ex.refl H) rfl ev_c rfl) fun _ => ev_c)) fun _ => et_B (ev_callL (el_sl (ev_var rfl) (eo_some ev_c) eo_none (sq_of hg)) (ea_cons ev_c (ea_cons ev_c ea_nil)) fun q H1 e1 h1 H2 e2 Q2 q2 E2 => ⟨q, [b, c', d], 0, 9, rfl, sq_of (e2 _ _ (h1.trans rfl)), (show 3 ≤ 40000 by decide), ?_⟩))) (fun hb H1 e1 => ?_) (fun hb H1 e1 => ?_)
    · have : ([b, c', d].all fun c => inr c 0 9) = (inr b 0 9 && (inr c' 0 9 && inr d 0 9)) := by simp
      rw [this]
      exact q2
    · refine ret_callX k (hstep.trans (if_pos hb)) rfl (Or.inl rfl) (But.of e1) (hp.ex e1) (el_lst (ea_cons ev_c ea_nil) (by simp))
    · have hb' : (inr a 1 9 && (inr b 0 9 && (inr c' 0 9 && inr d 0 9))) = true := by simpa using hb
      simp only [Bool.and_eq_true] at hb'
      obtain ⟨ha, hb1, hc1, hd1⟩ := hb'
      obtain ⟨za, a1, a2⟩ := inr_nat (by decide) ha
      obtain ⟨zb, b1, b2⟩ := inr_nat (by decide) hb1
      obtain ⟨zc, c1, c2⟩ := inr_nat (by decide) hc1
      obtain ⟨zd, d1, d2⟩ := inr_nat (by decide) hd1
      refine q_fldX (x_make (ea_cons (at_ (i := 0) e1 rfl ev_c rfl) (ea_cons (at_ (i := 1) e1 rfl ev_c rfl) (ea_cons (at_ (i := 2) e1 rfl ev_c rfl) (ea_cons (at_ (i := 3) e1 rfl ev_c rfl) ea_nil)))) fun H2 e2 x xd hx hxd hne => ?_)
      refine ⟨x, xd, ⟨a.toNat, b.toNat, c'.toNat, d.toNat⟩, by simp only [za, zb, zc, zd]; rfl, upd_same, fun H3 b3 hi => ⟨rfl, ?_⟩⟩
      have e23 : Ex H2 H3 := fun y o h => by
        have y1 : y ≠ x := ne_of_none h hx
        have y2 : y ≠ xd := ne_of_none h hxd
        exact b3 y o y1 (by rw [upd_ne y1, upd_ne y2]; exact h)
      have hp3 := hp.ex ((e1.trans e2).trans e23)
      have nxp : x ≠ p := fun z => by
        have := (hp.ex (e1.trans e2)).ins
        rw [← z, hx] at this
        cases this
      refine ⟨_, rfl, p, CP, dx, _, rfl, hp3.ins, TP.cl, TP.nW, (show 2 < 1000 by decide), ?_⟩
      rw [ptF_put_weights]
      refine ret_callX k (hstep.trans (if_neg (by rw [hb]; decide))) rfl (Or.inl rfl) (But.of ((e1.trans e2).trans e23)).set (hp3.setWt nxp ⟨xd, hi⟩ ⟨show 1 ≤ a.toNat by omega, show a.toNat ≤ 9 by omega, show b.toNat ≤ 9 by omega, show c'.toNat ≤ 9 by omega, show d.toNat ≤ 9 by omega⟩) (el_lst (ea_cons ev_c ea_nil) (by simp))
/-- call_word -/
theorem sc_call_word : FnScope ["pattern", "given"] ["pattern", "given"] (C8.fnScope s_call_word) := C8.fnScope_by (by decide +kernel)
theorem cal_call_word (D : DF K mg "call_word" s_call_word) (T : Tx K mg) (TP : PTx K CP) (c_are_within : C8.Cal P w K mg base 1 "are_within" (sp_are_within K) []) : C8.Cal P w K mg base 8 "call_word" (sp_call CW CP 1) [] := by
  refine cal_by D sc_call_word (fun _ _ _ _ _ _ us hl => match us, hl with | [_, _], _ => rfl) (fun vs H Q E h => ?_) (fun f cdv A outer s H vs Q E hr h => ?_)
  · obtain ⟨p, dx, r, o, g, s, ns, c, rfl, _⟩ := h
    rfl
  · obtain ⟨p, dx, r, o, g, s, ns, c, rfl, hp, hg, hn, hc, k⟩ := h
    refine ⟨_, (pss_cons (ps_if (pt_not (PW.pt (pw_and (pt_chain op_le op_le pe_int (pe_callB call_len_seq (by rfl) T.b_len PySem.boot_len (pa_cons (pv 1) pa_nil)) (C8.pe_gc rfl T.g_MOST_STITCHES)) (pw_and1 (pt_val (C8.pe_c c_are_within hr (by decide) rfl (pa_cons (pv 1) (pa_cons pe_int (pa_cons (C8.pe_gc rfl T.g_LAST_STITCH) pa_nil))))))))) (pss_one (ps_ret (pe_lst (pa_cons (C8.pe_gc rfl T.g_OUT_OF_RANGE) pa_nil)))) pss_nil) (pss_cons (ps_fld (pv 0) (pe_callTy call_list_of (by rfl) T.b_list (by decide +kernel) (pa_cons (pv 1) pa_nil)) rfl) (pss_one (ps_ret (pe_lst (pa_cons (C8.pe_gc rfl T.g_DONE) pa_nil)))))), ?_⟩
    obtain rfl : Vbktaf.Call.word ns = c := by
      cases hc
      rfl
    have hstep : Vbktaf.step s (.word ns) = if (!(decide (1 ≤ ns.length) && (decide (ns.length ≤ 40) && ns.all fun c => inr c 0 25))) = true then (s, [-1]) else ({ s with word := Vbktaf.nats ns }, [0]) := by
      unfold Vbktaf.step
      exact guard1
    refine q_when (b := !(decide (1 ≤ ns.length) && (decide (ns.length ≤ 40) && ns.all fun c => inr c 0 25))) (et_not (et_is (et_and (et_test (ev_is (ev_chain ev_c (ev_len (ev_var rfl) (sq_of hg)) fun _ => ev_c) (w := .bl (decide (1 ≤ ns.length) && decide (ns.length ≤ 40))) ?_)) fun _ => et_B (ev_call (ea_cons (ev_var rfl) (ea_cons ev_c (ea_cons ev_c ea_nil))) fun H1 e1 Q1 q1 E1 => ⟨g, ns, 0, 25, rfl, sq_of (e1 _ _ hg), by omega, q1⟩)) (Bool.and_assoc _ _ _))) (fun hb H1 e1 => ?_) (fun hb H1 e1 => ?_)
    · rw [List.length_map]
      congr 2
      · exact decide_eq_decide.mpr (by omega)
      · exact decide_eq_decide.mpr (by omega)
    · refine ret_callX k (hstep.trans (if_pos hb)) rfl (Or.inl rfl) (But.of e1) (hp.ex e1) (el_lst (ea_cons ev_c ea_nil) (by simp))
    · have hb' : (decide (1 ≤ ns.length) && (decide (ns.length ≤ 40) && ns.all fun c => inr c 0 25)) = true := by simpa using hb
      simp only [Bool.and_eq_true, decide_eq_true_eq] at hb'
      obtain ⟨h1, h40, hall⟩ := hb'
      have hin : ∀ c ∈ ns, 0 ≤ c ∧ c ≤ 25 := fun c hc => (inr_nat (by decide) (List.all_eq_true.mp hall c hc)).2
      refine q_fldX (el_list (K := K) (ev_var rfl) (sq_of (e1 _ _ hg)) H1 (Ex.refl H1) _ fun q H2 hq e2 h2 => ?_)
      have hp2 := hp.ex (e1.trans e2)
      refine ⟨_, rfl, p, CP, dx, _, rfl, hp2.ins, TP.cl, TP.nR, (show 2 < 1000 by decide), ?_⟩
      rw [ptF_put_row]
      rw [iv_nats fun c hc => (hin c hc).1] at h2
      refine ret_callX k (hstep.trans (if_neg (by rw [hb]; decide))) rfl (Or.inr (fresh_back e1 hq)) (But.of (e1.trans e2)).set (hp2.setRow h2 (by rw [nats_len]; exact h40) fun c hc => ?_) (el_lst (ea_cons ev_c ea_nil) (by simp))
      obtain ⟨z, hz, rfl⟩ := List.mem_map.mp hc
      have := hin z hz
      omega
end
end Kt

/-! # The calls tell, runs, read, cost -/
namespace Kt
open PySem PySem.Spec PyProof.Rows L2 Evl
open Vbktaf (Weights inr State)
theorem step_read (s : State) (t : List Int) : Vbktaf.step s (.read t) = if (!Vbktaf.isText t) = true then (s, [-1]) else match Vbktaf.read (Vbktaf.nats t) with
    | .error e => (s, [0, (e.1 : Int), (e.2 : Int)])
    | .ok x => ({ s with word := Vbktaf.unroll x }, [0, 0, (Vbktaf.size x : Int), (Vbktaf.cost s.weights x : Int)]) := by
  unfold Vbktaf.step
  exact guard1
theorem step_cost (s : State) (t : List Int) : Vbktaf.step s (.cost t) = if (!Vbktaf.isText t) = true then (s, [-1]) else match Vbktaf.read (Vbktaf.nats t) with
    | .error e => (s, [0, (e.1 : Int), (e.2 : Int)])
    | .ok x => (s, [0, 0, (Vbktaf.cost s.weights x : Int), Vbktaf.bit (Vbktaf.unroll x == s.word), (Vbktaf.depth x : Int)]) := by
  unfold Vbktaf.step
  exact guard1
section
variable {P : Program} {w : World} {K : PySem.W.Frag} {mg : Str → Option Value} {base : Heap} {CR CL CW CP : Addr}
section
variable {σ : L2.St} {H H' H0 : Hp} {ta te : TE} {t : TA} {p dx r o : Addr} {s : State}
theorem ev_row (TP : PTx K CP) (hp : PatAt CW CP H p dx r o s) (h0 : σ[0]? = some (some (.ref p))) : Ev (tFld K (tVar 0) "row") σ H (.ref r) := ev_fld (ev_var h0) hp.ins TP.cl TP.nR (ptF_row r o)
theorem ev_wts (TP : PTx K CP) (hp : PatAt CW CP H p dx r o s) (h0 : σ[0]? = some (some (.ref p))) : Ev (tFld K (tVar 0) "weights") σ H (.ref o) := ev_fld (ev_var h0) hp.ins TP.cl TP.nW (ptF_weights r o)
theorem el_meth {C a dx : Addr} {fs : List (Str × V)} {m : Str} {sp : Sp} {vs xs : List V} (ha : Ev ta σ H (.ref a)) (hi : H a = some (.ins C dx fs)) (hn : fs.lookup m = none) (h : EvA t σ H vs) (hs : SpL sp (.ref a :: (vs ++ [])) H xs) : EvL (tMeth C m sp [] E0 ta t) σ H xs := fun H1 e Q q =>
  ha H1 e _ fun H2 e2 => ⟨a, dx, fs, rfl, (e.trans e2) _ _ hi, hn, h H2 (e.trans e2) _ fun H3 e3 => hs H3 ((e.trans e2).trans e3) Q (fun p H4 hp e4 h4 => q p H4 (fresh_back (e2.trans e3) hp) ((e2.trans e3).trans e4) h4) E0⟩
/-- what a reading that is right holds -/
theorem rd_right {rd tx rdx lv : Addr} {b : List Nat} {S : RS} {ad : List AD} {x : Vbktaf.Ex} (R : RdOk K CR CL H0 H rd tx b S [] rdx lv ad []) (hr : ReadTo b S) (hx : Vbktaf.read b = .ok x) :
    S.fk = 0 ∧ S.de = Vbktaf.depth x ∧ (∀ w : Weights, S.le * w.letter + S.nu * w.number + S.ro * w.bracket + S.ot * w.mirror = Vbktaf.cost w x) ∧ ∃ d dd l, H lv = some (.lst [.ref d]) ∧ H d = some (.ins CL dd (lvF (-1) (Vbktaf.size x) l)) ∧ H l = some (.lst (nv (Vbktaf.unroll x))) ∧ H0 l = none := by
  unfold ReadTo at hr
  rw [hx] at hr
  obtain ⟨h1, h2, h3, h4, h5, h6, h7⟩ := hr
  refine ⟨h1, h3, fun w => ?_, ?_⟩
  · rw [h4, h5, h6, h7, cost_counts w x]
    omega
  · have hl := R.lvs
    rw [h2] at hl
    cases hl with
    | cons hd ht =>
      cases ht with
      | nil => exact ⟨_, _, _, R.lvl, hd.1, hd.2.1, hd.2.2.2⟩
theorem rd_wrong {b : List Nat} {S : RS} {k : Vbktaf.Fault} (hr : ReadTo b S) (hx : Vbktaf.read b = .error k) : S.fk = k.1 ∧ S.fp = k.2 ∧ k.1 ≠ 0 := by
  unfold ReadTo at hr
  rw [hx] at hr
  exact hr
theorem isText_in {ns : List Int} (h : Vbktaf.isText ns = true) : ns.length ≤ 400 ∧ iv ns = nv (Vbktaf.nats ns) := by
  unfold Vbktaf.isText at h
  simp only [Bool.and_eq_true, decide_eq_true_eq] at h
  exact ⟨h.1, iv_nats fun c hc => (inr_nat (by decide) (List.all_eq_true.mp h.2 c hc)).2.1⟩
end
/-- call_tell -/
theorem sc_call_tell : FnScope ["pattern", "given"] ["pattern", "given"] (C8.fnScope s_call_tell) := C8.fnScope_by (by decide +kernel)
theorem cal_call_tell (D : DF K mg "call_tell" s_call_tell) (T : Tx K mg) (TP : PTx K CP) : C8.Cal P w K mg base 8 "call_tell" (sp_call CW CP 3) [] := by
  refine cal_by D sc_call_tell (fun _ _ _ _ _ _ us hl => match us, hl with | [_, _], _ => rfl) (fun vs H Q E h => ?_) (fun f cdv A outer s H vs Q E hr h => ?_)
  · obtain ⟨p, dx, r, o, g, s, ns, c, rfl, _⟩ := h
    rfl
  · obtain ⟨p, dx, r, o, g, s, ns, c, rfl, hp, hg, hn, hc, k⟩ := h
    refine ⟨_, (pss_one (ps_ret (pe_op op_cat (pe_lst (pa_cons (C8.pe_gc rfl T.g_DONE) pa_nil)) (pe_fld (pv 0) rfl)))), ?_⟩
    obtain ⟨rfl, rfl⟩ : ns = [] ∧ c = .tell := by
      cases ns with
      | nil =>
        cases hc
        exact ⟨rfl, rfl⟩
      | cons a l => cases hc
    refine ret_callX k (rs' := (s, 0 :: Vbktaf.ints s.word)) (by unfold Vbktaf.step; rfl) rfl (Or.inl rfl) (But.of (Ex.refl H)) hp (el_is (el_cat (en_l (el_lst (ea_cons ev_c ea_nil) (by simp))) (en_v (ev_row TP hp rfl) hp.row) ?_) ?_)
    · have := hp.len
      simp
      omega
    · rw [nv_ints]
      rfl
/-- call_runs -/
theorem fl2_ints (rs : List (Nat × Nat)) : nv (fl2 rs) = iv (rs.flatMap fun x => [(x.1 : Int), (x.2 : Int)]) := by
  induction rs with
  | nil => rfl
  | cons x r ih =>
    show V.int (x.1 : Int) :: V.int (x.2 : Int) :: nv (fl2 r) = _
    rw [ih]
    rfl
theorem sc_call_runs : FnScope ["pattern", "given"] ["pattern", "given"] (C8.fnScope s_call_runs) := C8.fnScope_by (by decide +kernel)
theorem cal_call_runs (D : DF K mg "call_runs" s_call_runs) (T : Tx K mg) (TP : PTx K CP) (c_runs_of : C8.Cal P w K mg base 1 "runs_of" (sp_runs_of K) []) : C8.Cal P w K mg base 8 "call_runs" (sp_call CW CP 10) [] := by
  refine cal_by D sc_call_runs (fun _ _ _ _ _ _ us hl => match us, hl with | [_, _], _ => rfl) (fun vs H Q E h => ?_) (fun f cdv A outer s H vs Q E hr h => ?_)
  · obtain ⟨p, dx, r, o, g, s, ns, c, rfl, _⟩ := h
    rfl
  · obtain ⟨p, dx, r, o, g, s, ns, c, rfl, hp, hg, hn, hc, k⟩ := h
    refine ⟨_, (pss_one (ps_ret (pe_op op_cat (pe_lst (pa_cons (C8.pe_gc rfl T.g_DONE) pa_nil)) (C8.pe_c c_runs_of hr (by decide) rfl (pa_cons (pe_fld (pv 0) rfl) pa_nil))))), ?_⟩
    obtain ⟨rfl, rfl⟩ : ns = [] ∧ c = .runs := by
      cases ns with
      | nil =>
        cases hc
        exact ⟨rfl, rfl⟩
      | cons a l => cases hc
    have hlen := hp.len
    have h2 := fl2_len (Vbktaf.runsOf s.word)
    have h3 := runsOf_len s.word
    refine ret_callX k (rs' := (s, 0 :: (Vbktaf.runsOf s.word).flatMap fun x => [(x.1 : Int), (x.2 : Int)])) (by unfold Vbktaf.step; rfl) rfl (Or.inl rfl) (But.of (Ex.refl H)) hp (el_is (el_cat (en_l (el_lst (ea_cons ev_c ea_nil) (by simp))) (en_l (el_call (xs := nv (fl2 (Vbktaf.runsOf s.word))) (ea_cons (ev_row TP hp rfl) ea_nil) fun H1 e1 Q1 q1 E1 => ⟨r, s.word, rfl, sq_of (e1 _ _ hp.row), by omega, q1⟩)) ?_) ?_)
    · rw [List.length_map, h2]
      simp only [List.length_cons, List.length_nil]
      omega
    · rw [fl2_ints]
      rfl
/-- call_read -/
theorem sc_call_read : FnScope ["pattern", "given", "reading"] ["pattern", "given"] (C8.fnScope s_call_read) := C8.fnScope_by (by decide +kernel)
theorem cal_call_read (D : DF K mg "call_read" s_call_read) (T : Tx K mg) (TP : PTx K CP) (c_is_text : C8.Cal P w K mg base 2 "is_text" (sp_is_text K) []) (c_read_text : C8.Cal P w K mg base 7 "read_text" (sp_read_text K CR CL) []) (c_Reading_is_right : C8.Met P w K mg base 1 CR "is_right" (sp_is_right CR) [])
    (c_Reading_fault : C8.Met P w K mg base 1 CR "fault" (sp_fault CR) []) (c_Reading_told : C8.Met P w K mg base 1 CR "told" (sp_told K CR CL) []) (c_Reading_cost : C8.Met P w K mg base 1 CR "cost" (sp_rd_cost CR CW) []) : C8.Cal P w K mg base 8 "call_read" (sp_call CW CP 2) [] := by
  refine cal_by D sc_call_read (fun _ _ _ _ _ _ us hl => match us, hl with | [_, _], _ => rfl) (fun vs H Q E h => ?_) (fun f cdv A outer s H vs Q E hr h => ?_)
  · obtain ⟨p, dx, r, o, g, s, ns, c, rfl, _⟩ := h
    rfl
  · obtain ⟨p, dx, r, o, g, s, ns, c, rfl, hp, hg, hn, hc, k⟩ := h
    refine ⟨_, (pss_cons (ps_if (pt_not (pt_val (C8.pe_c c_is_text hr (by decide) rfl (pa_cons (pv 1) pa_nil)))) (pss_one (ps_ret (pe_lst (pa_cons (C8.pe_gc rfl T.g_OUT_OF_RANGE) pa_nil)))) pss_nil) (pss_cons (ps_set (i := 2) sc_call_read.nd rfl (Or.inl rfl) (C8.pe_c c_read_text hr (by decide) rfl (pa_cons (pv 1) pa_nil))) (pss_cons (ps_if (pt_not (pt_val (C8.pe_mt0 c_Reading_is_right hr (by decide) (pv 2)))) (pss_one (ps_ret (pe_op op_cat (pe_lst (pa_cons (C8.pe_gc rfl T.g_DONE) pa_nil)) (C8.pe_mt0 c_Reading_fault hr (by decide) (pv 2))))) pss_nil) (pss_cons (ps_fld (pv 0) (C8.pe_mt0 c_Reading_told hr (by decide) (pv 2)) rfl) (pss_one (ps_ret (pe_lst (pa_cons (C8.pe_gc rfl T.g_DONE) (pa_cons pe_int (pa_cons (pe_callB call_len_seq (by rfl) T.b_len PySem.boot_len (pa_cons (pe_fld (pv 0) rfl) pa_nil)) (pa_cons (C8.pe_mt c_Reading_cost hr (by decide) (pv 2) (pa_cons (pe_fld (pv 0) rfl) pa_nil)) pa_nil))))))))))), ?_⟩
    obtain rfl : Vbktaf.Call.read ns = c := by
      cases hc
      rfl
    refine q_when (b := !Vbktaf.isText ns) (et_not (et_B (ev_call (ea_cons (ev_var rfl) ea_nil) fun H1 e1 Q1 q1 E1 => ⟨g, ns, rfl, sq_of (e1 _ _ hg), by omega, q1⟩))) (fun hb H1 e1 => ?_) (fun hb H1 e1 => ?_)
    · refine ret_callX k (rs' := (s, [-1])) (by rw [step_read, if_pos hb]) rfl (Or.inl rfl) (But.of e1) (hp.ex e1) (el_lst (ea_cons ev_c ea_nil) (by simp))
    · have hit : Vbktaf.isText ns = true := by simpa using hb
      obtain ⟨h400, hnv⟩ := isText_in hit
      refine q_asgX (x_call (ea_cons (ev_var rfl) ea_nil) fun H2 e2 => ⟨g, Vbktaf.nats ns, rfl, sq_of ((e1.trans e2) _ _ (hg.trans (by rw [hnv]))), by rw [nats_len]; omega, fun H3 rd rdx lv ad S R hRd => ?_⟩)
      have e3 : Ex H H3 := (e1.trans e2).trans R.e
      have hp3 := hp.ex e3
      refine q_when (b := !decide (S.fk = 0)) (et_not (et_B (ev_meth (ev_var rfl) R.ins (rdF_no_is_right _ _ _ _ _ _ _ _ _ _) ea_nil fun H4 e4 Q4 q4 E4 => ⟨rd, rdx, g, lv, S, rfl, e4 _ _ R.ins, q4⟩))) (fun hz H4 e4 => ?_) (fun hz H4 e4 => ?_)
      · cases hx : Vbktaf.read (Vbktaf.nats ns) with
        | ok x =>
          have := (rd_right R hRd hx).1
          rw [decide_eq_true this] at hz
          cases hz
        | error kf =>
          obtain ⟨f1, f2, f3⟩ := rd_wrong hRd hx
          refine ret_callX k (rs' := (s, [0, (kf.1 : Int), (kf.2 : Int)])) (by rw [step_read, if_neg (by rw [hb]; decide), hx]) rfl (Or.inl rfl) (But.of (e3.trans e4)) (hp3.ex e4) (el_is (el_cat (en_l (el_lst (ea_cons ev_c ea_nil) (by simp))) (en_l (el_meth (ev_var rfl) (e4 _ _ R.ins) (rdF_no_fault _ _ _ _ _ _ _ _ _ _) ea_nil fun H5 e5 Q5 q5 E5 => ⟨rd, rdx, g, lv, S, rfl, (e4.trans e5) _ _ R.ins, q5⟩)) (by simp)) ?_)
          rw [f1, f2]
          rfl
      · cases hx : Vbktaf.read (Vbktaf.nats ns) with
        | error kf =>
          obtain ⟨f1, f2, f3⟩ := rd_wrong hRd hx
          rw [decide_eq_false (by rw [f1]; exact f3)] at hz
          cases hz
        | ok x =>
          obtain ⟨g1, g2, g3, d, dd, l, hl1, hl2, hl3, hl0⟩ := rd_right R hRd hx
          obtain ⟨hlow, h40⟩ := read_low hx
          have hlen := unroll_length x
          refine q_fldX (ev_meth (ev_var rfl) (e4 _ _ R.ins) (rdF_no_told _ _ _ _ _ _ _ _ _ _) ea_nil (fun H5 e5 Q5 q5 E5 => ⟨rd, rdx, g, lv, d, dd, l, S, -1, _, rfl, (e4.trans e5) _ _ R.ins, (e4.trans e5) _ _ hl1, (e4.trans e5) _ _ hl2, q5⟩) H4 (Ex.refl H4) _ fun H5 e5 => ?_)
          have e45 := e4.trans e5
          have hp5 := hp3.ex e45
          refine ⟨_, rfl, p, CP, dx, _, rfl, hp5.ins, TP.cl, TP.nR, (show 2 < 1000 by decide), ?_⟩
          rw [ptF_put_row]
          have hp6 := hp5.setRow (e45 _ _ hl3) (by omega) hlow
          have nrp : rd ≠ p := fun z => by
            have h1 := R.r0
            rw [z, (e1.trans e2) _ _ hp.ins] at h1
            cases h1
          have hi6 : upd H5 p (.ins CP dx (ptF l o)) rd = some (.ins CR rdx (rdS g lv S)) := by
            rw [upd_ne nrp]
            exact e45 _ _ R.ins
          refine ret_callX k (rs' := ({ s with word := Vbktaf.unroll x }, [0, 0, (Vbktaf.size x : Int), (Vbktaf.cost s.weights x : Int)])) (by rw [step_read, if_neg (by rw [hb]; decide), hx]) rfl (Or.inr (fresh_back (e1.trans e2) hl0)) (But.of (e3.trans e45)).set hp6
            (el_lst (vs := iv [0, 0, (Vbktaf.size x : Int), (Vbktaf.cost s.weights x : Int)]) (ea_cons ev_c (ea_cons ev_c (ea_cons (ev_is (ev_len (ev_row TP hp6 rfl) (sq_of hp6.row)) ?_) (ea_cons (ev_meth (ev_var rfl) hi6 (rdF_no_cost _ _ _ _ _ _ _ _ _ _) (ea_cons (ev_wts TP hp6 rfl) ea_nil) fun H7 e7 Q7 q7 E7 => ⟨rd, rdx, g, lv, o, S, s.weights, rfl, e7 _ _ hi6, hp6.wt.ex e7, hp6.wok, ?_⟩) ea_nil)))) (by simp))
          · rw [List.length_map, hlen]
          · rw [g3]
            exact q7
/-- call_cost -/
theorem sc_call_cost : FnScope ["pattern", "given", "reading", "tells_row"] ["pattern", "given"] (C8.fnScope s_call_cost) := C8.fnScope_by (by decide +kernel)
theorem cal_call_cost (D : DF K mg "call_cost" s_call_cost) (T : Tx K mg) (TP : PTx K CP) (TR : RTx K CR) (c_is_text : C8.Cal P w K mg base 2 "is_text" (sp_is_text K) []) (c_read_text : C8.Cal P w K mg base 7 "read_text" (sp_read_text K CR CL) []) (c_Reading_is_right : C8.Met P w K mg base 1 CR "is_right" (sp_is_right CR) [])
    (c_Reading_fault : C8.Met P w K mg base 1 CR "fault" (sp_fault CR) []) (c_Reading_told : C8.Met P w K mg base 1 CR "told" (sp_told K CR CL) []) (c_Reading_cost : C8.Met P w K mg base 1 CR "cost" (sp_rd_cost CR CW) []) : C8.Cal P w K mg base 8 "call_cost" (sp_call CW CP 5) [] := by
  refine cal_by D sc_call_cost (fun _ _ _ _ _ _ us hl => match us, hl with | [_, _], _ => rfl) (fun vs H Q E h => ?_) (fun f cdv A outer s H vs Q E hr h => ?_)
  · obtain ⟨p, dx, r, o, g, s, ns, c, rfl, _⟩ := h
    rfl
  · obtain ⟨p, dx, r, o, g, s, ns, c, rfl, hp, hg, hn, hc, k⟩ := h
    refine ⟨_, (pss_cons (ps_if (pt_not (pt_val (C8.pe_c c_is_text hr (by decide) rfl (pa_cons (pv 1) pa_nil)))) (pss_one (ps_ret (pe_lst (pa_cons (C8.pe_gc rfl T.g_OUT_OF_RANGE) pa_nil)))) pss_nil) (pss_cons (ps_set (i := 2) sc_call_cost.nd rfl (Or.inl rfl) (C8.pe_c c_read_text hr (by decide) rfl (pa_cons (pv 1) pa_nil))) (pss_cons (ps_if (pt_not (pt_val (C8.pe_mt0 c_Reading_is_right hr (by decide) (pv 2)))) (pss_one (ps_ret (pe_op op_cat (pe_lst (pa_cons (C8.pe_gc rfl T.g_DONE) pa_nil)) (C8.pe_mt0 c_Reading_fault hr (by decide) (pv 2))))) pss_nil) (pss_cons (ps_set (i := 3) sc_call_cost.nd rfl (Or.inl rfl) (pe_ifExp (pt_cmpR (op_eqD hr.units) (C8.pe_mt0 c_Reading_told hr (by decide) (pv 2)) (pe_fld (pv 0) rfl) (nomark _)) pe_int pe_int)) (pss_one (ps_ret (pe_lst (pa_cons (C8.pe_gc rfl T.g_DONE) (pa_cons pe_int (pa_cons (C8.pe_mt c_Reading_cost hr (by decide) (pv 2) (pa_cons (pe_fld (pv 0) rfl) pa_nil)) (pa_cons (pv 3) (pa_cons (pe_fld (pv 2) rfl) pa_nil)))))))))))), ?_⟩
    obtain rfl : Vbktaf.Call.cost ns = c := by
      cases hc
      rfl
    refine q_when (b := !Vbktaf.isText ns) (et_not (et_B (ev_call (ea_cons (ev_var rfl) ea_nil) fun H1 e1 Q1 q1 E1 => ⟨g, ns, rfl, sq_of (e1 _ _ hg), by omega, q1⟩))) (fun hb H1 e1 => ?_) (fun hb H1 e1 => ?_)
    · refine ret_callX k (rs' := (s, [-1])) (by rw [step_cost, if_pos hb]) rfl (Or.inl rfl) (But.of e1) (hp.ex e1) (el_lst (ea_cons ev_c ea_nil) (by simp))
    · have hit : Vbktaf.isText ns = true := by simpa using hb
      obtain ⟨h400, hnv⟩ := isText_in hit
      refine q_asgX (x_call (ea_cons (ev_var rfl) ea_nil) fun H2 e2 => ⟨g, Vbktaf.nats ns, rfl, sq_of ((e1.trans e2) _ _ (hg.trans (by rw [hnv]))), by rw [nats_len]; omega, fun H3 rd rdx lv ad S R hRd => ?_⟩)
      have e3 : Ex H H3 := (e1.trans e2).trans R.e
      have hp3 := hp.ex e3
      refine q_when (b := !decide (S.fk = 0)) (et_not (et_B (ev_meth (ev_var rfl) R.ins (rdF_no_is_right _ _ _ _ _ _ _ _ _ _) ea_nil fun H4 e4 Q4 q4 E4 => ⟨rd, rdx, g, lv, S, rfl, e4 _ _ R.ins, q4⟩))) (fun hz H4 e4 => ?_) (fun hz H4 e4 => ?_)
      · cases hx : Vbktaf.read (Vbktaf.nats ns) with
        | ok x =>
          have := (rd_right R hRd hx).1
          rw [decide_eq_true this] at hz
          cases hz
        | error kf =>
          obtain ⟨f1, f2, f3⟩ := rd_wrong hRd hx
          refine ret_callX k (rs' := (s, [0, (kf.1 : Int), (kf.2 : Int)])) (by rw [step_cost, if_neg (by rw [hb]; decide), hx]) rfl (Or.inl rfl) (But.of (e3.trans e4)) (hp3.ex e4) (el_is (el_cat (en_l (el_lst (ea_cons ev_c ea_nil) (by simp))) (en_l (el_meth (ev_var rfl) (e4 _ _ R.ins) (rdF_no_fault _ _ _ _ _ _ _ _ _ _) ea_nil fun H5 e5 Q5 q5 E5 => ⟨rd, rdx, g, lv, S, rfl, (e4.trans e5) _ _ R.ins, q5⟩)) (by simp)) ?_)
          rw [f1, f2]
          rfl
      · cases hx : Vbktaf.read (Vbktaf.nats ns) with
        | error kf =>
          obtain ⟨f1, f2, f3⟩ := rd_wrong hRd hx
          rw [decide_eq_false (by rw [f1]; exact f3)] at hz
          cases hz
        | ok x =>
          obtain ⟨g1, g2, g3, d, dd, l, hl1, hl2, hl3, hl0⟩ := rd_right R hRd hx
          have hp4 := hp3.ex e4
          refine q_asg (v := .int (Vbktaf.bit (Vbktaf.unroll x == s.word))) (ev_if (b := decide (Vbktaf.unroll x = s.word)) (et_test (ev_op (ev_meth (ev_var rfl) (e4 _ _ R.ins) (rdF_no_told _ _ _ _ _ _ _ _ _ _) ea_nil fun H5 e5 Q5 q5 E5 => ⟨rd, rdx, g, lv, d, dd, l, S, -1, _, rfl, (e4.trans e5) _ _ R.ins, (e4.trans e5) _ _ hl1, (e4.trans e5) _ _ hl2, q5⟩) (ev_row TP hp4 rfl) (rv_eqN (sq_of (e4 _ _ hl3)) (sq_of hp4.row)))) (fun hq => ev_is ev_c ?_) (fun hq => ev_is ev_c ?_)) fun H5 e5 => ?_
          · rw [beq_dec, hq]
            rfl
          · rw [beq_dec, hq]
            rfl
          · have e45 := e4.trans e5
            have hp5 := hp4.ex e5
            have hi5 := e45 _ _ R.ins
            refine ret_callX k (rs' := (s, [0, 0, (Vbktaf.cost s.weights x : Int), Vbktaf.bit (Vbktaf.unroll x == s.word), (Vbktaf.depth x : Int)])) (by rw [step_cost, if_neg (by rw [hb]; decide), hx]) rfl (Or.inl rfl) (But.of (e3.trans e45)) hp5
              (el_lst (vs := iv [0, 0, (Vbktaf.cost s.weights x : Int), Vbktaf.bit (Vbktaf.unroll x == s.word), (Vbktaf.depth x : Int)]) (ea_cons ev_c (ea_cons ev_c (ea_cons (ev_meth (ev_var rfl) hi5 (rdF_no_cost _ _ _ _ _ _ _ _ _ _) (ea_cons (ev_wts TP hp5 rfl) ea_nil) fun H7 e7 Q7 q7 E7 => ⟨rd, rdx, g, lv, o, S, s.weights, rfl, e7 _ _ hi5, hp5.wt.ex e7, hp5.wok, ?_⟩) (ea_cons (ev_var rfl) (ea_cons (ev_is (ev_fld (ev_var rfl) hi5 TR.cl TR.nD (rdF_depth _ _ _ _ _ _ _ _ _ _)) ?_) ea_nil))))) (by simp))
            · rw [g3]
              exact q7
            · rw [g2]
end
end Kt

/-! # The calls shortest, stretch, table, proves, ways -/
namespace Kt
open PySem PySem.Spec PyProof.Rows L2 Evl
open Vbktaf (Weights inr State Way look tableOf)
/-! ## what the specification asks -/
theorem step_shortest (s : State) : Vbktaf.step s .shortest = if s.word.isEmpty = true then (s, [-2]) else (s, 0 :: (Vbktaf.cost s.weights (Vbktaf.shortest s.weights s.word) : Int) :: (Vbktaf.depth (Vbktaf.shortest s.weights s.word) : Int) :: Vbktaf.ints (Vbktaf.shown (Vbktaf.shortest s.weights s.word))) := by
  unfold Vbktaf.step
  exact guard1
theorem step_table (s : State) : Vbktaf.step s .table = if s.word.isEmpty = true then (s, [-2]) else (s, 0 :: Vbktaf.ints (Vbktaf.flat (Vbktaf.table s.weights s.word))) := by
  unfold Vbktaf.step
  exact guard1
theorem guardS {s : State} {i n : Int} {f : Unit → State × List Int} : Vbktaf.guarded s [(-1, !(inr i 0 39 && inr n 1 40)), (-2, s.word.isEmpty), Vbktaf.stretchOf s i n] f = if refS s.word i n = 0 then f () else (s, [refS s.word i n]) := by
  have h : Vbktaf.guarded s [(-1, !(inr i 0 39 && inr n 1 40)), (-2, s.word.isEmpty), Vbktaf.stretchOf s i n] f = if (!(inr i 0 39 && inr n 1 40)) = true then (s, [-1]) else if s.word.isEmpty = true then (s, [-2]) else if decide ((s.word.length : Int) < i + n) = true then (s, [-3]) else f () := guard3
  rw [h]
  unfold refS
  by_cases h1 : (!(inr i 0 39 && inr n 1 40)) = true
  · rw [if_pos h1, if_pos h1, if_neg (by decide)]
  · rw [if_neg h1, if_neg h1]
    by_cases h2 : s.word.isEmpty = true
    · rw [if_pos h2, if_pos h2, if_neg (by decide)]
    · rw [if_neg h2, if_neg h2]
      by_cases h3 : (s.word.length : Int) < i + n
      · rw [if_pos (decide_eq_true h3), if_pos h3, if_neg (by decide)]
      · rw [if_neg (by rw [decide_eq_false h3]; decide), if_neg h3, if_pos rfl]
theorem step_stretch (s : State) (i n : Int) : Vbktaf.step s (.stretch i n) = if refS s.word i n = 0 then (s, 0 :: (look (Vbktaf.table s.weights s.word) i.toNat n.toNat : Int) :: Vbktaf.ints (Vbktaf.shown (Vbktaf.told s.weights s.word (Vbktaf.table s.weights s.word) (n.toNat + 1) i.toNat n.toNat))) else (s, [refS s.word i n]) := by
  unfold Vbktaf.step
  exact guardS
theorem step_ways (s : State) (i n : Int) : Vbktaf.step s (.ways i n) = if refS s.word i n = 0 then (s, 0 :: (Vbktaf.ways s.weights (Vbktaf.part s.word i.toNat n.toNat) fun a m => look (Vbktaf.table s.weights s.word) (i.toNat + a) m).flatMap Vbktaf.wayRow) else (s, [refS s.word i n]) := by
  unfold Vbktaf.step
  exact guardS
theorem step_proves (s : State) (l : List Int) : Vbktaf.step s (.proves l) = if refT s.word l = 0 then (s, [0, Vbktaf.bit (Vbktaf.proves s.weights s.word (tableOf s.word.length (Vbktaf.nats l)))]) else (s, [refT s.word l]) := by
  have h : Vbktaf.step s (.proves l) = if (!(decide (l.length ≤ 820) && l.all fun c => inr c 0 1000)) = true then (s, [-1]) else if s.word.isEmpty = true then (s, [-2]) else if (l.length != s.word.length * (s.word.length + 1) / 2) = true then (s, [-6]) else (s, [0, Vbktaf.bit (Vbktaf.proves s.weights s.word (tableOf s.word.length (Vbktaf.nats l)))]) := by
    unfold Vbktaf.step
    exact guard3
  rw [h]
  unfold refT
  by_cases h1 : (!(decide (l.length ≤ 820) && l.all fun c => inr c 0 1000)) = true
  · rw [if_pos h1, if_pos h1, if_neg (by decide)]
  · rw [if_neg h1, if_neg h1]
    by_cases h2 : s.word.isEmpty = true
    · rw [if_pos h2, if_pos h2, if_neg (by decide)]
    · rw [if_neg h2, if_neg h2]
      by_cases h3 : l.length = s.word.length * (s.word.length + 1) / 2
      · have e : (if l.length ≠ s.word.length * (s.word.length + 1) / 2 then (-6 : Int) else 0) = 0 := if_neg fun z => z h3
        rw [if_neg (by rw [h3]; simp), if_pos e]
      · have e : (if l.length ≠ s.word.length * (s.word.length + 1) / 2 then (-6 : Int) else 0) = -6 := if_pos h3
        rw [if_pos (by simpa using h3), e, if_neg (by decide)]
theorem refS_zero {l : List Nat} {i n : Int} (h : refS l i n = 0) : (0 ≤ i ∧ i ≤ 39) ∧ (1 ≤ n ∧ n ≤ 40) ∧ l ≠ [] ∧ i + n ≤ (l.length : Int) := by
  unfold refS at h
  by_cases h1 : (!(inr i 0 39 && inr n 1 40)) = true
  · rw [if_pos h1] at h
    exact absurd h (by decide)
  · rw [if_neg h1] at h
    by_cases h2 : l.isEmpty = true
    · rw [if_pos h2] at h
      exact absurd h (by decide)
    · rw [if_neg h2] at h
      by_cases h3 : (l.length : Int) < i + n
      · rw [if_pos h3] at h
        exact absurd h (by decide)
      · have h1' : (inr i 0 39 && inr n 1 40) = true := by simpa using h1
        rw [Bool.and_eq_true] at h1'
        exact ⟨(inr_nat (by decide) h1'.1).2, (inr_nat (by decide) h1'.2).2, fun z => h2 (by rw [z]; rfl), by omega⟩
theorem refT_zero {l : List Nat} {ns : List Int} (h : refT l ns = 0) : l ≠ [] ∧ ns.length = l.length * (l.length + 1) / 2 ∧ ∀ c ∈ ns, 0 ≤ c := by
  unfold refT at h
  by_cases h1 : (!(decide (ns.length ≤ 820) && ns.all fun c => inr c 0 1000)) = true
  · rw [if_pos h1] at h
    exact absurd h (by decide)
  · rw [if_neg h1] at h
    by_cases h2 : l.isEmpty = true
    · rw [if_pos h2] at h
      exact absurd h (by decide)
    · rw [if_neg h2] at h
      by_cases h3 : ns.length = l.length * (l.length + 1) / 2
      · have h1' : (decide (ns.length ≤ 820) && ns.all fun c => inr c 0 1000) = true := by simpa using h1
        rw [Bool.and_eq_true] at h1'
        exact ⟨fun z => h2 (by rw [z]; rfl), h3, fun c hc => (inr_nat (by decide) (List.all_eq_true.mp h1'.2 c hc)).2.1⟩
      · rw [if_pos h3] at h
        exact absurd h (by decide)
theorem rows_table (w : Weights) (l : List Nat) : (brows w l l.length).map (fun r => r.map fun x => x.2) = [] :: Vbktaf.table w l := by
  unfold brows
  rw [List.map_cons, List.map_map, table_eq]
  congr 1
  apply List.map_congr_left
  intro k _
  show (brow w l k).map (fun x => x.2) = _
  unfold brow
  rw [List.map_map]
  rfl
theorem flat_le {m : Nat} : ∀ {L : List (List Nat)}, (∀ r ∈ L, r.length ≤ m) → L.flatten.length ≤ L.length * m
  | [], _ => by simp
  | r :: L, h => by
    have h1 := flat_le (L := L) fun r hr => h r (List.mem_cons_of_mem _ hr)
    have h2 := h r List.mem_cons_self
    rw [List.flatten_cons, List.length_append, List.length_cons, Nat.add_mul]
    omega
theorem table_flat_len {w : Weights} {l : List Nat} (h : l.length ≤ 40) : (Vbktaf.table w l).flatten.length ≤ 1600 := by
  have h1 := flat_le (L := Vbktaf.table w l) (m := 40) fun r hr => by
    rw [table_eq] at hr
    obtain ⟨k, _, rfl⟩ := List.mem_map.mp hr
    rw [List.length_map, List.length_range]
    omega
  rw [table_length] at h1
  have : l.length * 40 ≤ 40 * 40 := Nat.mul_le_mul_right 40 h
  omega
theorem brows_small {w : Weights} {l : List Nat} (h : l.length ≤ 40) : (brows w l l.length).length ≤ 1000 ∧ ∀ r ∈ brows w l l.length, r.length ≤ 1000 := by
  unfold brows
  refine ⟨by simp; omega, fun r hr => ?_⟩
  rcases List.mem_cons.mp hr with rfl | hr
  · simp
  · obtain ⟨k, _, rfl⟩ := List.mem_map.mp hr
    unfold brow
    rw [List.length_map, List.length_range]
    omega
theorem shortest_tx (w : Weights) (l : List Nat) : Vbktaf.shortest w l = tx w l 0 l.length := rfl
section
variable {P : Program} {w : World} {K : PySem.W.Frag} {mg : Str → Option Value} {base : Heap} {CR CL CW CP : Addr}
section
variable {σ : L2.St} {H H' H0 : Hp} {ta te : TE} {t : TA} {p dx r o : Addr} {s : State}
theorem best_last {wt : Weights} {l : List Nat} {bv : List V} (h0 : l ≠ []) (PW : Paired (WysV K H) (brows wt l l.length) bv) : ∃ bv' a u, bv = bv' ++ [.ref a] ∧ SqL K H a [u] ∧ WayV K H (bw wt l 0 l.length) u := by
  obtain ⟨m, hm⟩ : ∃ m, l.length = m + 1 := ⟨l.length - 1, by have := List.length_pos_iff.mpr h0; omega⟩
  have hb : brows wt l l.length = brows wt l m ++ [[bw wt l 0 l.length]] := by
    rw [hm, brows_succ]
    have : brow wt l m = [bw wt l 0 (m + 1)] := by
      unfold brow
      rw [hm, Nat.add_sub_cancel_left]
      rfl
    rw [this]
  have hl := paired_length PW
  obtain ⟨v, hv, hW⟩ := paired_get PW (i := (brows wt l m).length) (x := [bw wt l 0 l.length]) (by rw [hb]; simp)
  have hlen : bv.length = (brows wt l m).length + 1 := by
    rw [hl, hb, List.length_append]
    rfl
  obtain ⟨a, us, rfl, hu, Pu⟩ := hW
  cases Pu with
  | cons h1 h2 =>
    cases h2
    refine ⟨bv.take (brows wt l m).length, a, _, ?_, hu, h1⟩
    have e := List.take_succ (l := bv) (i := (brows wt l m).length)
    rw [hv, List.take_of_length_le (by omega)] at e
    exact e
theorem ev_best {wt : Weights} {l : List Nat} {b : Addr} {bv : List V} {j : Nat} (h0 : l ≠ []) (hj : σ[j]? = some (some (.ref b))) (hb : H b = some (.lst bv)) (PW : Paired (WysV K H) (brows wt l l.length) bv) :
    Ev (tCall (sp_way_cost K) [] E0 (tCons (tOp (rIxL K) (tOp (rIxL K) (tVar j) (tUn (rU fun i => .int (-i)) (tC (.int 1)))) (tC (.int 0))) tNil)) σ H (.int ((bw wt l 0 l.length).2 : Int)) := by
  obtain ⟨bv', a, u, rfl, ha, hu⟩ := best_last h0 PW
  exact ev_call (ea_cons (ev_ixL (ev_ixL (ev_var hj) (ev_un ev_c ru_neg) (sq_of hb) (atI_last _ _)) ev_c ha rfl) ea_nil) fun H1 e1 Q1 q1 E1 => ⟨_, u, rfl, hu.ex e1, q1⟩
theorem x_costs {Q : VK} (TP : PTx K CP) (hp : PatAt CW CP H p dx r o s) (h0 : σ[0]? = some (some (.ref p))) (k : ∀ c H2, Ex H H2 → TabT H2 c ([] :: Vbktaf.table s.weights s.word) → Q (.ref c) H2) :
    tCall (sp_costs_of K) [] E0 (tCons (tCall (sp_best_ways K CW) [] E0 (tCons (tFld K (tVar 0) "row") (tCons (tFld K (tVar 0) "weights") tNil))) tNil) σ H Q := by
  have hl := hp.len
  refine x_call (sp := sp_best_ways K CW) (ea_cons (ev_row TP hp h0) (ea_cons (ev_wts TP hp h0) ea_nil)) fun H2 e2 => ⟨r, o, s.word, s.weights, rfl, sq_of (e2 _ _ hp.row), by omega, hp.wt.ex e2, fun b H3 bv hb e3 hbl PW => ?_⟩
  obtain ⟨b1, b2⟩ := brows_small (w := s.weights) hl
  refine ⟨b, bv, brows s.weights s.word s.word.length, rfl, sq_of hbl, PW, b1, b2, fun c H4 e4 hT => k c H4 ((e2.trans e3).trans e4) ?_⟩
  rw [rows_table] at hT
  exact hT
theorem ix_given {g : Addr} {ns : List Int} {i : Nat} {z : Int} {j : Nat} (hg : H g = some (.lst (iv ns))) (hj : σ[j]? = some (some (.ref g))) (h : ns[i]? = some z) : Ev (tOp (rIxL K) (tVar j) (tC (.int (i : Int)))) σ H (.int z) :=
  ev_ixL (ev_var hj) ev_c (sq_of hg) (atI_nat (by rw [List.getElem?_map, h]; rfl))
end
theorem two_of {n : Nat} {ns : List Int} {c : Vbktaf.Call} {f : Int → Int → Vbktaf.Call} (h1 : ∀ a b, callN n [a, b] = some (f a b)) (h0 : callN n [] = none) (h2 : ∀ a, callN n [a] = none) (h3 : ∀ a b x r, callN n (a :: b :: x :: r) = none) (hc : callN n ns = some c) : ∃ a b, ns = [a, b] ∧ c = f a b := by
  match ns, hc with
  | [], hc => rw [h0] at hc; cases hc
  | [a], hc => rw [h2] at hc; cases hc
  | [a, b], hc => rw [h1] at hc; cases hc; exact ⟨a, b, rfl, rfl⟩
  | a :: b :: x :: r, hc => rw [h3] at hc; cases hc
/-- call_shortest -/
theorem sc_call_shortest : FnScope ["pattern", "given", "best", "text"] ["pattern", "given"] (C8.fnScope s_call_shortest) := C8.fnScope_by (by decide +kernel)
theorem cal_call_shortest (D : DF K mg "call_shortest" s_call_shortest) (T : Tx K mg) (TP : PTx K CP) (TR : RTx K CR) (c_best_ways : C8.Cal P w K mg base 4 "best_ways" (sp_best_ways K CW) []) (c_told_text : C8.Cal P w K mg base 3 "told_text" (sp_told_text K) []) (c_way_cost : C8.Cal P w K mg base 1 "way_cost" (sp_way_cost K) [])
    (c_read_text : C8.Cal P w K mg base 7 "read_text" (sp_read_text K CR CL) []) : C8.Cal P w K mg base 8 "call_shortest" (sp_call CW CP 4) [] := by
  refine cal_by D sc_call_shortest (fun _ _ _ _ _ _ us hl => match us, hl with | [_, _], _ => rfl) (fun vs H Q E h => ?_) (fun f cdv A outer s H vs Q E hr h => ?_)
  · obtain ⟨p, dx, r, o, g, s, ns, c, rfl, _⟩ := h
    rfl
  · obtain ⟨p, dx, r, o, g, s, ns, c, rfl, hp, hg, hn, hc, k⟩ := h
    refine ⟨_, (pss_cons (ps_if (pt_not (pt_truth (pe_fld (pv 0) rfl) (by intro _; rfl))) (pss_one (ps_ret (pe_lst (pa_cons (C8.pe_gc rfl T.g_ROW_IS_EMPTY) pa_nil)))) pss_nil) (pss_cons (ps_set (i := 2) sc_call_shortest.nd rfl (Or.inl rfl) (C8.pe_c c_best_ways hr (by decide) rfl (pa_cons (pe_fld (pv 0) rfl) (pa_cons (pe_fld (pv 0) rfl) pa_nil)))) (pss_cons (ps_set (i := 3) sc_call_shortest.nd rfl (Or.inl rfl) (C8.pe_c c_told_text hr (by decide) rfl (pa_cons (pe_fld (pv 0) rfl) (pa_cons (pv 2) pa_nil)))) (pss_one (ps_ret (pe_op op_cat (pe_lst (pa_cons (C8.pe_gc rfl T.g_DONE) (pa_cons (C8.pe_c c_way_cost hr (by decide) rfl (pa_cons (pe_ix ix_list (pe_ix ix_list (pv 2) (pe_un un_neg pe_int) (fun _ _ => rfl)) pe_int (fun _ _ => rfl)) pa_nil)) (pa_cons (pe_fld (C8.pe_c c_read_text hr (by decide) rfl (pa_cons (pv 3) pa_nil)) rfl) pa_nil)))) (pv 3))))))), ?_⟩
    obtain ⟨rfl, rfl⟩ : ns = [] ∧ c = .shortest := by
      cases ns with
      | nil =>
        cases hc
        exact ⟨rfl, rfl⟩
      | cons a l => cases hc
    have hl := hp.len
    refine q_when (b := s.word.isEmpty) (et_is (et_not (et_tru (ev_row TP hp rfl) (sq_of hp.row))) (by rw [Bool.not_not, nv_empty])) (fun hb H1 e1 => ?_) (fun hb H1 e1 => ?_)
    · exact ret_callX k (rs' := (s, [-2])) (by rw [step_shortest, if_pos hb]) rfl (Or.inl rfl) (But.of e1) (hp.ex e1) (el_lst (ea_cons ev_c ea_nil) (by simp))
    · have hne : s.word ≠ [] := fun z => by
        rw [z] at hb
        cases hb
      have hpos := List.length_pos_iff.mpr hne
      have hp1 := hp.ex e1
      refine q_asgX (x_call (ea_cons (ev_row TP hp1 rfl) (ea_cons (ev_wts TP hp1 rfl) ea_nil)) fun H2 e2 => ⟨r, o, s.word, s.weights, rfl, sq_of (e2 _ _ hp1.row), by omega, hp1.wt.ex e2, fun b H3 bv hb0 e3 hbl PW => ?_⟩)
      have hp3 := hp1.ex (e2.trans e3)
      refine q_asgX (x_call (ea_cons (ev_row TP hp3 rfl) (ea_cons (ev_var rfl) ea_nil)) fun H4 e4 => ⟨r, b, s.word, s.weights, bv, rfl, sq_of (e4 _ _ hp3.row), hne, hl, sq_of (e4 _ _ hbl), Paired.mapP PW fun _ _ => WysV.ex e4, fun t H5 e5 ht => ?_⟩)
      have e35 := e4.trans e5
      have hp5 := hp3.ex e35
      have hbt := bt_len (w := s.weights) hl (n := s.word.length) hpos (i := 0) (by omega)
      obtain ⟨y, hy, hdep⟩ := read_tx (w := s.weights) hl (fun c hc => Nat.lt_succ_of_le (hp.low c hc)) hne
      have hdepth : Ev (tFld K (tCall (sp_read_text K CR CL) [] E0 (tCons (tVar 3) tNil)) "depth") [some (.ref p), some (.ref g), some (.ref b), some (.ref t)] H5 (.int (Vbktaf.depth (Vbktaf.shortest s.weights s.word) : Int)) := fun H6 e6 Q6 q6 =>
        x_call (sp := sp_read_text K CR CL) (ea_cons (ev_var rfl) ea_nil) fun H7 e7 => ⟨t, bt s.weights s.word 0 s.word.length, rfl, sq_of ((e6.trans e7) _ _ ht), by omega, fun H8 rd rdx lv ad S R hRd => ⟨rd, CR, rdx, _, _, rfl, R.ins, TR.cl, TR.nD, rdF_depth _ _ _ _ _ _ _ _ _ _, by
          rw [(rd_right R hRd hy).2.1, hdep]
          exact q6 H8 (e7.trans R.e)⟩⟩
      refine ret_callX k (rs' := (s, 0 :: (Vbktaf.cost s.weights (Vbktaf.shortest s.weights s.word) : Int) :: (Vbktaf.depth (Vbktaf.shortest s.weights s.word) : Int) :: Vbktaf.ints (Vbktaf.shown (Vbktaf.shortest s.weights s.word)))) (by rw [step_shortest, if_neg (by rw [hb]; decide)]) rfl (Or.inl rfl) (But.of (((e1.trans e2).trans e3).trans e35)) hp5
        (el_is (el_cat (en_l (el_lst (ea_cons ev_c (ea_cons (ev_best hne rfl (e35 _ _ hbl) (Paired.mapP PW fun _ _ => WysV.ex e35)) (ea_cons hdepth ea_nil))) (by simp))) (en_v (ev_var rfl) ht) ?_) ?_)
      · rw [List.length_map]
        simp only [List.length_cons, List.length_nil]
        omega
      · rw [← cost_tx hpos (show 0 + s.word.length ≤ s.word.length by omega), nv_ints]
        rfl
/-- call_table -/
theorem sc_call_table : FnScope ["pattern", "given"] ["pattern", "given"] (C8.fnScope s_call_table) := C8.fnScope_by (by decide +kernel)
theorem cal_call_table (D : DF K mg "call_table" s_call_table) (T : Tx K mg) (TP : PTx K CP) (c_best_ways : C8.Cal P w K mg base 4 "best_ways" (sp_best_ways K CW) []) (c_costs_of : C8.Cal P w K mg base 2 "costs_of" (sp_costs_of K) []) (c_flat_table : C8.Cal P w K mg base 1 "flat_table" (sp_flat_table K) []) : C8.Cal P w K mg base 8 "call_table" (sp_call CW CP 7) [] := by
  refine cal_by D sc_call_table (fun _ _ _ _ _ _ us hl => match us, hl with | [_, _], _ => rfl) (fun vs H Q E h => ?_) (fun f cdv A outer s H vs Q E hr h => ?_)
  · obtain ⟨p, dx, r, o, g, s, ns, c, rfl, _⟩ := h
    rfl
  · obtain ⟨p, dx, r, o, g, s, ns, c, rfl, hp, hg, hn, hc, k⟩ := h
    refine ⟨_, (pss_cons (ps_if (pt_not (pt_truth (pe_fld (pv 0) rfl) (by intro _; rfl))) (pss_one (ps_ret (pe_lst (pa_cons (C8.pe_gc rfl T.g_ROW_IS_EMPTY) pa_nil)))) pss_nil) (pss_one (ps_ret (pe_op op_cat (pe_lst (pa_cons (C8.pe_gc rfl T.g_DONE) pa_nil)) (C8.pe_c c_flat_table hr (by decide) rfl (pa_cons (C8.pe_c c_costs_of hr (by decide) rfl (pa_cons (C8.pe_c c_best_ways hr (by decide) rfl (pa_cons (pe_fld (pv 0) rfl) (pa_cons (pe_fld (pv 0) rfl) pa_nil))) pa_nil)) pa_nil)))))), ?_⟩
    obtain ⟨rfl, rfl⟩ : ns = [] ∧ c = .table := by
      cases ns with
      | nil =>
        cases hc
        exact ⟨rfl, rfl⟩
      | cons a l => cases hc
    refine q_when (b := s.word.isEmpty) (et_is (et_not (et_tru (ev_row TP hp rfl) (sq_of hp.row))) (by rw [Bool.not_not, nv_empty])) (fun hb H1 e1 => ?_) (fun hb H1 e1 => ?_)
    · exact ret_callX k (rs' := (s, [-2])) (by rw [step_table, if_pos hb]) rfl (Or.inl rfl) (But.of e1) (hp.ex e1) (el_lst (ea_cons ev_c ea_nil) (by simp))
    · have hp1 := hp.ex e1
      have hfl := table_flat_len (w := s.weights) hp.len
      refine ret_callX k (rs' := (s, 0 :: Vbktaf.ints (Vbktaf.flat (Vbktaf.table s.weights s.word)))) (by rw [step_table, if_neg (by rw [hb]; decide)]) rfl (Or.inl rfl) (But.of e1) hp1
        (el_is (el_cat (en_l (el_lst (ea_cons ev_c ea_nil) (by simp))) (ys := nv (Vbktaf.table s.weights s.word).flatten) (fun H2 e2 Q2 q2 => ?_) ?_) ?_)
      · refine x_costs TP (hp1.ex e2) rfl fun c H3 e3 hT => ⟨c, _, rfl, hT, ?_, fun q H4 hq e4 h4 => q2 q H4 (e3.trans e4) h4⟩
        show (Vbktaf.table s.weights s.word).flatten.length ≤ 90000
        omega
      · rw [List.length_map]
        simp only [List.length_cons, List.length_nil]
        omega
      · rw [nv_ints]
        rfl
/-- call_stretch -/
theorem sc_call_stretch : FnScope ["pattern", "given", "refusal", "stitches", "best"] ["pattern", "given"] (C8.fnScope s_call_stretch) := C8.fnScope_by (by decide +kernel)
theorem cal_call_stretch (D : DF K mg "call_stretch" s_call_stretch) (T : Tx K mg) (TP : PTx K CP) (c_stretch_refusal : C8.Cal P w K mg base 1 "stretch_refusal" (sp_stretch_refusal K) []) (c_best_ways : C8.Cal P w K mg base 4 "best_ways" (sp_best_ways K CW) []) (c_told_text : C8.Cal P w K mg base 3 "told_text" (sp_told_text K) []) (c_way_cost : C8.Cal P w K mg base 1 "way_cost" (sp_way_cost K) []) : C8.Cal P w K mg base 8 "call_stretch" (sp_call CW CP 6) [] := by
  refine cal_by D sc_call_stretch (fun _ _ _ _ _ _ us hl => match us, hl with | [_, _], _ => rfl) (fun vs H Q E h => ?_) (fun f cdv A outer s H vs Q E hr h => ?_)
  · obtain ⟨p, dx, r, o, g, s, ns, c, rfl, _⟩ := h
    rfl
  · obtain ⟨p, dx, r, o, g, s, ns, c, rfl, hp, hg, hn, hc, k⟩ := h
    refine ⟨_, (pss_cons (ps_set (i := 2) sc_call_stretch.nd rfl (Or.inl rfl) (C8.pe_c c_stretch_refusal hr (by decide) rfl (pa_cons (pe_fld (pv 0) rfl) (pa_cons (pe_ix ix_list (pv 1) pe_int (fun _ _ => rfl)) (pa_cons (pe_ix ix_list (pv 1) pe_int (fun _ _ => rfl)) pa_nil))))) (pss_cons (ps_if (pt_cmpR op_ne (pv 2) (C8.pe_gc rfl T.g_DONE) (nomark _)) (pss_one (ps_ret (pe_lst (pa_cons (pv 2) pa_nil)))) pss_nil) (pss_cons (ps_set (i := 3) sc_call_stretch.nd rfl (Or.inl rfl) (pe_slice sl_list (pe_fld (pv 0) rfl) (po_some (pe_ix ix_list (pv 1) pe_int (fun _ _ => rfl))) (po_some (pe_op op_add (pe_ix ix_list (pv 1) pe_int (fun _ _ => rfl)) (pe_ix ix_list (pv 1) pe_int (fun _ _ => rfl)))))) (pss_cons (ps_set (i := 4) sc_call_stretch.nd rfl (Or.inl rfl) (C8.pe_c c_best_ways hr (by decide) rfl (pa_cons (pv 3) (pa_cons (pe_fld (pv 0) rfl) pa_nil)))) (pss_one (ps_ret (pe_op op_cat (pe_lst (pa_cons (C8.pe_gc rfl T.g_DONE) (pa_cons (C8.pe_c c_way_cost hr (by decide) rfl (pa_cons (pe_ix ix_list (pe_ix ix_list (pv 4) (pe_un un_neg pe_int) (fun _ _ => rfl)) pe_int (fun _ _ => rfl)) pa_nil)) pa_nil))) (C8.pe_c c_told_text hr (by decide) rfl (pa_cons (pv 3) (pa_cons (pv 4) pa_nil)))))))))), ?_⟩
    obtain ⟨i, n, rfl, rfl⟩ := two_of (f := .stretch) (fun _ _ => rfl) rfl (fun _ => rfl) (fun _ _ _ _ => rfl) hc
    have hl := hp.len
    refine q_asg (ev_call (z := .int (refS s.word i n)) (ea_cons (ev_row TP hp rfl) (ea_cons (ix_given (i := 0) hg rfl rfl) (ea_cons (ix_given (i := 1) hg rfl rfl) ea_nil))) fun H1 e1 Q1 q1 E1 => ⟨r, s.word, i, n, rfl, sq_of (e1 _ _ hp.row), q1⟩) fun H1 e1 => ?_
    have hp1 := hp.ex e1
    refine q_when (b := decide (refS s.word i n ≠ 0)) (et_test (ev_is (ev_op (ev_var rfl) ev_c (rv_ne rfl)) (by rw [← decide_not]; exact congrArg V.bl (decide_eq_decide.mpr (by simp))))) (fun hb H2 e2 => ?_) (fun hb H2 e2 => ?_)
    · exact ret_callX k (rs' := (s, [refS s.word i n])) (by rw [step_stretch, if_neg (of_decide_eq_true hb)]) rfl (Or.inl rfl) (But.of (e1.trans e2)) (hp1.ex e2) (el_lst (ea_cons (ev_var rfl) ea_nil) (by simp))
    · have hz : refS s.word i n = 0 := by simpa using hb
      obtain ⟨⟨i0, i1⟩, ⟨n1, n2⟩, hne, hin⟩ := refS_zero hz
      obtain ⟨i, rfl⟩ : ∃ j : Nat, i = (j : Int) := ⟨i.toNat, by omega⟩
      obtain ⟨n, rfl⟩ : ∃ j : Nat, n = (j : Int) := ⟨n.toNat, by omega⟩
      have hin' : i + n ≤ s.word.length := by omega
      have hn1 : 1 ≤ n := by omega
      have hp2 := hp1.ex e2
      have hg2 := (e1.trans e2) _ _ hg
      refine q_asgL (xs := nv (Vbktaf.part s.word i n)) (el_is (el_sl (ev_row TP hp2 rfl) (eo_some (ix_given (i := 0) hg2 rfl rfl)) (eo_some (ev_is (ev_add (ix_given (i := 0) hg2 rfl rfl) (ix_given (i := 1) hg2 rfl rfl)) (w := .int ((i + n : Nat) : Int)) rfl)) (sq_of hp2.row)) ?_) fun st H3 hst e3 h3 => ?_
      · rw [cut_both (by omega) (by rw [List.length_map]; omega), nv_drop, nv_take, Nat.add_sub_cancel_left]
        rfl
      · have hpl := part_length hin'
        have hpne := part_ne hn1 hin'
        have hp3 := hp2.ex e3
        refine q_asgX (x_call (ea_cons (ev_var rfl) (ea_cons (ev_wts TP hp3 rfl) ea_nil)) fun H4 e4 => ⟨st, o, Vbktaf.part s.word i n, s.weights, rfl, sq_of (e4 _ _ h3), by omega, hp3.wt.ex e4, fun b H5 bv hb0 e5 hbl PW => ?_⟩)
        have e35 := e4.trans e5
        have hp5 := hp3.ex e35
        have hbt := bt_len (w := s.weights) hl (n := n) hn1 (i := i) hin'
        have htx : bt s.weights (Vbktaf.part s.word i n) 0 n = bt s.weights s.word i n := by
          unfold bt
          rw [tx_part hin' hn1 (a := 0) (by omega)]
          rfl
        refine ret_callX k (rs' := (s, 0 :: (look (Vbktaf.table s.weights s.word) i n : Int) :: Vbktaf.ints (Vbktaf.shown (Vbktaf.told s.weights s.word (Vbktaf.table s.weights s.word) (n + 1) i n)))) (by rw [step_stretch, if_pos hz]; rfl) rfl (Or.inl rfl) (But.of ((((e1.trans e2).trans e3)).trans e35)) hp5
          (el_is (el_cat (en_l (el_lst (ea_cons ev_c (ea_cons (ev_best hpne rfl hbl PW) ea_nil)) (by simp))) (ys := nv (bt s.weights s.word i n)) (fun H6 e6 Q6 q6 => ?_) ?_) ?_)
        · refine x_call (ea_cons (ev_var rfl) (ea_cons (ev_var rfl) ea_nil)) fun H7 e7 => ⟨st, b, Vbktaf.part s.word i n, s.weights, bv, rfl, sq_of ((e35.trans (e6.trans e7)) _ _ h3), hpne, by omega, sq_of ((e6.trans e7) _ _ hbl), Paired.mapP PW fun _ _ => WysV.ex (e6.trans e7), fun t H8 e8 ht => q6 t H8 (e7.trans e8) ?_⟩
          rw [hpl, htx] at ht
          exact ht
        · rw [List.length_map]
          simp only [List.length_cons, List.length_nil]
          omega
        · rw [hpl, bw_part hin' hn1 (by omega), ← look_bw hn1 (by omega), nv_ints]
          rfl
/-- call_proves -/
theorem sc_call_proves : FnScope ["pattern", "given", "refusal", "costs"] ["pattern", "given"] (C8.fnScope s_call_proves) := C8.fnScope_by (by decide +kernel)
theorem cal_call_proves (D : DF K mg "call_proves" s_call_proves) (T : Tx K mg) (TP : PTx K CP) (c_table_refusal : C8.Cal P w K mg base 2 "table_refusal" (sp_table_refusal K) []) (c_table_of : C8.Cal P w K mg base 1 "table_of" (sp_table_of K) []) (c_is_right_table : C8.Cal P w K mg base 4 "is_right_table" (sp_is_right_table K CW) []) : C8.Cal P w K mg base 8 "call_proves" (sp_call CW CP 8) [] := by
  refine cal_by D sc_call_proves (fun _ _ _ _ _ _ us hl => match us, hl with | [_, _], _ => rfl) (fun vs H Q E h => ?_) (fun f cdv A outer s H vs Q E hr h => ?_)
  · obtain ⟨p, dx, r, o, g, s, ns, c, rfl, _⟩ := h
    rfl
  · obtain ⟨p, dx, r, o, g, s, ns, c, rfl, hp, hg, hn, hc, k⟩ := h
    refine ⟨_, (pss_cons (ps_set (i := 2) sc_call_proves.nd rfl (Or.inl rfl) (C8.pe_c c_table_refusal hr (by decide) rfl (pa_cons (pe_fld (pv 0) rfl) (pa_cons (pv 1) pa_nil)))) (pss_cons (ps_if (pt_cmpR op_ne (pv 2) (C8.pe_gc rfl T.g_DONE) (nomark _)) (pss_one (ps_ret (pe_lst (pa_cons (pv 2) pa_nil)))) pss_nil) (pss_cons (ps_set (i := 3) sc_call_proves.nd rfl (Or.inl rfl) (C8.pe_c c_table_of hr (by decide) rfl (pa_cons (pv 1) (pa_cons (pe_callB call_len_seq (by rfl) T.b_len PySem.boot_len (pa_cons (pe_fld (pv 0) rfl) pa_nil)) pa_nil)))) (pss_one (ps_ret (pe_lst (pa_cons (C8.pe_gc rfl T.g_DONE) (pa_cons (pe_ifExp (pt_val (C8.pe_c c_is_right_table hr (by decide) rfl (pa_cons (pe_fld (pv 0) rfl) (pa_cons (pe_fld (pv 0) rfl) (pa_cons (pv 3) pa_nil))))) pe_int pe_int) pa_nil)))))))), ?_⟩
    obtain rfl : Vbktaf.Call.proves ns = c := by
      cases hc
      rfl
    have hl := hp.len
    refine q_asg (ev_call (z := .int (refT s.word ns)) (ea_cons (ev_row TP hp rfl) (ea_cons (ev_var rfl) ea_nil)) fun H1 e1 Q1 q1 E1 => ⟨r, g, s.word, ns, rfl, sq_of (e1 _ _ hp.row), by omega, sq_of (e1 _ _ hg), by omega, q1⟩) fun H1 e1 => ?_
    have hp1 := hp.ex e1
    refine q_when (b := decide (refT s.word ns ≠ 0)) (et_test (ev_is (ev_op (ev_var rfl) ev_c (rv_ne rfl)) (by rw [← decide_not]; exact congrArg V.bl (decide_eq_decide.mpr (by simp))))) (fun hb H2 e2 => ?_) (fun hb H2 e2 => ?_)
    · exact ret_callX k (rs' := (s, [refT s.word ns])) (by rw [step_proves, if_neg (of_decide_eq_true hb)]) rfl (Or.inl rfl) (But.of (e1.trans e2)) (hp1.ex e2) (el_lst (ea_cons (ev_var rfl) ea_nil) (by simp))
    · have hz : refT s.word ns = 0 := by simpa using hb
      obtain ⟨hne, hcount, hpos⟩ := refT_zero hz
      have hp2 := hp1.ex e2
      have hg2 := (e1.trans e2) _ _ hg
      rw [iv_nats hpos] at hg2
      refine q_asgX (x_call (ea_cons (ev_var rfl) (ea_cons (ev_len (ev_row TP hp2 rfl) (sq_of hp2.row)) ea_nil)) fun H3 e3 => ⟨g, Vbktaf.nats ns, s.word.length, by rw [List.length_map]; rfl, sq_of (e3 _ _ hg2), by omega, by rw [nats_len]; exact hcount, fun c H4 e4 hT => ?_⟩)
      have hp4 := hp2.ex (e3.trans e4)
      have hcount' : (Vbktaf.nats ns).length = s.word.length * (s.word.length + 1) / 2 := by rw [nats_len]; exact hcount
      have t1 : (tableOf s.word.length (Vbktaf.nats ns)).length = s.word.length := by
        rw [tableOf_eq, List.length_map, List.length_range]
      have t2 : ∀ k, k < s.word.length → ((tableOf s.word.length (Vbktaf.nats ns)).getD k []).length = s.word.length - k := fun k hk => by
        have := off_le hk
        rw [tableOf_eq, List.getD_eq_getElem?_getD, List.getElem?_map, List.getElem?_range hk]
        simp only [Option.map_some, Option.getD_some, List.length_take, List.length_drop]
        omega
      refine ret_callX k (rs' := (s, [0, Vbktaf.bit (Vbktaf.proves s.weights s.word (tableOf s.word.length (Vbktaf.nats ns)))])) (by rw [step_proves, if_pos hz]) rfl (Or.inl rfl) (But.of ((e1.trans e2).trans (e3.trans e4))) hp4
        (el_lst (vs := iv [0, Vbktaf.bit (Vbktaf.proves s.weights s.word (tableOf s.word.length (Vbktaf.nats ns)))]) (ea_cons ev_c (ea_cons (ev_if (b := Vbktaf.proves s.weights s.word (tableOf s.word.length (Vbktaf.nats ns))) (et_B (ev_call (ea_cons (ev_row TP hp4 rfl) (ea_cons (ev_wts TP hp4 rfl) (ea_cons (ev_var rfl) ea_nil))) fun H5 e5 Q5 q5 E5 => ⟨r, o, c, s.word, s.weights, tableOf s.word.length (Vbktaf.nats ns), rfl, sq_of (e5 _ _ hp4.row), by omega, hp4.wt.ex e5, hT.at.ex e5, t1, t2, q5⟩)) (fun hq => ev_is ev_c ?_) (fun hq => ev_is ev_c ?_)) ea_nil)) (by simp))
      · rw [hq]
        rfl
      · rw [hq]
        rfl
/-- call_ways -/
theorem sc_call_ways : FnScope ["pattern", "given", "refusal", "costs", "answer", "way"] ["pattern", "given"] (C8.fnScope s_call_ways) := C8.fnScope_by (by decide +kernel)
theorem wayRow_l (x : Way × Nat) : (Vbktaf.wayRow x).length = 3 := by
  have := wayRow_len x
  rwa [List.length_map] at this
theorem rows_len (ws : List (Way × Nat)) : (ws.flatMap Vbktaf.wayRow).length = 3 * ws.length := by
  induction ws with
  | nil => rfl
  | cons x r ih =>
    rw [List.flatMap_cons, List.length_append, ih, wayRow_l, List.length_cons]
    omega
theorem ways_len (wt : Weights) (l : List Nat) (f : Nat → Nat → Nat) : (Vbktaf.ways wt l f).length ≤ 2 * l.length + 3 := by
  rw [ways_parts]
  have h1 := run_len wt l
  have h2 := per_len wt l (f 0)
  have h3 := mir_len wt l (f 0)
  have h4 := spl_len l.length f
  simp only [List.length_append]
  omega
theorem cal_call_ways (D : DF K mg "call_ways" s_call_ways) (T : Tx K mg) (TP : PTx K CP) (c_stretch_refusal : C8.Cal P w K mg base 1 "stretch_refusal" (sp_stretch_refusal K) []) (c_best_ways : C8.Cal P w K mg base 4 "best_ways" (sp_best_ways K CW) []) (c_costs_of : C8.Cal P w K mg base 2 "costs_of" (sp_costs_of K) []) (c_stretch_ways : C8.Cal P w K mg base 3 "stretch_ways" (sp_stretch_ways K CW) []) : C8.Cal P w K mg base 8 "call_ways" (sp_call CW CP 9) [] := by
  refine cal_by D sc_call_ways (fun _ _ _ _ _ _ us hl => match us, hl with | [_, _], _ => rfl) (fun vs H Q E h => ?_) (fun f cdv A outer s H vs Q E hr h => ?_)
  · obtain ⟨p, dx, r, o, g, s, ns, c, rfl, _⟩ := h
    rfl
  · obtain ⟨p, dx, r, o, g, s, ns, c, rfl, hp, hg, hn, hc, k⟩ := h
    refine ⟨_, (pss_cons (ps_set (i := 2) sc_call_ways.nd rfl (Or.inl rfl) (C8.pe_c c_stretch_refusal hr (by decide) rfl (pa_cons (pe_fld (pv 0) rfl) (pa_cons (pe_ix ix_list (pv 1) pe_int (fun _ _ => rfl)) (pa_cons (pe_ix ix_list (pv 1) pe_int (fun _ _ => rfl)) pa_nil))))) (pss_cons (ps_if (pt_cmpR op_ne (pv 2) (C8.pe_gc rfl T.g_DONE) (nomark _)) (pss_one (ps_ret (pe_lst (pa_cons (pv 2) pa_nil)))) pss_nil) (pss_cons (ps_set (i := 3) sc_call_ways.nd rfl (Or.inl rfl) (C8.pe_c c_costs_of hr (by decide) rfl (pa_cons (C8.pe_c c_best_ways hr (by decide) rfl (pa_cons (pe_fld (pv 0) rfl) (pa_cons (pe_fld (pv 0) rfl) pa_nil))) pa_nil))) (pss_cons (ps_set (i := 4) sc_call_ways.nd rfl (Or.inl rfl) (pe_lst (pa_cons (C8.pe_gc rfl T.g_DONE) pa_nil))) (pss_cons (ps_for PassesOwn.never rfl (pi_list (C8.pe_c c_stretch_ways hr (by decide) rfl (pa_cons (pe_fld (pv 0) rfl) (pa_cons (pe_fld (pv 0) rfl) (pa_cons (pv 3) (pa_cons (pe_ix ix_list (pv 1) pe_int (fun _ _ => rfl)) (pa_cons (pe_ix ix_list (pv 1) pe_int (fun _ _ => rfl)) pa_nil))))))) (pg_name (i := 5) sc_call_ways.nd rfl (Or.inl rfl)) (pss_one (ps_expr (pe_bm PySem.F.plainAttrs_list PySem.F.slot_list_extend PySem.F.type_list_extend Kt.mt_extT (pv 4) (pa_cons (pv 5) pa_nil))))) (pss_one (ps_ret (pv 4)))))))), ?_⟩
    obtain ⟨i, n, rfl, rfl⟩ := two_of (f := .ways) (fun _ _ => rfl) rfl (fun _ => rfl) (fun _ _ _ _ => rfl) hc
    have hl := hp.len
    refine q_asg (ev_call (z := .int (refS s.word i n)) (ea_cons (ev_row TP hp rfl) (ea_cons (ix_given (i := 0) hg rfl rfl) (ea_cons (ix_given (i := 1) hg rfl rfl) ea_nil))) fun H1 e1 Q1 q1 E1 => ⟨r, s.word, i, n, rfl, sq_of (e1 _ _ hp.row), q1⟩) fun H1 e1 => ?_
    have hp1 := hp.ex e1
    refine q_when (b := decide (refS s.word i n ≠ 0)) (et_test (ev_is (ev_op (ev_var rfl) ev_c (rv_ne rfl)) (by rw [← decide_not]; exact congrArg V.bl (decide_eq_decide.mpr (by simp))))) (fun hb H2 e2 => ?_) (fun hb H2 e2 => ?_)
    · exact ret_callX k (rs' := (s, [refS s.word i n])) (by rw [step_ways, if_neg (of_decide_eq_true hb)]) rfl (Or.inl rfl) (But.of (e1.trans e2)) (hp1.ex e2) (el_lst (ea_cons (ev_var rfl) ea_nil) (by simp))
    · have hz : refS s.word i n = 0 := by simpa using hb
      obtain ⟨⟨i0, i1⟩, ⟨n1, n2⟩, hne, hin⟩ := refS_zero hz
      obtain ⟨i, rfl⟩ : ∃ j : Nat, i = (j : Int) := ⟨i.toNat, by omega⟩
      obtain ⟨n, rfl⟩ : ∃ j : Nat, n = (j : Int) := ⟨n.toNat, by omega⟩
      have hin' : i + n ≤ s.word.length := by omega
      have hn1 : 1 ≤ n := by omega
      have hp2 := hp1.ex e2
      have hg2 := (e1.trans e2) _ _ hg
      refine q_asgX (x_costs TP hp2 rfl fun c H3 e3 hT => ?_)
      refine q_asgL (el_lst (ea_cons ev_c ea_nil) (by simp)) fun an H4 ha0 e4 ha4 => ?_
      have hp4 := hp2.ex (e3.trans e4)
      have hg4 := (e3.trans e4) _ _ hg2
      have tok : TabOk (Vbktaf.table s.weights s.word) i n := by
        rw [← tbl_all]
        exact tabOk_tbl (Nat.le_refl _) (by omega) hin'
      refine x_call (sp := sp_stretch_ways K CW) (ea_cons (ev_row TP hp4 rfl) (ea_cons (ev_wts TP hp4 rfl) (ea_cons (ev_var rfl) (ea_cons (ix_given (i := 0) hg4 rfl rfl) (ea_cons (ix_given (i := 1) hg4 rfl rfl) ea_nil))))) fun H5 e5 => ⟨r, o, c, s.word, s.weights, Vbktaf.table s.weights s.word, i, n, rfl, sq_of (e5 _ _ hp4.row), by omega, hn1, hin', hp4.wt.ex e5, hT.at.ex (e4.trans e5), tok, fun q H6 wv hq e6 h6 PV => ?_⟩
      have e46 := e5.trans e6
      have hlw := ways_len s.weights (Vbktaf.part s.word i n) (fun a m => look (Vbktaf.table s.weights s.word) (i + a) m)
      rw [part_length hin'] at hlw
      have hPl := paired_length PV
      generalize hws : (Vbktaf.ways s.weights (Vbktaf.part s.word i n) fun a m => look (Vbktaf.table s.weights s.word) (i + a) m) = ws at PV hlw hPl
      have nqa : q ≠ an := fun z => by
        rw [z, e5 _ _ ha4] at hq
        cases hq
      refine ⟨q, rfl, ⟨wv, sq_of h6⟩, for_list (fun j σ' H' => ∃ v5 : Option V, σ' = [some (.ref p), some (.ref g), some (.int (refS s.word (i : Int) (n : Int))), some (.ref c), some (.ref an), v5] ∧ But an H6 H' ∧ H' an = some (.lst (iv (0 :: (ws.take j).flatMap Vbktaf.wayRow)))) ⟨none, rfl, But.of (Ex.refl _), e46 _ _ ha4⟩ (fun j σ' H' _ ⟨_, _, b, _⟩ => sq_of (b _ _ nqa h6)) (fun j x σ' H' hx hP => ?_) (fun σ' H' hP => ?_)⟩
      · obtain ⟨v5, rfl, bH, haH⟩ := hP
        obtain ⟨y, hy, wa, rfl, hwa⟩ := paired_back PV hx
        have nwa : wa ≠ an := fun z => by
          rw [z, e46 _ _ ha4] at hwa
          cases hwa
        refine ⟨_, rfl, Or.inl ⟨rfl, _, sq_of haH⟩, _, rfl, an, wa, _, _, rfl, rfl, haH, bH _ _ nwa hwa, sz_of ?_, ?_⟩
        · rw [List.length_map, List.length_map, List.length_cons, rows_len, List.length_take, wayRow_l]
          omega
        · refine ⟨_, rfl, bH.set, ?_⟩
          rw [upd_same, List.take_succ, hy, List.flatMap_append]
          simp [iv]
      · obtain ⟨v5, rfl, bH, haH⟩ := hP
        rw [hPl, List.take_length] at haH
        have hp6 := hp4.ex e46
        have an_p : an ≠ p := fun z => by
          rw [z, (e3) _ _ hp2.ins] at ha0
          cases ha0
        have an_r : an ≠ r := fun z => by
          rw [z, (e3) _ _ hp2.row] at ha0
          cases ha0
        have an_o : an ≠ o := fun z => by
          obtain ⟨ox, hx⟩ := hp2.wt
          rw [z, (e3) _ _ hx] at ha0
          cases ha0
        obtain ⟨ox, hox⟩ := id hp6.wt
        have hpE : PatAt CW CP H' p dx r o s := ⟨bH _ _ (Ne.symm an_p) hp6.ins, bH _ _ (Ne.symm an_r) hp6.row, ⟨ox, bH _ _ (Ne.symm an_o) hox⟩, hp6.wok, hp6.len, hp6.low⟩
        have eE : Ex H H' := fun x u hx => by
          have : an ≠ x := fun z => by
            rw [z, ((e1.trans e2).trans e3) _ _ hx] at ha0
            cases ha0
          exact bH _ _ (Ne.symm this) ((((((e1.trans e2).trans e3).trans e4).trans e46)) _ _ hx)
        refine s_ret (ev_var rfl) fun H8 e8 => k an r o H8 (fresh_back ((e1.trans e2).trans e3) ha0) (Or.inl rfl) (But.of (eE.trans e8)) ?_ ?_
        · rw [step_ways, if_pos hz]
          exact hpE.ex e8
        · rw [step_ways, if_pos hz]
          show H8 an = some (.lst (iv (0 :: ((Vbktaf.ways s.weights (Vbktaf.part s.word i n) fun a m => look (Vbktaf.table s.weights s.word) (i + a) m).flatMap Vbktaf.wayRow))))
          rw [hws]
          exact e8 _ _ haH
end
end Kt

/-! # The list of calls, as it is handed in -/
namespace Kt
open Vbktaf (State)
def counts : List Int := [4, -1, -1, 0, 0, -1, 2, 0, -1, 2, 0, 0, 0, 2, 2, 1, 0, -1, -1, 0, 2, 0]
def shapeN (k : Nat) : Nat × Nat := if counts.getD k 0 = -1 then (0, 1) else ((counts.getD k 0).toNat, 0)
theorem shape_cases {n : Int} {x : Nat × Nat} (h : PyVbktaf.shape n = some x) : ∃ k : Nat, k < 22 ∧ n = (k : Int) ∧ x = shapeN k := by
  have c : n = 0 ∨ n = 1 ∨ n = 2 ∨ n = 3 ∨ n = 4 ∨ n = 5 ∨ n = 6 ∨ n = 7 ∨ n = 8 ∨ n = 9 ∨ n = 10 ∨ n = 11 ∨ n = 12 ∨ n = 13 ∨ n = 14 ∨ n = 15 ∨ n = 16 ∨ n = 17 ∨ n = 18 ∨ n = 19 ∨ n = 20 ∨ n = 21 ∨ (n < 0 ∨ 21 < n) := by omega
  rcases c with hn | hn | hn | hn | hn | hn | hn | hn | hn | hn | hn | hn | hn | hn | hn | hn | hn | hn | hn | hn | hn | hn | hn
  all_goals first
    | exact ⟨n.toNat, by omega, by omega, by subst hn; exact (Option.some.inj h).symm⟩
    | (have e : PyVbktaf.shape n = none := by
        unfold PyVbktaf.shape
        rw [if_neg (by omega), if_neg (by omega), if_neg (by omega), if_neg (by omega), if_neg (by omega), if_neg (by omega), if_neg (by omega), if_neg (by omega), if_neg (by omega), if_neg (by omega), if_neg (by omega), if_neg (by omega), if_neg (by omega), if_neg (by omega), if_neg (by omega), if_neg (by omega), if_neg (by omega), if_neg (by omega), if_neg (by omega), if_neg (by omega), if_neg (by omega), if_neg (by omega)]
       rw [e] at h
       cases h)
theorem whole_id (c : List (List Int)) : PyVbktaf.whole c = c := by
  unfold PyVbktaf.whole
  split <;> rfl
theorem all22 {P : Nat → Prop} (h : ∀ k, k < 22 → P k) {k : Nat} (hk : k < 22) : P k := h k hk
/-- a call with whole numbers -/
theorem call_plain {k m : Nat} {gv : List Int} (hk : k < 22) (hs : shapeN k = (m, 0)) (hl : gv.length = m) : ∃ d, callN k gv = some d ∧ VbktafNeutral.callOf [(k : Int) :: gv] = some d ∧ counts[k]? = some (m : Int) ∧ m ≤ 4 := by
  have : k = 0 ∨ k = 1 ∨ k = 2 ∨ k = 3 ∨ k = 4 ∨ k = 5 ∨ k = 6 ∨ k = 7 ∨ k = 8 ∨ k = 9 ∨ k = 10 ∨ k = 11 ∨ k = 12 ∨ k = 13 ∨ k = 14 ∨ k = 15 ∨ k = 16 ∨ k = 17 ∨ k = 18 ∨ k = 19 ∨ k = 20 ∨ k = 21 := by omega
  rcases this with rfl | rfl | rfl | rfl | rfl | rfl | rfl | rfl | rfl | rfl | rfl | rfl | rfl | rfl | rfl | rfl | rfl | rfl | rfl | rfl | rfl | rfl
  all_goals first
    | (cases hs; done)
    | (cases hs; match gv, hl with
        | [], _ => exact ⟨_, rfl, rfl, rfl, by decide⟩)
    | (cases hs; match gv, hl with
        | [_], _ => exact ⟨_, rfl, rfl, rfl, by decide⟩)
    | (cases hs; match gv, hl with
        | [_, _], _ => exact ⟨_, rfl, rfl, rfl, by decide⟩)
    | (cases hs; match gv, hl with
        | [_, _, _, _], _ => exact ⟨_, rfl, rfl, rfl, by decide⟩)
/-- a call with a list -/
theorem call_listed {k m : Nat} {gv : List Int} (hk : k < 22) (hs : shapeN k = (m, 1)) : m = 0 ∧ (∃ d, callN k gv = some d ∧ VbktafNeutral.callOf [[(k : Int)], gv] = some d) ∧ counts[k]? = some (-1) ∧ (VbktafNeutral.asked1 [[(k : Int)], gv] = true → gv.length ≤ 900) := by
  have : k = 0 ∨ k = 1 ∨ k = 2 ∨ k = 3 ∨ k = 4 ∨ k = 5 ∨ k = 6 ∨ k = 7 ∨ k = 8 ∨ k = 9 ∨ k = 10 ∨ k = 11 ∨ k = 12 ∨ k = 13 ∨ k = 14 ∨ k = 15 ∨ k = 16 ∨ k = 17 ∨ k = 18 ∨ k = 19 ∨ k = 20 ∨ k = 21 := by omega
  rcases this with rfl | rfl | rfl | rfl | rfl | rfl | rfl | rfl | rfl | rfl | rfl | rfl | rfl | rfl | rfl | rfl | rfl | rfl | rfl | rfl | rfl | rfl
  all_goals first
    | (cases hs; done)
    | (cases hs; exact ⟨rfl, ⟨_, rfl, rfl⟩, rfl, fun h => of_decide_eq_true (Bool.and_eq_true_iff.mp h).1⟩)
theorem call_cons (p : Int) (r : List Int) : PyFlat.call PyVbktaf.shape (p :: r) = match PyVbktaf.shape p with
    | none => none
    | some (n, k) => if r.length < n then none else match PyFlat.rows k (r.drop n) with
      | none => none
      | some (xs, t) => some ((p :: r.take n) :: xs, t) := rfl
/-- the next call of a list -/
structure Next (k : Nat) (gv rest : List Int) (d : Vbktaf.Call) (r : List Int) : Prop where
  hk : k < 22
  cn : callN k gv = some d
  sm : gv.length ≤ 900
  how : (counts[k]? = some (gv.length : Int) ∧ r = gv ++ rest) ∨ (counts[k]? = some (-1) ∧ r = (gv.length : Int) :: (gv ++ rest))
theorem next_call {f : Nat} {n : Int} {r : List Int} {cs : List (List (List Int))} {s : State} (h : PyFlat.calls PyVbktaf.shape f (n :: r) = some cs) (ha : cs.all VbktafNeutral.asked1 = true) :
    ∃ (k : Nat) (gv rest : List Int) (d : Vbktaf.Call) (f' : Nat) (cs' : List (List (List Int))), n = (k : Int) ∧ Next k gv rest d r ∧ PyFlat.calls PyVbktaf.shape f' rest = some cs' ∧ cs'.all VbktafNeutral.asked1 = true ∧
      PyFlat.played VbktafNeutral.step s cs = (Vbktaf.step s d).2 :: PyFlat.played VbktafNeutral.step (Vbktaf.step s d).1 cs' := by
  cases f with
  | zero => cases h
  | succ f =>
    unfold PyFlat.calls at h
    split at h
    · cases h
    · rename_i c t hc
      split at h
      · cases h
      · rename_i cs' hcs
        cases h
        rw [List.all_cons, Bool.and_eq_true] at ha
        rw [call_cons] at hc
        split at hc
        · cases hc
        · rename_i m j hsh
          obtain ⟨k, hk, rfl, hx⟩ := shape_cases hsh
          split at hc
          · cases hc
          · rename_i hm
            have hm' : m ≤ r.length := Nat.le_of_not_lt hm
            split at hc
            · cases hc
            · rename_i xs u hr
              cases hc
              have played : ∀ d, VbktafNeutral.callOf (((k : Int) :: r.take m) :: xs) = some d → PyFlat.played VbktafNeutral.step s ((((k : Int) :: r.take m) :: xs) :: cs') = (Vbktaf.step s d).2 :: PyFlat.played VbktafNeutral.step (Vbktaf.step s d).1 cs' := fun d hd => by
                show (VbktafNeutral.step s _).2 :: PyFlat.played VbktafNeutral.step (VbktafNeutral.step s _).1 cs' = _
                have : VbktafNeutral.step s (((k : Int) :: r.take m) :: xs) = Vbktaf.step s d := by
                  unfold VbktafNeutral.step
                  rw [hd]
                rw [this]
              have hj : j = 0 ∨ j = 1 := by
                unfold shapeN at hx
                split at hx
                · cases hx
                  exact Or.inr rfl
                · cases hx
                  exact Or.inl rfl
              rcases hj with rfl | rfl
              · unfold PyFlat.rows at hr
                cases hr
                have hl : (r.take m).length = m := by
                  rw [List.length_take]
                  omega
                obtain ⟨d, h1, h2, h3, h4⟩ := call_plain hk hx.symm hl
                exact ⟨k, r.take m, r.drop m, d, f, cs', rfl, ⟨hk, h1, by omega, Or.inl ⟨by rw [hl]; exact h3, (List.take_append_drop m r).symm⟩⟩, hcs, ha.2, played d h2⟩
              · obtain ⟨rfl, _⟩ := call_listed (gv := []) hk hx.symm
                unfold PyFlat.rows at hr
                rw [List.drop_zero] at hr
                split at hr
                · cases hr
                · rename_i x1 s1 hrow
                  unfold PyFlat.rows at hr
                  dsimp only at hr
                  cases hr
                  unfold PyFlat.row at hrow
                  split at hrow
                  · cases hrow
                  · rename_i cnt r'
                    split at hrow
                    · rename_i hcnt
                      cases hrow
                      have hl : (r'.take cnt.toNat).length = cnt.toNat := by
                        rw [List.length_take]
                        omega
                      obtain ⟨_, ⟨d, h1, h2⟩, h3, h4⟩ := call_listed (gv := r'.take cnt.toNat) hk hx.symm
                      refine ⟨k, r'.take cnt.toNat, r'.drop cnt.toNat, d, f, cs', rfl, ⟨hk, h1, h4 ha.1, Or.inr ⟨h3, ?_⟩⟩, hcs, ha.2, played d h2⟩
                      rw [hl, List.take_append_drop, Int.toNat_of_nonneg hcnt.1]
                    · cases hrow
/-- what is asked, taken apart -/
theorem asked_parts {ns : List Int} (h : PyVbktaf.answers_asked ns = true) : ∃ cs, PyFlat.calls PyVbktaf.shape ns.length ns = some cs ∧ cs.all VbktafNeutral.asked1 = true ∧ PyVbktaf.answers ns = PyFlat.told (PyFlat.played VbktafNeutral.step Vbktaf.start cs) ∧ (PyVbktaf.answers ns).length ≤ 10000000 := by
  unfold PyVbktaf.answers_asked at h
  split at h
  · cases h
  · rename_i raw hraw
    simp only [Bool.and_eq_true] at h
    have hid : raw.map PyVbktaf.whole = raw := by
      rw [show PyVbktaf.whole = id from funext whole_id, List.map_id]
    have h2 := h.1.2
    rw [hid] at h2
    unfold VbktafNeutral.asked at h2
    rw [Bool.and_eq_true] at h2
    refine ⟨raw, hraw, h2.1, ?_, of_decide_eq_true h.2⟩
    unfold PyVbktaf.answers PyVbktaf.calls
    rw [hraw]
    dsimp only
    rw [hid]
    rfl
end Kt

/-! # The calls one behind the other -/
namespace Kt
open PySem PySem.Spec PyProof.Rows L2 Evl
open Vbktaf (State)
def spAns (K : PySem.W.Frag) : Sp := fun vs H Q _ => ∃ (a : Addr) (ns : List Int), vs = [.ref a] ∧ SqL K H a (iv ns) ∧ PyVbktaf.answers_asked ns = true ∧ ∀ (H' : Hp) (p : Addr), H' p = some (.lst (iv (PyVbktaf.answers ns))) → Q (.ref p) H'
theorem told_cons (x : List Int) (l : List (List Int)) : PyFlat.told (x :: l) = ((x.length : Int) :: x) ++ PyFlat.told l := rfl
theorem drop_at {ns : List Int} {i : Nat} {x : Int} {r : List Int} (h : ns.drop i = x :: r) : ns[i]? = some x ∧ ns.drop (i + 1) = r ∧ i < ns.length := by
  have h1 : i < ns.length := by
    rcases Nat.lt_or_ge i ns.length with q | q
    · exact q
    · rw [List.drop_eq_nil_of_le q] at h
      cases h
  rw [List.drop_eq_getElem_cons h1] at h
  injection h with h2 h3
  exact ⟨by rw [List.getElem?_eq_getElem h1, h2], h3, h1⟩
section
variable {P : Program} {w : World} {K : PySem.W.Frag} {mg : Str → Option Value} {base : Heap} {CW CP : Addr}
def LoopAt (CW CP : Addr) (H0 : Hp) (a p dx t : Addr) (ns : List Int) (m : Nat) (σ' : L2.St) (H' : Hp) : Prop := ∃ (pl : Nat) (s : State) (acc : List Int) (f : Nat) (cs : List (List (List Int))) (r o : Addr) (v4 v5 v6 : Option V), σ' = [some (.ref a), some (.ref p), some (.ref t), some (.int (pl : Int)), v4, v5, v6] ∧ Ex H0 H' ∧ PatAt CW CP H' p dx r o s ∧ H' t = some (.lst (iv acc)) ∧ r ≠ t ∧
  pl ≤ ns.length ∧ m = ns.length - pl ∧ PyFlat.calls PyVbktaf.shape f (ns.drop pl) = some cs ∧ cs.all VbktafNeutral.asked1 = true ∧ PyVbktaf.answers ns = acc ++ PyFlat.told (PyFlat.played VbktafNeutral.step s cs)
theorem sc_answers : FnScope ["calls", "pattern", "told", "place", "number", "count", "answer"] ["calls"] (C8.fnScope s_answers) := C8.fnScope_by (by decide +kernel)
/-- a def's promise at its own object -/
theorem fn_by {x : Str} {st : Stmt} {f : Addr} {fd : FuncData} {N ps : List Str} {k : Nat} {sp : Sp} (F : C8.Fun K x x st f fd) (S : FnScope N ps (C8.fnScope st)) (len : ∀ vs H Q E, sp vs H Q E → vs.length = ps.length)
    (hbody : ∀ (f : Addr) (cdv : Value) (A : Around) (outer : List Env) (s : Shared) (H : Hp) (vs : List V) (Q : VK) (E : XK), Room k (A.deeper (envOfC x (C8.fnScope st) s.heap.objs.size f cdv)) → sp vs H Q E →
      ∃ t, PSs (cxOf L2.CX0 P w K mg base N x (C8.fnScope st) f cdv A outer s H E).nox (C8.fnBody st) t ∧ t { nx := fun _ H' => Q .non H', rt := Q } (start N vs) H) : FnOk P w K mg base L2.CX0 (k + 1) f fd ps sp :=
  C8.fn0 F S len fun cdv A outer s H vs Q E hr h => hbody f cdv A outer s H vs Q E hr h
theorem fn_answers {aC aG f0 : Addr} {fd0 : FuncData} {fs : List Addr} (F : C8.Fun K "answers" "answers" s_answers f0 fd0) (T : Tx K mg) (g_CALLS : ∃ u, mg "CALLS" = some u ∧ L2.RelV (.ref aC) u) (g_GIVEN_COUNTS : ∃ u, mg "GIVEN_COUNTS" = some u ∧ L2.RelV (.ref aG) u)
    (hC : ∀ H, SqT K H aC (fs.map V.ref)) (hG : ∀ H, SqT K H aG (iv counts)) (hfs : fs.length = 22) (cs : ∀ n f, fs[n]? = some f → C8.CalAt P w K mg base 8 f (sp_call CW CP n)) (c_Pattern : C8.Mak P w K mg base 3 "Pattern" CP (sp_pt_init CW CP) []) : FnOk P w K mg base L2.CX0 12 f0 fd0 ["calls"] (spAns K) := by
  have hP : ∀ f sp, (∃ n, fs[n]? = some f ∧ sp = sp_call CW CP n) → C8.CalAt P w K mg base 8 f sp := fun f sp ⟨n, h1, h2⟩ => by
    rw [h2]
    exact cs n f h1
  refine fn_by F sc_answers (fun vs H Q E h => ?_) (fun f cdv A outer s H vs Q E hr h => ?_)
  · obtain ⟨a, ns, rfl, _⟩ := h
    rfl
  · obtain ⟨a, ns, rfl, hS, hask, k⟩ := h
    refine ⟨_, (pss_cons (ps_set (i := 1) sc_answers.nd rfl (Or.inl rfl) (Kt.pe_mk0 c_Pattern hr (by decide) rfl)) (pss_cons (ps_set (i := 2) sc_answers.nd rfl (Or.inl rfl) (pe_lst pa_nil)) (pss_cons (ps_set (i := 3) sc_answers.nd rfl (Or.inl rfl) pe_int) (pss_cons (ps_while PassesOwn.never (pt_cmpR op_lt (pv 3) (pe_callB call_len_seq (by rfl) T.b_len PySem.boot_len (pa_cons (pv 0) pa_nil)) (nomark _)) (pss_cons (ps_set (i := 4) sc_answers.nd rfl (Or.inl rfl) (pe_ix ix_list (pv 0) (pv 3) (fun _ _ => rfl))) (pss_cons (ps_aug (i := 3) sc_answers.nd rfl (Or.inl rfl) pe_int ip_add) (pss_cons (ps_set (i := 5) sc_answers.nd rfl (Or.inl rfl) (pe_ix ix_tup (C8.pe_gc rfl g_GIVEN_COUNTS) (pv 4) (fun _ _ => rfl))) (pss_cut (ps_if (pt_cmpR op_eq (pv 5) (C8.pe_gc rfl T.g_LISTED) (nomark _)) (pss_cons (ps_set (i := 5) sc_answers.nd rfl (Or.inl rfl) (pe_ix ix_list (pv 0) (pv 3) (fun _ _ => rfl))) (pss_one (ps_aug (i := 3) sc_answers.nd rfl (Or.inl rfl) pe_int ip_add))) pss_nil) (pss_cons (ps_set (i := 6) sc_answers.nd rfl (Or.inl rfl) (Kt.pe_callX hP hr (by decide) (pe_ix ix_tup (C8.pe_gc rfl g_CALLS) (pv 4) (fun _ _ => rfl)) (pa_cons (pv 1) (pa_cons (pe_slice sl_list (pv 0) (po_some (pv 3)) (po_some (pe_op op_add (pv 3) (pv 5)))) pa_nil)))) (pss_cons (ps_aug (i := 3) sc_answers.nd rfl (Or.inl rfl) (pv 5) ip_add) (pss_cons (ps_expr (pe_bm PySem.F.plainAttrs_list PySem.F.slot_list_append PySem.F.type_list_append mt_append (pv 2) (pa_cons (pe_callB call_len_seq (by rfl) T.b_len PySem.boot_len (pa_cons (pv 6) pa_nil)) pa_nil))) (pss_one (ps_expr (pe_bm PySem.F.plainAttrs_list PySem.F.slot_list_extend PySem.F.type_list_extend mt_extend (pv 2) (pa_cons (pv 6) pa_nil)))))))))))) (pss_one (ps_ret (pv 2))))))), ?_⟩
    obtain ⟨cs0, hcs0, hall0, hans0, hlen⟩ := asked_parts hask
    refine q_asgX (x_make ea_nil fun H1 e1 p dx hp0 hd0 hne => ⟨p, dx, rfl, upd_same, fun r0 o0 H2 b2 hp2 => ⟨rfl, ?_⟩⟩)
    have e12 : Ex H1 H2 := fun y o h => by
      have y1 : y ≠ p := ne_of_none h hp0
      have y2 : y ≠ dx := ne_of_none h hd0
      exact b2 y o y1 (by rw [upd_ne y1, upd_ne y2]; exact h)
    have hp00 : H p = none := fresh_back e1 hp0
    refine q_asgL (el_lst ea_nil (by simp)) fun t H3 ht0 e3 ht3 => ?_
    have htp : t ≠ p := fun z => by
      rw [z, hp2.ins] at ht0
      cases ht0
    have nr0 : r0 ≠ t := fun z => by
      rw [← z, hp2.row] at ht0
      cases ht0
    have ht00 : H t = none := fresh_back (e1.trans e12) ht0
    refine q_asg ev_c fun H4 e4 => ?_
    refine q_while (LoopAt CW CP H a p dx t ns) ns.length ⟨0, Vbktaf.start, [], ns.length, cs0, r0, o0, none, none, none, rfl, ((e1.trans e12).trans e3).trans e4, hp2.ex (e3.trans e4), e4 _ _ ht3, nr0, by omega, rfl, hcs0, hall0, by rw [List.nil_append]; exact hans0⟩ ?_
    rintro m σ' H5 ⟨pl, s, acc, f5, cs5, r, o, v4, v5, v6, rfl, e5, hp5, ht5, nrt5, hpl, hm, hcs, hall, hans⟩
    refine ⟨decide (pl < ns.length), et_test (ev_is (ev_op (ev_var rfl) (ev_len (ev_var rfl) (ex_l e5 hS)) rv_I0) (by rw [List.length_map]; exact congrArg V.bl (decide_eq_decide.mpr (by omega)))), fun hb H6 e6 => ?_, fun hb H6 e6 => ?_⟩
    · have hlt : pl < ns.length := of_decide_eq_true hb
      refine ⟨fun σ2 H2 => ∃ m', m' < m ∧ LoopAt CW CP H a p dx t ns m' σ2 H2, fun σ2 H2 h => h, ?_⟩
      obtain ⟨n, rr, hdrop⟩ : ∃ n rr, ns.drop pl = n :: rr := ⟨_, _, List.drop_eq_getElem_cons hlt⟩
      rw [hdrop] at hcs
      obtain ⟨kn, gv, rest, d, f', cs', rfl, N, hcs', hall', hplay⟩ := next_call (s := s) hcs hall
      obtain ⟨hn, hdr, _⟩ := drop_at hdrop
      rw [hplay, told_cons] at hans
      have hlen' := hlen
      rw [hans] at hlen'
      simp only [List.length_append, List.length_cons] at hlen'
      have e56 := e5.trans e6
      have hp6 := hp5.ex e6
      have ht6 := e6 _ _ ht5
      -- number, place, count
      refine q_asg (ev_ixL (ev_var rfl) (ev_var rfl) (ex_l e56 hS) (v := .int (kn : Int)) (atI_nat (by rw [List.getElem?_map, hn]; rfl))) fun H7 e7 => ?_
      refine q_aug rfl ev_c fun H8 e8 => ?_
      obtain ⟨c0, hc0⟩ : ∃ c0, counts[kn]? = some c0 := ⟨_, List.getElem?_eq_getElem (show kn < counts.length from N.hk)⟩
      refine q_asg (ev_ixT ev_c (ev_var rfl) (hG _) (v := .int c0) (atI_nat (by rw [List.getElem?_map, hc0]; rfl))) fun H9 e9 => ?_
      have e69 := (e7.trans e8).trans e9
      refine q_cut (M := fun σ2 H' => ∃ pl2 : Nat, σ2 = [some (.ref a), some (.ref p), some (.ref t), some (.int (pl2 : Int)), some (.int (kn : Int)), some (.int (gv.length : Int)), v6] ∧ Ex H6 H' ∧ pl < pl2 ∧ ns.drop pl2 = gv ++ rest ∧ pl2 + gv.length ≤ ns.length) ?_ ?_
      · refine s_when (b := decide (c0 = -1)) (et_test (ev_is (ev_op (ev_var rfl) ev_c (rv_eq rfl)) (congrArg V.bl (decide_eq_decide.mpr (by simp))))) (fun hc H10 e10 => ?_) (fun hc H10 e10 => ?_)
        · have hc' := of_decide_eq_true hc
          subst hc'
          rcases N.how with ⟨h1, h2⟩ | ⟨h1, h2⟩
          · rw [hc0] at h1
            have := Option.some.inj h1
            omega
          · rw [h2] at hdr
            obtain ⟨hn2, hdr2, hlt2⟩ := drop_at hdr
            refine q_asg (ev_ixL (ev_var rfl) (ev_var rfl) (ex_l ((e56.trans e69).trans e10) hS) (v := .int (gv.length : Int)) (atI_nat (j := pl + 1) (by rw [List.getElem?_map, hn2]; rfl))) fun H11 e11 => ?_
            refine s_aug rfl ev_c fun H12 e12' => ⟨pl + 1 + 1, rfl, ((e69.trans e10).trans e11).trans e12', by omega, hdr2, by
              have := congrArg List.length hdr2
              rw [List.length_drop, List.length_append] at this
              omega⟩
        · have hc' := of_decide_eq_false hc
          rcases N.how with ⟨h1, h2⟩ | ⟨h1, h2⟩
          · rw [hc0] at h1
            have := Option.some.inj h1
            subst this
            have h5 := congrArg List.length (hdr.trans h2)
            rw [List.length_drop, List.length_append] at h5
            exact ⟨pl + 1, rfl, e69.trans e10, by omega, by rw [hdr, h2], by omega⟩
          · rw [hc0] at h1
            exact absurd (Option.some.inj h1) hc'
      · rintro σ2 H10 ⟨pl2, rfl, e610, hlt2, hd2, hle2⟩
        have hp10 := hp6.ex e610
        have ht10 := e610 _ _ ht6
        have e10 := e56.trans e610
        have hcut : cutV (iv ns) (some (pl2 : Int)) (some ((pl2 : Int) + (gv.length : Int))) = iv gv := by
          rw [show ((pl2 : Int) + (gv.length : Int)) = ((pl2 + gv.length : Nat) : Int) from rfl, cut_both (by omega) (by rw [List.length_map]; omega), ← List.map_drop, hd2, Nat.add_sub_cancel_left, List.map_append, List.take_left' (by rw [List.length_map])]
        obtain ⟨fk, hfk⟩ : ∃ fk, fs[kn]? = some fk := ⟨_, List.getElem?_eq_getElem (show kn < fs.length by rw [hfs]; exact N.hk)⟩
        refine q_asgX (ev_ixT ev_c (ev_var rfl) (hC _) (v := .ref fk) (atI_nat (by rw [List.getElem?_map, hfk]; rfl)) H10 (Ex.refl H10) _ fun H11 e11 => ⟨fk, sp_call CW CP kn, rfl, ⟨kn, hfk, rfl⟩, ?_⟩)
        refine ⟨_, rfl, el_is (el_sl (ev_var rfl) (eo_some (ev_var rfl)) (eo_some (ev_add (ev_var rfl) (ev_var rfl))) (ex_l (e10.trans e11) hS)) hcut H11 (Ex.refl H11) _ fun g H12 hg0 e12' hg => ?_⟩
        have hp12 := hp10.ex (e11.trans e12')
        refine ⟨p, dx, r, o, g, s, gv, d, rfl, hp12, hg, by have := N.sm; omega, N.cn, fun q r' o' H13 hq0 hr0 b13 hp13 hq13 => ?_⟩
        have ht13 : H13 t = some (.lst (iv acc)) := b13 _ _ htp ((e11.trans e12') _ _ ht10)
        have e13 : Ex H H13 := fun y u hy => b13 _ _ (ne_of_none hy hp00) (((e10.trans e11).trans e12') _ _ hy)
        refine q_aug rfl (ev_var rfl) fun H14 e14 => ?_
        -- told.append(len(answer)); told.extend(answer)
        have ht14 := e14 _ _ ht13
        have hq14 := e14 _ _ hq13
        refine ⟨_, rfl, Or.inl ⟨rfl, _, sq_of ht14⟩, _, rfl, q, _, rfl, Or.inl (sq_of hq14), t, _, _, rfl, rfl, ht14, Nat.lt_of_lt_of_le (m := 10000001) (by rw [List.length_map]; omega) (by decide), ?_⟩
        have nqt : q ≠ t := fun z => by
          rw [z, (e11.trans e12') _ _ ht10] at hq0
          cases hq0
        have ht15 : upd H14 t (.lst (iv acc ++ [.int (((iv (Vbktaf.step s d).2).length : Nat) : Int)])) t = some (.lst (iv acc ++ [.int (((iv (Vbktaf.step s d).2).length : Nat) : Int)])) := upd_same
        refine ⟨_, rfl, Or.inl ⟨rfl, _, sq_of ht15⟩, _, rfl, t, q, _, _, rfl, rfl, ht15, by rw [upd_ne nqt]; exact hq14, Nat.le_trans (m := 10000000) (by simp only [List.length_append, List.length_map, List.length_cons, List.length_nil]; omega) (by decide), ?_⟩
        rw [upd_upd]
        have nrt : r' ≠ t := by
          rcases hr0 with z | z
          · rw [z]
            exact nrt5
          · intro z2
            rw [z2, (e11.trans e12') _ _ ht10] at z
            cases z
        refine ⟨ns.length - (pl2 + gv.length), by omega, pl2 + gv.length, (Vbktaf.step s d).1, acc ++ (((Vbktaf.step s d).2.length : Int) :: (Vbktaf.step s d).2), f', cs', r', o', _, _, _, rfl, Ex.mut (e13.trans e14) ht00, ?_, ?_, nrt, hle2, rfl, ?_, hall', ?_⟩
        · have hpE := hp13.ex e14
          obtain ⟨ox, hox⟩ := id hpE.wt
          have not : o' ≠ t := fun z => by
            rw [z, ht14] at hox
            cases hox
          exact ⟨by rw [upd_ne (Ne.symm htp)]; exact hpE.ins, by rw [upd_ne nrt]; exact hpE.row, ⟨ox, by rw [upd_ne not]; exact hox⟩, hpE.wok, hpE.len, hpE.low⟩
        · rw [upd_same]
          simp [iv]
        · rw [← List.drop_drop, hd2, List.drop_left]
          exact hcs'
        · rw [hans, List.append_assoc]
    · have hge : ¬ pl < ns.length := of_decide_eq_false hb
      have hd : ns.drop pl = [] := List.drop_eq_nil_of_le (by omega)
      rw [hd] at hcs
      have hcs' : cs5 = [] := by
        cases f5 <;> exact (Option.some.inj hcs).symm
      rw [hcs'] at hans
      have hans' : PyVbktaf.answers ns = acc := by
        rw [hans]
        exact List.append_nil _
      refine s_ret (ev_var rfl) fun H7 e7 => k H7 t ?_
      rw [hans']
      exact (e6.trans e7) _ _ ht5
end
end Kt

/-! # From what stands behind the top to the words of the proof -/
namespace Kt
open PySem PySem.Spec PyProof.Rows L2 Evl
section
variable {P : Program} {w : World} {K : PySem.W.Frag} {h : Heap} {mg : Str → Option Value} {base : Heap}
theorem df_mk {x : Str} {st : Stmt} {f : Addr} (X : K.In h) (G : h.Ns mainGlobals mg) {od an : Option Addr} {sl : Array (Option Value)} {oc kV dc pm cd ct : Value} (a : PySem.W.nsIn K mainGlobals x = some (some (.ref f)))
    (l : K.lookup f = some ⟨oc, od, .func (PySem.W.fnOf x x (C8.fnArgs st) (C8.fnBody st) (C8.fnScope st) .none kV dc pm an cd ct), sl⟩) (c : PySem.W.codeIn K cd x = true) (k : PySem.W.keepIn K (.ref f) = true) : DF K mg x st :=
  ⟨f, _, ⟨⟨⟨oc, od, .none, kV, dc, pm, an, cd, ct, sl, rfl, l, c⟩⟩, PySem.W.mg_of X G a, k⟩, rfl⟩
theorem mf_mk {C : Addr} {m q : Str} {st : Stmt} {f : Addr} (L : Cls K C) {od an : Option Addr} {sl : Array (Option Value)} {oc kV dc pm cd ct : Value} (a : PySem.W.findIn K (.ref C) m = some (some (.ref f))) (i : PySem.W.isFn K (.ref f) = true)
    (l : K.lookup f = some ⟨oc, od, .func (PySem.W.fnOf m q (C8.fnArgs st) (C8.fnBody st) (C8.fnScope st) .none kV dc pm an cd ct), sl⟩) (c : PySem.W.codeIn K cd q = true) (k : PySem.W.keepIn K (.ref f) = true) : MF K C m q st :=
  ⟨f, _, L, ⟨a, i, k⟩, ⟨⟨oc, od, .none, kV, dc, pm, an, cd, ct, sl, rfl, l, c⟩⟩, rfl⟩
theorem cf_mk {C : Addr} {x q : Str} {st : Stmt} {f : Addr} (X : K.In h) (G : h.Ns mainGlobals mg) {od an : Option Addr} {sl : Array (Option Value)} {oc kV dc pm cd ct : Value} (g : PySem.W.nsIn K mainGlobals x = some (some (.ref C))) (mk : PySem.W.makesIn K C = true) (kc : PySem.W.keepIn K (.ref C) = true)
    (a : PySem.W.findIn K (.ref C) "__init__" = some (some (.ref f))) (i : PySem.W.isFn K (.ref f) = true)
    (l : K.lookup f = some ⟨oc, od, .func (PySem.W.fnOf "__init__" q (C8.fnArgs st) (C8.fnBody st) (C8.fnScope st) .none kV dc pm an cd ct), sl⟩) (c : PySem.W.codeIn K cd q = true) : CF K mg C x q st :=
  ⟨f, _, ⟨mk, a, i, kc⟩, PySem.W.mg_of X G g, ⟨⟨oc, od, .none, kV, dc, pm, an, cd, ct, sl, rfl, l, c⟩⟩, rfl⟩
theorem gi_mk {x : Str} {n : Int} {t : Nat} (X : K.In h) (G : h.Ns mainGlobals mg) (a : PySem.W.nsIn K mainGlobals x = some (some (.int n t))) : GI mg x n := ⟨_, PySem.W.mg_of X G a, ⟨t, rfl⟩⟩
theorem ref_mk {x : Str} {f : Addr} (X : K.In h) (G : h.Ns mainGlobals mg) (a : PySem.W.nsIn K mainGlobals x = some (some (.ref f))) : ∃ u, mg x = some u ∧ L2.RelV (.ref f) u := ⟨_, PySem.W.mg_of X G a, rfl⟩
theorem na_mk {C : Addr} {f : Str} (a : PySem.W.findIn K (.ref C) f = some none) : NoAttr K C f := a
theorem cd_mk {a : Addr} {t1 t2 t3 t4 t5 t6 ep : Nat} (l : K.lookup a = some ⟨.type "dict", none, .dict #[⟨40, .int 40 t1, .int 41 t2⟩, ⟨60, .int 60 t3, .int 62 t4⟩, ⟨91, .int 91 t5, .int 93 t6⟩] ep, #[]⟩) (s : (a == sysModules) = false) : CD K a := ⟨t1, t2, t3, t4, t5, t6, ep, l, s⟩
theorem bt_mk {x : Str} {st : Stmt} {f : Addr} {fd : FuncData} {ps : List Str} (F : C8.Fun K x x st f fd) (df : fd.defaults = .none)
    (hb : ∀ (kV doc pm : Value) (an : Option Addr) (cdv ct : Value) (us : List Value), us.length = ps.length → bindArgs (PySem.W.fnOf x x (C8.fnArgs st) (C8.fnBody st) (C8.fnScope st) .none kV doc pm an cdv ct) ⟨us, []⟩ = pure (ps.zip us)) (s : Shared) (us : List Value) (hl : us.length = ps.length) : BindsTo s fd ⟨us, []⟩ (ps.zip us) := by
  obtain ⟨_, _, dV, kV, doc, pm, an, cdv, ct, _, rfl, _, _⟩ := F.ex
  obtain rfl : dV = .none := df
  exact .of_eq (hb kV doc pm an cdv ct us hl)
theorem cal_at {x : Str} {f : Addr} {k : Nat} {sp : Sp} (c : C8.Cal P w K mg base k x sp []) (hf : mg x = some (.ref f)) : C8.CalAt P w K mg base k f sp := by
  obtain ⟨f', fd, ps, ds, F, g, kp, b, d⟩ := c.ex
  cases d
  rw [g] at hf
  cases hf
  exact ⟨fd, ps, F, kp, b⟩
end
theorem asked_in {K : PySem.W.Frag} {H : Hp} {xs : List V} (a : PySem.W.Codec.denoteAll PySem.Challenge.rw_knittext_s01_answers.args) (hask : PySem.W.Codec.app PySem.Challenge.rw_knittext_s01_answers.args PySem.Challenge.rw_knittext_s01_answers.asked a = true) (hx : L2.DwAll K H xs (PySem.W.Codec.encAll PySem.Challenge.rw_knittext_s01_answers.args a)) :
    spAns K xs H (fun v H' => L2.Dw K H' v (PySem.Challenge.rw_knittext_s01_answers.ret.enc (PySem.W.Codec.app PySem.Challenge.rw_knittext_s01_answers.args PySem.Challenge.rw_knittext_s01_answers.f a))) fun _ _ _ => False := by
  cases hx with
  | cons h1 h2 =>
    cases h2
    cases h1 with
    | lst hs ha =>
      have e := L2.ints_dw a.1 _ ha
      subst e
      exact ⟨_, a.1, rfl, hs, hask, fun H' p hp => .lst (L2.SqL.of hp) (L2.dw_ints _)⟩
end Kt

/-! # The longest repeat, the longest mirrored stretch, a row with two stitches swapped, unlike ones counted -/
namespace Kt
open PySem PySem.Spec PyProof.Rows L2 Evl
open Vbktaf (Weights inr State hasPeriod isMirror part stretches longestRepeat longestMirror renamed)
/-! ## what is found first in a walk over numbers, over stretches -/
theorem find_here {f : Nat → Bool} {n p : Nat} (h : ∀ q, q < p → f q = false) (hp : f p = true) (hn : p < n) : (List.range n).find? f = some p := by
  rw [List.find?_range_eq_some]
  exact ⟨hp, List.mem_range.mpr hn, fun j hj => by rw [h j hj]; rfl⟩
theorem find_not {f : Nat → Bool} {n : Nat} (h : ∀ q, q < n → f q = false) : (List.range n).find? f = none := by
  rw [List.find?_eq_none]
  intro x hx
  rw [h x (List.mem_range.mp hx)]
  decide
theorem range_at {n k : Nat} (h : k < n) : ∃ r, List.range n = List.range k ++ k :: r := by
  refine ⟨(List.range n).drop (k + 1), ?_⟩
  have h1 := List.take_append_drop k (List.range n)
  rw [List.take_range, Nat.min_eq_left (Nat.le_of_lt h)] at h1
  have h2 : (List.range n).drop k = k :: (List.range n).drop (k + 1) := by
    rw [List.drop_eq_getElem_cons (by rw [List.length_range]; exact h), List.getElem_range]
  rw [h2] at h1
  exact h1.symm
theorem stretches_at {n k i : Nat} (hk : k < n) (hi : i < k + 1) : ∃ as bs, stretches n = as ++ (i, n - k) :: bs ∧ ∀ a ∈ as, (∃ k' i', k' < k ∧ i' < k' + 1 ∧ a = (i', n - k')) ∨ ∃ i', i' < i ∧ a = (i', n - k) := by
  obtain ⟨r, hr⟩ := range_at hk
  obtain ⟨q, hq⟩ := range_at hi
  refine ⟨((List.range k).flatMap fun k => (List.range (k + 1)).map fun i => (i, n - k)) ++ (List.range i).map fun i => (i, n - k), q.map (fun i => (i, n - k)) ++ r.flatMap fun k => (List.range (k + 1)).map fun i => (i, n - k), ?_, ?_⟩
  · unfold stretches
    rw [hr, List.flatMap_append, List.flatMap_cons, hq, List.map_append, List.map_cons]
    simp only [List.append_assoc, List.cons_append]
  · intro a ha
    rcases List.mem_append.mp ha with h | h
    · obtain ⟨k', h1, h2⟩ := List.mem_flatMap.mp h
      obtain ⟨i', h3, h4⟩ := List.mem_map.mp h2
      exact Or.inl ⟨k', i', List.mem_range.mp h1, List.mem_range.mp h3, h4.symm⟩
    · obtain ⟨i', h3, h4⟩ := List.mem_map.mp h
      exact Or.inr ⟨i', List.mem_range.mp h3, h4.symm⟩
theorem mem_stretches {n : Nat} {a : Nat × Nat} (h : a ∈ stretches n) : ∃ k i, k < n ∧ i < k + 1 ∧ a = (i, n - k) := by
  unfold stretches at h
  obtain ⟨k, h1, h2⟩ := List.mem_flatMap.mp h
  obtain ⟨i, h3, h4⟩ := List.mem_map.mp h2
  exact ⟨k, i, List.mem_range.mp h1, List.mem_range.mp h3, h4.symm⟩
theorem some_here {β : Type} {g : Nat × Nat → Option β} {n k i : Nat} {b : β} (hk : k < n) (hi : i < k + 1) (h1 : ∀ k', k' < k → ∀ i', i' < k' + 1 → g (i', n - k') = none) (h2 : ∀ i', i' < i → g (i', n - k) = none) (hb : g (i, n - k) = some b) : (stretches n).findSome? g = some b := by
  obtain ⟨as, bs, e, ha⟩ := stretches_at hk hi
  rw [e, List.findSome?_append, List.findSome?_cons, hb]
  have : as.findSome? g = none := by
    rw [List.findSome?_eq_none_iff]
    intro a hm
    rcases ha a hm with ⟨k', i', c1, c2, rfl⟩ | ⟨i', c1, rfl⟩
    · exact h1 k' c1 i' c2
    · exact h2 i' c1
  rw [this]
  rfl
theorem some_not {β : Type} {g : Nat × Nat → Option β} {n : Nat} (h1 : ∀ k', k' < n → ∀ i', i' < k' + 1 → g (i', n - k') = none) : (stretches n).findSome? g = none := by
  rw [List.findSome?_eq_none_iff]
  intro a hm
  obtain ⟨k, i, c1, c2, rfl⟩ := mem_stretches hm
  exact h1 k c1 i c2
theorem one_here {f : Nat × Nat → Bool} {n k i : Nat} (hk : k < n) (hi : i < k + 1) (h1 : ∀ k', k' < k → ∀ i', i' < k' + 1 → f (i', n - k') = false) (h2 : ∀ i', i' < i → f (i', n - k) = false) (hb : f (i, n - k) = true) : (stretches n).find? f = some (i, n - k) := by
  obtain ⟨as, bs, e, ha⟩ := stretches_at hk hi
  rw [e, List.find?_append, List.find?_cons, hb]
  have : as.find? f = none := by
    rw [List.find?_eq_none]
    intro a hm
    rcases ha a hm with ⟨k', i', c1, c2, rfl⟩ | ⟨i', c1, rfl⟩
    · rw [h1 k' c1 i' c2]
      decide
    · rw [h2 i' c1]
      decide
  rw [this]
  rfl
/-! ## the least period, the longest repeat -/
def leastP (l : List Nat) : Nat := ((List.range l.length).find? (hasPeriod l)).getD 0
theorem period_in {l : List Nat} {p : Nat} (h0 : 0 < p) (h : p < l.length) : hasPeriod l p = (l.length % p == 0 && l.drop p == l.take (l.length - p)) := by
  unfold hasPeriod
  rw [decide_eq_true h0, decide_eq_true h, Bool.true_and, Bool.true_and]
theorem period_zero (l : List Nat) : hasPeriod l 0 = false := by
  unfold hasPeriod
  rw [decide_eq_false (by omega), Bool.false_and]
theorem leastP_le (l : List Nat) : leastP l ≤ l.length := by
  unfold leastP
  cases hf : (List.range l.length).find? (hasPeriod l) with
  | none => exact Nat.zero_le _
  | some p => exact Nat.le_of_lt (List.mem_range.mp (List.mem_of_find?_eq_some hf))
def repAt (l : List Nat) (x : Nat × Nat) : Option (Nat × Nat × Nat) := ((List.range x.2).find? (hasPeriod (part l x.1 x.2))).map fun p => (x.1, p, x.2 / p)
theorem repeat_eq (l : List Nat) : longestRepeat l = (stretches l.length).findSome? (repAt l) := rfl
def repL (l : List Nat) : List Nat := match longestRepeat l with
  | none => []
  | some x => [x.1, x.2.1, x.2.2]
theorem repAt_none {l : List Nat} {i n : Nat} (hin : i + n ≤ l.length) (h : leastP (part l i n) = 0) : repAt l (i, n) = none := by
  unfold leastP at h
  unfold repAt
  rw [part_length hin] at h
  cases hf : (List.range n).find? (hasPeriod (part l i n)) with
  | none => rfl
  | some p =>
    rw [hf] at h
    have e : p = 0 := h
    have := List.find?_some hf
    rw [e, period_zero] at this
    cases this
theorem repAt_some {l : List Nat} {i n p : Nat} (hin : i + n ≤ l.length) (h : leastP (part l i n) = p) (hp : 0 < p) : repAt l (i, n) = some (i, p, n / p) := by
  unfold leastP at h
  unfold repAt
  rw [part_length hin] at h
  cases hf : (List.range n).find? (hasPeriod (part l i n)) with
  | none =>
    rw [hf] at h
    have e : 0 = p := h
    omega
  | some q =>
    rw [hf] at h
    have e : q = p := h
    rw [e]
    rfl
theorem repAt_one {l : List Nat} {i : Nat} : repAt l (i, 1) = none := by
  unfold repAt
  show (((List.range 1).find? (hasPeriod (part l i 1))).map _) = none
  rw [find_not fun q hq => by
    obtain rfl : q = 0 := by omega
    exact period_zero _]
  rfl
/-! ## mirrored -/
theorem mirror_one {l : List Nat} (h : l ≠ []) : isMirror (part l 0 1) = true := by
  cases l with
  | nil => exact absurd rfl h
  | cons c r =>
    show isMirror [c] = true
    unfold isMirror
    simp
/-! ## two stitches swapped -/
def swap1 (a b c : Nat) : Nat := if c = a then b else if c = b then a else c
theorem renamed_eq (a b : Nat) (l : List Nat) : renamed a b l = l.map (swap1 a b) := rfl
theorem swap_get (a b c : Nat) : ((valV (mergeK [] [((Sum.inl (a : Int) : Key), V.int (b : Int)), (Sum.inl (b : Int), V.int (a : Int))]) (Sum.inl (c : Int))).getD (.int (c : Int))) = .int ((swap1 a b c : Nat) : Int) := by
  show (valV (putK (putK [] (Sum.inl (a : Int) : Key) (V.int (b : Int))) (Sum.inl (b : Int)) (V.int (a : Int))) (Sum.inl (c : Int))).getD (.int (c : Int)) = _
  rw [valV_put, valV_put]
  have ei : ∀ x y : Nat, ((Sum.inl (x : Int) : Key) = Sum.inl (y : Int)) ↔ x = y := fun x y => ⟨fun z => by have := Sum.inl.inj z; omega, fun z => by rw [z]⟩
  unfold swap1
  by_cases h1 : c = b
  · rw [if_pos ((ei c b).mpr h1)]
    by_cases h2 : c = a
    · rw [if_pos h2, ← h2, h1]
      rfl
    · rw [if_neg h2, if_pos h1]
      rfl
  · rw [if_neg fun z => h1 ((ei c b).mp z)]
    by_cases h2 : c = a
    · rw [if_pos ((ei c a).mpr h2), if_pos h2]
      rfl
    · rw [if_neg fun z => h2 ((ei c a).mp z), if_neg h2, if_neg h1, valV_nil]
      rfl
/-! ## unlike stitches -/
theorem dups_loop : ∀ (l bs : List Nat), (l.map Int.ofNat).foldl PyProof.Rows.step_dedup (bs.reverse.map Int.ofNat) = (List.eraseDupsBy.loop (fun a b => a == b) l bs).map Int.ofNat
  | [], bs => rfl
  | a :: l, bs => by
    have hany : ((bs.reverse.map Int.ofNat).any fun x => x == Int.ofNat a) = bs.any fun b => a == b := by
      rw [List.any_map, List.any_reverse]
      congr 1
      funext b
      show (Int.ofNat b == Int.ofNat a) = (a == b)
      by_cases e : a = b
      · subst e
        simp
      · have e2 : ¬ Int.ofNat b = Int.ofNat a := fun z => e (by have := Int.ofNat.inj z; omega)
        rw [beq_eq_false_iff_ne.mpr e, beq_eq_false_iff_ne.mpr e2]
    rw [List.map_cons, List.foldl_cons, List.eraseDupsBy.loop]
    unfold PyProof.Rows.step_dedup
    rw [hany]
    cases hb : bs.any fun b => a == b with
    | true =>
      rw [if_pos rfl]
      exact dups_loop l bs
    | false =>
      rw [if_neg (by decide)]
      have := dups_loop l (a :: bs)
      rw [List.reverse_cons, List.map_append] at this
      exact this
theorem range_getI (ns : List Int) : (List.range ns.length).map (fun i => ns.getD i 0) = ns := by
  apply List.ext_getElem
  · rw [List.length_map, List.length_range]
  · intro i h1 h2
    rw [List.getElem_map, List.getElem_range, List.getD_eq_getElem?_getD, List.getElem?_eq_getElem h2]
    rfl
theorem unlike_len (l : List Nat) : (PyProof.Rows.firstMet (fun i => (Vbktaf.ints l).getD i 0) l.length).length = l.eraseDups.length := by
  unfold PyProof.Rows.firstMet
  have h1 := range_getI (Vbktaf.ints l)
  have h2 : (Vbktaf.ints l).length = l.length := List.length_map _
  rw [h2] at h1
  rw [h1]
  have := dups_loop l []
  rw [show Vbktaf.ints l = l.map Int.ofNat from rfl]
  rw [List.reverse_nil, List.map_nil] at this
  rw [this, List.length_map]
  rfl
def tLenSetN (K : PySem.W.Frag) (ta : TE) : TE := fun σ H Q => ta σ H fun x H1 => ∃ (l : Addr) (ns : List Nat), x = .ref l ∧ SqL K H1 l (nv ns) ∧ ns.length ≤ 4000 ∧ Q (.int (ns.eraseDups.length : Nat)) H1
theorem pe_lenSetN {X : Cx} {a : Expr} {ta : TE} {p p2 q pos : Pos} (hg : Gl X "len") (hm : X.mg "len" = none) (hg2 : Gl X "set") (hm2 : X.mg "set" = none) (ha : PE X a ta) (hc : X.calm = true := by rfl)
    (na : starEach [a] X.env = (false, eval a X.env) :: starEach [] X.env := by rfl) : PE X (.Call (.Name "len" p) [.Call (.Name "set" p2) [a] [] q] [] pos) (tLenSetN X.K ta) := by
  refine ⟨fun pins s σ H Q I h => Call_ (ld_blt I hg hm boot_len (PyProof.Rows.callWith_builtin1 (PyProof.Rows.args_cons (Call_ (ld_blt I hg2 hm2 boot_set (PyProof.Rows.callWith_type1 (PyProof.Rows.args_cons (thn (ha.run pins s σ H _ I h) fun v s1 ⟨x, H1, I1, r1, k1⟩ => PyProof.Rows.args_nil ?_) na) na rfl))) rfl) rfl rfl))⟩
  obtain ⟨l, ns, rfl, row, few, q1⟩ := k1
  cases r1
  have few2 : ns.eraseDups.length ≤ 4000 := Nat.le_trans (by rw [← unlike_len]; exact PyProof.Rows.firstMet_length_le _ _) few
  obtain ⟨its, vals, plain, _⟩ := I1.list (nv_ints ns ▸ row)
  have size : its.toArray.size = ns.length := List.size_toArray.trans (vals.length.symm.trans ((List.length_map _).trans (List.length_map _)))
  refine call_set_list (I1.ok.hd hc) plain.isList (by simpa using RZ.intsAre_vals vals) (by rw [size]; unfold scanBound; omega) fun h' tk isSet kept => PyProof.Rows.args_nil ?_
  rw [size, unlike_len] at isSet
  obtain ⟨_, es, _, _, at_, exact_, data, _, _, _, fits, count⟩ := isSet
  have after : Inv X pins σ H1 { s1 with heap := h', toks := tk } := I1.kept fun b u e => kept b u (Heap.lt_size e) e
  refine call_len_set at_ exact_ data fits (by rw [count]; omega) ⟨.int ns.eraseDups.length, H1, after.tok _, ⟨_, by rw [count]⟩, q1⟩
section
variable {K : PySem.W.Frag} {σ : L2.St} {H H' : Hp} {ta te : TE} {tu tz : TS} {D : Ends}
theorem ev_lenSet {a : Addr} {l : List Nat} (h : Ev ta σ H (.ref a)) (hx : SqL K H a (nv l)) (hl : l.length ≤ 4000) : Ev (tLenSetN K ta) σ H (.int (l.eraseDups.length : Nat)) := fun H1 e Q q =>
  h H1 e _ fun H2 e2 => ⟨a, l, rfl, ex_l (e.trans e2) hx, hl, q H2 e2⟩
/-- over range(hi, lo, -1) -/
theorem q_forDown {tg : TA} {j : Nat} {hi lo : Int} (h : EvA tg σ H [.int hi, .int lo, .int (-1)]) (hn : 0 ≤ lo ∧ lo ≤ 100000 ∧ 0 ≤ hi ∧ hi ≤ 100000) (Pv : Nat → L2.St → Hp → Prop) (h0 : ∀ H1, Ex H H1 → Pv 0 σ H1)
    (hs : ∀ (i : Nat) σ' H', lo + (i : Int) < hi → Pv i σ' H' → tu { D with nx := Pv (i + 1), ct := Pv (i + 1), bk := tz D } (σ'.set j (some (.int (hi - (i : Int))))) H') (hd : ∀ σ' H', Pv (hi - lo).toNat σ' H' → tz D σ' H') : tSeq (tFor (iRng3 tg) (gName j) tu) tz D σ H :=
  h H (Ex.refl H) _ fun H1 e => ⟨hi, lo, -1, (hi - lo).toNat, rfl, RgC.neg (by omega) (by omega) (by omega) (by omega), for_rangeC (D := { D with nx := tz D }) (lo := hi) (c := -1) (n := (hi - lo).toNat) Pv (h0 H1 e) (fun i σ' H' hi' p => by
    have e0 : hi + (i : Int) * (-1) = hi - (i : Int) := by omega
    show tu { D with nx := Pv (i + 1), ct := Pv (i + 1), bk := tz D } (σ'.set j (some (.int (hi + (i : Int) * (-1))))) H'
    rw [e0]
    exact hs i σ' H' (by omega) p) hd⟩
end
section
variable {P : Program} {w : World} {K : PySem.W.Frag} {mg : Str → Option Value} {base : Heap}
/-- least_period -/
def sp_least_period (K : PySem.W.Frag) : Sp := fun vs H Q _ => ∃ (a : Addr) (l : List Nat), vs = [.ref a] ∧ SqL K H a (nv l) ∧ l.length ≤ 1000 ∧ RetV (.int ((leastP l : Nat) : Int)) H Q
theorem sc_least_period : FnScope ["stitches", "period"] ["stitches"] (C8.fnScope s_least_period) := C8.fnScope_by (by decide +kernel)
theorem cal_least_period (D : DF K mg "least_period" s_least_period) (T : Tx K mg) (c_has_period : C8.Cal P w K mg base 1 "has_period" (sp_has_period K) []) : C8.Cal P w K mg base 2 "least_period" (sp_least_period K) [] := by
  refine cal_by D sc_least_period (fun _ _ _ _ _ _ us hl => match us, hl with | [_], _ => rfl) (fun vs H Q E h => ?_) (fun f cdv A outer s H vs Q E hr h => ?_)
  · obtain ⟨a, l, rfl, _⟩ := h
    rfl
  · obtain ⟨a, l, rfl, hS, hl, k⟩ := h
    refine ⟨_, (pss_cons (ps_for PassesOwn.never rfl (pi_range2 rfl T.b_range (pa_cons pe_int (pa_cons (pe_callB call_len_seq (by rfl) T.b_len PySem.boot_len (pa_cons (pv 0) pa_nil)) pa_nil))) (pg_name (i := 1) sc_least_period.nd rfl (Or.inl rfl)) (pss_one (ps_if (pt_val (C8.pe_c c_has_period hr (by decide) rfl (pa_cons (pv 0) (pa_cons (pv 1) pa_nil)))) (pss_one (ps_ret (pv 1))) pss_nil))) (pss_one (ps_ret pe_int))), ?_⟩
    refine q_forR2 (lo := 1) (n := (l.length : Int)) (ea_cons ev_c (ea_cons (ev_is (ev_len (ev_var rfl) hS) (by rw [List.length_map])) ea_nil)) ⟨by omega, by omega, by omega, by omega⟩
      (fun j σ' H' => ∃ v1 : Option V, σ' = [some (.ref a), v1] ∧ Ex H H' ∧ ∀ q, q < 1 + j → q < l.length → hasPeriod l q = false)
      (fun H1 e1 => ⟨none, rfl, e1, fun q hq _ => by
        obtain rfl : q = 0 := by omega
        exact period_zero l⟩) ?_ ?_
    · rintro j σ' H1 hj ⟨v1, rfl, e1, hg⟩
      have hjl : 1 + j < l.length := by omega
      refine s_when (b := hasPeriod l (1 + j)) (et_B (ev_call (ea_cons (ev_var rfl) (ea_cons (ev_var rfl) ea_nil)) fun H2 e2 Q2 q2 E2 => ⟨a, l, 1 + j, ?_, ex_l (e1.trans e2) hS, by omega, by omega, ?_⟩)) (fun hb H2 e2 => ?_) (fun hb H2 e2 => ?_)
      · show [V.ref a, V.int (1 + (j : Int))] = _
        rw [Int.natCast_add]
        rfl
      · rw [period_in (by omega) hjl] at q2
        exact q2
      · refine s_ret (ev_var rfl) fun H3 e3 => ?_
        have hz : leastP l = 1 + j := by
          unfold leastP
          rw [find_here (p := 1 + j) (fun q hq => hg q hq (by omega)) hb hjl]
          rfl
        have := k H3 ((e1.trans e2).trans e3)
        rw [hz, Int.natCast_add] at this
        exact this
      · refine ⟨_, rfl, e1.trans e2, fun q hq hql => ?_⟩
        by_cases e : q = 1 + j
        · rw [e]
          exact hb
        · exact hg q (by omega) hql
    · rintro σ' H1 ⟨v1, rfl, e1, hg⟩
      have hz : leastP l = 0 := by
        unfold leastP
        rw [find_not fun q hq => hg q (by omega) hq]
        rfl
      refine s_ret ev_c fun H3 e3 => ?_
      have := k H3 (e1.trans e3)
      rw [hz] at this
      exact this
/-- row[start:start + length] -/
theorem el_part {σ : L2.St} {H : Hp} {ta tb tc : TE} {a : Addr} {l : List Nat} {i n : Nat} (ha : Ev ta σ H (.ref a)) (hi : Ev tb σ H (.int (i : Int))) (hn : Ev tc σ H (.int (n : Int))) (hS : SqL K H a (nv l)) (hin : i + n ≤ l.length) :
    EvL (tSl (rSlL K) ta (tPart tb) (tPart (tOp (rI0 fun i j => .int (i + j)) tb tc))) σ H (nv (part l i n)) := by
  have h := el_sl (K := K) ha (eo_some hi) (eo_some (ev_is (ev_add hi hn) (w := .int ((i + n : Nat) : Int)) rfl)) hS
  rw [cut_both (by omega) (by rw [List.length_map]; omega), nv_drop, nv_take, Nat.add_sub_cancel_left] at h
  exact h
/-- longest_repeat -/
def sp_longest_repeat (K : PySem.W.Frag) : Sp := fun vs H Q _ => ∃ (a : Addr) (l : List Nat), vs = [.ref a] ∧ SqL K H a (nv l) ∧ l.length ≤ 1000 ∧ RetL (nv (repL l)) H Q
theorem sc_longest_repeat : FnScope ["row", "length", "start", "period"] ["row"] (C8.fnScope s_longest_repeat) := C8.fnScope_by (by decide +kernel)
theorem cal_longest_repeat (D : DF K mg "longest_repeat" s_longest_repeat) (T : Tx K mg) (c_least_period : C8.Cal P w K mg base 2 "least_period" (sp_least_period K) []) : C8.Cal P w K mg base 3 "longest_repeat" (sp_longest_repeat K) [] := by
  refine cal_by D sc_longest_repeat (fun _ _ _ _ _ _ us hl => match us, hl with | [_], _ => rfl) (fun vs H Q E h => ?_) (fun f cdv A outer s H vs Q E hr h => ?_)
  · obtain ⟨a, l, rfl, _⟩ := h
    rfl
  · obtain ⟨a, l, rfl, hS, hl, k⟩ := h
    refine ⟨_, (pss_cons (ps_for PassesOwn.never rfl (pi_range3 rfl T.b_range (pa_cons (pe_callB call_len_seq (by rfl) T.b_len PySem.boot_len (pa_cons (pv 0) pa_nil)) (pa_cons pe_int (pa_cons (pe_un un_neg pe_int) pa_nil)))) (pg_name (i := 1) sc_longest_repeat.nd rfl (Or.inl rfl)) (pss_one (ps_for PassesOwn.never rfl (pi_range1 rfl T.b_range (pa_cons (pe_op op_add (pe_op op_sub (pe_callB call_len_seq (by rfl) T.b_len PySem.boot_len (pa_cons (pv 0) pa_nil)) (pv 1)) pe_int) pa_nil)) (pg_name (i := 2) sc_longest_repeat.nd rfl (Or.inl rfl)) (pss_cons (ps_set (i := 3) sc_longest_repeat.nd rfl (Or.inl rfl) (C8.pe_c c_least_period hr (by decide) rfl (pa_cons (pe_slice sl_list (pv 0) (po_some (pv 2)) (po_some (pe_op op_add (pv 2) (pv 1)))) pa_nil))) (pss_one (ps_if (pt_cmpR op_gt (pv 3) pe_int (nomark _)) (pss_one (ps_ret (pe_lst (pa_cons (pv 2) (pa_cons (pv 3) (pa_cons (pe_op op_fdivN (pv 1) (pv 3)) pa_nil)))))) pss_nil)))))) (pss_one (ps_ret (pe_lst pa_nil)))), ?_⟩
    refine q_forDown (hi := (l.length : Int)) (lo := 1) (ea_cons (ev_is (ev_len (ev_var rfl) hS) (by rw [List.length_map])) (ea_cons ev_c (ea_cons (ev_un ev_c ru_neg) ea_nil))) ⟨by omega, by omega, by omega, by omega⟩
      (fun j σ' H' => ∃ v1 v2 v3 : Option V, σ' = [some (.ref a), v1, v2, v3] ∧ Ex H H' ∧ ∀ k, k < j → ∀ i, i < k + 1 → repAt l (i, l.length - k) = none)
      (fun H1 e1 => ⟨none, none, none, rfl, e1, fun k hk => by omega⟩) ?_ ?_
    · rintro j σ' H1 hj ⟨v1, v2, v3, rfl, e1, hg⟩
      have hjl : j + 1 < l.length := by omega
      have hlen : ((l.length : Nat) : Int) - (j : Int) = ((l.length - j : Nat) : Int) := by omega
      rw [hlen]
      refine s_forR1 (n := ((j + 1 : Nat) : Int)) (ea_cons (ev_is (ev_add (ev_sub (ev_len (ev_var rfl) (ex_l e1 hS)) (ev_var rfl)) ev_c) (by rw [List.length_map]; exact congrArg V.int (by omega))) ea_nil) ⟨by omega, by omega⟩
        (fun i σ' H' => ∃ v2 v3 : Option V, σ' = [some (.ref a), some (.int ((l.length - j : Nat) : Int)), v2, v3] ∧ Ex H H' ∧ ∀ i', i' < i → repAt l (i', l.length - j) = none) (fun H2 e2 => ⟨_, _, rfl, e1.trans e2, fun i' hi' => by omega⟩) ?_ ?_
      · rintro i σ' H2 hi ⟨v2, v3, rfl, e2, hgi⟩
        have hij : i < j + 1 := by omega
        have hin : i + (l.length - j) ≤ l.length := by omega
        refine q_asgX (el_part (ev_var rfl) (ev_var rfl) (ev_var rfl) (ex_l e2 hS) hin H2 (Ex.refl H2) _ fun q H3 hq e3 h3 => ⟨q, part l i (l.length - j), rfl, sq_of h3, by rw [part_length hin]; omega, fun H4 e4 => ?_⟩)
        have e24 := (e2.trans e3).trans e4
        refine s_when (b := decide (0 < leastP (part l i (l.length - j)))) (et_test (ev_is (ev_op (ev_var rfl) ev_c rv_I0) (congrArg V.bl (decide_eq_decide.mpr (by omega))))) (fun hb H5 e5 => ?_) (fun hb H5 e5 => ?_)
        · have hpos := of_decide_eq_true hb
          have hat := repAt_some hin rfl hpos
          have hrep : repL l = [i, leastP (part l i (l.length - j)), (l.length - j) / leastP (part l i (l.length - j))] := by
            unfold repL
            rw [repeat_eq, some_here (by omega) hij hg hgi hat]
          rw [hrep] at k
          refine s_retL (el_lst (ea_cons (ev_var rfl) (ea_cons (ev_var rfl) (ea_cons (ev_is (ev_op (ev_var rfl) (ev_var rfl) (rv_I ⟨?_, ?_⟩)) ?_) ea_nil))) (by simp)) fun p H6 hp e6 h6 => k p H6 (fresh_back (e24.trans e5) hp) ((e24.trans e5).trans e6) h6
          · have hpn : leastP (part l i (l.length - j)) ≠ 0 := by omega
            omega
          · have hle := leastP_le (part l i (l.length - j))
            rw [part_length hin] at hle
            omega
          · exact congrArg V.int (fdiv_nat _ _)
        · have hz : leastP (part l i (l.length - j)) = 0 := by
            have := of_decide_eq_false hb
            omega
          refine ⟨_, _, rfl, e24.trans e5, fun i' hi' => ?_⟩
          by_cases e : i' = i
          · rw [e]
            exact repAt_none hin hz
          · exact hgi i' (by omega)
      · rintro σ' H2 ⟨v2, v3, rfl, e2, hgi⟩
        refine ⟨_, _, _, rfl, e2, fun k hk i hi => ?_⟩
        by_cases e : k = j
        · subst e
          exact hgi i (by omega)
        · exact hg k (by omega) i hi
    · rintro σ' H1 ⟨v1, v2, v3, rfl, e1, hg⟩
      have hrep : repL l = [] := by
        unfold repL
        rw [repeat_eq, some_not fun k hk i hi => ?_]
        by_cases e : k + 1 = l.length
        · rw [show l.length - k = 1 by omega]
          exact repAt_one
        · exact hg k (by omega) i hi
      rw [hrep] at k
      exact s_retL (el_lst ea_nil (by simp)) fun p H6 hp e6 h6 => k p H6 (fresh_back e1 hp) (e1.trans e6) h6
/-- longest_mirrored -/
def sp_longest_mirrored (K : PySem.W.Frag) : Sp := fun vs H Q _ => ∃ (a : Addr) (l : List Nat), vs = [.ref a] ∧ SqL K H a (nv l) ∧ l ≠ [] ∧ l.length ≤ 1000 ∧ RetL (nv [(longestMirror l).1, (longestMirror l).2]) H Q
theorem sc_longest_mirrored : FnScope ["row", "length", "start"] ["row"] (C8.fnScope s_longest_mirrored) := C8.fnScope_by (by decide +kernel)
theorem cal_longest_mirrored (D : DF K mg "longest_mirrored" s_longest_mirrored) (T : Tx K mg) (c_is_mirrored : C8.Cal P w K mg base 1 "is_mirrored" (sp_is_mirrored K) []) : C8.Cal P w K mg base 2 "longest_mirrored" (sp_longest_mirrored K) [] := by
  refine cal_by D sc_longest_mirrored (fun _ _ _ _ _ _ us hl => match us, hl with | [_], _ => rfl) (fun vs H Q E h => ?_) (fun f cdv A outer s H vs Q E hr h => ?_)
  · obtain ⟨a, l, rfl, _⟩ := h
    rfl
  · obtain ⟨a, l, rfl, hS, hne, hl, k⟩ := h
    refine ⟨_, (pss_cons (ps_for PassesOwn.never rfl (pi_range3 rfl T.b_range (pa_cons (pe_callB call_len_seq (by rfl) T.b_len PySem.boot_len (pa_cons (pv 0) pa_nil)) (pa_cons pe_int (pa_cons (pe_un un_neg pe_int) pa_nil)))) (pg_name (i := 1) sc_longest_mirrored.nd rfl (Or.inl rfl)) (pss_one (ps_for PassesOwn.never rfl (pi_range1 rfl T.b_range (pa_cons (pe_op op_add (pe_op op_sub (pe_callB call_len_seq (by rfl) T.b_len PySem.boot_len (pa_cons (pv 0) pa_nil)) (pv 1)) pe_int) pa_nil)) (pg_name (i := 2) sc_longest_mirrored.nd rfl (Or.inl rfl)) (pss_one (ps_if (pt_val (C8.pe_c c_is_mirrored hr (by decide) rfl (pa_cons (pe_slice sl_list (pv 0) (po_some (pv 2)) (po_some (pe_op op_add (pv 2) (pv 1)))) pa_nil))) (pss_one (ps_ret (pe_lst (pa_cons (pv 2) (pa_cons (pv 1) pa_nil))))) pss_nil))))) (pss_one (ps_ret (pe_lst pa_nil)))), ?_⟩
    have hpos := List.length_pos_iff.mpr hne
    refine q_forDown (hi := (l.length : Int)) (lo := 0) (ea_cons (ev_is (ev_len (ev_var rfl) hS) (by rw [List.length_map])) (ea_cons ev_c (ea_cons (ev_un ev_c ru_neg) ea_nil))) ⟨by omega, by omega, by omega, by omega⟩
      (fun j σ' H' => ∃ v1 v2 : Option V, σ' = [some (.ref a), v1, v2] ∧ Ex H H' ∧ ∀ k, k < j → ∀ i, i < k + 1 → isMirror (part l i (l.length - k)) = false)
      (fun H1 e1 => ⟨none, none, rfl, e1, fun k hk => by omega⟩) ?_ ?_
    · rintro j σ' H1 hj ⟨v1, v2, rfl, e1, hg⟩
      have hjl : j < l.length := by omega
      have hlen : ((l.length : Nat) : Int) - (j : Int) = ((l.length - j : Nat) : Int) := by omega
      rw [hlen]
      refine s_forR1 (n := ((j + 1 : Nat) : Int)) (ea_cons (ev_is (ev_add (ev_sub (ev_len (ev_var rfl) (ex_l e1 hS)) (ev_var rfl)) ev_c) (by rw [List.length_map]; exact congrArg V.int (by omega))) ea_nil) ⟨by omega, by omega⟩
        (fun i σ' H' => ∃ v2 : Option V, σ' = [some (.ref a), some (.int ((l.length - j : Nat) : Int)), v2] ∧ Ex H H' ∧ ∀ i', i' < i → isMirror (part l i' (l.length - j)) = false) (fun H2 e2 => ⟨_, rfl, e1.trans e2, fun i' hi' => by omega⟩) ?_ ?_
      · rintro i σ' H2 hi ⟨v2, rfl, e2, hgi⟩
        have hij : i < j + 1 := by omega
        have hin : i + (l.length - j) ≤ l.length := by omega
        refine s_when (b := isMirror (part l i (l.length - j))) (et_B (fun H3 e3 Q3 q3 => el_part (ev_var rfl) (ev_var rfl) (ev_var rfl) (ex_l (e2.trans e3) hS) hin H3 (Ex.refl H3) _ fun q H4 hq e4 h4 => ⟨q, part l i (l.length - j), rfl, sq_of h4, fun H5 e5 => q3 H5 (e4.trans e5)⟩)) (fun hb H3 e3 => ?_) (fun hb H3 e3 => ?_)
        · have hmir : longestMirror l = (i, l.length - j) := by
            unfold longestMirror
            rw [one_here (f := fun x => isMirror (part l x.1 x.2)) hjl hij hg hgi hb]
            rfl
          rw [hmir] at k
          exact s_retL (el_lst (ea_cons (ev_var rfl) (ea_cons (ev_var rfl) ea_nil)) (by simp)) fun p H6 hp e6 h6 => k p H6 (fresh_back (e2.trans e3) hp) ((e2.trans e3).trans e6) h6
        · refine ⟨_, rfl, e2.trans e3, fun i' hi' => ?_⟩
          by_cases e : i' = i
          · rw [e]
            exact hb
          · exact hgi i' (by omega)
      · rintro σ' H2 ⟨v2, rfl, e2, hgi⟩
        refine ⟨_, _, rfl, e2, fun k hk i hi => ?_⟩
        by_cases e : k = j
        · subst e
          exact hgi i (by omega)
        · exact hg k (by omega) i hi
    · rintro σ' H1 ⟨v1, v2, rfl, e1, hg⟩
      have := hg (l.length - 1) (by omega) 0 (by omega)
      rw [show l.length - (l.length - 1) = 1 by omega, mirror_one hne] at this
      cases this
/-- swapped -/
def sp_swapped (K : PySem.W.Frag) : Sp := fun vs H Q _ => ∃ (a : Addr) (l : List Nat) (x y : Nat), vs = [.ref a, .int (x : Int), .int (y : Int)] ∧ SqL K H a (nv l) ∧ l.length ≤ 1000 ∧ RetL (nv (renamed x y l)) H Q
theorem sc_swapped : FnScope ["row", "one", "other", "instead", "stitch"] ["row", "one", "other"] (C8.fnScope s_swapped) := C8.fnScope_by (by decide +kernel)
theorem cal_swapped (D : DF K mg "swapped" s_swapped) (T : Tx K mg) : C8.Cal P w K mg base 1 "swapped" (sp_swapped K) [] := by
  refine cal_by D sc_swapped (fun _ _ _ _ _ _ us hl => match us, hl with | [_, _, _], _ => rfl) (fun vs H Q E h => ?_) (fun f cdv A outer s H vs Q E hr h => ?_)
  · obtain ⟨a, l, x, y, rfl, _⟩ := h
    rfl
  · obtain ⟨a, l, x, y, rfl, hS, hl, k⟩ := h
    refine ⟨_, (pss_cons (ps_set (i := 3) sc_swapped.nd rfl (Or.inr rfl) (pe_disp (pps_cons (pv 1) (pv 2) (pps_cons (pv 2) (pv 1) pps_nil)) (by rfl) (by rfl) (fun z => by cases z) (by decide))) (pss_one (ps_ret (pe_lc (own := [("stitch", 4)]) (g := gName 4) rfl sc_swapped.nd (pi_list (pv 0)) (blkOk_by (own := [("stitch", 4)]) (N := ["row", "one", "other", "instead", "stitch"]) (sc := C8.fnScope s_swapped) (by decide +kernel)) (fun _ _ _ _ _ => (pg_name (i := 4) sc_swapped.nd rfl (Or.inl rfl))) (fun _ _ _ _ _ => pts_nil) (fun _ _ _ _ _ => (pe_dget2 (hu_of hr) (pv 3) (pv 4) (pv 4) ⟨rfl, rfl, rfl, rfl⟩)))))), ?_⟩
    refine q_asgX fun d hd => ⟨_, rfl, _, rfl, _, rfl, _, rfl, upd_same, [((Sum.inl (x : Int) : Key), V.int (y : Int)), (Sum.inl (y : Int), V.int (x : Int))], rfl, (show 2 ≤ 15 by decide), ?_⟩
    have e1 : Ex H (upd (upd H d (.dK [])) d (.dK (mergeK [] [((Sum.inl (x : Int) : Key), V.int (y : Int)), (Sum.inl (y : Int), V.int (x : Int))]))) := Ex.mut (Ex.new hd) hd
    have h1 : upd (upd H d (.dK [])) d (.dK (mergeK [] [((Sum.inl (x : Int) : Key), V.int (y : Int)), (Sum.inl (y : Int), V.int (x : Int))])) d = some (.dK (mergeK [] [((Sum.inl (x : Int) : Key), V.int (y : Int)), (Sum.inl (y : Int), V.int (x : Int))])) := upd_same
    generalize upd (upd H d (.dK [])) d (.dK (mergeK [] [((Sum.inl (x : Int) : Key), V.int (y : Int)), (Sum.inl (y : Int), V.int (x : Int))])) = H1 at e1 h1 ⊢
    refine s_retL (el_is (el_lcL (fun _ => true) (fun i => .int ((swap1 x y (l.getD i 0) : Nat) : Int)) (ev_var rfl) (ex_l e1 hS) (by rw [List.length_map]; omega) (fun _ => rfl) (fun _ _ _ _ _ => et_yes) (fun i z H2 e2 hz _ => ?_)) (ys := nv (renamed x y l)) ?_) fun p H2 hp e2 h2 => k p H2 (fresh_back e1 hp) (e1.trans e2) h2
    · rw [List.getElem?_map] at hz
      cases hc : l[i]? with
      | none =>
        rw [hc] at hz
        cases hz
      | some c =>
        rw [hc] at hz
        have ez : V.int (c : Int) = z := Option.some.inj hz
        subst ez
        have hgd : l.getD i 0 = c := by
          rw [List.getD_eq_getElem?_getD, hc]
          rfl
        intro H3 e3 Q3 q3
        refine ⟨_, rfl, d, rfl, Or.inl ⟨_, Or.inl ((e2.trans e3) _ _ h1)⟩, _, rfl, _, rfl, _, DGet.k (k := Sum.inl (c : Int)) ((e2.trans e3) _ _ h1), ?_⟩
        rw [swap_get, ← hgd]
        exact q3 H3 (Ex.refl H3)
    · rw [List.length_map, given_all, renamed_eq]
      apply List.ext_getElem
      · simp
      · intro i h1 h2
        have hi : i < l.length := by simpa using h1
        simp [List.getD_eq_getElem?_getD, hi]
end
end Kt

/-! # Refusals of the later calls; the calls repeat, mirrored, reverse, double, swap, sizes -/
namespace Kt
open PySem PySem.Spec PyProof.Rows L2 Evl
open Vbktaf (Weights inr State longestRepeat longestMirror renamed)
/-! ## what the specification asks -/
def refP (l : List Nat) (i : Int) : Int := if (!inr i 0 39) = true then -1 else if (l.length : Int) ≤ i then -3 else 0
def refL (l : List Nat) (c : Nat) : Int := if 40 < l.length + c then -8 else 0
def refI (l : List Nat) (i : Int) : Int := if (!inr i 0 40) = true then -1 else if (l.length : Int) < i then -3 else refL l 1
theorem step_repeat (s : State) : Vbktaf.step s .repeat_ = (s, match longestRepeat s.word with
    | none => [0, 0]
    | some x => [0, 1, (x.1 : Int), (x.2.1 : Int), (x.2.2 : Int)]) := by
  unfold Vbktaf.step
  rfl
theorem step_mirrored (s : State) : Vbktaf.step s .mirrored = if s.word.isEmpty = true then (s, [-2]) else (s, [0, ((longestMirror s.word).1 : Int), ((longestMirror s.word).2 : Int)]) := by
  unfold Vbktaf.step
  exact guard1
theorem step_reverse (s : State) : Vbktaf.step s .reverse = ({ s with word := s.word.reverse }, [0]) := by
  unfold Vbktaf.step
  rfl
theorem step_double (s : State) : Vbktaf.step s .double = if refL s.word s.word.length = 0 then ({ s with word := s.word ++ s.word }, [0, ((2 * s.word.length : Nat) : Int)]) else (s, [refL s.word s.word.length]) := by
  have h : Vbktaf.step s .double = if decide (Vbktaf.LONG < 2 * s.word.length) = true then (s, [-8]) else ({ s with word := s.word ++ s.word }, [0, ((2 * s.word.length : Nat) : Int)]) := by
    unfold Vbktaf.step
    exact guard1
  rw [h]
  unfold refL
  have e40 : Vbktaf.LONG = 40 := rfl
  by_cases h1 : 40 < s.word.length + s.word.length
  · rw [if_pos (decide_eq_true (by rw [e40]; omega)), if_pos h1, if_neg (by decide)]
  · rw [if_neg (by rw [decide_eq_false (by rw [e40]; omega)]; decide), if_neg h1, if_pos rfl]
theorem step_swap (s : State) (a b : Int) : Vbktaf.step s (.swap a b) = if (!(inr a 0 25 && inr b 0 25)) = true then (s, [-1]) else ({ s with word := renamed a.toNat b.toNat s.word }, [0]) := by
  unfold Vbktaf.step
  exact guard1
theorem step_sizes (s : State) : Vbktaf.step s .sizes = (s, [0, (s.weights.letter : Int), (s.weights.number : Int), (s.weights.bracket : Int), (s.weights.mirror : Int), (s.word.length : Int), (s.word.eraseDups.length : Int), ((s.word.length * s.weights.letter : Nat) : Int)]) := by
  unfold Vbktaf.step
  rfl
theorem refL_zero {l : List Nat} {c : Nat} (h : refL l c = 0) : l.length + c ≤ 40 := by
  unfold refL at h
  by_cases h1 : 40 < l.length + c
  · rw [if_pos h1] at h
    exact absurd h (by decide)
  · omega
theorem low_swap {a b : Nat} {l : List Nat} (ha : a ≤ 25) (hb : b ≤ 25) (h : ∀ c ∈ l, c ≤ 25) : ∀ c ∈ renamed a b l, c ≤ 25 := by
  intro c hc
  rw [renamed_eq] at hc
  obtain ⟨d, hd, rfl⟩ := List.mem_map.mp hc
  have := h d hd
  unfold swap1
  split
  · exact hb
  · split
    · exact ha
    · exact this
theorem ne_zero_dec (z : Int) : (V.bl (!decide (V.int z = V.int 0))) = .bl (decide (z ≠ 0)) := by
  rw [← decide_not]
  exact congrArg V.bl (decide_eq_decide.mpr (by simp))
section
variable {P : Program} {w : World} {K : PySem.W.Frag} {mg : Str → Option Value} {base : Heap} {CR CL CW CP : Addr}
/-- is_stitch -/
def sp_is_stitch : Sp := fun vs H Q _ => ∃ n : Int, vs = [.int n] ∧ RetV (.bl (inr n 0 25)) H Q
theorem sc_is_stitch : FnScope ["number"] ["number"] (C8.fnScope s_is_stitch) := C8.fnScope_by (by decide +kernel)
theorem cal_is_stitch (D : DF K mg "is_stitch" s_is_stitch) (T : Tx K mg) : C8.Cal P w K mg base 1 "is_stitch" sp_is_stitch [] := by
  refine cal_by D sc_is_stitch (fun _ _ _ _ _ _ us hl => match us, hl with | [_], _ => rfl) (fun vs H Q E h => ?_) (fun f cdv A outer s H vs Q E hr h => ?_)
  · obtain ⟨n, rfl, _⟩ := h
    rfl
  · obtain ⟨n, rfl, k⟩ := h
    refine ⟨_, (pss_one (ps_ret (pe_chain op_le op_le pe_int (pv 0) (C8.pe_gc rfl T.g_LAST_STITCH)))), ?_⟩
    exact s_ret (ev_chain ev_c (ev_var rfl) fun _ => ev_c) fun H1 e => k H1 e
/-- place_refusal -/
def sp_place_refusal (K : PySem.W.Frag) : Sp := fun vs H Q _ => ∃ (a : Addr) (l : List Nat) (i : Int), vs = [.ref a, .int i] ∧ SqL K H a (nv l) ∧ RetV (.int (refP l i)) H Q
theorem sc_place_refusal : FnScope ["row", "place"] ["row", "place"] (C8.fnScope s_place_refusal) := C8.fnScope_by (by decide +kernel)
theorem cal_place_refusal (D : DF K mg "place_refusal" s_place_refusal) (T : Tx K mg) : C8.Cal P w K mg base 1 "place_refusal" (sp_place_refusal K) [] := by
  refine cal_by D sc_place_refusal (fun _ _ _ _ _ _ us hl => match us, hl with | [_, _], _ => rfl) (fun vs H Q E h => ?_) (fun f cdv A outer s H vs Q E hr h => ?_)
  · obtain ⟨a, l, i, rfl, _⟩ := h
    rfl
  · obtain ⟨a, l, i, rfl, hS, k⟩ := h
    refine ⟨_, (pss_cons (ps_if (pt_not (pt_chain op_le op_lt pe_int (pv 1) (C8.pe_gc rfl T.g_MOST_STITCHES))) (pss_one (ps_ret (C8.pe_gc rfl T.g_OUT_OF_RANGE))) pss_nil) (pss_cons (ps_if (pt_cmpR op_ge (pv 1) (pe_callB call_len_seq (by rfl) T.b_len PySem.boot_len (pa_cons (pv 0) pa_nil)) (nomark _)) (pss_one (ps_ret (C8.pe_gc rfl T.g_NO_SUCH_PLACE))) pss_nil) (pss_one (ps_ret (C8.pe_gc rfl T.g_DONE))))), ?_⟩
    unfold refP at k
    refine q_when (b := !inr i 0 39) (et_not (et_test (ev_is (ev_chain ev_c (ev_var rfl) fun _ => ev_c) (congrArg V.bl (inr_chain i 0 39 40 rfl))))) (fun hb H1 e1 => ?_) (fun hb H1 e1 => ?_)
    · rw [if_pos hb] at k
      exact s_ret ev_c fun H2 e2 => k H2 (e1.trans e2)
    · rw [if_neg (by rw [hb]; decide)] at k
      refine q_when (b := decide ((l.length : Int) ≤ i)) (et_test (ev_is (ev_op (ev_var rfl) (ev_len (ev_var rfl) (ex_l e1 hS)) rv_I0) (by rw [List.length_map]))) (fun hd H3 e3 => ?_) (fun hd H3 e3 => ?_)
      · rw [if_pos (of_decide_eq_true hd)] at k
        exact s_ret ev_c fun H2 e2 => k H2 ((e1.trans e3).trans e2)
      · rw [if_neg (of_decide_eq_false hd)] at k
        exact s_ret ev_c fun H2 e2 => k H2 ((e1.trans e3).trans e2)
/-- lengthening_refusal -/
def sp_lengthening_refusal (K : PySem.W.Frag) : Sp := fun vs H Q _ => ∃ (a : Addr) (l : List Nat) (c : Nat), vs = [.ref a, .int (c : Int)] ∧ SqL K H a (nv l) ∧ RetV (.int (refL l c)) H Q
theorem sc_lengthening_refusal : FnScope ["row", "count"] ["row", "count"] (C8.fnScope s_lengthening_refusal) := C8.fnScope_by (by decide +kernel)
theorem cal_lengthening_refusal (D : DF K mg "lengthening_refusal" s_lengthening_refusal) (T : Tx K mg) : C8.Cal P w K mg base 1 "lengthening_refusal" (sp_lengthening_refusal K) [] := by
  refine cal_by D sc_lengthening_refusal (fun _ _ _ _ _ _ us hl => match us, hl with | [_, _], _ => rfl) (fun vs H Q E h => ?_) (fun f cdv A outer s H vs Q E hr h => ?_)
  · obtain ⟨a, l, c, rfl, _⟩ := h
    rfl
  · obtain ⟨a, l, c, rfl, hS, k⟩ := h
    refine ⟨_, (pss_one (ps_ret (pe_ifExp (pt_cmpR op_gt (pe_op op_add (pe_callB call_len_seq (by rfl) T.b_len PySem.boot_len (pa_cons (pv 0) pa_nil)) (pv 1)) (C8.pe_gc rfl T.g_MOST_STITCHES) (nomark _)) (C8.pe_gc rfl T.g_ROW_TOO_LONG) (C8.pe_gc rfl T.g_DONE)))), ?_⟩
    refine s_ret (v := .int (refL l c)) (ev_if (b := decide (40 < l.length + c)) (et_test (ev_is (ev_op (ev_add (ev_len (ev_var rfl) hS) (ev_var rfl)) ev_c rv_I0) ?_)) (fun hb => ev_is ev_c ?_) (fun hb => ev_is ev_c ?_)) fun H1 e => k H1 e
    · rw [List.length_map]
      exact congrArg V.bl (decide_eq_decide.mpr (by omega))
    · unfold refL
      rw [if_pos (of_decide_eq_true hb)]
    · unfold refL
      rw [if_neg (of_decide_eq_false hb)]
/-- insert_refusal -/
def sp_insert_refusal (K : PySem.W.Frag) : Sp := fun vs H Q _ => ∃ (a : Addr) (l : List Nat) (i : Int), vs = [.ref a, .int i] ∧ SqL K H a (nv l) ∧ RetV (.int (refI l i)) H Q
theorem sc_insert_refusal : FnScope ["row", "place"] ["row", "place"] (C8.fnScope s_insert_refusal) := C8.fnScope_by (by decide +kernel)
theorem cal_insert_refusal (D : DF K mg "insert_refusal" s_insert_refusal) (T : Tx K mg) (c_lengthening_refusal : C8.Cal P w K mg base 1 "lengthening_refusal" (sp_lengthening_refusal K) []) : C8.Cal P w K mg base 2 "insert_refusal" (sp_insert_refusal K) [] := by
  refine cal_by D sc_insert_refusal (fun _ _ _ _ _ _ us hl => match us, hl with | [_, _], _ => rfl) (fun vs H Q E h => ?_) (fun f cdv A outer s H vs Q E hr h => ?_)
  · obtain ⟨a, l, i, rfl, _⟩ := h
    rfl
  · obtain ⟨a, l, i, rfl, hS, k⟩ := h
    refine ⟨_, (pss_cons (ps_if (pt_not (pt_chain op_le op_le pe_int (pv 1) (C8.pe_gc rfl T.g_MOST_STITCHES))) (pss_one (ps_ret (C8.pe_gc rfl T.g_OUT_OF_RANGE))) pss_nil) (pss_cons (ps_if (pt_cmpR op_gt (pv 1) (pe_callB call_len_seq (by rfl) T.b_len PySem.boot_len (pa_cons (pv 0) pa_nil)) (nomark _)) (pss_one (ps_ret (C8.pe_gc rfl T.g_NO_SUCH_PLACE))) pss_nil) (pss_one (ps_ret (C8.pe_c c_lengthening_refusal hr (by decide) rfl (pa_cons (pv 0) (pa_cons pe_int pa_nil))))))), ?_⟩
    unfold refI at k
    refine q_when (b := !inr i 0 40) (et_not (et_test (ev_chain ev_c (ev_var rfl) fun _ => ev_c))) (fun hb H1 e1 => ?_) (fun hb H1 e1 => ?_)
    · rw [if_pos hb] at k
      exact s_ret ev_c fun H2 e2 => k H2 (e1.trans e2)
    · rw [if_neg (by rw [hb]; decide)] at k
      refine q_when (b := decide ((l.length : Int) < i)) (et_test (ev_is (ev_op (ev_var rfl) (ev_len (ev_var rfl) (ex_l e1 hS)) rv_I0) (by rw [List.length_map]))) (fun hd H3 e3 => ?_) (fun hd H3 e3 => ?_)
      · rw [if_pos (of_decide_eq_true hd)] at k
        exact s_ret ev_c fun H2 e2 => k H2 ((e1.trans e3).trans e2)
      · rw [if_neg (of_decide_eq_false hd)] at k
        exact s_ret (ev_call (ea_cons (ev_var rfl) (ea_cons ev_c ea_nil)) fun H4 e4 Q4 q4 E4 => ⟨a, l, 1, rfl, ex_l ((e1.trans e3).trans e4) hS, q4⟩) fun H2 e2 => k H2 ((e1.trans e3).trans e2)
section
variable {ns : List Int} {c : Vbktaf.Call}
theorem none_of {n : Nat} {f : Vbktaf.Call} (h0 : callN n [] = some f) (h1 : ∀ a r, callN n (a :: r) = none) (hc : callN n ns = some c) : ns = [] ∧ c = f := by
  cases ns with
  | nil =>
    rw [h0] at hc
    cases hc
    exact ⟨rfl, rfl⟩
  | cons a l =>
    rw [h1] at hc
    cases hc
theorem one_of {n : Nat} {f : Int → Vbktaf.Call} (h1 : ∀ a, callN n [a] = some (f a)) (h0 : callN n [] = none) (h2 : ∀ a b r, callN n (a :: b :: r) = none) (hc : callN n ns = some c) : ∃ a, ns = [a] ∧ c = f a := by
  match ns, hc with
  | [], hc => rw [h0] at hc; cases hc
  | [a], hc => rw [h1] at hc; cases hc; exact ⟨a, rfl, rfl⟩
  | a :: b :: r, hc => rw [h2] at hc; cases hc
end
/-- call_repeat -/
theorem sc_call_repeat : FnScope ["pattern", "given", "repeat"] ["pattern", "given"] (C8.fnScope s_call_repeat) := C8.fnScope_by (by decide +kernel)
theorem cal_call_repeat (D : DF K mg "call_repeat" s_call_repeat) (T : Tx K mg) (TP : PTx K CP) (c_longest_repeat : C8.Cal P w K mg base 3 "longest_repeat" (sp_longest_repeat K) []) : C8.Cal P w K mg base 8 "call_repeat" (sp_call CW CP 11) [] := by
  refine cal_by D sc_call_repeat (fun _ _ _ _ _ _ us hl => match us, hl with | [_, _], _ => rfl) (fun vs H Q E h => ?_) (fun f cdv A outer s H vs Q E hr h => ?_)
  · obtain ⟨p, dx, r, o, g, s, ns, c, rfl, _⟩ := h
    rfl
  · obtain ⟨p, dx, r, o, g, s, ns, c, rfl, hp, hg, hn, hc, k⟩ := h
    refine ⟨_, (pss_cons (ps_set (i := 2) sc_call_repeat.nd rfl (Or.inl rfl) (C8.pe_c c_longest_repeat hr (by decide) rfl (pa_cons (pe_fld (pv 0) rfl) pa_nil))) (pss_one (ps_ret (pe_ifExp (pt_truth (pv 2) (by intro _; rfl)) (pe_op op_cat (pe_lst (pa_cons (C8.pe_gc rfl T.g_DONE) (pa_cons pe_int pa_nil))) (pv 2)) (pe_lst (pa_cons (C8.pe_gc rfl T.g_DONE) (pa_cons pe_int pa_nil))))))), ?_⟩
    obtain ⟨rfl, rfl⟩ := none_of (f := .repeat_) rfl (fun _ _ => rfl) hc
    have hl := hp.len
    refine q_asgL (el_call (xs := nv (repL s.word)) (ea_cons (ev_row TP hp rfl) ea_nil) fun H1 e1 Q1 q1 E1 => ⟨r, s.word, rfl, sq_of (e1 _ _ hp.row), by omega, q1⟩) fun q H1 hq e1 h1 => ?_
    refine ret_callX k (step_repeat s) rfl (Or.inl rfl) (But.of e1) (hp.ex e1) (el_if (b := !(repL s.word).isEmpty) (et_is (et_tru (ev_var rfl) (sq_of h1)) (by rw [nv_empty])) (fun hb => el_is (el_cat (en_l (el_lst (ea_cons ev_c (ea_cons ev_c ea_nil)) (by simp))) (en_v (ev_var rfl) h1) ?_) ?_) (fun hb => el_is (el_lst (ea_cons ev_c (ea_cons ev_c ea_nil)) (by simp)) ?_))
    · unfold repL
      cases longestRepeat s.word <;> simp
    · unfold repL at hb ⊢
      cases hz : longestRepeat s.word with
      | none =>
        rw [hz] at hb
        cases hb
      | some x => rfl
    · unfold repL at hb
      cases hz : longestRepeat s.word with
      | none => rfl
      | some x =>
        rw [hz] at hb
        cases hb
/-- call_mirrored -/
theorem sc_call_mirrored : FnScope ["pattern", "given"] ["pattern", "given"] (C8.fnScope s_call_mirrored) := C8.fnScope_by (by decide +kernel)
theorem cal_call_mirrored (D : DF K mg "call_mirrored" s_call_mirrored) (T : Tx K mg) (TP : PTx K CP) (c_longest_mirrored : C8.Cal P w K mg base 2 "longest_mirrored" (sp_longest_mirrored K) []) : C8.Cal P w K mg base 8 "call_mirrored" (sp_call CW CP 12) [] := by
  refine cal_by D sc_call_mirrored (fun _ _ _ _ _ _ us hl => match us, hl with | [_, _], _ => rfl) (fun vs H Q E h => ?_) (fun f cdv A outer s H vs Q E hr h => ?_)
  · obtain ⟨p, dx, r, o, g, s, ns, c, rfl, _⟩ := h
    rfl
  · obtain ⟨p, dx, r, o, g, s, ns, c, rfl, hp, hg, hn, hc, k⟩ := h
    refine ⟨_, (pss_cons (ps_if (pt_not (pt_truth (pe_fld (pv 0) rfl) (by intro _; rfl))) (pss_one (ps_ret (pe_lst (pa_cons (C8.pe_gc rfl T.g_ROW_IS_EMPTY) pa_nil)))) pss_nil) (pss_one (ps_ret (pe_op op_cat (pe_lst (pa_cons (C8.pe_gc rfl T.g_DONE) pa_nil)) (C8.pe_c c_longest_mirrored hr (by decide) rfl (pa_cons (pe_fld (pv 0) rfl) pa_nil)))))), ?_⟩
    obtain ⟨rfl, rfl⟩ := none_of (f := .mirrored) rfl (fun _ _ => rfl) hc
    have hl := hp.len
    refine q_when (b := s.word.isEmpty) (et_is (et_not (et_tru (ev_row TP hp rfl) (sq_of hp.row))) (by rw [Bool.not_not, nv_empty])) (fun hb H1 e1 => ?_) (fun hb H1 e1 => ?_)
    · exact ret_callX k (rs' := (s, [-2])) (by rw [step_mirrored, if_pos hb]) rfl (Or.inl rfl) (But.of e1) (hp.ex e1) (el_lst (ea_cons ev_c ea_nil) (by simp))
    · have hne : s.word ≠ [] := fun z => by
        rw [z] at hb
        cases hb
      have hp1 := hp.ex e1
      exact ret_callX k (rs' := (s, [0, ((longestMirror s.word).1 : Int), ((longestMirror s.word).2 : Int)])) (by rw [step_mirrored, if_neg (by rw [hb]; decide)]) rfl (Or.inl rfl) (But.of e1) hp1
        (el_is (el_cat (en_l (el_lst (ea_cons ev_c ea_nil) (by simp))) (en_l (el_call (xs := nv [(longestMirror s.word).1, (longestMirror s.word).2]) (ea_cons (ev_row TP hp1 rfl) ea_nil) fun H2 e2 Q2 q2 E2 => ⟨r, s.word, rfl, sq_of (e2 _ _ hp1.row), hne, by omega, q2⟩)) (by simp)) rfl)
/-- call_reverse -/
theorem sc_call_reverse : FnScope ["pattern", "given"] ["pattern", "given"] (C8.fnScope s_call_reverse) := C8.fnScope_by (by decide +kernel)
theorem cal_call_reverse (D : DF K mg "call_reverse" s_call_reverse) (T : Tx K mg) (TP : PTx K CP) : C8.Cal P w K mg base 8 "call_reverse" (sp_call CW CP 16) [] := by
  refine cal_by D sc_call_reverse (fun _ _ _ _ _ _ us hl => match us, hl with | [_, _], _ => rfl) (fun vs H Q E h => ?_) (fun f cdv A outer s H vs Q E hr h => ?_)
  · obtain ⟨p, dx, r, o, g, s, ns, c, rfl, _⟩ := h
    rfl
  · obtain ⟨p, dx, r, o, g, s, ns, c, rfl, hp, hg, hn, hc, k⟩ := h
    refine ⟨_, (pss_cons (ps_fld (pv 0) (Kt.pe_listRev rfl rfl T.b_list rfl T.b_reversed (pe_fld (pv 0) rfl)) rfl) (pss_one (ps_ret (pe_lst (pa_cons (C8.pe_gc rfl T.g_DONE) pa_nil))))), ?_⟩
    obtain ⟨rfl, rfl⟩ := none_of (f := .reverse) rfl (fun _ _ => rfl) hc
    refine q_fldX (el_rev (K := K) (ev_row TP hp rfl) (sq_of hp.row) H (Ex.refl H) _ fun q H2 hq e2 h2 => ?_)
    have hp2 := hp.ex e2
    refine ⟨_, rfl, p, CP, dx, _, rfl, hp2.ins, TP.cl, TP.nR, (show 2 < 1000 by decide), ?_⟩
    rw [ptF_put_row]
    rw [← List.map_reverse] at h2
    exact ret_callX k (step_reverse s) rfl (Or.inr hq) (But.of e2).set (hp2.setRow h2 (by rw [List.length_reverse]; exact hp.len) fun c hc => hp.low c (List.mem_reverse.mp hc)) (el_lst (ea_cons ev_c ea_nil) (by simp))
/-- call_double -/
theorem sc_call_double : FnScope ["pattern", "given", "refusal"] ["pattern", "given"] (C8.fnScope s_call_double) := C8.fnScope_by (by decide +kernel)
theorem cal_call_double (D : DF K mg "call_double" s_call_double) (T : Tx K mg) (TP : PTx K CP) (c_lengthening_refusal : C8.Cal P w K mg base 1 "lengthening_refusal" (sp_lengthening_refusal K) []) : C8.Cal P w K mg base 8 "call_double" (sp_call CW CP 19) [] := by
  refine cal_by D sc_call_double (fun _ _ _ _ _ _ us hl => match us, hl with | [_, _], _ => rfl) (fun vs H Q E h => ?_) (fun f cdv A outer s H vs Q E hr h => ?_)
  · obtain ⟨p, dx, r, o, g, s, ns, c, rfl, _⟩ := h
    rfl
  · obtain ⟨p, dx, r, o, g, s, ns, c, rfl, hp, hg, hn, hc, k⟩ := h
    refine ⟨_, (pss_cons (ps_set (i := 2) sc_call_double.nd rfl (Or.inl rfl) (C8.pe_c c_lengthening_refusal hr (by decide) rfl (pa_cons (pe_fld (pv 0) rfl) (pa_cons (pe_callB call_len_seq (by rfl) T.b_len PySem.boot_len (pa_cons (pe_fld (pv 0) rfl) pa_nil)) pa_nil)))) (pss_cons (ps_if (pt_cmpR op_ne (pv 2) (C8.pe_gc rfl T.g_DONE) (nomark _)) (pss_one (ps_ret (pe_lst (pa_cons (pv 2) pa_nil)))) pss_nil) (pss_cons (ps_fld (pv 0) (pe_op op_rep (pe_fld (pv 0) rfl) pe_int) rfl) (pss_one (ps_ret (pe_lst (pa_cons (C8.pe_gc rfl T.g_DONE) (pa_cons (pe_callB call_len_seq (by rfl) T.b_len PySem.boot_len (pa_cons (pe_fld (pv 0) rfl) pa_nil)) pa_nil)))))))), ?_⟩
    obtain ⟨rfl, rfl⟩ := none_of (f := .double) rfl (fun _ _ => rfl) hc
    have hl := hp.len
    refine q_asg (ev_call (z := .int (refL s.word s.word.length)) (ea_cons (ev_row TP hp rfl) (ea_cons (ev_len (ev_row TP hp rfl) (sq_of hp.row)) ea_nil)) fun H1 e1 Q1 q1 E1 => ⟨r, s.word, s.word.length, by rw [List.length_map]; rfl, sq_of (e1 _ _ hp.row), q1⟩) fun H1 e1 => ?_
    have hp1 := hp.ex e1
    refine q_when (b := decide (refL s.word s.word.length ≠ 0)) (et_test (ev_is (ev_op (ev_var rfl) ev_c (rv_ne rfl)) (ne_zero_dec _))) (fun hb H2 e2 => ?_) (fun hb H2 e2 => ?_)
    · exact ret_callX k (rs' := (s, [refL s.word s.word.length])) (by rw [step_double, if_neg (of_decide_eq_true hb)]) rfl (Or.inl rfl) (But.of (e1.trans e2)) (hp1.ex e2) (el_lst (ea_cons (ev_var rfl) ea_nil) (by simp))
    · have hz : refL s.word s.word.length = 0 := by simpa using hb
      have h40 := refL_zero hz
      have hp2 := hp1.ex e2
      refine q_fldX (ev_row TP hp2 rfl H2 (Ex.refl H2) _ fun H3 e3 => ⟨r, 2, nv s.word, rfl, rfl, (hp2.ex e3).row, by decide, by decide, sz_of ?_, fun q hq => ?_⟩)
      · rw [List.length_map]
        show s.word.length * 2 ≤ 100000
        omega
      · have hp3 := hp2.ex (e3.trans (Ex.new hq (o := .lst (List.replicate (2 : Int).toNat (nv s.word)).flatten)))
        refine ⟨_, rfl, p, CP, dx, _, rfl, hp3.ins, TP.cl, TP.nR, (show 2 < 1000 by decide), ?_⟩
        rw [ptF_put_row]
        have hrow : upd H3 q (.lst (List.replicate (2 : Int).toNat (nv s.word)).flatten) q = some (.lst (nv (s.word ++ s.word))) := by
          rw [upd_same]
          show some (HO.lst (nv s.word ++ (nv s.word ++ []))) = _
          rw [List.append_nil]
          exact congrArg (fun z => some (HO.lst z)) List.map_append.symm
        have hp4 := hp3.setRow hrow (by rw [List.length_append]; exact h40) fun c hc => by
          rcases List.mem_append.mp hc with h | h <;> exact hp.low c h
        refine ret_callX k (rs' := ({ s with word := s.word ++ s.word }, [0, ((2 * s.word.length : Nat) : Int)])) (by rw [step_double, if_pos hz]) rfl (Or.inr (fresh_back ((e1.trans e2).trans e3) hq)) (But.of (((e1.trans e2).trans e3).trans (Ex.new hq))).set hp4
          (el_lst (vs := iv [0, ((2 * s.word.length : Nat) : Int)]) (ea_cons ev_c (ea_cons (ev_is (ev_len (ev_row TP hp4 rfl) (sq_of hp4.row)) ?_) ea_nil)) (by simp))
        rw [List.length_map, List.length_append]
        exact congrArg V.int (by omega)
/-- call_swap -/
theorem sc_call_swap : FnScope ["pattern", "given"] ["pattern", "given"] (C8.fnScope s_call_swap) := C8.fnScope_by (by decide +kernel)
theorem cal_call_swap (D : DF K mg "call_swap" s_call_swap) (T : Tx K mg) (TP : PTx K CP) (c_are_within : C8.Cal P w K mg base 1 "are_within" (sp_are_within K) []) (c_swapped : C8.Cal P w K mg base 1 "swapped" (sp_swapped K) []) : C8.Cal P w K mg base 8 "call_swap" (sp_call CW CP 20) [] := by
  refine cal_by D sc_call_swap (fun _ _ _ _ _ _ us hl => match us, hl with | [_, _], _ => rfl) (fun vs H Q E h => ?_) (fun f cdv A outer s H vs Q E hr h => ?_)
  · obtain ⟨p, dx, r, o, g, s, ns, c, rfl, _⟩ := h
    rfl
  · obtain ⟨p, dx, r, o, g, s, ns, c, rfl, hp, hg, hn, hc, k⟩ := h
    refine ⟨_, (pss_cons (ps_if (pt_not (pt_val (C8.pe_c c_are_within hr (by decide) rfl (pa_cons (pv 1) (pa_cons pe_int (pa_cons (C8.pe_gc rfl T.g_LAST_STITCH) pa_nil)))))) (pss_one (ps_ret (pe_lst (pa_cons (C8.pe_gc rfl T.g_OUT_OF_RANGE) pa_nil)))) pss_nil) (pss_cons (ps_fld (pv 0) (C8.pe_c c_swapped hr (by decide) rfl (pa_cons (pe_fld (pv 0) rfl) (pa_cons (pe_ix ix_list (pv 1) pe_int (fun _ _ => rfl)) (pa_cons (pe_ix ix_list (pv 1) pe_int (fun _ _ => rfl)) pa_nil)))) rfl) (pss_one (ps_ret (pe_lst (pa_cons (C8.pe_gc rfl T.g_DONE) pa_nil)))))), ?_⟩
    obtain ⟨a, b, rfl, rfl⟩ := two_of (f := .swap) (fun _ _ => rfl) rfl (fun _ => rfl) (fun _ _ _ _ => rfl) hc
    have hl := hp.len
    refine q_when (b := !(inr a 0 25 && inr b 0 25)) (et_not (et_B (ev_call (ea_cons (ev_var rfl) (ea_cons ev_c (ea_cons ev_c ea_nil))) fun H1 e1 Q1 q1 E1 => ⟨g, [a, b], 0, 25, rfl, sq_of (e1 _ _ hg), (show 2 ≤ 40000 by decide), ?_⟩))) (fun hb H1 e1 => ?_) (fun hb H1 e1 => ?_)
    · have : ([a, b].all fun c => inr c 0 25) = (inr a 0 25 && inr b 0 25) := by simp
      rw [this]
      exact q1
    · exact ret_callX k (rs' := (s, [-1])) (by rw [step_swap, if_pos hb]) rfl (Or.inl rfl) (But.of e1) (hp.ex e1) (el_lst (ea_cons ev_c ea_nil) (by simp))
    · have hb' : (inr a 0 25 && inr b 0 25) = true := by simpa using hb
      rw [Bool.and_eq_true] at hb'
      obtain ⟨za, a1, a2⟩ := inr_nat (by decide) hb'.1
      obtain ⟨zb, b1, b2⟩ := inr_nat (by decide) hb'.2
      have hp1 := hp.ex e1
      have hg1 := e1 _ _ hg
      refine q_fldX (el_call (xs := nv (renamed a.toNat b.toNat s.word)) (ea_cons (ev_row TP hp1 rfl) (ea_cons (ix_given (i := 0) hg1 rfl rfl) (ea_cons (ix_given (i := 1) hg1 rfl rfl) ea_nil))) (fun H2 e2 Q2 q2 E2 => ⟨r, s.word, a.toNat, b.toNat, by rw [za, zb]; rfl, sq_of (e2 _ _ hp1.row), by omega, q2⟩) H1 (Ex.refl H1) _ fun q H2 hq e2 h2 => ?_)
      have hp2 := hp1.ex e2
      refine ⟨_, rfl, p, CP, dx, _, rfl, hp2.ins, TP.cl, TP.nR, (show 2 < 1000 by decide), ?_⟩
      rw [ptF_put_row]
      exact ret_callX k (rs' := ({ s with word := renamed a.toNat b.toNat s.word }, [0])) (by rw [step_swap, if_neg (by rw [hb]; decide)]) rfl (Or.inr (fresh_back e1 hq)) (But.of (e1.trans e2)).set (hp2.setRow h2 (by rw [renamed_eq, List.length_map]; exact hl) (low_swap (by omega) (by omega) hp.low)) (el_lst (ea_cons ev_c ea_nil) (by simp))
/-- call_sizes -/
theorem sc_call_sizes : FnScope ["pattern", "given", "weights", "row", "answer"] ["pattern", "given"] (C8.fnScope s_call_sizes) := C8.fnScope_by (by decide +kernel)
theorem cal_call_sizes (D : DF K mg "call_sizes" s_call_sizes) (T : Tx K mg) (TP : PTx K CP) (TW : WTx K CW) : C8.Cal P w K mg base 8 "call_sizes" (sp_call CW CP 21) [] := by
  refine cal_by D sc_call_sizes (fun _ _ _ _ _ _ us hl => match us, hl with | [_, _], _ => rfl) (fun vs H Q E h => ?_) (fun f cdv A outer s H vs Q E hr h => ?_)
  · obtain ⟨p, dx, r, o, g, s, ns, c, rfl, _⟩ := h
    rfl
  · obtain ⟨p, dx, r, o, g, s, ns, c, rfl, hp, hg, hn, hc, k⟩ := h
    refine ⟨_, (pss_cons (ps_set (i := 2) sc_call_sizes.nd rfl (Or.inl rfl) (pe_fld (pv 0) rfl)) (pss_cons (ps_set (i := 3) sc_call_sizes.nd rfl (Or.inl rfl) (pe_fld (pv 0) rfl)) (pss_cons (ps_set (i := 4) sc_call_sizes.nd rfl (Or.inl rfl) (pe_lst (pa_cons (C8.pe_gc rfl T.g_DONE) (pa_cons (pe_fld (pv 2) rfl) (pa_cons (pe_fld (pv 2) rfl) (pa_cons (pe_fld (pv 2) rfl) (pa_cons (pe_fld (pv 2) rfl) pa_nil))))))) (pss_one (ps_ret (pe_op op_cat (pv 4) (pe_lst (pa_cons (pe_callB call_len_seq (by rfl) T.b_len PySem.boot_len (pa_cons (pv 3) pa_nil)) (pa_cons (Kt.pe_lenSetN rfl T.b_len rfl T.b_set (pv 3)) (pa_cons (pe_op op_mul (pe_callB call_len_seq (by rfl) T.b_len PySem.boot_len (pa_cons (pv 3) pa_nil)) (pe_fld (pv 2) rfl)) pa_nil)))))))))), ?_⟩
    obtain ⟨rfl, rfl⟩ := none_of (f := .sizes) rfl (fun _ _ => rfl) hc
    have hl := hp.len
    refine q_asg (ev_wts TP hp rfl) fun H1 e1 => ?_
    have hp1 := hp.ex e1
    refine q_asg (ev_row TP hp1 rfl) fun H2 e2 => ?_
    have hp2 := hp1.ex e2
    obtain ⟨ox, hw⟩ := id hp2.wt
    refine q_asgL (xs := iv [0, (s.weights.letter : Int), (s.weights.number : Int), (s.weights.bracket : Int), (s.weights.mirror : Int)]) (el_lst (ea_cons ev_c (ea_cons (ev_fld (ev_var rfl) hw TW.cl TW.nL (wF_l _)) (ea_cons (ev_fld (ev_var rfl) hw TW.cl TW.nN (wF_n _)) (ea_cons (ev_fld (ev_var rfl) hw TW.cl TW.nB (wF_b _)) (ea_cons (ev_fld (ev_var rfl) hw TW.cl TW.nO (wF_o _)) ea_nil))))) (by simp)) fun q H3 hq e3 h3 => ?_
    have hp3 := hp2.ex e3
    have hw3 := e3 _ _ hw
    have hlen : ∀ {σ : L2.St}, σ[3]? = some (some (.ref r)) → Ev (tCB (rLenS K) (tCons (tVar 3) tNil)) σ H3 (.int (s.word.length : Int)) := fun h => ev_is (ev_len (ev_var h) (sq_of hp3.row)) (by rw [List.length_map])
    obtain ⟨w0, w1, _, _, _⟩ := id hp.wok
    refine ret_callX k (step_sizes s) rfl (Or.inl rfl) (But.of ((e1.trans e2).trans e3)) hp3
      (el_is (el_cat (en_v (ev_var rfl) h3) (en_l (el_lst (vs := iv [(s.word.length : Int), (s.word.eraseDups.length : Int), ((s.word.length * s.weights.letter : Nat) : Int)]) (ea_cons (hlen rfl) (ea_cons (ev_lenSet (ev_var rfl) (sq_of hp3.row) (by omega)) (ea_cons (ev_is (ev_op (hlen rfl) (ev_fld (ev_var rfl) hw3 TW.cl TW.nL (wF_l _)) (rv_I (Or.inr ⟨by omega, by omega⟩))) ?_) ea_nil))) (by simp))) (by simp)) rfl)
    exact congrArg V.int (by rw [Int.natCast_mul])
end
end Kt

/-! # The calls change, insert, remove, unroll, more -/
namespace Kt
open PySem PySem.Spec PyProof.Rows L2 Evl
open Vbktaf (Weights inr State)
/-! ## what the specification asks -/
def refC (l : List Nat) (i c : Int) : Int := if inr c 0 25 = true then refP l i else -1
def refN (l : List Nat) (i c : Int) : Int := if inr c 0 25 = true then refI l i else -1
theorem guardP {s : State} {i : Int} {f : Unit → State × List Int} : (if (!inr i 0 39) = true then (s, [(-1 : Int)]) else if decide ((s.word.length : Int) ≤ i) = true then (s, [-3]) else f ()) = if refP s.word i = 0 then f () else (s, [refP s.word i]) := by
  unfold refP
  by_cases h1 : (!inr i 0 39) = true
  · rw [if_pos h1, if_pos h1, if_neg (by decide)]
  · rw [if_neg h1, if_neg h1]
    by_cases h2 : (s.word.length : Int) ≤ i
    · rw [if_pos (decide_eq_true h2), if_pos h2, if_neg (by decide)]
    · rw [if_neg (by rw [decide_eq_false h2]; decide), if_neg h2, if_pos rfl]
theorem guardI {s : State} {i : Int} {f : Unit → State × List Int} : (if (!inr i 0 40) = true then (s, [(-1 : Int)]) else if decide ((s.word.length : Int) < i) = true then (s, [-3]) else if decide (Vbktaf.LONG ≤ s.word.length) = true then (s, [-8]) else f ()) = if refI s.word i = 0 then f () else (s, [refI s.word i]) := by
  unfold refI refL
  have e40 : Vbktaf.LONG = 40 := rfl
  by_cases h1 : (!inr i 0 40) = true
  · rw [if_pos h1, if_pos h1, if_neg (by decide)]
  · rw [if_neg h1, if_neg h1]
    by_cases h2 : (s.word.length : Int) < i
    · rw [if_pos (decide_eq_true h2), if_pos h2, if_neg (by decide)]
    · rw [if_neg (by rw [decide_eq_false h2]; decide), if_neg h2]
      by_cases h3 : 40 < s.word.length + 1
      · rw [if_pos (decide_eq_true (by rw [e40]; omega)), if_pos h3, if_neg (by decide)]
      · rw [if_neg (by rw [decide_eq_false (by rw [e40]; omega)]; decide), if_neg h3, if_pos rfl]
theorem step_change (s : State) (i c : Int) : Vbktaf.step s (.change i c) = if refC s.word i c = 0 then ({ s with word := s.word.set i.toNat c.toNat }, [0, ((s.word.getD i.toNat 0 : Nat) : Int)]) else (s, [refC s.word i c]) := by
  have h : Vbktaf.step s (.change i c) = if (!(inr i 0 39 && inr c 0 25)) = true then (s, [-1]) else if decide ((s.word.length : Int) ≤ i) = true then (s, [-3]) else ({ s with word := s.word.set i.toNat c.toNat }, [0, ((s.word.getD i.toNat 0 : Nat) : Int)]) := by
    unfold Vbktaf.step
    exact guard2
  rw [h]
  unfold refC
  by_cases h1 : inr c 0 25 = true
  · rw [h1, Bool.and_true, if_pos rfl]
    exact guardP (f := fun _ => ({ s with word := s.word.set i.toNat c.toNat }, [0, ((s.word.getD i.toNat 0 : Nat) : Int)]))
  · have hb : (!(inr i 0 39 && inr c 0 25)) = true := by
      rw [Bool.eq_false_iff.mpr h1, Bool.and_false]
      rfl
    rw [if_neg h1, if_pos hb, if_neg (show ¬ (-1 : Int) = 0 by decide)]
theorem step_insert (s : State) (i c : Int) : Vbktaf.step s (.insert i c) = if refN s.word i c = 0 then ({ s with word := s.word.take i.toNat ++ c.toNat :: s.word.drop i.toNat }, [0, ((s.word.length + 1 : Nat) : Int)]) else (s, [refN s.word i c]) := by
  have h : Vbktaf.step s (.insert i c) = if (!(inr i 0 40 && inr c 0 25)) = true then (s, [-1]) else if decide ((s.word.length : Int) < i) = true then (s, [-3]) else if decide (Vbktaf.LONG ≤ s.word.length) = true then (s, [-8]) else ({ s with word := s.word.take i.toNat ++ c.toNat :: s.word.drop i.toNat }, [0, ((s.word.length + 1 : Nat) : Int)]) := by
    unfold Vbktaf.step
    exact guard3
  rw [h]
  unfold refN
  by_cases h1 : inr c 0 25 = true
  · rw [h1, Bool.and_true, if_pos rfl]
    exact guardI (f := fun _ => ({ s with word := s.word.take i.toNat ++ c.toNat :: s.word.drop i.toNat }, [0, ((s.word.length + 1 : Nat) : Int)]))
  · have hb : (!(inr i 0 40 && inr c 0 25)) = true := by
      rw [Bool.eq_false_iff.mpr h1, Bool.and_false]
      rfl
    rw [if_neg h1, if_pos hb, if_neg (show ¬ (-1 : Int) = 0 by decide)]
theorem step_remove (s : State) (i : Int) : Vbktaf.step s (.remove i) = if refP s.word i = 0 then ({ s with word := s.word.eraseIdx i.toNat }, [0, ((s.word.getD i.toNat 0 : Nat) : Int)]) else (s, [refP s.word i]) := by
  have h : Vbktaf.step s (.remove i) = if (!inr i 0 39) = true then (s, [-1]) else if decide ((s.word.length : Int) ≤ i) = true then (s, [-3]) else ({ s with word := s.word.eraseIdx i.toNat }, [0, ((s.word.getD i.toNat 0 : Nat) : Int)]) := by
    unfold Vbktaf.step
    exact guard2
  rw [h]
  exact guardP (f := fun _ => ({ s with word := s.word.eraseIdx i.toNat }, [0, ((s.word.getD i.toNat 0 : Nat) : Int)]))
theorem step_unroll (s : State) (t : List Int) : Vbktaf.step s (.unroll t) = if (!Vbktaf.isText t) = true then (s, [-1]) else match Vbktaf.read (Vbktaf.nats t) with
    | .error e => (s, [0, (e.1 : Int), (e.2 : Int)])
    | .ok x => (s, 0 :: 0 :: Vbktaf.ints (Vbktaf.unroll x)) := by
  unfold Vbktaf.step
  exact guard1
theorem step_more (s : State) (t : List Int) : Vbktaf.step s (.more t) = if (!Vbktaf.isText t) = true then (s, [-1]) else match Vbktaf.read (Vbktaf.nats t) with
    | .error e => (s, [0, (e.1 : Int), (e.2 : Int)])
    | .ok x => if Vbktaf.LONG < s.word.length + Vbktaf.size x then (s, [-8]) else ({ s with word := s.word ++ Vbktaf.unroll x }, [0, 0, ((s.word.length + Vbktaf.size x : Nat) : Int)]) := by
  unfold Vbktaf.step
  exact guard1
theorem refP_zero {l : List Nat} {i : Int} (h : refP l i = 0) : 0 ≤ i ∧ i < (l.length : Int) := by
  unfold refP at h
  by_cases h1 : (!inr i 0 39) = true
  · rw [if_pos h1] at h
    exact absurd h (by decide)
  · rw [if_neg h1] at h
    by_cases h2 : (l.length : Int) ≤ i
    · rw [if_pos h2] at h
      exact absurd h (by decide)
    · have h1' : inr i 0 39 = true := by simpa using h1
      exact ⟨(inr_nat (by decide) h1').2.1, by omega⟩
theorem refI_zero {l : List Nat} {i : Int} (h : refI l i = 0) : 0 ≤ i ∧ i ≤ (l.length : Int) ∧ l.length + 1 ≤ 40 := by
  unfold refI at h
  by_cases h1 : (!inr i 0 40) = true
  · rw [if_pos h1] at h
    exact absurd h (by decide)
  · rw [if_neg h1] at h
    by_cases h2 : (l.length : Int) < i
    · rw [if_pos h2] at h
      exact absurd h (by decide)
    · rw [if_neg h2] at h
      have h1' : inr i 0 40 = true := by simpa using h1
      exact ⟨(inr_nat (by decide) h1').2.1, by omega, refL_zero h⟩
theorem refC_zero {l : List Nat} {i c : Int} (h : refC l i c = 0) : (0 ≤ i ∧ i < (l.length : Int)) ∧ 0 ≤ c ∧ c ≤ 25 := by
  unfold refC at h
  by_cases h1 : inr c 0 25 = true
  · rw [if_pos h1] at h
    exact ⟨refP_zero h, (inr_nat (by decide) h1).2⟩
  · rw [if_neg h1] at h
    exact absurd h (by decide)
theorem refN_zero {l : List Nat} {i c : Int} (h : refN l i c = 0) : (0 ≤ i ∧ i ≤ (l.length : Int) ∧ l.length + 1 ≤ 40) ∧ 0 ≤ c ∧ c ≤ 25 := by
  unfold refN at h
  by_cases h1 : inr c 0 25 = true
  · rw [if_pos h1] at h
    exact ⟨refI_zero h, (inr_nat (by decide) h1).2⟩
  · rw [if_neg h1] at h
    exact absurd h (by decide)
theorem low_parts {l m : List Nat} {c : Nat} (hl : ∀ c ∈ l, c ≤ 25) (hc : c ≤ 25) (hm : ∀ c ∈ m, c ≤ 25) : ∀ d ∈ l ++ c :: m, d ≤ 25 := by
  intro d hd
  rcases List.mem_append.mp hd with h | h
  · exact hl d h
  · rcases List.mem_cons.mp h with rfl | h
    · exact hc
    · exact hm d h
theorem nv_cons3 (l m : List Nat) (c : Nat) : nv l ++ [V.int (c : Int)] ++ nv m = nv (l ++ c :: m) := by
  rw [show nv (l ++ c :: m) = nv l ++ nv (c :: m) from List.map_append, List.append_assoc]
  rfl
section
variable {P : Program} {w : World} {K : PySem.W.Frag} {mg : Str → Option Value} {base : Heap} {CR CL CW CP : Addr}
section
variable {σ : L2.St} {H : Hp} {p dx r o : Addr} {s : State}
/-- row[:i] -/
theorem el_to {te : TE} {i : Nat} (TP : PTx K CP) (hp : PatAt CW CP H p dx r o s) (h0 : σ[0]? = some (some (.ref p))) (hi : Ev te σ H (.int (i : Int))) : EvL (tSl (rSlL K) (tFld K (tVar 0) "row") tNoPart (tPart te)) σ H (nv (s.word.take i)) := by
  have h := el_sl (K := K) (ev_row TP hp h0) eo_none (eo_some hi) (sq_of hp.row)
  rw [cut_to, nv_take] at h
  exact h
/-- row[i:] -/
theorem el_from {te : TE} {i : Nat} (TP : PTx K CP) (hp : PatAt CW CP H p dx r o s) (h0 : σ[0]? = some (some (.ref p))) (hi : Ev te σ H (.int (i : Int))) : EvL (tSl (rSlL K) (tFld K (tVar 0) "row") (tPart te) tNoPart) σ H (nv (s.word.drop i)) := by
  have h := el_sl (K := K) (ev_row TP hp h0) (eo_some hi) eo_none (sq_of hp.row)
  rw [cut_from, nv_drop] at h
  exact h
theorem ev_at {te : TE} {i : Nat} (TP : PTx K CP) (hp : PatAt CW CP H p dx r o s) (h0 : σ[0]? = some (some (.ref p))) (hi : Ev te σ H (.int (i : Int))) (hl : i < s.word.length) : Ev (tOp (rIxL K) (tFld K (tVar 0) "row") te) σ H (.int ((s.word.getD i 0 : Nat) : Int)) := by
  refine ev_ixL (ev_row TP hp h0) hi (sq_of hp.row) (atI_nat ?_)
  rw [List.getElem?_map, List.getElem?_eq_getElem hl, List.getD_eq_getElem?_getD, List.getElem?_eq_getElem hl]
  rfl
end
/-- call_change -/
theorem sc_call_change : FnScope ["pattern", "given", "place", "stitch", "refusal", "before"] ["pattern", "given"] (C8.fnScope s_call_change) := C8.fnScope_by (by decide +kernel)
theorem cal_call_change (D : DF K mg "call_change" s_call_change) (T : Tx K mg) (TP : PTx K CP) (c_is_stitch : C8.Cal P w K mg base 1 "is_stitch" sp_is_stitch []) (c_place_refusal : C8.Cal P w K mg base 1 "place_refusal" (sp_place_refusal K) []) : C8.Cal P w K mg base 8 "call_change" (sp_call CW CP 13) [] := by
  refine cal_by D sc_call_change (fun _ _ _ _ _ _ us hl => match us, hl with | [_, _], _ => rfl) (fun vs H Q E h => ?_) (fun f cdv A outer s H vs Q E hr h => ?_)
  · obtain ⟨p, dx, r, o, g, s, ns, c, rfl, _⟩ := h
    rfl
  · obtain ⟨p, dx, r, o, g, s, ns, c, rfl, hp, hg, hn, hc, k⟩ := h
    refine ⟨_, (pss_cons (ps_set (i := 2) sc_call_change.nd rfl (Or.inl rfl) (pe_ix ix_list (pv 1) pe_int (fun _ _ => rfl))) (pss_cons (ps_set (i := 3) sc_call_change.nd rfl (Or.inl rfl) (pe_ix ix_list (pv 1) pe_int (fun _ _ => rfl))) (pss_cons (ps_set (i := 4) sc_call_change.nd rfl (Or.inl rfl) (pe_ifExp (pt_val (C8.pe_c c_is_stitch hr (by decide) rfl (pa_cons (pv 3) pa_nil))) (C8.pe_c c_place_refusal hr (by decide) rfl (pa_cons (pe_fld (pv 0) rfl) (pa_cons (pv 2) pa_nil))) (C8.pe_gc rfl T.g_OUT_OF_RANGE))) (pss_cons (ps_if (pt_cmpR op_ne (pv 4) (C8.pe_gc rfl T.g_DONE) (nomark _)) (pss_one (ps_ret (pe_lst (pa_cons (pv 4) pa_nil)))) pss_nil) (pss_cons (ps_set (i := 5) sc_call_change.nd rfl (Or.inl rfl) (pe_ix ix_list (pe_fld (pv 0) rfl) (pv 2) (fun _ _ => rfl))) (pss_cons (ps_fld (pv 0) (pe_op op_cat (pe_op op_cat (pe_slice sl_list (pe_fld (pv 0) rfl) po_none (po_some (pv 2))) (pe_lst (pa_cons (pv 3) pa_nil))) (pe_slice sl_list (pe_fld (pv 0) rfl) (po_some (pe_op op_add (pv 2) pe_int)) po_none)) rfl) (pss_one (ps_ret (pe_lst (pa_cons (C8.pe_gc rfl T.g_DONE) (pa_cons (pv 5) pa_nil))))))))))), ?_⟩
    obtain ⟨i, c, rfl, rfl⟩ := two_of (f := .change) (fun _ _ => rfl) rfl (fun _ => rfl) (fun _ _ _ _ => rfl) hc
    have hl := hp.len
    refine q_asg (ix_given (i := 0) hg rfl rfl) fun H1 e1 => ?_
    refine q_asg (ix_given (i := 1) (e1 _ _ hg) rfl rfl) fun H2 e2 => ?_
    have hp2 := hp.ex (e1.trans e2)
    refine q_asg (v := .int (refC s.word i c)) (ev_if (b := inr c 0 25) (et_B (ev_call (ea_cons (ev_var rfl) ea_nil) fun H3 e3 Q3 q3 E3 => ⟨c, rfl, q3⟩)) (fun hb => ev_is (ev_call (z := .int (refP s.word i)) (ea_cons (ev_row TP hp2 rfl) (ea_cons (ev_var rfl) ea_nil)) fun H3 e3 Q3 q3 E3 => ⟨r, s.word, i, rfl, sq_of (e3 _ _ hp2.row), q3⟩) ?_) (fun hb => ev_is ev_c ?_)) fun H3 e3 => ?_
    · unfold refC
      rw [if_pos hb]
    · unfold refC
      rw [if_neg (by rw [hb]; decide)]
    · have hp3 := hp2.ex e3
      have e13 := (e1.trans e2).trans e3
      refine q_when (b := decide (refC s.word i c ≠ 0)) (et_test (ev_is (ev_op (ev_var rfl) ev_c (rv_ne rfl)) (ne_zero_dec _))) (fun hb H4 e4 => ?_) (fun hb H4 e4 => ?_)
      · exact ret_callX k (rs' := (s, [refC s.word i c])) (by rw [step_change, if_neg (of_decide_eq_true hb)]) rfl (Or.inl rfl) (But.of (e13.trans e4)) (hp3.ex e4) (el_lst (ea_cons (ev_var rfl) ea_nil) (by simp))
      · have hz : refC s.word i c = 0 := by simpa using hb
        obtain ⟨⟨i0, i1⟩, c0, c1⟩ := refC_zero hz
        obtain ⟨i, rfl⟩ : ∃ j : Nat, i = (j : Int) := ⟨i.toNat, by omega⟩
        obtain ⟨c, rfl⟩ : ∃ j : Nat, c = (j : Int) := ⟨c.toNat, by omega⟩
        have hil : i < s.word.length := by omega
        refine q_asg (ev_at TP (hp3.ex e4) rfl (ev_var rfl) hil) fun H5 e5 => ?_
        have hp5 := (hp3.ex e4).ex e5
        refine q_fldX (el_cat (en_l (el_cat (en_l (el_to TP hp5 rfl (ev_var rfl))) (en_l (el_lst (ea_cons (ev_var rfl) ea_nil) (by simp))) ?_)) (en_l (el_from (i := i + 1) TP hp5 rfl (ev_is (ev_add (ev_var rfl) ev_c) rfl))) ?_ H5 (Ex.refl H5) _ fun q H6 hq e6 h6 => ?_)
        · simp
          omega
        · simp
          omega
        · have hp6 := hp5.ex e6
          have e16 := (e13.trans e4).trans (e5.trans e6)
          refine ⟨_, rfl, p, CP, dx, _, rfl, hp6.ins, TP.cl, TP.nR, (show 2 < 1000 by decide), ?_⟩
          rw [ptF_put_row]
          have hset : s.word.set i c = s.word.take i ++ c :: s.word.drop (i + 1) := by
            rw [List.set_eq_take_append_cons_drop, if_pos hil]
          have hrow : H6 q = some (.lst (nv (s.word.set i c))) := by
            rw [h6, hset]
            exact congrArg (fun z => some (HO.lst z)) (nv_cons3 _ _ _)
          exact ret_callX k (rs' := ({ s with word := s.word.set i c }, [0, ((s.word.getD i 0 : Nat) : Int)])) (by rw [step_change, if_pos hz]; rfl) rfl (Or.inr (fresh_back ((e13.trans e4).trans e5) hq)) (But.of e16).set
            (hp6.setRow hrow (by rw [List.length_set]; exact hl) (by rw [hset]; exact low_parts (fun d hd => hp.low d (List.mem_of_mem_take hd)) (by omega) fun d hd => hp.low d (List.mem_of_mem_drop hd))) (el_lst (ea_cons ev_c (ea_cons (ev_var rfl) ea_nil)) (by simp))
/-- call_insert -/
theorem sc_call_insert : FnScope ["pattern", "given", "place", "stitch", "refusal"] ["pattern", "given"] (C8.fnScope s_call_insert) := C8.fnScope_by (by decide +kernel)
theorem cal_call_insert (D : DF K mg "call_insert" s_call_insert) (T : Tx K mg) (TP : PTx K CP) (c_is_stitch : C8.Cal P w K mg base 1 "is_stitch" sp_is_stitch []) (c_insert_refusal : C8.Cal P w K mg base 2 "insert_refusal" (sp_insert_refusal K) []) : C8.Cal P w K mg base 8 "call_insert" (sp_call CW CP 14) [] := by
  refine cal_by D sc_call_insert (fun _ _ _ _ _ _ us hl => match us, hl with | [_, _], _ => rfl) (fun vs H Q E h => ?_) (fun f cdv A outer s H vs Q E hr h => ?_)
  · obtain ⟨p, dx, r, o, g, s, ns, c, rfl, _⟩ := h
    rfl
  · obtain ⟨p, dx, r, o, g, s, ns, c, rfl, hp, hg, hn, hc, k⟩ := h
    refine ⟨_, (pss_cons (ps_set (i := 2) sc_call_insert.nd rfl (Or.inl rfl) (pe_ix ix_list (pv 1) pe_int (fun _ _ => rfl))) (pss_cons (ps_set (i := 3) sc_call_insert.nd rfl (Or.inl rfl) (pe_ix ix_list (pv 1) pe_int (fun _ _ => rfl))) (pss_cons (ps_set (i := 4) sc_call_insert.nd rfl (Or.inl rfl) (pe_ifExp (pt_val (C8.pe_c c_is_stitch hr (by decide) rfl (pa_cons (pv 3) pa_nil))) (C8.pe_c c_insert_refusal hr (by decide) rfl (pa_cons (pe_fld (pv 0) rfl) (pa_cons (pv 2) pa_nil))) (C8.pe_gc rfl T.g_OUT_OF_RANGE))) (pss_cons (ps_if (pt_cmpR op_ne (pv 4) (C8.pe_gc rfl T.g_DONE) (nomark _)) (pss_one (ps_ret (pe_lst (pa_cons (pv 4) pa_nil)))) pss_nil) (pss_cons (ps_fld (pv 0) (pe_op op_cat (pe_op op_cat (pe_slice sl_list (pe_fld (pv 0) rfl) po_none (po_some (pv 2))) (pe_lst (pa_cons (pv 3) pa_nil))) (pe_slice sl_list (pe_fld (pv 0) rfl) (po_some (pv 2)) po_none)) rfl) (pss_one (ps_ret (pe_lst (pa_cons (C8.pe_gc rfl T.g_DONE) (pa_cons (pe_callB call_len_seq (by rfl) T.b_len PySem.boot_len (pa_cons (pe_fld (pv 0) rfl) pa_nil)) pa_nil)))))))))), ?_⟩
    obtain ⟨i, c, rfl, rfl⟩ := two_of (f := .insert) (fun _ _ => rfl) rfl (fun _ => rfl) (fun _ _ _ _ => rfl) hc
    refine q_asg (ix_given (i := 0) hg rfl rfl) fun H1 e1 => ?_
    refine q_asg (ix_given (i := 1) (e1 _ _ hg) rfl rfl) fun H2 e2 => ?_
    have hp2 := hp.ex (e1.trans e2)
    refine q_asg (v := .int (refN s.word i c)) (ev_if (b := inr c 0 25) (et_B (ev_call (ea_cons (ev_var rfl) ea_nil) fun H3 e3 Q3 q3 E3 => ⟨c, rfl, q3⟩)) (fun hb => ev_is (ev_call (z := .int (refI s.word i)) (ea_cons (ev_row TP hp2 rfl) (ea_cons (ev_var rfl) ea_nil)) fun H3 e3 Q3 q3 E3 => ⟨r, s.word, i, rfl, sq_of (e3 _ _ hp2.row), q3⟩) ?_) (fun hb => ev_is ev_c ?_)) fun H3 e3 => ?_
    · unfold refN
      rw [if_pos hb]
    · unfold refN
      rw [if_neg (by rw [hb]; decide)]
    · have hp3 := hp2.ex e3
      have e13 := (e1.trans e2).trans e3
      refine q_when (b := decide (refN s.word i c ≠ 0)) (et_test (ev_is (ev_op (ev_var rfl) ev_c (rv_ne rfl)) (ne_zero_dec _))) (fun hb H4 e4 => ?_) (fun hb H4 e4 => ?_)
      · exact ret_callX k (rs' := (s, [refN s.word i c])) (by rw [step_insert, if_neg (of_decide_eq_true hb)]) rfl (Or.inl rfl) (But.of (e13.trans e4)) (hp3.ex e4) (el_lst (ea_cons (ev_var rfl) ea_nil) (by simp))
      · have hz : refN s.word i c = 0 := by simpa using hb
        obtain ⟨⟨i0, i1, h40⟩, c0, c1⟩ := refN_zero hz
        obtain ⟨i, rfl⟩ : ∃ j : Nat, i = (j : Int) := ⟨i.toNat, by omega⟩
        obtain ⟨c, rfl⟩ : ∃ j : Nat, c = (j : Int) := ⟨c.toNat, by omega⟩
        have hp4 := hp3.ex e4
        have hlen : (s.word.take i ++ c :: s.word.drop i).length = s.word.length + 1 := by
          rw [List.length_append, List.length_cons, List.length_take, List.length_drop]
          omega
        refine q_fldX (el_cat (en_l (el_cat (en_l (el_to TP hp4 rfl (ev_var rfl))) (en_l (el_lst (ea_cons (ev_var rfl) ea_nil) (by simp))) ?_)) (en_l (el_from (i := i) TP hp4 rfl (ev_var rfl))) ?_ H4 (Ex.refl H4) _ fun q H6 hq e6 h6 => ?_)
        · simp
          omega
        · simp
          omega
        · have hp6 := hp4.ex e6
          have e16 := (e13.trans e4).trans e6
          refine ⟨_, rfl, p, CP, dx, _, rfl, hp6.ins, TP.cl, TP.nR, (show 2 < 1000 by decide), ?_⟩
          rw [ptF_put_row]
          have hrow : H6 q = some (.lst (nv (s.word.take i ++ c :: s.word.drop i))) := by
            rw [h6]
            exact congrArg (fun z => some (HO.lst z)) (nv_cons3 _ _ _)
          have hp7 := hp6.setRow hrow (by rw [hlen]; exact h40) (low_parts (fun d hd => hp.low d (List.mem_of_mem_take hd)) (by omega) fun d hd => hp.low d (List.mem_of_mem_drop hd))
          refine ret_callX k (rs' := ({ s with word := s.word.take i ++ c :: s.word.drop i }, [0, ((s.word.length + 1 : Nat) : Int)])) (by rw [step_insert, if_pos hz]; rfl) rfl (Or.inr (fresh_back (e13.trans e4) hq)) (But.of e16).set hp7
            (el_lst (vs := iv [0, ((s.word.length + 1 : Nat) : Int)]) (ea_cons ev_c (ea_cons (ev_is (ev_len (ev_row TP hp7 rfl) (sq_of hp7.row)) ?_) ea_nil)) (by simp))
          rw [List.length_map, hlen]
/-- call_remove -/
theorem sc_call_remove : FnScope ["pattern", "given", "place", "refusal", "before"] ["pattern", "given"] (C8.fnScope s_call_remove) := C8.fnScope_by (by decide +kernel)
theorem cal_call_remove (D : DF K mg "call_remove" s_call_remove) (T : Tx K mg) (TP : PTx K CP) (c_place_refusal : C8.Cal P w K mg base 1 "place_refusal" (sp_place_refusal K) []) : C8.Cal P w K mg base 8 "call_remove" (sp_call CW CP 15) [] := by
  refine cal_by D sc_call_remove (fun _ _ _ _ _ _ us hl => match us, hl with | [_, _], _ => rfl) (fun vs H Q E h => ?_) (fun f cdv A outer s H vs Q E hr h => ?_)
  · obtain ⟨p, dx, r, o, g, s, ns, c, rfl, _⟩ := h
    rfl
  · obtain ⟨p, dx, r, o, g, s, ns, c, rfl, hp, hg, hn, hc, k⟩ := h
    refine ⟨_, (pss_cons (ps_set (i := 2) sc_call_remove.nd rfl (Or.inl rfl) (pe_ix ix_list (pv 1) pe_int (fun _ _ => rfl))) (pss_cons (ps_set (i := 3) sc_call_remove.nd rfl (Or.inl rfl) (C8.pe_c c_place_refusal hr (by decide) rfl (pa_cons (pe_fld (pv 0) rfl) (pa_cons (pv 2) pa_nil)))) (pss_cons (ps_if (pt_cmpR op_ne (pv 3) (C8.pe_gc rfl T.g_DONE) (nomark _)) (pss_one (ps_ret (pe_lst (pa_cons (pv 3) pa_nil)))) pss_nil) (pss_cons (ps_set (i := 4) sc_call_remove.nd rfl (Or.inl rfl) (pe_ix ix_list (pe_fld (pv 0) rfl) (pv 2) (fun _ _ => rfl))) (pss_cons (ps_fld (pv 0) (pe_op op_cat (pe_slice sl_list (pe_fld (pv 0) rfl) po_none (po_some (pv 2))) (pe_slice sl_list (pe_fld (pv 0) rfl) (po_some (pe_op op_add (pv 2) pe_int)) po_none)) rfl) (pss_one (ps_ret (pe_lst (pa_cons (C8.pe_gc rfl T.g_DONE) (pa_cons (pv 4) pa_nil)))))))))), ?_⟩
    obtain ⟨i, rfl, rfl⟩ := one_of (f := .remove) (fun _ => rfl) rfl (fun _ _ _ => rfl) hc
    have hl := hp.len
    refine q_asg (ix_given (i := 0) hg rfl rfl) fun H1 e1 => ?_
    have hp1 := hp.ex e1
    refine q_asg (ev_call (z := .int (refP s.word i)) (ea_cons (ev_row TP hp1 rfl) (ea_cons (ev_var rfl) ea_nil)) fun H3 e3 Q3 q3 E3 => ⟨r, s.word, i, rfl, sq_of (e3 _ _ hp1.row), q3⟩) fun H3 e3 => ?_
    have hp3 := hp1.ex e3
    have e13 := e1.trans e3
    refine q_when (b := decide (refP s.word i ≠ 0)) (et_test (ev_is (ev_op (ev_var rfl) ev_c (rv_ne rfl)) (ne_zero_dec _))) (fun hb H4 e4 => ?_) (fun hb H4 e4 => ?_)
    · exact ret_callX k (rs' := (s, [refP s.word i])) (by rw [step_remove, if_neg (of_decide_eq_true hb)]) rfl (Or.inl rfl) (But.of (e13.trans e4)) (hp3.ex e4) (el_lst (ea_cons (ev_var rfl) ea_nil) (by simp))
    · have hz : refP s.word i = 0 := by simpa using hb
      obtain ⟨i0, i1⟩ := refP_zero hz
      obtain ⟨i, rfl⟩ : ∃ j : Nat, i = (j : Int) := ⟨i.toNat, by omega⟩
      have hil : i < s.word.length := by omega
      refine q_asg (ev_at TP (hp3.ex e4) rfl (ev_var rfl) hil) fun H5 e5 => ?_
      have hp5 := (hp3.ex e4).ex e5
      refine q_fldX (el_cat (en_l (el_to TP hp5 rfl (ev_var rfl))) (en_l (el_from (i := i + 1) TP hp5 rfl (ev_is (ev_add (ev_var rfl) ev_c) rfl))) ?_ H5 (Ex.refl H5) _ fun q H6 hq e6 h6 => ?_)
      · simp
        omega
      · have hp6 := hp5.ex e6
        have e16 := (e13.trans e4).trans (e5.trans e6)
        refine ⟨_, rfl, p, CP, dx, _, rfl, hp6.ins, TP.cl, TP.nR, (show 2 < 1000 by decide), ?_⟩
        rw [ptF_put_row]
        have hrow : H6 q = some (.lst (nv (s.word.eraseIdx i))) := by
          rw [h6, List.eraseIdx_eq_take_drop_succ]
          exact congrArg (fun z => some (HO.lst z)) List.map_append.symm
        exact ret_callX k (rs' := ({ s with word := s.word.eraseIdx i }, [0, ((s.word.getD i 0 : Nat) : Int)])) (by rw [step_remove, if_pos hz]; rfl) rfl (Or.inr (fresh_back ((e13.trans e4).trans e5) hq)) (But.of e16).set
          (hp6.setRow hrow (Nat.le_trans (List.length_eraseIdx_le _ _) hl) fun d hd => hp.low d (List.mem_of_mem_eraseIdx hd)) (el_lst (ea_cons ev_c (ea_cons (ev_var rfl) ea_nil)) (by simp))
/-- call_unroll -/
theorem sc_call_unroll : FnScope ["pattern", "given", "reading"] ["pattern", "given"] (C8.fnScope s_call_unroll) := C8.fnScope_by (by decide +kernel)
theorem cal_call_unroll (D : DF K mg "call_unroll" s_call_unroll) (T : Tx K mg) (TP : PTx K CP) (c_is_text : C8.Cal P w K mg base 2 "is_text" (sp_is_text K) []) (c_read_text : C8.Cal P w K mg base 7 "read_text" (sp_read_text K CR CL) []) (c_Reading_is_right : C8.Met P w K mg base 1 CR "is_right" (sp_is_right CR) [])
    (c_Reading_fault : C8.Met P w K mg base 1 CR "fault" (sp_fault CR) []) (c_Reading_told : C8.Met P w K mg base 1 CR "told" (sp_told K CR CL) []) : C8.Cal P w K mg base 8 "call_unroll" (sp_call CW CP 17) [] := by
  refine cal_by D sc_call_unroll (fun _ _ _ _ _ _ us hl => match us, hl with | [_, _], _ => rfl) (fun vs H Q E h => ?_) (fun f cdv A outer s H vs Q E hr h => ?_)
  · obtain ⟨p, dx, r, o, g, s, ns, c, rfl, _⟩ := h
    rfl
  · obtain ⟨p, dx, r, o, g, s, ns, c, rfl, hp, hg, hn, hc, k⟩ := h
    refine ⟨_, (pss_cons (ps_if (pt_not (pt_val (C8.pe_c c_is_text hr (by decide) rfl (pa_cons (pv 1) pa_nil)))) (pss_one (ps_ret (pe_lst (pa_cons (C8.pe_gc rfl T.g_OUT_OF_RANGE) pa_nil)))) pss_nil) (pss_cons (ps_set (i := 2) sc_call_unroll.nd rfl (Or.inl rfl) (C8.pe_c c_read_text hr (by decide) rfl (pa_cons (pv 1) pa_nil))) (pss_cons (ps_if (pt_not (pt_val (C8.pe_mt0 c_Reading_is_right hr (by decide) (pv 2)))) (pss_one (ps_ret (pe_op op_cat (pe_lst (pa_cons (C8.pe_gc rfl T.g_DONE) pa_nil)) (C8.pe_mt0 c_Reading_fault hr (by decide) (pv 2))))) pss_nil) (pss_one (ps_ret (pe_op op_cat (pe_lst (pa_cons (C8.pe_gc rfl T.g_DONE) (pa_cons pe_int pa_nil))) (C8.pe_mt0 c_Reading_told hr (by decide) (pv 2)))))))), ?_⟩
    obtain rfl : Vbktaf.Call.unroll ns = c := by
      cases hc
      rfl
    refine q_when (b := !Vbktaf.isText ns) (et_not (et_B (ev_call (ea_cons (ev_var rfl) ea_nil) fun H1 e1 Q1 q1 E1 => ⟨g, ns, rfl, sq_of (e1 _ _ hg), by omega, q1⟩))) (fun hb H1 e1 => ?_) (fun hb H1 e1 => ?_)
    · exact ret_callX k (rs' := (s, [-1])) (by rw [step_unroll, if_pos hb]) rfl (Or.inl rfl) (But.of e1) (hp.ex e1) (el_lst (ea_cons ev_c ea_nil) (by simp))
    · have hit : Vbktaf.isText ns = true := by simpa using hb
      obtain ⟨h400, hnv⟩ := isText_in hit
      refine q_asgX (x_call (ea_cons (ev_var rfl) ea_nil) fun H2 e2 => ⟨g, Vbktaf.nats ns, rfl, sq_of ((e1.trans e2) _ _ (hg.trans (by rw [hnv]))), by rw [nats_len]; omega, fun H3 rd rdx lv ad S R hRd => ?_⟩)
      have e3 : Ex H H3 := (e1.trans e2).trans R.e
      have hp3 := hp.ex e3
      refine q_when (b := !decide (S.fk = 0)) (et_not (et_B (ev_meth (ev_var rfl) R.ins (rdF_no_is_right _ _ _ _ _ _ _ _ _ _) ea_nil fun H4 e4 Q4 q4 E4 => ⟨rd, rdx, g, lv, S, rfl, e4 _ _ R.ins, q4⟩))) (fun hz H4 e4 => ?_) (fun hz H4 e4 => ?_)
      · cases hx : Vbktaf.read (Vbktaf.nats ns) with
        | ok x =>
          have := (rd_right R hRd hx).1
          rw [decide_eq_true this] at hz
          cases hz
        | error kf =>
          obtain ⟨f1, f2, f3⟩ := rd_wrong hRd hx
          refine ret_callX k (rs' := (s, [0, (kf.1 : Int), (kf.2 : Int)])) (by rw [step_unroll, if_neg (by rw [hb]; decide), hx]) rfl (Or.inl rfl) (But.of (e3.trans e4)) (hp3.ex e4) (el_is (el_cat (en_l (el_lst (ea_cons ev_c ea_nil) (by simp))) (en_l (el_meth (ev_var rfl) (e4 _ _ R.ins) (rdF_no_fault _ _ _ _ _ _ _ _ _ _) ea_nil fun H5 e5 Q5 q5 E5 => ⟨rd, rdx, g, lv, S, rfl, (e4.trans e5) _ _ R.ins, q5⟩)) (by simp)) ?_)
          rw [f1, f2]
          rfl
      · cases hx : Vbktaf.read (Vbktaf.nats ns) with
        | error kf =>
          obtain ⟨f1, f2, f3⟩ := rd_wrong hRd hx
          rw [decide_eq_false (by rw [f1]; exact f3)] at hz
          cases hz
        | ok x =>
          obtain ⟨g1, g2, g3, d, dd, l, hl1, hl2, hl3, hl0⟩ := rd_right R hRd hx
          obtain ⟨hlow, h40⟩ := read_low hx
          have hlen := unroll_length x
          refine ret_callX k (rs' := (s, 0 :: 0 :: Vbktaf.ints (Vbktaf.unroll x))) (by rw [step_unroll, if_neg (by rw [hb]; decide), hx]) rfl (Or.inl rfl) (But.of (e3.trans e4)) (hp3.ex e4)
            (el_is (el_cat (en_l (el_lst (ea_cons ev_c (ea_cons ev_c ea_nil)) (by simp))) (en_v (ev_meth (ev_var rfl) (e4 _ _ R.ins) (rdF_no_told _ _ _ _ _ _ _ _ _ _) ea_nil fun H5 e5 Q5 q5 E5 => ⟨rd, rdx, g, lv, d, dd, l, S, -1, _, rfl, (e4.trans e5) _ _ R.ins, (e4.trans e5) _ _ hl1, (e4.trans e5) _ _ hl2, q5⟩) (e4 _ _ hl3)) ?_) ?_)
          · rw [List.length_map, hlen]
            simp only [List.length_cons, List.length_nil]
            omega
          · rw [nv_ints]
            rfl
/-- call_more -/
theorem sc_call_more : FnScope ["pattern", "given", "reading", "refusal"] ["pattern", "given"] (C8.fnScope s_call_more) := C8.fnScope_by (by decide +kernel)
theorem cal_call_more (D : DF K mg "call_more" s_call_more) (T : Tx K mg) (TP : PTx K CP) (c_is_text : C8.Cal P w K mg base 2 "is_text" (sp_is_text K) []) (c_read_text : C8.Cal P w K mg base 7 "read_text" (sp_read_text K CR CL) []) (c_Reading_is_right : C8.Met P w K mg base 1 CR "is_right" (sp_is_right CR) [])
    (c_Reading_fault : C8.Met P w K mg base 1 CR "fault" (sp_fault CR) []) (c_Reading_told : C8.Met P w K mg base 1 CR "told" (sp_told K CR CL) []) (c_lengthening_refusal : C8.Cal P w K mg base 1 "lengthening_refusal" (sp_lengthening_refusal K) []) : C8.Cal P w K mg base 8 "call_more" (sp_call CW CP 18) [] := by
  refine cal_by D sc_call_more (fun _ _ _ _ _ _ us hl => match us, hl with | [_, _], _ => rfl) (fun vs H Q E h => ?_) (fun f cdv A outer s H vs Q E hr h => ?_)
  · obtain ⟨p, dx, r, o, g, s, ns, c, rfl, _⟩ := h
    rfl
  · obtain ⟨p, dx, r, o, g, s, ns, c, rfl, hp, hg, hn, hc, k⟩ := h
    refine ⟨_, (pss_cons (ps_if (pt_not (pt_val (C8.pe_c c_is_text hr (by decide) rfl (pa_cons (pv 1) pa_nil)))) (pss_one (ps_ret (pe_lst (pa_cons (C8.pe_gc rfl T.g_OUT_OF_RANGE) pa_nil)))) pss_nil) (pss_cons (ps_set (i := 2) sc_call_more.nd rfl (Or.inl rfl) (C8.pe_c c_read_text hr (by decide) rfl (pa_cons (pv 1) pa_nil))) (pss_cons (ps_if (pt_not (pt_val (C8.pe_mt0 c_Reading_is_right hr (by decide) (pv 2)))) (pss_one (ps_ret (pe_op op_cat (pe_lst (pa_cons (C8.pe_gc rfl T.g_DONE) pa_nil)) (C8.pe_mt0 c_Reading_fault hr (by decide) (pv 2))))) pss_nil) (pss_cons (ps_set (i := 3) sc_call_more.nd rfl (Or.inl rfl) (C8.pe_c c_lengthening_refusal hr (by decide) rfl (pa_cons (pe_fld (pv 0) rfl) (pa_cons (pe_callB call_len_seq (by rfl) T.b_len PySem.boot_len (pa_cons (C8.pe_mt0 c_Reading_told hr (by decide) (pv 2)) pa_nil)) pa_nil)))) (pss_cons (ps_if (pt_cmpR op_ne (pv 3) (C8.pe_gc rfl T.g_DONE) (nomark _)) (pss_one (ps_ret (pe_lst (pa_cons (pv 3) pa_nil)))) pss_nil) (pss_cons (ps_fld (pv 0) (pe_op op_cat (pe_fld (pv 0) rfl) (C8.pe_mt0 c_Reading_told hr (by decide) (pv 2))) rfl) (pss_one (ps_ret (pe_lst (pa_cons (C8.pe_gc rfl T.g_DONE) (pa_cons pe_int (pa_cons (pe_callB call_len_seq (by rfl) T.b_len PySem.boot_len (pa_cons (pe_fld (pv 0) rfl) pa_nil)) pa_nil)))))))))))), ?_⟩
    obtain rfl : Vbktaf.Call.more ns = c := by
      cases hc
      rfl
    have hwl := hp.len
    refine q_when (b := !Vbktaf.isText ns) (et_not (et_B (ev_call (ea_cons (ev_var rfl) ea_nil) fun H1 e1 Q1 q1 E1 => ⟨g, ns, rfl, sq_of (e1 _ _ hg), by omega, q1⟩))) (fun hb H1 e1 => ?_) (fun hb H1 e1 => ?_)
    · exact ret_callX k (rs' := (s, [-1])) (by rw [step_more, if_pos hb]) rfl (Or.inl rfl) (But.of e1) (hp.ex e1) (el_lst (ea_cons ev_c ea_nil) (by simp))
    · have hit : Vbktaf.isText ns = true := by simpa using hb
      obtain ⟨h400, hnv⟩ := isText_in hit
      refine q_asgX (x_call (ea_cons (ev_var rfl) ea_nil) fun H2 e2 => ⟨g, Vbktaf.nats ns, rfl, sq_of ((e1.trans e2) _ _ (hg.trans (by rw [hnv]))), by rw [nats_len]; omega, fun H3 rd rdx lv ad S R hRd => ?_⟩)
      have e3 : Ex H H3 := (e1.trans e2).trans R.e
      have hp3 := hp.ex e3
      refine q_when (b := !decide (S.fk = 0)) (et_not (et_B (ev_meth (ev_var rfl) R.ins (rdF_no_is_right _ _ _ _ _ _ _ _ _ _) ea_nil fun H4 e4 Q4 q4 E4 => ⟨rd, rdx, g, lv, S, rfl, e4 _ _ R.ins, q4⟩))) (fun hz H4 e4 => ?_) (fun hz H4 e4 => ?_)
      · cases hx : Vbktaf.read (Vbktaf.nats ns) with
        | ok x =>
          have := (rd_right R hRd hx).1
          rw [decide_eq_true this] at hz
          cases hz
        | error kf =>
          obtain ⟨f1, f2, f3⟩ := rd_wrong hRd hx
          refine ret_callX k (rs' := (s, [0, (kf.1 : Int), (kf.2 : Int)])) (by rw [step_more, if_neg (by rw [hb]; decide), hx]) rfl (Or.inl rfl) (But.of (e3.trans e4)) (hp3.ex e4) (el_is (el_cat (en_l (el_lst (ea_cons ev_c ea_nil) (by simp))) (en_l (el_meth (ev_var rfl) (e4 _ _ R.ins) (rdF_no_fault _ _ _ _ _ _ _ _ _ _) ea_nil fun H5 e5 Q5 q5 E5 => ⟨rd, rdx, g, lv, S, rfl, (e4.trans e5) _ _ R.ins, q5⟩)) (by simp)) ?_)
          rw [f1, f2]
          rfl
      · cases hx : Vbktaf.read (Vbktaf.nats ns) with
        | error kf =>
          obtain ⟨f1, f2, f3⟩ := rd_wrong hRd hx
          rw [decide_eq_false (by rw [f1]; exact f3)] at hz
          cases hz
        | ok x =>
          obtain ⟨g1, g2, g3, d, dd, l, hl1, hl2, hl3, hl0⟩ := rd_right R hRd hx
          obtain ⟨hlow, h40⟩ := read_low hx
          have hlen := unroll_length x
          have hstep : Vbktaf.step s (.more ns) = if refL s.word (Vbktaf.size x) = 0 then ({ s with word := s.word ++ Vbktaf.unroll x }, [0, 0, ((s.word.length + Vbktaf.size x : Nat) : Int)]) else (s, [refL s.word (Vbktaf.size x)]) := by
            rw [step_more, if_neg (by rw [hb]; decide), hx]
            show (if Vbktaf.LONG < s.word.length + Vbktaf.size x then _ else _) = _
            unfold refL
            have e40 : Vbktaf.LONG = 40 := rfl
            rw [e40]
            by_cases h1 : 40 < s.word.length + Vbktaf.size x
            · rw [if_pos h1, if_pos h1, if_neg (by decide)]
            · rw [if_neg h1, if_neg h1, if_pos rfl]
          have told : ∀ {H5 : Hp} {σ : L2.St}, Ex H3 H5 → σ[2]? = some (some (.ref rd)) → Ev (tMeth CR "told" (sp_told K CR CL) [] E0 (tVar 2) tNil) σ H5 (.ref l) := fun {H5 σ} e5 h2 => ev_meth (ev_var h2) (e5 _ _ R.ins) (rdF_no_told _ _ _ _ _ _ _ _ _ _) ea_nil fun H6 e6 Q6 q6 E6 => ⟨rd, rdx, g, lv, d, dd, l, S, -1, _, rfl, (e5.trans e6) _ _ R.ins, (e5.trans e6) _ _ hl1, (e5.trans e6) _ _ hl2, q6⟩
          have hp4 := hp3.ex e4
          refine q_asg (ev_call (z := .int (refL s.word (Vbktaf.size x))) (ea_cons (ev_row TP hp4 rfl) (ea_cons (ev_len (told e4 rfl) (sq_of (e4 _ _ hl3))) ea_nil)) fun H5 e5 Q5 q5 E5 => ⟨r, s.word, Vbktaf.size x, by rw [List.length_map, hlen]; rfl, sq_of (e5 _ _ hp4.row), q5⟩) fun H5 e5 => ?_
          have hp5 := hp4.ex e5
          have e35 := e4.trans e5
          refine q_when (b := decide (refL s.word (Vbktaf.size x) ≠ 0)) (et_test (ev_is (ev_op (ev_var rfl) ev_c (rv_ne rfl)) (ne_zero_dec _))) (fun hy H6 e6 => ?_) (fun hy H6 e6 => ?_)
          · exact ret_callX k (rs' := (s, [refL s.word (Vbktaf.size x)])) (by rw [hstep, if_neg (of_decide_eq_true hy)]) rfl (Or.inl rfl) (But.of (e3.trans (e35.trans e6))) (hp5.ex e6) (el_lst (ea_cons (ev_var rfl) ea_nil) (by simp))
          · have hy0 : refL s.word (Vbktaf.size x) = 0 := by simpa using hy
            have hsum := refL_zero hy0
            have hp6 := hp5.ex e6
            have e36 := e35.trans e6
            refine q_fldX (el_cat (en_v (ev_row TP hp6 rfl) hp6.row) (en_v (told e36 rfl) (e36 _ _ hl3)) ?_ H6 (Ex.refl H6) _ fun q H7 hq e7 h7 => ?_)
            · rw [List.length_map, List.length_map, hlen]
              omega
            · have hp7 := hp6.ex e7
              refine ⟨_, rfl, p, CP, dx, _, rfl, hp7.ins, TP.cl, TP.nR, (show 2 < 1000 by decide), ?_⟩
              rw [ptF_put_row]
              have hrow : H7 q = some (.lst (nv (s.word ++ Vbktaf.unroll x))) := by
                rw [h7]
                exact congrArg (fun z => some (HO.lst z)) List.map_append.symm
              have hl8 : (s.word ++ Vbktaf.unroll x).length = s.word.length + Vbktaf.size x := by rw [List.length_append, hlen]
              have hp8 := hp7.setRow hrow (by rw [hl8]; exact hsum) fun c hc => by
                rcases List.mem_append.mp hc with h | h
                · exact hp.low c h
                · exact hlow c h
              refine ret_callX k (rs' := ({ s with word := s.word ++ Vbktaf.unroll x }, [0, 0, ((s.word.length + Vbktaf.size x : Nat) : Int)])) (by rw [hstep, if_pos hy0]) rfl (Or.inr (fresh_back (e3.trans e36) hq)) (But.of (e3.trans (e36.trans e7))).set hp8
                (el_lst (vs := iv [0, 0, ((s.word.length + Vbktaf.size x : Nat) : Int)]) (ea_cons ev_c (ea_cons ev_c (ea_cons (ev_is (ev_len (ev_row TP hp8 rfl) (sq_of hp8.row)) ?_) ea_nil))) (by simp))
              rw [List.length_map, hl8]
end
end Kt

namespace Kt
open PySem PySem.Spec PyProof.Rows L2 Evl
theorem all_mk {P : Program} {w : World} {K : PySem.W.Frag} {h : Heap} {mg : Str → Option Value} {fa CR CL CW CP aD aC aG f0 f1 f2 f3 f4 f5 f6 f7 f8 f9 f10 f11 f12 f13 f14 f15 f16 f17 f18 f19 f20 f21 : Addr} {od1 od2 : Option Addr} {n1 n2 t0 t1 t2 t3 t4 t5 t6 t7 t8 t9 t10 t11 t12 t13 t14 t15 t16 t17 t18 t19 t20 t21 : Nat} {sl1 sl2 : Array (Option Value)} (X : K.In h) (G : h.Ns mainGlobals mg) (hfa : mg "answers" = some (.ref fa))
    (T : Tx K mg) (TC : (∃ u, mg "CLOSINGS" = some u ∧ L2.RelV (.ref aD) u) ∧ CD K aD) (TR : RTx K CR) (TL : LTx K CL) (TW : WTx K CW) (TP : PTx K CP)
    (D_is_letter : DF K mg "is_letter" s_is_letter)
    (D_is_digit_at : DF K mg "is_digit_at" s_is_digit_at)
    (D_digits_from : DF K mg "digits_from" s_digits_from)
    (D_number_of : DF K mg "number_of" s_number_of)
    (D_has_period : DF K mg "has_period" s_has_period)
    (D_is_mirrored : DF K mg "is_mirrored" s_is_mirrored)
    (D_first_half : DF K mg "first_half" s_first_half)
    (D_way_cost : DF K mg "way_cost" s_way_cost)
    (D_first_least : DF K mg "first_least" s_first_least)
    (D_alike_ways : DF K mg "alike_ways" s_alike_ways)
    (D_mirror_ways : DF K mg "mirror_ways" s_mirror_ways)
    (D_period_ways : DF K mg "period_ways" s_period_ways)
    (D_split_ways : DF K mg "split_ways" s_split_ways)
    (D_stretch_ways : DF K mg "stretch_ways" s_stretch_ways)
    (D_best_ways : DF K mg "best_ways" s_best_ways)
    (D_costs_of : DF K mg "costs_of" s_costs_of)
    (D_flat_table : DF K mg "flat_table" s_flat_table)
    (D_digits_of : DF K mg "digits_of" s_digits_of)
    (D_stretch_count : DF K mg "stretch_count" s_stretch_count)
    (D_text_by_way : DF K mg "text_by_way" s_text_by_way)
    (D_told_text : DF K mg "told_text" s_told_text)
    (D_table_of : DF K mg "table_of" s_table_of)
    (D_is_right_table : DF K mg "is_right_table" s_is_right_table)
    (D_Level_init : CF K mg CL "Level" "Level.__init__" s_Level_init)
    (D_Level_take : MF K CL "take" "Level.take" s_Level_take)
    (D_Reading_is_right : MF K CR "is_right" "Reading.is_right" s_Reading_is_right)
    (D_Reading_fault : MF K CR "fault" "Reading.fault" s_Reading_fault)
    (D_Reading_fail : MF K CR "fail" "Reading.fail" s_Reading_fail)
    (D_Reading_take_number : MF K CR "take_number" "Reading.take_number" s_Reading_take_number)
    (D_Reading_take_letter : MF K CR "take_letter" "Reading.take_letter" s_Reading_take_letter)
    (D_Reading_take_opening : MF K CR "take_opening" "Reading.take_opening" s_Reading_take_opening)
    (D_Reading_take_repeat : MF K CR "take_repeat" "Reading.take_repeat" s_Reading_take_repeat)
    (D_Reading_take_mirrored : MF K CR "take_mirrored" "Reading.take_mirrored" s_Reading_take_mirrored)
    (D_Reading_take_closing : MF K CR "take_closing" "Reading.take_closing" s_Reading_take_closing)
    (D_Reading_take_end : MF K CR "take_end" "Reading.take_end" s_Reading_take_end)
    (D_Reading_take_byte : MF K CR "take_byte" "Reading.take_byte" s_Reading_take_byte)
    (D_Reading_init : CF K mg CR "Reading" "Reading.__init__" s_Reading_init)
    (D_read_text : DF K mg "read_text" s_read_text)
    (D_are_within : DF K mg "are_within" s_are_within)
    (D_is_text : DF K mg "is_text" s_is_text)
    (D_Reading_told : MF K CR "told" "Reading.told" s_Reading_told)
    (D_Reading_cost : MF K CR "cost" "Reading.cost" s_Reading_cost)
    (D_runs_of : DF K mg "runs_of" s_runs_of)
    (D_stretch_refusal : DF K mg "stretch_refusal" s_stretch_refusal)
    (D_table_refusal : DF K mg "table_refusal" s_table_refusal)
    (D_Weights_init : CF K mg CW "Weights" "Weights.__init__" s_Weights_init)
    (D_Pattern_init : CF K mg CP "Pattern" "Pattern.__init__" s_Pattern_init)
    (D_call_weights : DF K mg "call_weights" s_call_weights)
    (D_call_word : DF K mg "call_word" s_call_word)
    (D_call_tell : DF K mg "call_tell" s_call_tell)
    (D_call_runs : DF K mg "call_runs" s_call_runs)
    (D_call_read : DF K mg "call_read" s_call_read)
    (D_call_cost : DF K mg "call_cost" s_call_cost)
    (D_call_shortest : DF K mg "call_shortest" s_call_shortest)
    (D_call_table : DF K mg "call_table" s_call_table)
    (D_call_stretch : DF K mg "call_stretch" s_call_stretch)
    (D_call_proves : DF K mg "call_proves" s_call_proves)
    (D_call_ways : DF K mg "call_ways" s_call_ways)
    (D_least_period : DF K mg "least_period" s_least_period)
    (D_longest_repeat : DF K mg "longest_repeat" s_longest_repeat)
    (D_longest_mirrored : DF K mg "longest_mirrored" s_longest_mirrored)
    (D_swapped : DF K mg "swapped" s_swapped)
    (D_is_stitch : DF K mg "is_stitch" s_is_stitch)
    (D_place_refusal : DF K mg "place_refusal" s_place_refusal)
    (D_lengthening_refusal : DF K mg "lengthening_refusal" s_lengthening_refusal)
    (D_insert_refusal : DF K mg "insert_refusal" s_insert_refusal)
    (D_call_repeat : DF K mg "call_repeat" s_call_repeat)
    (D_call_mirrored : DF K mg "call_mirrored" s_call_mirrored)
    (D_call_reverse : DF K mg "call_reverse" s_call_reverse)
    (D_call_double : DF K mg "call_double" s_call_double)
    (D_call_swap : DF K mg "call_swap" s_call_swap)
    (D_call_sizes : DF K mg "call_sizes" s_call_sizes)
    (D_call_change : DF K mg "call_change" s_call_change)
    (D_call_insert : DF K mg "call_insert" s_call_insert)
    (D_call_remove : DF K mg "call_remove" s_call_remove)
    (D_call_unroll : DF K mg "call_unroll" s_call_unroll)
    (D_call_more : DF K mg "call_more" s_call_more)
    (D_answers : DF K mg "answers" s_answers)
    (nC : PySem.W.nsIn K mainGlobals "CALLS" = some (some (.ref aC))) (lC : K.lookup aC = some ⟨.type "tuple", od1, .seq #[.ref f0, .ref f1, .ref f2, .ref f3, .ref f4, .ref f5, .ref f6, .ref f7, .ref f8, .ref f9, .ref f10, .ref f11, .ref f12, .ref f13, .ref f14, .ref f15, .ref f16, .ref f17, .ref f18, .ref f19, .ref f20, .ref f21] n1, sl1⟩)
    (nG : PySem.W.nsIn K mainGlobals "GIVEN_COUNTS" = some (some (.ref aG))) (lG : K.lookup aG = some ⟨.type "tuple", od2, .seq #[.int (4) t0, .int (-1) t1, .int (-1) t2, .int (0) t3, .int (0) t4, .int (-1) t5, .int (2) t6, .int (0) t7, .int (-1) t8, .int (2) t9, .int (0) t10, .int (0) t11, .int (0) t12, .int (2) t13, .int (2) t14, .int (1) t15, .int (0) t16, .int (-1) t17, .int (-1) t18, .int (0) t19, .int (2) t20, .int (0) t21] n2, sl2⟩)
    (m0 : PySem.W.nsIn K mainGlobals "call_weights" = some (some (.ref f0)))
    (m1 : PySem.W.nsIn K mainGlobals "call_word" = some (some (.ref f1)))
    (m2 : PySem.W.nsIn K mainGlobals "call_read" = some (some (.ref f2)))
    (m3 : PySem.W.nsIn K mainGlobals "call_tell" = some (some (.ref f3)))
    (m4 : PySem.W.nsIn K mainGlobals "call_shortest" = some (some (.ref f4)))
    (m5 : PySem.W.nsIn K mainGlobals "call_cost" = some (some (.ref f5)))
    (m6 : PySem.W.nsIn K mainGlobals "call_stretch" = some (some (.ref f6)))
    (m7 : PySem.W.nsIn K mainGlobals "call_table" = some (some (.ref f7)))
    (m8 : PySem.W.nsIn K mainGlobals "call_proves" = some (some (.ref f8)))
    (m9 : PySem.W.nsIn K mainGlobals "call_ways" = some (some (.ref f9)))
    (m10 : PySem.W.nsIn K mainGlobals "call_runs" = some (some (.ref f10)))
    (m11 : PySem.W.nsIn K mainGlobals "call_repeat" = some (some (.ref f11)))
    (m12 : PySem.W.nsIn K mainGlobals "call_mirrored" = some (some (.ref f12)))
    (m13 : PySem.W.nsIn K mainGlobals "call_change" = some (some (.ref f13)))
    (m14 : PySem.W.nsIn K mainGlobals "call_insert" = some (some (.ref f14)))
    (m15 : PySem.W.nsIn K mainGlobals "call_remove" = some (some (.ref f15)))
    (m16 : PySem.W.nsIn K mainGlobals "call_reverse" = some (some (.ref f16)))
    (m17 : PySem.W.nsIn K mainGlobals "call_unroll" = some (some (.ref f17)))
    (m18 : PySem.W.nsIn K mainGlobals "call_more" = some (some (.ref f18)))
    (m19 : PySem.W.nsIn K mainGlobals "call_double" = some (some (.ref f19)))
    (m20 : PySem.W.nsIn K mainGlobals "call_swap" = some (some (.ref f20)))
    (m21 : PySem.W.nsIn K mainGlobals "call_sizes" = some (some (.ref f21)))
    : ∃ fd : FuncData, (∀ (s : Shared) (us : List Value), us.length = (["calls"] : List Str).length → BindsTo s fd ⟨us, []⟩ ((["calls"] : List Str).zip us)) ∧ ∀ base : Heap, K.In base → base.Ns mainGlobals mg → FnOk P w K mg base L2.CX0 12 fa fd ["calls"] (spAns K) := by
  obtain ⟨fA, fdA, D1, df⟩ := D_answers
  have e := hfa.symm.trans D1.mgf
  cases e
  refine ⟨fdA, bt_mk D1.fn df (fun _ _ _ _ _ _ us hl => match us, hl with | [_], _ => rfl), fun base _ _ => ?_⟩
  have c_is_letter := cal_is_letter (P := P) (w := w) (base := base) D_is_letter T
  have c_is_digit_at := cal_is_digit_at (P := P) (w := w) (base := base) D_is_digit_at T
  have c_digits_from := cal_digits_from (P := P) (w := w) (base := base) D_digits_from T c_is_digit_at
  have c_number_of := cal_number_of (P := P) (w := w) (base := base) D_number_of T
  have c_has_period := cal_has_period (P := P) (w := w) (base := base) D_has_period T
  have c_is_mirrored := cal_is_mirrored (P := P) (w := w) (base := base) D_is_mirrored T
  have c_first_half := cal_first_half (P := P) (w := w) (base := base) D_first_half T
  have c_way_cost := cal_way_cost (P := P) (w := w) (base := base) D_way_cost T
  have c_first_least := cal_first_least (P := P) (w := w) (base := base) D_first_least T c_way_cost
  have c_alike_ways := cal_alike_ways (P := P) (w := w) (base := base) (CW := CW) D_alike_ways T TW c_has_period
  have c_mirror_ways := cal_mirror_ways (P := P) (w := w) (base := base) (CW := CW) D_mirror_ways T TW c_is_mirrored c_first_half
  have c_period_ways := cal_period_ways (P := P) (w := w) (base := base) (CW := CW) D_period_ways T TW c_has_period
  have c_split_ways := cal_split_ways (P := P) (w := w) (base := base) D_split_ways T
  have c_stretch_ways := cal_stretch_ways (P := P) (w := w) (base := base) (CW := CW) D_stretch_ways T TW c_alike_ways c_period_ways c_mirror_ways c_split_ways
  have c_best_ways := cal_best_ways (P := P) (w := w) (base := base) (CW := CW) D_best_ways T c_stretch_ways c_first_least c_way_cost
  have c_costs_of := cal_costs_of (P := P) (w := w) (base := base) D_costs_of T c_way_cost
  have c_flat_table := cal_flat_table (P := P) (w := w) (base := base) D_flat_table T
  have c_digits_of := cal_digits_of (P := P) (w := w) (base := base) D_digits_of T
  have c_stretch_count := cal_stretch_count (P := P) (w := w) (base := base) D_stretch_count T
  have c_text_by_way := cal_text_by_way (P := P) (w := w) (base := base) D_text_by_way T c_digits_of c_first_half
  have c_told_text := cal_told_text (P := P) (w := w) (base := base) D_told_text T c_text_by_way
  have c_table_of := cal_table_of (P := P) (w := w) (base := base) D_table_of T
  have c_is_right_table := cal_is_right_table (P := P) (w := w) (base := base) (CW := CW) D_is_right_table T c_stretch_ways c_first_least c_way_cost
  have c_Level := mak_Level (P := P) (w := w) (base := base) (CL := CL) D_Level_init TL
  have c_Level_take := met_take (P := P) (w := w) (base := base) (CL := CL) D_Level_take T TL
  have c_Reading_is_right := met_is_right (P := P) (w := w) (base := base) (CR := CR) D_Reading_is_right T TR
  have c_Reading_fault := met_fault (P := P) (w := w) (base := base) (CR := CR) D_Reading_fault T TR
  have c_Reading_fail := met_fail (P := P) (w := w) (base := base) (CR := CR) (CL := CL) D_Reading_fail T TR
  have c_Reading_take_number := met_take_number (P := P) (w := w) (base := base) (CR := CR) (CL := CL) D_Reading_take_number T TR c_digits_from c_number_of c_Reading_fail
  have c_Reading_take_letter := met_take_letter (P := P) (w := w) (base := base) (CR := CR) (CL := CL) D_Reading_take_letter T TR c_is_digit_at c_Reading_take_number c_Level_take
  have c_Reading_take_opening := met_take_opening (P := P) (w := w) (base := base) (CR := CR) (CL := CL) D_Reading_take_opening T TR c_Level c_Reading_fail
  have c_Reading_take_repeat := met_take_repeat (P := P) (w := w) (base := base) (CR := CR) (CL := CL) D_Reading_take_repeat T TR TL c_is_digit_at c_Reading_take_number c_Level_take c_Reading_fail
  have c_Reading_take_mirrored := met_take_mirrored (P := P) (w := w) (base := base) (CR := CR) (CL := CL) D_Reading_take_mirrored T TR TL c_Level_take
  have c_Reading_take_closing := met_take_closing (P := P) (w := w) (base := base) (CR := CR) (CL := CL) D_Reading_take_closing T TR c_Reading_take_repeat c_Reading_take_mirrored
  have c_Reading_take_end := met_take_end (P := P) (w := w) (base := base) (CR := CR) (CL := CL) D_Reading_take_end T TR TL c_Reading_fail
  have c_Reading_take_byte := met_take_byte (P := P) (w := w) (base := base) (CR := CR) (CL := CL) D_Reading_take_byte T TC TR TL c_is_letter c_Reading_take_letter c_Reading_take_opening c_Reading_take_closing c_Reading_fail
  have c_Reading := mak_Reading (P := P) (w := w) (base := base) (CR := CR) (CL := CL) D_Reading_init T TR c_Level
  have c_read_text := cal_read_text (P := P) (w := w) (base := base) (CR := CR) (CL := CL) D_read_text T TR c_Reading c_Reading_is_right c_Reading_take_byte c_Reading_take_end
  have c_are_within := cal_are_within (P := P) (w := w) (base := base) D_are_within T
  have c_is_text := cal_is_text (P := P) (w := w) (base := base) D_is_text T c_are_within
  have c_Reading_told := met_told (P := P) (w := w) (base := base) (CR := CR) (CL := CL) D_Reading_told T TR TL
  have c_Reading_cost := met_cost (P := P) (w := w) (base := base) (CR := CR) (CW := CW) D_Reading_cost T TR TW
  have c_runs_of := cal_runs_of (P := P) (w := w) (base := base) D_runs_of T
  have c_stretch_refusal := cal_stretch_refusal (P := P) (w := w) (base := base) D_stretch_refusal T
  have c_table_refusal := cal_table_refusal (P := P) (w := w) (base := base) D_table_refusal T c_stretch_count c_are_within
  have c_Weights := mak_Weights (P := P) (w := w) (base := base) (CW := CW) D_Weights_init TW
  have c_Pattern := mak_Pattern (P := P) (w := w) (base := base) (CW := CW) (CP := CP) D_Pattern_init TP c_Weights
  have c_call_weights := cal_call_weights (P := P) (w := w) (base := base) (CW := CW) (CP := CP) D_call_weights T TP c_are_within c_Weights
  have c_call_word := cal_call_word (P := P) (w := w) (base := base) (CW := CW) (CP := CP) D_call_word T TP c_are_within
  have c_call_tell := cal_call_tell (P := P) (w := w) (base := base) (CW := CW) (CP := CP) D_call_tell T TP
  have c_call_runs := cal_call_runs (P := P) (w := w) (base := base) (CW := CW) (CP := CP) D_call_runs T TP c_runs_of
  have c_call_read := cal_call_read (P := P) (w := w) (base := base) (CR := CR) (CL := CL) (CW := CW) (CP := CP) D_call_read T TP c_is_text c_read_text c_Reading_is_right c_Reading_fault c_Reading_told c_Reading_cost
  have c_call_cost := cal_call_cost (P := P) (w := w) (base := base) (CR := CR) (CL := CL) (CW := CW) (CP := CP) D_call_cost T TP TR c_is_text c_read_text c_Reading_is_right c_Reading_fault c_Reading_told c_Reading_cost
  have c_call_shortest := cal_call_shortest (P := P) (w := w) (base := base) (CR := CR) (CL := CL) (CW := CW) (CP := CP) D_call_shortest T TP TR c_best_ways c_told_text c_way_cost c_read_text
  have c_call_table := cal_call_table (P := P) (w := w) (base := base) (CW := CW) (CP := CP) D_call_table T TP c_best_ways c_costs_of c_flat_table
  have c_call_stretch := cal_call_stretch (P := P) (w := w) (base := base) (CW := CW) (CP := CP) D_call_stretch T TP c_stretch_refusal c_best_ways c_told_text c_way_cost
  have c_call_proves := cal_call_proves (P := P) (w := w) (base := base) (CW := CW) (CP := CP) D_call_proves T TP c_table_refusal c_table_of c_is_right_table
  have c_call_ways := cal_call_ways (P := P) (w := w) (base := base) (CW := CW) (CP := CP) D_call_ways T TP c_stretch_refusal c_best_ways c_costs_of c_stretch_ways
  have c_least_period := cal_least_period (P := P) (w := w) (base := base) D_least_period T c_has_period
  have c_longest_repeat := cal_longest_repeat (P := P) (w := w) (base := base) D_longest_repeat T c_least_period
  have c_longest_mirrored := cal_longest_mirrored (P := P) (w := w) (base := base) D_longest_mirrored T c_is_mirrored
  have c_swapped := cal_swapped (P := P) (w := w) (base := base) D_swapped T
  have c_is_stitch := cal_is_stitch (P := P) (w := w) (base := base) D_is_stitch T
  have c_place_refusal := cal_place_refusal (P := P) (w := w) (base := base) D_place_refusal T
  have c_lengthening_refusal := cal_lengthening_refusal (P := P) (w := w) (base := base) D_lengthening_refusal T
  have c_insert_refusal := cal_insert_refusal (P := P) (w := w) (base := base) D_insert_refusal T c_lengthening_refusal
  have c_call_repeat := cal_call_repeat (P := P) (w := w) (base := base) (CW := CW) (CP := CP) D_call_repeat T TP c_longest_repeat
  have c_call_mirrored := cal_call_mirrored (P := P) (w := w) (base := base) (CW := CW) (CP := CP) D_call_mirrored T TP c_longest_mirrored
  have c_call_reverse := cal_call_reverse (P := P) (w := w) (base := base) (CW := CW) (CP := CP) D_call_reverse T TP
  have c_call_double := cal_call_double (P := P) (w := w) (base := base) (CW := CW) (CP := CP) D_call_double T TP c_lengthening_refusal
  have c_call_swap := cal_call_swap (P := P) (w := w) (base := base) (CW := CW) (CP := CP) D_call_swap T TP c_are_within c_swapped
  have c_call_sizes := cal_call_sizes (P := P) (w := w) (base := base) (CW := CW) (CP := CP) D_call_sizes T TP TW
  have c_call_change := cal_call_change (P := P) (w := w) (base := base) (CW := CW) (CP := CP) D_call_change T TP c_is_stitch c_place_refusal
  have c_call_insert := cal_call_insert (P := P) (w := w) (base := base) (CW := CW) (CP := CP) D_call_insert T TP c_is_stitch c_insert_refusal
  have c_call_remove := cal_call_remove (P := P) (w := w) (base := base) (CW := CW) (CP := CP) D_call_remove T TP c_place_refusal
  have c_call_unroll := cal_call_unroll (P := P) (w := w) (base := base) (CR := CR) (CL := CL) (CW := CW) (CP := CP) D_call_unroll T TP c_is_text c_read_text c_Reading_is_right c_Reading_fault c_Reading_told
  have c_call_more := cal_call_more (P := P) (w := w) (base := base) (CR := CR) (CL := CL) (CW := CW) (CP := CP) D_call_more T TP c_is_text c_read_text c_Reading_is_right c_Reading_fault c_Reading_told c_lengthening_refusal
  have hC : ∀ H, SqT K H aC ([f0, f1, f2, f3, f4, f5, f6, f7, f8, f9, f10, f11, f12, f13, f14, f15, f16, f17, f18, f19, f20, f21].map V.ref) := fun H => Or.inr ⟨_, _, _, lC, rfl, rfl, (show 22 ≤ sizeLine by decide), .cons rfl (.cons rfl (.cons rfl (.cons rfl (.cons rfl (.cons rfl (.cons rfl (.cons rfl (.cons rfl (.cons rfl (.cons rfl (.cons rfl (.cons rfl (.cons rfl (.cons rfl (.cons rfl (.cons rfl (.cons rfl (.cons rfl (.cons rfl (.cons rfl (.cons rfl (.nil))))))))))))))))))))))⟩
  have hG : ∀ H, SqT K H aG (iv [4, -1, -1, 0, 0, -1, 2, 0, -1, 2, 0, 0, 0, 2, 2, 1, 0, -1, -1, 0, 2, 0]) := fun H => Or.inr ⟨_, _, _, lG, rfl, rfl, (show 22 ≤ sizeLine by decide), .cons ⟨_, rfl⟩ (.cons ⟨_, rfl⟩ (.cons ⟨_, rfl⟩ (.cons ⟨_, rfl⟩ (.cons ⟨_, rfl⟩ (.cons ⟨_, rfl⟩ (.cons ⟨_, rfl⟩ (.cons ⟨_, rfl⟩ (.cons ⟨_, rfl⟩ (.cons ⟨_, rfl⟩ (.cons ⟨_, rfl⟩ (.cons ⟨_, rfl⟩ (.cons ⟨_, rfl⟩ (.cons ⟨_, rfl⟩ (.cons ⟨_, rfl⟩ (.cons ⟨_, rfl⟩ (.cons ⟨_, rfl⟩ (.cons ⟨_, rfl⟩ (.cons ⟨_, rfl⟩ (.cons ⟨_, rfl⟩ (.cons ⟨_, rfl⟩ (.cons ⟨_, rfl⟩ (.nil))))))))))))))))))))))⟩
  have cs : ∀ n f, ([f0, f1, f2, f3, f4, f5, f6, f7, f8, f9, f10, f11, f12, f13, f14, f15, f16, f17, f18, f19, f20, f21] : List Addr)[n]? = some f → C8.CalAt P w K mg base 8 f (sp_call CW CP n) := by
    intro n f h
    have hn : n < 22 := (List.getElem?_eq_some_iff.mp h).1
    have : n = 0 ∨ n = 1 ∨ n = 2 ∨ n = 3 ∨ n = 4 ∨ n = 5 ∨ n = 6 ∨ n = 7 ∨ n = 8 ∨ n = 9 ∨ n = 10 ∨ n = 11 ∨ n = 12 ∨ n = 13 ∨ n = 14 ∨ n = 15 ∨ n = 16 ∨ n = 17 ∨ n = 18 ∨ n = 19 ∨ n = 20 ∨ n = 21 := by omega
    rcases this with rfl | rfl | rfl | rfl | rfl | rfl | rfl | rfl | rfl | rfl | rfl | rfl | rfl | rfl | rfl | rfl | rfl | rfl | rfl | rfl | rfl | rfl
    · cases h
      exact cal_at c_call_weights (PySem.W.mg_of X G m0)
    · cases h
      exact cal_at c_call_word (PySem.W.mg_of X G m1)
    · cases h
      exact cal_at c_call_read (PySem.W.mg_of X G m2)
    · cases h
      exact cal_at c_call_tell (PySem.W.mg_of X G m3)
    · cases h
      exact cal_at c_call_shortest (PySem.W.mg_of X G m4)
    · cases h
      exact cal_at c_call_cost (PySem.W.mg_of X G m5)
    · cases h
      exact cal_at c_call_stretch (PySem.W.mg_of X G m6)
    · cases h
      exact cal_at c_call_table (PySem.W.mg_of X G m7)
    · cases h
      exact cal_at c_call_proves (PySem.W.mg_of X G m8)
    · cases h
      exact cal_at c_call_ways (PySem.W.mg_of X G m9)
    · cases h
      exact cal_at c_call_runs (PySem.W.mg_of X G m10)
    · cases h
      exact cal_at c_call_repeat (PySem.W.mg_of X G m11)
    · cases h
      exact cal_at c_call_mirrored (PySem.W.mg_of X G m12)
    · cases h
      exact cal_at c_call_change (PySem.W.mg_of X G m13)
    · cases h
      exact cal_at c_call_insert (PySem.W.mg_of X G m14)
    · cases h
      exact cal_at c_call_remove (PySem.W.mg_of X G m15)
    · cases h
      exact cal_at c_call_reverse (PySem.W.mg_of X G m16)
    · cases h
      exact cal_at c_call_unroll (PySem.W.mg_of X G m17)
    · cases h
      exact cal_at c_call_more (PySem.W.mg_of X G m18)
    · cases h
      exact cal_at c_call_double (PySem.W.mg_of X G m19)
    · cases h
      exact cal_at c_call_swap (PySem.W.mg_of X G m20)
    · cases h
      exact cal_at c_call_sizes (PySem.W.mg_of X G m21)
  exact fn_answers D1.fn T (ref_mk X G nC) (ref_mk X G nG) hC hG rfl cs c_Pattern
end Kt
open PySem PySem.W PyProof.Rows
set_option maxHeartbeats 0
theorem PySem.Challenge.cw_knittext_s01_answers_holds : PySem.Challenge.rw_knittext_s01_answers.Holds := by
  w_on; k_headS; (case hw => exact ⟨[.list [.int 3]], by decide +kernel, by decide +kernel⟩)
  k_fillS
  refine L2.walk_specK (r := PySem.Challenge.rw_knittext_s01_answers) (k := 12) (CX := L2.CX0) (ps := ["calls"]) (sp := Kt.spAns) (by decide +kernel) rfl rfl ⟨rfl, by decide, by decide⟩ (fun w h Y => PySem.W.kIn_of Y) ?F ?S (fun _ _ _ _ z => z)
  case F =>
    intro w mg fa h Y KX G hmg
    refine' Kt.all_mk KX G hmg ⟨Kt.gi_mk KX G ?g_MOST_STITCHES, Kt.gi_mk KX G ?g_MOST_BRACKETS, Kt.gi_mk KX G ?g_MOST_DIGITS, Kt.gi_mk KX G ?g_LEAST_NUMBER, Kt.gi_mk KX G ?g_LETTER_A, Kt.gi_mk KX G ?g_LETTER_Z, Kt.gi_mk KX G ?g_DIGIT_0, Kt.gi_mk KX G ?g_DIGIT_9, Kt.gi_mk KX G ?g_ROUND_OPENING, Kt.gi_mk KX G ?g_ROUND_CLOSING, Kt.gi_mk KX G ?g_ANGLE_OPENING, Kt.gi_mk KX G ?g_ANGLE_CLOSING, Kt.gi_mk KX G ?g_SQUARE_OPENING, Kt.gi_mk KX G ?g_SQUARE_CLOSING, Kt.gi_mk KX G ?g_NO_CLOSING, Kt.gi_mk KX G ?g_NO_FAULT, Kt.gi_mk KX G ?g_WRONG_BYTE, Kt.gi_mk KX G ?g_WRONG_NUMBER, Kt.gi_mk KX G ?g_TOO_LONG, Kt.gi_mk KX G ?g_TOO_DEEP, Kt.gi_mk KX G ?g_ALIKE, Kt.gi_mk KX G ?g_PERIOD, Kt.gi_mk KX G ?g_EVEN_MIRROR, Kt.gi_mk KX G ?g_ODD_MIRROR, Kt.gi_mk KX G ?g_SPLIT, Kt.gi_mk KX G ?g_DONE, Kt.gi_mk KX G ?g_OUT_OF_RANGE, Kt.gi_mk KX G ?g_ROW_IS_EMPTY, Kt.gi_mk KX G ?g_NO_SUCH_PLACE, Kt.gi_mk KX G ?g_WRONG_COUNT, Kt.gi_mk KX G ?g_ROW_TOO_LONG, Kt.gi_mk KX G ?g_MOST_WEIGHT, Kt.gi_mk KX G ?g_LAST_STITCH, Kt.gi_mk KX G ?g_MOST_BYTES, Kt.gi_mk KX G ?g_LAST_BYTE, Kt.gi_mk KX G ?g_MOST_COST, Kt.gi_mk KX G ?g_LISTED, PySem.W.mg_none_of KX G ?b_len, PySem.W.mg_none_of KX G ?b_range, PySem.W.mg_none_of KX G ?b_enumerate, PySem.W.mg_none_of KX G ?b_list, PySem.W.mg_none_of KX G ?b_reversed, PySem.W.mg_none_of KX G ?b_all, PySem.W.mg_none_of KX G ?b_max, PySem.W.mg_none_of KX G ?b_min, PySem.W.mg_none_of KX G ?b_set⟩ ⟨Kt.ref_mk KX G ?aD, Kt.cd_mk ?lD ?sD⟩ ⟨⟨?r1, ?r2, ?r3, ?r4⟩, Kt.na_mk ?fr_text, Kt.na_mk ?fr_place, Kt.na_mk ?fr_fault_kind, Kt.na_mk ?fr_fault_place, Kt.na_mk ?fr_levels, Kt.na_mk ?fr_depth, Kt.na_mk ?fr_letters, Kt.na_mk ?fr_numbers, Kt.na_mk ?fr_rounds, Kt.na_mk ?fr_others⟩ ⟨⟨?l1, ?l2, ?l3, ?l4⟩, Kt.na_mk ?fl_closing, Kt.na_mk ?fl_length, Kt.na_mk ?fl_stitches⟩ ⟨⟨?w1, ?w2, ?w3, ?w4⟩, Kt.na_mk ?fw_letter, Kt.na_mk ?fw_number, Kt.na_mk ?fw_brackets, Kt.na_mk ?fw_others⟩ ⟨⟨?p1, ?p2, ?p3, ?p4⟩, Kt.na_mk ?fp_row, Kt.na_mk ?fp_weights⟩
      (Kt.df_mk KX G ?a_is_letter ?l_is_letter ?c_is_letter ?k_is_letter) (Kt.df_mk KX G ?a_is_digit_at ?l_is_digit_at ?c_is_digit_at ?k_is_digit_at) (Kt.df_mk KX G ?a_digits_from ?l_digits_from ?c_digits_from ?k_digits_from) (Kt.df_mk KX G ?a_number_of ?l_number_of ?c_number_of ?k_number_of) (Kt.df_mk KX G ?a_has_period ?l_has_period ?c_has_period ?k_has_period) (Kt.df_mk KX G ?a_is_mirrored ?l_is_mirrored ?c_is_mirrored ?k_is_mirrored) (Kt.df_mk KX G ?a_first_half ?l_first_half ?c_first_half ?k_first_half) (Kt.df_mk KX G ?a_way_cost ?l_way_cost ?c_way_cost ?k_way_cost) (Kt.df_mk KX G ?a_first_least ?l_first_least ?c_first_least ?k_first_least) (Kt.df_mk KX G ?a_alike_ways ?l_alike_ways ?c_alike_ways ?k_alike_ways) (Kt.df_mk KX G ?a_mirror_ways ?l_mirror_ways ?c_mirror_ways ?k_mirror_ways) (Kt.df_mk KX G ?a_period_ways ?l_period_ways ?c_period_ways ?k_period_ways) (Kt.df_mk KX G ?a_split_ways ?l_split_ways ?c_split_ways ?k_split_ways) (Kt.df_mk KX G ?a_stretch_ways ?l_stretch_ways ?c_stretch_ways ?k_stretch_ways) (Kt.df_mk KX G ?a_best_ways ?l_best_ways ?c_best_ways ?k_best_ways) (Kt.df_mk KX G ?a_costs_of ?l_costs_of ?c_costs_of ?k_costs_of) (Kt.df_mk KX G ?a_flat_table ?l_flat_table ?c_flat_table ?k_flat_table) (Kt.df_mk KX G ?a_digits_of ?l_digits_of ?c_digits_of ?k_digits_of) (Kt.df_mk KX G ?a_stretch_count ?l_stretch_count ?c_stretch_count ?k_stretch_count) (Kt.df_mk KX G ?a_text_by_way ?l_text_by_way ?c_text_by_way ?k_text_by_way) (Kt.df_mk KX G ?a_told_text ?l_told_text ?c_told_text ?k_told_text) (Kt.df_mk KX G ?a_table_of ?l_table_of ?c_table_of ?k_table_of) (Kt.df_mk KX G ?a_is_right_table ?l_is_right_table ?c_is_right_table ?k_is_right_table) (Kt.cf_mk KX G ?n_Level_init ?mk_Level_init ?kc_Level_init ?a_Level_init ?i_Level_init ?l_Level_init ?c_Level_init) (Kt.mf_mk ⟨?l1, ?l2, ?l3, ?l4⟩ ?a_Level_take ?i_Level_take ?l_Level_take ?c_Level_take ?k_Level_take) (Kt.mf_mk ⟨?r1, ?r2, ?r3, ?r4⟩ ?a_Reading_is_right ?i_Reading_is_right ?l_Reading_is_right ?c_Reading_is_right ?k_Reading_is_right) (Kt.mf_mk ⟨?r1, ?r2, ?r3, ?r4⟩ ?a_Reading_fault ?i_Reading_fault ?l_Reading_fault ?c_Reading_fault ?k_Reading_fault) (Kt.mf_mk ⟨?r1, ?r2, ?r3, ?r4⟩ ?a_Reading_fail ?i_Reading_fail ?l_Reading_fail ?c_Reading_fail ?k_Reading_fail) (Kt.mf_mk ⟨?r1, ?r2, ?r3, ?r4⟩ ?a_Reading_take_number ?i_Reading_take_number ?l_Reading_take_number ?c_Reading_take_number ?k_Reading_take_number) (Kt.mf_mk ⟨?r1, ?r2, ?r3, ?r4⟩ ?a_Reading_take_letter ?i_Reading_take_letter ?l_Reading_take_letter ?c_Reading_take_letter ?k_Reading_take_letter) (Kt.mf_mk ⟨?r1, ?r2, ?r3, ?r4⟩ ?a_Reading_take_opening ?i_Reading_take_opening ?l_Reading_take_opening ?c_Reading_take_opening ?k_Reading_take_opening) (Kt.mf_mk ⟨?r1, ?r2, ?r3, ?r4⟩ ?a_Reading_take_repeat ?i_Reading_take_repeat ?l_Reading_take_repeat ?c_Reading_take_repeat ?k_Reading_take_repeat) (Kt.mf_mk ⟨?r1, ?r2, ?r3, ?r4⟩ ?a_Reading_take_mirrored ?i_Reading_take_mirrored ?l_Reading_take_mirrored ?c_Reading_take_mirrored ?k_Reading_take_mirrored) (Kt.mf_mk ⟨?r1, ?r2, ?r3, ?r4⟩ ?a_Reading_take_closing ?i_Reading_take_closing ?l_Reading_take_closing ?c_Reading_take_closing ?k_Reading_take_closing) (Kt.mf_mk ⟨?r1, ?r2, ?r3, ?r4⟩ ?a_Reading_take_end ?i_Reading_take_end ?l_Reading_take_end ?c_Reading_take_end ?k_Reading_take_end) (Kt.mf_mk ⟨?r1, ?r2, ?r3, ?r4⟩ ?a_Reading_take_byte ?i_Reading_take_byte ?l_Reading_take_byte ?c_Reading_take_byte ?k_Reading_take_byte) (Kt.cf_mk KX G ?n_Reading_init ?mk_Reading_init ?kc_Reading_init ?a_Reading_init ?i_Reading_init ?l_Reading_init ?c_Reading_init) (Kt.df_mk KX G ?a_read_text ?l_read_text ?c_read_text ?k_read_text) (Kt.df_mk KX G ?a_are_within ?l_are_within ?c_are_within ?k_are_within) (Kt.df_mk KX G ?a_is_text ?l_is_text ?c_is_text ?k_is_text) (Kt.mf_mk ⟨?r1, ?r2, ?r3, ?r4⟩ ?a_Reading_told ?i_Reading_told ?l_Reading_told ?c_Reading_told ?k_Reading_told) (Kt.mf_mk ⟨?r1, ?r2, ?r3, ?r4⟩ ?a_Reading_cost ?i_Reading_cost ?l_Reading_cost ?c_Reading_cost ?k_Reading_cost) (Kt.df_mk KX G ?a_runs_of ?l_runs_of ?c_runs_of ?k_runs_of) (Kt.df_mk KX G ?a_stretch_refusal ?l_stretch_refusal ?c_stretch_refusal ?k_stretch_refusal) (Kt.df_mk KX G ?a_table_refusal ?l_table_refusal ?c_table_refusal ?k_table_refusal) (Kt.cf_mk KX G ?n_Weights_init ?mk_Weights_init ?kc_Weights_init ?a_Weights_init ?i_Weights_init ?l_Weights_init ?c_Weights_init) (Kt.cf_mk KX G ?n_Pattern_init ?mk_Pattern_init ?kc_Pattern_init ?a_Pattern_init ?i_Pattern_init ?l_Pattern_init ?c_Pattern_init) (Kt.df_mk KX G ?a_call_weights ?l_call_weights ?c_call_weights ?k_call_weights) (Kt.df_mk KX G ?a_call_word ?l_call_word ?c_call_word ?k_call_word) (Kt.df_mk KX G ?a_call_tell ?l_call_tell ?c_call_tell ?k_call_tell) (Kt.df_mk KX G ?a_call_runs ?l_call_runs ?c_call_runs ?k_call_runs) (Kt.df_mk KX G ?a_call_read ?l_call_read ?c_call_read ?k_call_read) (Kt.df_mk KX G ?a_call_cost ?l_call_cost ?c_call_cost ?k_call_cost) (Kt.df_mk KX G ?a_call_shortest ?l_call_shortest ?c_call_shortest ?k_call_shortest) (Kt.df_mk KX G ?a_call_table ?l_call_table ?c_call_table ?k_call_table) (Kt.df_mk KX G ?a_call_stretch ?l_call_stretch ?c_call_stretch ?k_call_stretch) (Kt.df_mk KX G ?a_call_proves ?l_call_proves ?c_call_proves ?k_call_proves) (Kt.df_mk KX G ?a_call_ways ?l_call_ways ?c_call_ways ?k_call_ways) (Kt.df_mk KX G ?a_least_period ?l_least_period ?c_least_period ?k_least_period) (Kt.df_mk KX G ?a_longest_repeat ?l_longest_repeat ?c_longest_repeat ?k_longest_repeat) (Kt.df_mk KX G ?a_longest_mirrored ?l_longest_mirrored ?c_longest_mirrored ?k_longest_mirrored) (Kt.df_mk KX G ?a_swapped ?l_swapped ?c_swapped ?k_swapped) (Kt.df_mk KX G ?a_is_stitch ?l_is_stitch ?c_is_stitch ?k_is_stitch) (Kt.df_mk KX G ?a_place_refusal ?l_place_refusal ?c_place_refusal ?k_place_refusal) (Kt.df_mk KX G ?a_lengthening_refusal ?l_lengthening_refusal ?c_lengthening_refusal ?k_lengthening_refusal) (Kt.df_mk KX G ?a_insert_refusal ?l_insert_refusal ?c_insert_refusal ?k_insert_refusal) (Kt.df_mk KX G ?a_call_repeat ?l_call_repeat ?c_call_repeat ?k_call_repeat) (Kt.df_mk KX G ?a_call_mirrored ?l_call_mirrored ?c_call_mirrored ?k_call_mirrored) (Kt.df_mk KX G ?a_call_reverse ?l_call_reverse ?c_call_reverse ?k_call_reverse) (Kt.df_mk KX G ?a_call_double ?l_call_double ?c_call_double ?k_call_double) (Kt.df_mk KX G ?a_call_swap ?l_call_swap ?c_call_swap ?k_call_swap) (Kt.df_mk KX G ?a_call_sizes ?l_call_sizes ?c_call_sizes ?k_call_sizes) (Kt.df_mk KX G ?a_call_change ?l_call_change ?c_call_change ?k_call_change) (Kt.df_mk KX G ?a_call_insert ?l_call_insert ?c_call_insert ?k_call_insert) (Kt.df_mk KX G ?a_call_remove ?l_call_remove ?c_call_remove ?k_call_remove) (Kt.df_mk KX G ?a_call_unroll ?l_call_unroll ?c_call_unroll ?k_call_unroll) (Kt.df_mk KX G ?a_call_more ?l_call_more ?c_call_more ?k_call_more) (Kt.df_mk KX G ?a_answers ?l_answers ?c_answers ?k_answers)
      ?nC ?lC ?nG ?lG ?m0 ?m1 ?m2 ?m3 ?m4 ?m5 ?m6 ?m7 ?m8 ?m9 ?m10 ?m11 ?m12 ?m13 ?m14 ?m15 ?m16 ?m17 ?m18 ?m19 ?m20 ?m21
    (case n_Level_init => k_is)
    (case n_Reading_init => k_is)
    (case n_Weights_init => k_is)
    (case n_Pattern_init => k_is)
    (case aD => k_is)
    (case lD => k_is)
    (case nC => k_is)
    (case lC => k_is)
    (case nG => k_is)
    (case lG => k_is)
    (case r1 => k_is)
    (case r2 => k_is)
    (case r3 => k_is)
    (case r4 => k_is)
    (case l1 => k_is)
    (case l2 => k_is)
    (case l3 => k_is)
    (case l4 => k_is)
    (case w1 => k_is)
    (case w2 => k_is)
    (case w3 => k_is)
    (case w4 => k_is)
    (case p1 => k_is)
    (case p2 => k_is)
    (case p3 => k_is)
    (case p4 => k_is)
    (case fr_text => k_is)
    (case fr_place => k_is)
    (case fr_fault_kind => k_is)
    (case fr_fault_place => k_is)
    (case fr_levels => k_is)
    (case fr_depth => k_is)
    (case fr_letters => k_is)
    (case fr_numbers => k_is)
    (case fr_rounds => k_is)
    (case fr_others => k_is)
    (case fl_closing => k_is)
    (case fl_length => k_is)
    (case fl_stitches => k_is)
    (case fw_letter => k_is)
    (case fw_number => k_is)
    (case fw_brackets => k_is)
    (case fw_others => k_is)
    (case fp_row => k_is)
    (case fp_weights => k_is)
    (case g_MOST_STITCHES => k_is)
    (case g_MOST_BRACKETS => k_is)
    (case g_MOST_DIGITS => k_is)
    (case g_LEAST_NUMBER => k_is)
    (case g_LETTER_A => k_is)
    (case g_LETTER_Z => k_is)
    (case g_DIGIT_0 => k_is)
    (case g_DIGIT_9 => k_is)
    (case g_ROUND_OPENING => k_is)
    (case g_ROUND_CLOSING => k_is)
    (case g_ANGLE_OPENING => k_is)
    (case g_ANGLE_CLOSING => k_is)
    (case g_SQUARE_OPENING => k_is)
    (case g_SQUARE_CLOSING => k_is)
    (case g_NO_CLOSING => k_is)
    (case g_NO_FAULT => k_is)
    (case g_WRONG_BYTE => k_is)
    (case g_WRONG_NUMBER => k_is)
    (case g_TOO_LONG => k_is)
    (case g_TOO_DEEP => k_is)
    (case g_ALIKE => k_is)
    (case g_PERIOD => k_is)
    (case g_EVEN_MIRROR => k_is)
    (case g_ODD_MIRROR => k_is)
    (case g_SPLIT => k_is)
    (case g_DONE => k_is)
    (case g_OUT_OF_RANGE => k_is)
    (case g_ROW_IS_EMPTY => k_is)
    (case g_NO_SUCH_PLACE => k_is)
    (case g_WRONG_COUNT => k_is)
    (case g_ROW_TOO_LONG => k_is)
    (case g_MOST_WEIGHT => k_is)
    (case g_LAST_STITCH => k_is)
    (case g_MOST_BYTES => k_is)
    (case g_LAST_BYTE => k_is)
    (case g_MOST_COST => k_is)
    (case g_LISTED => k_is)
    (case b_len => k_is)
    (case b_range => k_is)
    (case b_enumerate => k_is)
    (case b_list => k_is)
    (case b_reversed => k_is)
    (case b_all => k_is)
    (case b_max => k_is)
    (case b_min => k_is)
    (case b_set => k_is)
    (case a_is_letter => k_is)
    (case l_is_letter => k_is)
    (case c_is_letter => k_is)
    (case k_is_letter => k_is)
    (case a_is_digit_at => k_is)
    (case l_is_digit_at => k_is)
    (case c_is_digit_at => k_is)
    (case k_is_digit_at => k_is)
    (case a_digits_from => k_is)
    (case l_digits_from => k_is)
    (case c_digits_from => k_is)
    (case k_digits_from => k_is)
    (case a_number_of => k_is)
    (case l_number_of => k_is)
    (case c_number_of => k_is)
    (case k_number_of => k_is)
    (case a_has_period => k_is)
    (case l_has_period => k_is)
    (case c_has_period => k_is)
    (case k_has_period => k_is)
    (case a_is_mirrored => k_is)
    (case l_is_mirrored => k_is)
    (case c_is_mirrored => k_is)
    (case k_is_mirrored => k_is)
    (case a_first_half => k_is)
    (case l_first_half => k_is)
    (case c_first_half => k_is)
    (case k_first_half => k_is)
    (case a_way_cost => k_is)
    (case l_way_cost => k_is)
    (case c_way_cost => k_is)
    (case k_way_cost => k_is)
    (case a_first_least => k_is)
    (case l_first_least => k_is)
    (case c_first_least => k_is)
    (case k_first_least => k_is)
    (case a_alike_ways => k_is)
    (case l_alike_ways => k_is)
    (case c_alike_ways => k_is)
    (case k_alike_ways => k_is)
    (case a_mirror_ways => k_is)
    (case l_mirror_ways => k_is)
    (case c_mirror_ways => k_is)
    (case k_mirror_ways => k_is)
    (case a_period_ways => k_is)
    (case l_period_ways => k_is)
    (case c_period_ways => k_is)
    (case k_period_ways => k_is)
    (case a_split_ways => k_is)
    (case l_split_ways => k_is)
    (case c_split_ways => k_is)
    (case k_split_ways => k_is)
    (case a_stretch_ways => k_is)
    (case l_stretch_ways => k_is)
    (case c_stretch_ways => k_is)
    (case k_stretch_ways => k_is)
    (case a_best_ways => k_is)
    (case l_best_ways => k_is)
    (case c_best_ways => k_is)
    (case k_best_ways => k_is)
    (case a_costs_of => k_is)
    (case l_costs_of => k_is)
    (case c_costs_of => k_is)
    (case k_costs_of => k_is)
    (case a_flat_table => k_is)
    (case l_flat_table => k_is)
    (case c_flat_table => k_is)
    (case k_flat_table => k_is)
    (case a_digits_of => k_is)
    (case l_digits_of => k_is)
    (case c_digits_of => k_is)
    (case k_digits_of => k_is)
    (case a_stretch_count => k_is)
    (case l_stretch_count => k_is)
    (case c_stretch_count => k_is)
    (case k_stretch_count => k_is)
    (case a_text_by_way => k_is)
    (case l_text_by_way => k_is)
    (case c_text_by_way => k_is)
    (case k_text_by_way => k_is)
    (case a_told_text => k_is)
    (case l_told_text => k_is)
    (case c_told_text => k_is)
    (case k_told_text => k_is)
    (case a_table_of => k_is)
    (case l_table_of => k_is)
    (case c_table_of => k_is)
    (case k_table_of => k_is)
    (case a_is_right_table => k_is)
    (case l_is_right_table => k_is)
    (case c_is_right_table => k_is)
    (case k_is_right_table => k_is)
    (case mk_Level_init => k_is)
    (case kc_Level_init => k_is)
    (case a_Level_init => k_is)
    (case i_Level_init => k_is)
    (case l_Level_init => k_is)
    (case c_Level_init => k_is)
    (case a_Level_take => k_is)
    (case i_Level_take => k_is)
    (case l_Level_take => k_is)
    (case c_Level_take => k_is)
    (case k_Level_take => k_is)
    (case a_Reading_is_right => k_is)
    (case i_Reading_is_right => k_is)
    (case l_Reading_is_right => k_is)
    (case c_Reading_is_right => k_is)
    (case k_Reading_is_right => k_is)
    (case a_Reading_fault => k_is)
    (case i_Reading_fault => k_is)
    (case l_Reading_fault => k_is)
    (case c_Reading_fault => k_is)
    (case k_Reading_fault => k_is)
    (case a_Reading_fail => k_is)
    (case i_Reading_fail => k_is)
    (case l_Reading_fail => k_is)
    (case c_Reading_fail => k_is)
    (case k_Reading_fail => k_is)
    (case a_Reading_take_number => k_is)
    (case i_Reading_take_number => k_is)
    (case l_Reading_take_number => k_is)
    (case c_Reading_take_number => k_is)
    (case k_Reading_take_number => k_is)
    (case a_Reading_take_letter => k_is)
    (case i_Reading_take_letter => k_is)
    (case l_Reading_take_letter => k_is)
    (case c_Reading_take_letter => k_is)
    (case k_Reading_take_letter => k_is)
    (case a_Reading_take_opening => k_is)
    (case i_Reading_take_opening => k_is)
    (case l_Reading_take_opening => k_is)
    (case c_Reading_take_opening => k_is)
    (case k_Reading_take_opening => k_is)
    (case a_Reading_take_repeat => k_is)
    (case i_Reading_take_repeat => k_is)
    (case l_Reading_take_repeat => k_is)
    (case c_Reading_take_repeat => k_is)
    (case k_Reading_take_repeat => k_is)
    (case a_Reading_take_mirrored => k_is)
    (case i_Reading_take_mirrored => k_is)
    (case l_Reading_take_mirrored => k_is)
    (case c_Reading_take_mirrored => k_is)
    (case k_Reading_take_mirrored => k_is)
    (case a_Reading_take_closing => k_is)
    (case i_Reading_take_closing => k_is)
    (case l_Reading_take_closing => k_is)
    (case c_Reading_take_closing => k_is)
    (case k_Reading_take_closing => k_is)
    (case a_Reading_take_end => k_is)
    (case i_Reading_take_end => k_is)
    (case l_Reading_take_end => k_is)
    (case c_Reading_take_end => k_is)
    (case k_Reading_take_end => k_is)
    (case a_Reading_take_byte => k_is)
    (case i_Reading_take_byte => k_is)
    (case l_Reading_take_byte => k_is)
    (case c_Reading_take_byte => k_is)
    (case k_Reading_take_byte => k_is)
    (case mk_Reading_init => k_is)
    (case kc_Reading_init => k_is)
    (case a_Reading_init => k_is)
    (case i_Reading_init => k_is)
    (case l_Reading_init => k_is)
    (case c_Reading_init => k_is)
    (case a_read_text => k_is)
    (case l_read_text => k_is)
    (case c_read_text => k_is)
    (case k_read_text => k_is)
    (case a_are_within => k_is)
    (case l_are_within => k_is)
    (case c_are_within => k_is)
    (case k_are_within => k_is)
    (case a_is_text => k_is)
    (case l_is_text => k_is)
    (case c_is_text => k_is)
    (case k_is_text => k_is)
    (case a_Reading_told => k_is)
    (case i_Reading_told => k_is)
    (case l_Reading_told => k_is)
    (case c_Reading_told => k_is)
    (case k_Reading_told => k_is)
    (case a_Reading_cost => k_is)
    (case i_Reading_cost => k_is)
    (case l_Reading_cost => k_is)
    (case c_Reading_cost => k_is)
    (case k_Reading_cost => k_is)
    (case a_runs_of => k_is)
    (case l_runs_of => k_is)
    (case c_runs_of => k_is)
    (case k_runs_of => k_is)
    (case a_stretch_refusal => k_is)
    (case l_stretch_refusal => k_is)
    (case c_stretch_refusal => k_is)
    (case k_stretch_refusal => k_is)
    (case a_table_refusal => k_is)
    (case l_table_refusal => k_is)
    (case c_table_refusal => k_is)
    (case k_table_refusal => k_is)
    (case mk_Weights_init => k_is)
    (case kc_Weights_init => k_is)
    (case a_Weights_init => k_is)
    (case i_Weights_init => k_is)
    (case l_Weights_init => k_is)
    (case c_Weights_init => k_is)
    (case mk_Pattern_init => k_is)
    (case kc_Pattern_init => k_is)
    (case a_Pattern_init => k_is)
    (case i_Pattern_init => k_is)
    (case l_Pattern_init => k_is)
    (case c_Pattern_init => k_is)
    (case a_call_weights => k_is)
    (case l_call_weights => k_is)
    (case c_call_weights => k_is)
    (case k_call_weights => k_is)
    (case a_call_word => k_is)
    (case l_call_word => k_is)
    (case c_call_word => k_is)
    (case k_call_word => k_is)
    (case a_call_tell => k_is)
    (case l_call_tell => k_is)
    (case c_call_tell => k_is)
    (case k_call_tell => k_is)
    (case a_call_runs => k_is)
    (case l_call_runs => k_is)
    (case c_call_runs => k_is)
    (case k_call_runs => k_is)
    (case a_call_read => k_is)
    (case l_call_read => k_is)
    (case c_call_read => k_is)
    (case k_call_read => k_is)
    (case a_call_cost => k_is)
    (case l_call_cost => k_is)
    (case c_call_cost => k_is)
    (case k_call_cost => k_is)
    (case a_call_shortest => k_is)
    (case l_call_shortest => k_is)
    (case c_call_shortest => k_is)
    (case k_call_shortest => k_is)
    (case a_call_table => k_is)
    (case l_call_table => k_is)
    (case c_call_table => k_is)
    (case k_call_table => k_is)
    (case a_call_stretch => k_is)
    (case l_call_stretch => k_is)
    (case c_call_stretch => k_is)
    (case k_call_stretch => k_is)
    (case a_call_proves => k_is)
    (case l_call_proves => k_is)
    (case c_call_proves => k_is)
    (case k_call_proves => k_is)
    (case a_call_ways => k_is)
    (case l_call_ways => k_is)
    (case c_call_ways => k_is)
    (case k_call_ways => k_is)
    (case a_least_period => k_is)
    (case l_least_period => k_is)
    (case c_least_period => k_is)
    (case k_least_period => k_is)
    (case a_longest_repeat => k_is)
    (case l_longest_repeat => k_is)
    (case c_longest_repeat => k_is)
    (case k_longest_repeat => k_is)
    (case a_longest_mirrored => k_is)
    (case l_longest_mirrored => k_is)
    (case c_longest_mirrored => k_is)
    (case k_longest_mirrored => k_is)
    (case a_swapped => k_is)
    (case l_swapped => k_is)
    (case c_swapped => k_is)
    (case k_swapped => k_is)
    (case a_is_stitch => k_is)
    (case l_is_stitch => k_is)
    (case c_is_stitch => k_is)
    (case k_is_stitch => k_is)
    (case a_place_refusal => k_is)
    (case l_place_refusal => k_is)
    (case c_place_refusal => k_is)
    (case k_place_refusal => k_is)
    (case a_lengthening_refusal => k_is)
    (case l_lengthening_refusal => k_is)
    (case c_lengthening_refusal => k_is)
    (case k_lengthening_refusal => k_is)
    (case a_insert_refusal => k_is)
    (case l_insert_refusal => k_is)
    (case c_insert_refusal => k_is)
    (case k_insert_refusal => k_is)
    (case a_call_repeat => k_is)
    (case l_call_repeat => k_is)
    (case c_call_repeat => k_is)
    (case k_call_repeat => k_is)
    (case a_call_mirrored => k_is)
    (case l_call_mirrored => k_is)
    (case c_call_mirrored => k_is)
    (case k_call_mirrored => k_is)
    (case a_call_reverse => k_is)
    (case l_call_reverse => k_is)
    (case c_call_reverse => k_is)
    (case k_call_reverse => k_is)
    (case a_call_double => k_is)
    (case l_call_double => k_is)
    (case c_call_double => k_is)
    (case k_call_double => k_is)
    (case a_call_swap => k_is)
    (case l_call_swap => k_is)
    (case c_call_swap => k_is)
    (case k_call_swap => k_is)
    (case a_call_sizes => k_is)
    (case l_call_sizes => k_is)
    (case c_call_sizes => k_is)
    (case k_call_sizes => k_is)
    (case a_call_change => k_is)
    (case l_call_change => k_is)
    (case c_call_change => k_is)
    (case k_call_change => k_is)
    (case a_call_insert => k_is)
    (case l_call_insert => k_is)
    (case c_call_insert => k_is)
    (case k_call_insert => k_is)
    (case a_call_remove => k_is)
    (case l_call_remove => k_is)
    (case c_call_remove => k_is)
    (case k_call_remove => k_is)
    (case a_call_unroll => k_is)
    (case l_call_unroll => k_is)
    (case c_call_unroll => k_is)
    (case k_call_unroll => k_is)
    (case a_call_more => k_is)
    (case l_call_more => k_is)
    (case c_call_more => k_is)
    (case k_call_more => k_is)
    (case a_answers => k_is)
    (case l_answers => k_is)
    (case c_answers => k_is)
    (case k_answers => k_is)
    (case m0 => k_is)
    (case m1 => k_is)
    (case m2 => k_is)
    (case m3 => k_is)
    (case m4 => k_is)
    (case m5 => k_is)
    (case m6 => k_is)
    (case m7 => k_is)
    (case m8 => k_is)
    (case m9 => k_is)
    (case m10 => k_is)
    (case m11 => k_is)
    (case m12 => k_is)
    (case m13 => k_is)
    (case m14 => k_is)
    (case m15 => k_is)
    (case m16 => k_is)
    (case m17 => k_is)
    (case m18 => k_is)
    (case m19 => k_is)
    (case m20 => k_is)
    (case m21 => k_is)
    (case sD => rfl)
  case S =>
    intro K H xs a hO hwi hask hx
    exact Kt.asked_in a hask hx
