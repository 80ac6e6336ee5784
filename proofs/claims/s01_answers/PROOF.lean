import PyProof.Rows.All
import Wide.All
import OpenK.AllK
import Wide.FinOn
import PyProof.EqAt
import PyProof.EqKinds
import PyProof.TupleCall
import KE.BitLaws
import Open.SpecLaws
import KE.OsHead
import KE.OsGo
import PyProof.TupleKey
import PyProof.DictRoadsH
import PyProof.CompMap
import KE.KRevIter
import PyProof.Rows.Tup
import PyProof.Rows.TupMore
import PyProof.Rows.Range3
import KE.KDictLaws
import PyProof.Rows.SortRev
import KE.KDictSum
import PyProof.Rows.SetFrom
import PyProof.SetRoads
import PySem.Challenge.RW_onesuit_s01_answers
set_option Elab.async false
set_option linter.all false
namespace Mt
open Vbbrak
abbrev Fall (l : List Nat) : Prop := l.Pairwise (· > ·)
theorem mem_putDown {x a : Nat} : ∀ {l : List Nat}, x ∈ putDown a l ↔ x = a ∨ x ∈ l
  | [] => by simp [putDown]
  | b :: r => by
    unfold putDown
    by_cases h : b < a
    · rw [if_pos h]; simp
    · rw [if_neg h]
      by_cases e : a = b
      · rw [if_pos e]; subst e; simp
      · rw [if_neg e, List.mem_cons, mem_putDown (l := r), List.mem_cons]
        constructor
        · rintro (h | h | h)
          · exact .inr (.inl h)
          · exact .inl h
          · exact .inr (.inr h)
        · rintro (h | h | h)
          · exact .inr (.inl h)
          · exact .inl h
          · exact .inr (.inr h)
theorem fall_putDown {a : Nat} : ∀ {l : List Nat}, Fall l → Fall (putDown a l)
  | [], _ => by simp [putDown, Fall]
  | b :: r, hf => by
    unfold putDown
    have h1 := (List.pairwise_cons.mp hf).1
    have h2 := (List.pairwise_cons.mp hf).2
    by_cases h : b < a
    · rw [if_pos h]
      refine List.pairwise_cons.mpr ⟨fun y hy => ?_, hf⟩
      rcases List.mem_cons.mp hy with rfl | hy
      · exact h
      · have := h1 y hy; show a > y; omega
    · rw [if_neg h]
      by_cases e : a = b
      · rw [if_pos e]; exact hf
      · rw [if_neg e]
        refine List.pairwise_cons.mpr ⟨fun y hy => ?_, fall_putDown h2⟩
        rcases mem_putDown.mp hy with rfl | hy
        · show b > y; omega
        · exact h1 y hy
theorem mem_falling {x : Nat} : ∀ {l : List Nat}, x ∈ falling l ↔ x ∈ l
  | [] => by simp [falling]
  | a :: r => by
    show x ∈ putDown a (falling r) ↔ _
    rw [mem_putDown, mem_falling (l := r), List.mem_cons]
theorem fall_falling : ∀ (l : List Nat), Fall (falling l)
  | [] => List.Pairwise.nil
  | a :: r => fall_putDown (fall_falling r)
theorem Fall.nodup {l : List Nat} (h : Fall l) : l.Nodup := h.imp (fun {a b} h => by omega)
theorem falling_perm {l : List Nat} (h : l.Nodup) : (falling l).Perm l :=
  (List.perm_ext_iff_of_nodup (fall_falling l).nodup h).mpr fun _ => mem_falling
theorem falling_unique {l ns : List Nat} (h : l.Nodup) (hp : ns.Perm l) (hs : ns.Pairwise (· ≥ ·)) : ns = falling l := by
  refine List.Perm.eq_of_pairwise (le := (· ≥ ·)) (fun a b _ _ h1 h2 => Nat.le_antisymm h2 h1) hs ((fall_falling l).imp fun {a b} h => Nat.le_of_lt h) (hp.trans (falling_perm h).symm)
theorem falling_of_fall {l : List Nat} (h : Fall l) : falling l = l :=
  (falling_unique h.nodup (List.Perm.refl l) (h.imp fun {a b} h => Nat.le_of_lt h)).symm
theorem falling_length {l : List Nat} (h : l.Nodup) : (falling l).length = l.length := (falling_perm h).length_eq
theorem Fall.filter {l : List Nat} (p : Nat → Bool) (h : Fall l) : Fall (l.filter p) := List.Pairwise.filter p h
theorem lowest_cons2 (a b : Nat) (r : List Nat) : lowest (a :: b :: r) = min a (lowest (b :: r)) := rfl
theorem lowest_snoc : ∀ {l : List Nat} {c : Nat}, Fall (l ++ [c]) → lowest (l ++ [c]) = c
  | [], c, _ => rfl
  | a :: l, c, h => by
    have h' := (List.pairwise_cons.mp (show ((a :: (l ++ [c])).Pairwise (· > ·)) from h))
    have ih := lowest_snoc (l := l) (c := c) h'.2
    have hac : a > c := h'.1 c (by simp)
    show lowest (a :: (l ++ [c])) = c
    cases e : l ++ [c] with
    | nil => simp at e
    | cons b r =>
      rw [lowest_cons2, ← e, ih]
      omega
def lowAbove (h : List Nat) (x : Nat) : Nat := (h.reverse.find? fun c => decide (x < c)).getD (lowest h)
theorem above_rev (x : Nat) : ∀ (r : List Nat), Fall r.reverse → above r.reverse x = (r.find? fun c => decide (x < c)).getD 0
  | [], _ => rfl
  | c :: r, h => by
    rw [List.reverse_cons] at h ⊢
    have h' := List.pairwise_append.mp h
    have ih := above_rev x r h'.1
    unfold above at ih ⊢
    rw [List.filter_append, List.find?_cons]
    by_cases hx : x < c
    · have e : ([c] : List Nat).filter (fun d => decide (x < d)) = [c] := by simp [hx]
      rw [e, decide_eq_true hx]
      have hf : Fall (r.reverse.filter (fun d => decide (x < d)) ++ [c]) := by
        refine List.pairwise_append.mpr ⟨h'.1.filter _, List.pairwise_singleton _ _, fun a ha b hb => h'.2.2 a ((List.mem_filter.mp ha).1) b hb⟩
      exact lowest_snoc hf
    · have e : ([c] : List Nat).filter (fun d => decide (x < d)) = [] := by simp [hx]
      rw [e, List.append_nil, decide_eq_false hx]
      exact ih
theorem above_eq {h : List Nat} (x : Nat) (hf : Fall h) : above h x = (h.reverse.find? fun c => decide (x < c)).getD 0 := by
  have := above_rev x h.reverse (by rw [List.reverse_reverse]; exact hf)
  rw [List.reverse_reverse] at this
  exact this
theorem pick_eq {h : List Nat} (x : Nat) (hf : Fall h) : (if above h x ≠ 0 then above h x else lowest h) = lowAbove h x := by
  rw [above_eq x hf]
  unfold lowAbove
  cases e : h.reverse.find? fun c => decide (x < c) with
  | none => simp
  | some c =>
    have hc : x < c := by simpa using List.find?_some e
    have : c ≠ 0 := by omega
    simp [this]
theorem second_eq {h : List Nat} (cover : Bool) (x : Nat) (hf : Fall h) : second cover h x = if cover = true ∧ 10 ≤ x then lowAbove h x else lowest h := by
  unfold second
  rw [← pick_eq x hf]
  by_cases h1 : cover = true ∧ 10 ≤ x
  · rw [if_pos h1]
    by_cases h2 : above h x ≠ 0
    · rw [if_pos ⟨h1.1, h1.2, h2⟩, if_pos h2]
    · rw [if_neg (fun q => h2 q.2.2), if_neg h2]
  · rw [if_neg h1, if_neg (fun q => h1 ⟨q.1, q.2.1⟩)]
theorem last_eq {h : List Nat} (x y z : Nat) (hf : Fall h) : last h x y z = if max x z < y then lowest h else lowAbove h (max x z) := by
  unfold last
  rw [pick_eq _ hf]
theorem second_nil (cover : Bool) (x : Nat) : second cover [] x = 0 := by
  unfold second above
  simp [lowest]
theorem last_nil (x y z : Nat) : last [] x y z = 0 := by
  unfold last above
  simp [lowest]
def firsts (f : Split → Nat) (l : List Split) : List Nat := l.foldl (fun acc s => if f s ∈ acc then acc else acc ++ [f s]) []
theorem firsts_snoc (f : Split → Nat) (l : List Split) (s : Split) : firsts f (l ++ [s]) = if f s ∈ firsts f l then firsts f l else firsts f l ++ [f s] := by
  unfold firsts
  rw [List.foldl_append]
  rfl
theorem snoc_ind {α : Type} {P : List α → Prop} (h0 : P []) (h1 : ∀ l a, P l → P (l ++ [a])) : ∀ l, P l := by
  have : ∀ r : List α, P r.reverse := by
    intro r
    induction r with
    | nil => exact h0
    | cons a r ih => rw [List.reverse_cons]; exact h1 _ _ ih
  intro l
  have := this l.reverse
  rwa [List.reverse_reverse] at this
theorem mem_firsts (f : Split → Nat) {c : Nat} : ∀ (l : List Split), c ∈ firsts f l ↔ ∃ s ∈ l, f s = c := by
  refine snoc_ind (by simp [firsts]) fun l s ih => ?_
  rw [firsts_snoc]
  by_cases h : f s ∈ firsts f l
  · rw [if_pos h, ih]
    constructor
    · rintro ⟨t, ht, e⟩; exact ⟨t, by simp [ht], e⟩
    · rintro ⟨t, ht, e⟩
      rcases List.mem_append.mp ht with ht | ht
      · exact ⟨t, ht, e⟩
      · have : t = s := by simpa using ht
        subst this; subst e
        exact ih.mp h
  · rw [if_neg h, List.mem_append, ih]
    constructor
    · rintro (⟨t, ht, e⟩ | e)
      · exact ⟨t, by simp [ht], e⟩
      · exact ⟨s, by simp, (List.mem_singleton.mp e).symm⟩
    · rintro ⟨t, ht, e⟩
      rcases List.mem_append.mp ht with ht | ht
      · exact .inl ⟨t, ht, e⟩
      · have : t = s := by simpa using ht
        subst this
        exact .inr (by simp [e])
theorem nodup_firsts (f : Split → Nat) : ∀ (l : List Split), (firsts f l).Nodup := by
  refine snoc_ind (by simp [firsts]) fun l s ih => ?_
  rw [firsts_snoc]
  by_cases h : f s ∈ firsts f l
  · rw [if_pos h]; exact ih
  · rw [if_neg h]
    refine List.nodup_append.mpr ⟨ih, by simp, fun a ha b hb => ?_⟩
    have : b = f s := by simpa using hb
    subst this
    rintro rfl
    exact h ha
theorem firsts_perm (f : Split → Nat) (l : List Split) : (firsts f l).Perm (seen f l) :=
  (List.perm_ext_iff_of_nodup (nodup_firsts f l) (fall_falling _).nodup).mpr fun c => by
    show c ∈ firsts f l ↔ c ∈ falling (l.map f)
    rw [mem_firsts, mem_falling, List.mem_map]
theorem falling_firsts (f : Split → Nat) (l : List Split) : falling (firsts f l) = seen f l :=
  (falling_unique (nodup_firsts f l) (firsts_perm f l).symm ((fall_falling _).imp fun {a b} h => Nat.le_of_lt h)).symm
theorem sum_perm {l₁ l₂ : List Nat} (h : l₁.Perm l₂) : sum l₁ = sum l₂ := by
  unfold sum
  induction h with
  | nil => rfl
  | cons a _ ih => simp [ih]
  | swap a b l => simp; omega
  | trans _ _ h1 h2 => rw [h1, h2]
theorem sum_seen (f : Split → Nat) (l : List Split) (g : Nat → Nat) : sum ((seen f l).map g) = sum ((firsts f l).map g) :=
  sum_perm ((firsts_perm f l).symm.map g)
theorem sum_cons (a : Nat) (l : List Nat) : sum (a :: l) = a + sum l := rfl
theorem sum_append : ∀ (l m : List Nat), sum (l ++ m) = sum l + sum m
  | [], m => by simp [sum]
  | a :: l, m => by rw [List.cons_append, sum_cons, sum_append l m, sum_cons]; omega
theorem with_snoc (f : Split → Nat) (l : List Split) (s : Split) (c : Nat) : with_ f (l ++ [s]) c = with_ f l c ++ (if f s = c then [s] else []) := by
  unfold with_
  rw [List.filter_append]
  by_cases h : f s = c
  · simp [h]
  · simp [h]
theorem with_nil_of (f : Split → Nat) (l : List Split) (c : Nat) (h : c ∉ firsts f l) : with_ f l c = [] := by
  unfold with_
  rw [List.filter_eq_nil_iff]
  intro s hs e
  exact h ((mem_firsts f l).mpr ⟨s, hs, by simpa using e⟩)
theorem with_ne_nil (f : Split → Nat) (l : List Split) (c : Nat) (h : c ∈ firsts f l) : with_ f l c ≠ [] := by
  obtain ⟨s, hs, e⟩ := (mem_firsts f l).mp h
  intro q
  have : s ∈ with_ f l c := List.mem_filter.mpr ⟨hs, by simpa using e⟩
  rw [q] at this; cases this
def groups (f : Split → Nat) (l : List Split) : List (Nat × List Split) := (firsts f l).map fun c => (c, with_ f l c)
theorem sum_len_with (f : Split → Nat) : ∀ (l : List Split) (ks : List Nat), ks.Nodup → (∀ s ∈ l, f s ∈ ks) → sum (ks.map fun c => (with_ f l c).length) = l.length
  | [], ks, _, _ => by
    have : ∀ ks : List Nat, sum (ks.map fun c => (with_ f [] c).length) = 0 := by
      intro ks
      induction ks with
      | nil => rfl
      | cons a r ih => rw [List.map_cons, sum_cons, ih]; rfl
    exact this ks
  | s :: l, ks, hn, hk => by
    have ih := sum_len_with f l ks hn fun t ht => hk t (by simp [ht])
    have key : ∀ ks : List Nat, ks.Nodup → sum (ks.map fun c => (with_ f (s :: l) c).length) = sum (ks.map fun c => (with_ f l c).length) + (if f s ∈ ks then 1 else 0) := by
      intro ks
      induction ks with
      | nil => intro _; rfl
      | cons a r ih =>
        intro hn
        have hn' := List.nodup_cons.mp hn
        rw [List.map_cons, List.map_cons, sum_cons, sum_cons, ih hn'.2]
        have e : with_ f (s :: l) a = (if f s = a then [s] else []) ++ with_ f l a := by
          unfold with_
          rw [List.filter_cons]
          by_cases h : f s = a
          · simp [h]
          · simp [h]
        rw [e, List.length_append]
        by_cases h : f s = a
        · have : f s ∉ r := fun q => hn'.1 (h ▸ q)
          simp [h]
          subst h
          simp [hn'.1]
          omega
        · have e2 : (f s ∈ a :: r) ↔ f s ∈ r := by simp [h]
          simp [h]
          omega
    rw [key ks hn, ih, if_pos (hk s (by simp))]
    simp
theorem without_le (h : List Nat) (c : Nat) : (without h c).length ≤ h.length := List.length_filter_le _ _
theorem without_lt {h : List Nat} {c : Nat} (hc : c ∈ h) : (without h c).length < h.length := by
  unfold without
  induction h with
  | nil => cases hc
  | cons a r ih =>
    rw [List.filter_cons]
    by_cases e : a = c
    · subst e
      have := List.length_filter_le (fun x => x != a) r
      simp
      omega
    · have hc' : c ∈ r := by
        rcases List.mem_cons.mp hc with q | q
        · exact absurd q.symm e
        · exact q
      have := ih hc'
      simp [e]
      omega
def leftA (a : Cards) (x z : Nat) : Cards := without (without a x) z
theorem left_lt {a b : Cards} {hand x z : Nat} (hx : x ∈ handOf hand a b) (hh : hand = 0 ∨ hand = 1) (hz : z ∈ choices (handOf (1 - hand) a b)) :
    tricksLeft (leftA a x z) (leftA b x z) < tricksLeft a b := by
  unfold tricksLeft leftA
  have h1 := without_le (without a x) z
  have h2 := without_le (without b x) z
  have h3 := without_le a x
  have h4 := without_le b x
  have mem_w : ∀ {h : List Nat} {c d : Nat}, d ∈ h → d ≠ c → d ∈ without h c := fun {h c d} hd hne => List.mem_filter.mpr ⟨hd, by simpa using hne⟩
  rcases hh with rfl | rfl
  · have hx' : x ∈ a := hx
    have h5 := without_lt hx'
    have hz' : z ∈ choices b := hz
    by_cases hb : b = []
    · subst hb
      have : (without (without ([] : List Nat) x) z).length = 0 := rfl
      rw [this]; simp; omega
    · have hzb : z ∈ b := by
        cases b with
        | nil => exact absurd rfl hb
        | cons c r => exact hz'
      have h6 : (without (without b x) z).length < b.length := by
        by_cases e : z = x
        · subst e; have := without_lt hzb; omega
        · have := without_lt (mem_w hzb e); omega
      omega
  · have hx' : x ∈ b := hx
    have h5 := without_lt hx'
    have hz' : z ∈ choices a := hz
    by_cases ha : a = []
    · subst ha
      have : (without (without ([] : List Nat) x) z).length = 0 := rfl
      rw [this]; simp; omega
    · have hza : z ∈ a := by
        cases a with
        | nil => exact absurd rfl ha
        | cons c r => exact hz'
      have h6 : (without (without a x) z).length < a.length := by
        by_cases e : z = x
        · subst e; have := without_lt hza; omega
        · have := without_lt (mem_w hza e); omega
      omega
theorem mem_leads {a b : Cards} {d : Nat × Nat} (h : d ∈ leads a b) : (d.1 = 0 ∨ d.1 = 1) ∧ d.2 ∈ handOf d.1 a b := by
  unfold leads at h
  rcases List.mem_append.mp h with h | h
  · obtain ⟨c, hc, rfl⟩ := List.mem_map.mp h
    exact ⟨.inl rfl, hc⟩
  · obtain ⟨c, hc, rfl⟩ := List.mem_map.mp h
    exact ⟨.inr rfl, hc⟩
theorem best_zero (cover : Bool) (fuel : Nat) (a b : Cards) (l : List Split) : best cover fuel a b l 0 = weight l := by
  cases fuel <;> simp [best]
def gThird (B : Cards → Cards → List Split → Nat → Nat) (cover : Bool) (a b : Cards) (l : List Split) (need hand x y z : Nat) : Nat :=
  sum ((seen (fun s => last (across hand s) x y z) l).map fun t => B (leftA a x z) (leftA b x z) ((with_ (fun s => last (across hand s) x y z) l t).map fun s => gone s y t) (need - ours x y z t))
def gSecond (B : Cards → Cards → List Split → Nat → Nat) (cover : Bool) (a b : Cards) (l : List Split) (need hand x y : Nat) : Nat :=
  greatest ((choices (handOf (1 - hand) a b)).map fun z => gThird B cover a b l need hand x y z)
def gLead (B : Cards → Cards → List Split → Nat → Nat) (cover : Bool) (a b : Cards) (l : List Split) (need hand x : Nat) : Nat :=
  sum ((seen (fun s => second cover (behind hand s) x) l).map fun y => gSecond B cover a b (with_ (fun s => second cover (behind hand s) x) l y) need hand x y)
theorem best_succ (cover : Bool) (k : Nat) (a b : Cards) (l : List Split) (need : Nat) (hn : need ≠ 0) :
    best cover (k + 1) a b l need = greatest ((leads a b).map fun d => gLead (best cover k) cover a b l need d.1 d.2) := by
  rw [best, if_neg hn]
  by_cases h : a = [] ∧ b = []
  · rw [if_pos h, h.1, h.2]; rfl
  · rw [if_neg h]; rfl
theorem map_congr' {α β : Type} {f g : α → β} {l : List α} (h : ∀ x ∈ l, f x = g x) : l.map f = l.map g := List.map_congr_left h
theorem gLead_congr {B B' : Cards → Cards → List Split → Nat → Nat} {cover : Bool} {a b : Cards} {l : List Split} {need hand x : Nat}
    (h : ∀ z l' n, z ∈ choices (handOf (1 - hand) a b) → B (leftA a x z) (leftA b x z) l' n = B' (leftA a x z) (leftA b x z) l' n) : gLead B cover a b l need hand x = gLead B' cover a b l need hand x := by
  unfold gLead gSecond gThird
  congr 1
  refine map_congr' fun y _ => ?_
  congr 1
  refine map_congr' fun z hz => ?_
  congr 1
  exact map_congr' fun t _ => h z _ _ hz
theorem best_fuel (cover : Bool) : ∀ (k j : Nat) (a b : Cards) (l : List Split) (need : Nat), tricksLeft a b ≤ k → tricksLeft a b ≤ j → best cover k a b l need = best cover j a b l need
  | k, j, a, b, l, need, hk, hj => by
    by_cases hn : need = 0
    · subst hn; rw [best_zero, best_zero]
    · cases k with
      | zero =>
        have h0 : a = [] ∧ b = [] := by
          unfold tricksLeft at hk
          constructor
          · exact List.length_eq_zero_iff.mp (by omega)
          · exact List.length_eq_zero_iff.mp (by omega)
        obtain ⟨rfl, rfl⟩ := h0
        cases j with
        | zero => rfl
        | succ j => rw [best_succ _ _ _ _ _ _ hn]; simp [best, hn, leads, greatest]
      | succ k =>
        cases j with
        | zero =>
          have h0 : a = [] ∧ b = [] := by
            unfold tricksLeft at hj
            constructor
            · exact List.length_eq_zero_iff.mp (by omega)
            · exact List.length_eq_zero_iff.mp (by omega)
          obtain ⟨rfl, rfl⟩ := h0
          rw [best_succ _ _ _ _ _ _ hn]; simp [best, hn, leads, greatest]
        | succ j =>
          rw [best_succ _ _ _ _ _ _ hn, best_succ _ _ _ _ _ _ hn]
          congr 1
          refine map_congr' fun d hd => ?_
          obtain ⟨hh, hx⟩ := mem_leads hd
          refine gLead_congr fun z l' n hz => ?_
          have := left_lt hx hh hz
          exact best_fuel cover k j _ _ _ _ (by omega) (by omega)
def bst (cover : Bool) (a b : Cards) (l : List Split) (need : Nat) : Nat := best cover (tricksLeft a b) a b l need
theorem bst_zero (cover : Bool) (a b : Cards) (l : List Split) : bst cover a b l 0 = weight l := best_zero _ _ _ _ _
theorem bst_eq (cover : Bool) (a b : Cards) (l : List Split) (need : Nat) (hn : need ≠ 0) : bst cover a b l need = greatest ((leads a b).map fun d => gLead (bst cover) cover a b l need d.1 d.2) := by
  unfold bst
  rw [best_fuel cover (tricksLeft a b) (tricksLeft a b + 1) a b l need (Nat.le_refl _) (Nat.le_succ _), best_succ _ _ _ _ _ _ hn]
  congr 1
  refine map_congr' fun d hd => ?_
  obtain ⟨hh, hx⟩ := mem_leads hd
  refine gLead_congr fun z l' n hz => ?_
  have := left_lt hx hh hz
  exact best_fuel cover _ _ _ _ _ _ (by omega) (Nat.le_refl _)
theorem greatest_zero : ∀ (l : List Nat), (∀ x ∈ l, x = 0) → greatest l = 0
  | [], _ => rfl
  | a :: r, h => by
    have := greatest_zero r fun x hx => h x (by simp [hx])
    unfold greatest at this ⊢
    rw [List.foldr_cons, this, h a (by simp)]
    rfl
theorem sum_zero : ∀ (l : List Nat), (∀ x ∈ l, x = 0) → sum l = 0
  | [], _ => rfl
  | a :: r, h => by rw [sum_cons, sum_zero r fun x hx => h x (by simp [hx]), h a (by simp)]
theorem ours_le (x y z t : Nat) : ours x y z t ≤ 1 := by unfold ours; split <;> omega
theorem bst_big (cover : Bool) : ∀ (n : Nat) (a b : Cards) (l : List Split) (need : Nat), tricksLeft a b ≤ n → tricksLeft a b < need → bst cover a b l need = 0 := by
  intro n
  induction n with
  | zero =>
    intro a b l need h1 h2
    rw [bst_eq _ _ _ _ _ (by omega)]
    have h0 : a = [] ∧ b = [] := by
      unfold tricksLeft at h1
      exact ⟨List.length_eq_zero_iff.mp (by omega), List.length_eq_zero_iff.mp (by omega)⟩
    obtain ⟨rfl, rfl⟩ := h0
    rfl
  | succ n ih =>
    intro a b l need h1 h2
    rw [bst_eq _ _ _ _ _ (by omega)]
    refine greatest_zero _ fun v hv => ?_
    obtain ⟨d, hd, rfl⟩ := List.mem_map.mp hv
    obtain ⟨hh, hx⟩ := mem_leads hd
    unfold gLead
    refine sum_zero _ fun v hv => ?_
    obtain ⟨y, _, rfl⟩ := List.mem_map.mp hv
    unfold gSecond
    refine greatest_zero _ fun v hv => ?_
    obtain ⟨z, hz, rfl⟩ := List.mem_map.mp hv
    unfold gThird
    refine sum_zero _ fun v hv => ?_
    obtain ⟨t, _, rfl⟩ := List.mem_map.mp hv
    have := left_lt hx hh hz
    have := ours_le d.2 y z t
    exact ih _ _ _ _ (by omega) (by omega)
theorem oddsLast_eq (s : State) : oddsLast s = gThird (bst s.cover) s.cover s.a s.b s.ways s.need s.hand s.x s.y s.z := rfl
theorem oddsThird_eq (s : State) (z : Nat) : oddsThird s z = gThird (bst s.cover) s.cover s.a s.b s.ways s.need s.hand s.x s.y z := rfl
theorem oddsMate_eq (s : State) : oddsMate s = gSecond (bst s.cover) s.cover s.a s.b s.ways s.need s.hand s.x s.y := rfl
theorem oddsSecond_eq (s : State) : oddsSecond s = gLead (bst s.cover) s.cover s.a s.b s.ways s.need s.hand s.x := rfl
theorem oddsLead_eq (s : State) (d : Nat × Nat) : oddsLead s d = gLead (bst s.cover) s.cover s.a s.b s.ways s.need d.1 d.2 := rfl
end Mt
namespace Mt
open Vbbrak
def C : Nat → Nat → Nat
  | _, 0 => 1
  | 0, _ + 1 => 0
  | n + 1, k + 1 => C n k + C n (k + 1)
theorem C_zero (n : Nat) : C n 0 = 1 := by cases n <;> rfl
theorem C_big : ∀ (n k : Nat), n < k → C n k = 0
  | 0, k + 1, _ => rfl
  | n + 1, k + 1, h => by
    show C n k + C n (k + 1) = 0
    rw [C_big n k (by omega), C_big n (k + 1) (by omega)]
theorem C_next : ∀ (n k : Nat), k ≤ n → C n (k + 1) * (k + 1) = C n k * (n - k)
  | 0, k, h => by
    have : k = 0 := by omega
    subst this; rfl
  | n + 1, 0, _ => by
    show (C n 0 + C n 1) * 1 = C (n + 1) 0 * (n + 1)
    have ih := C_next n 0 (Nat.zero_le _)
    rw [C_zero, Nat.sub_zero] at ih
    rw [C_zero, C_zero]
    have e : C n (0 + 1) = C n 1 := rfl
    rw [e] at ih
    omega
  | n + 1, k + 1, h => by
    show (C n (k + 1) + C n (k + 2)) * (k + 2) = (C n k + C n (k + 1)) * (n + 1 - (k + 1))
    have i1 := C_next n k (by omega)
    rw [show n + 1 - (k + 1) = n - k by omega]
    by_cases hk : k + 1 ≤ n
    · have i2 : C n (k + 2) * (k + 2) = C n (k + 1) * (n - (k + 1)) := C_next n (k + 1) hk
      rw [Nat.add_mul, Nat.add_mul, i2, ← i1]
      have e : n - k = (n - (k + 1)) + 1 := by omega
      rw [e]
      generalize C n (k + 1) = x
      generalize n - (k + 1) = y
      rw [Nat.mul_add x k 2, Nat.mul_add x k 1, Nat.mul_add x y 1]
      omega
    · have e1 : k = n := by omega
      subst e1
      rw [C_big k (k + 1) (by omega), C_big k (k + 2) (by omega)]
      simp
theorem fact_pos : ∀ n, 0 < fact n
  | 0 => Nat.one_pos
  | n + 1 => by
    show 0 < (n + 1) * fact n
    exact Nat.mul_pos (Nat.succ_pos _) (fact_pos n)
theorem C_fact : ∀ (k n : Nat), k ≤ n → C n k * (fact k * fact (n - k)) = fact n
  | 0, n, _ => by
    rw [C_zero, Nat.sub_zero]
    show 1 * (1 * fact n) = fact n
    rw [Nat.one_mul, Nat.one_mul]
  | k + 1, n, h => by
    have ih := C_fact k n (by omega)
    have nx := C_next n k (by omega)
    have e : n - k = (n - (k + 1)) + 1 := by omega
    rw [e] at ih nx
    have e2 : fact (n - (k + 1) + 1) = (n - (k + 1) + 1) * fact (n - (k + 1)) := rfl
    rw [e2] at ih
    show C n (k + 1) * ((k + 1) * fact k * fact (n - (k + 1))) = fact n
    rw [← ih]
    generalize n - (k + 1) = y at *
    calc C n (k + 1) * ((k + 1) * fact k * fact y) = (C n (k + 1) * (k + 1)) * (fact k * fact y) := by
          simp only [Nat.mul_assoc, Nat.mul_comm, Nat.mul_left_comm]
      _ = (C n k * (y + 1)) * (fact k * fact y) := by rw [nx]
      _ = C n k * (fact k * ((y + 1) * fact y)) := by simp only [Nat.mul_assoc, Nat.mul_comm, Nat.mul_left_comm]
theorem choose_eq {n k : Nat} (h : k ≤ n) : choose n k = C n k := by
  unfold choose
  rw [if_neg (by omega), ← C_fact k n h]
  exact Nat.mul_div_cancel _ (Nat.mul_pos (fact_pos _) (fact_pos _))
theorem C_step {n i : Nat} (h : i < n) : ((C n i : Nat) : Int) * ((n : Int) - (i : Int)) / ((i : Int) + 1) = ((C n (i + 1) : Nat) : Int) := by
  have e1 : (n : Int) - (i : Int) = ((n - i : Nat) : Int) := by omega
  have e2 : (i : Int) + 1 = ((i + 1 : Nat) : Int) := by omega
  rw [e1, e2, ← Int.natCast_mul, ← Int.natCast_ediv]
  congr 1
  rw [← C_next n i (by omega)]
  exact Nat.mul_div_cancel _ (Nat.succ_pos _)
def deal (c : Nat) (p : Cards × Cards) : List (Cards × Cards) := [(p.1 ++ [c], p.2), (p.1, p.2 ++ [c])]
theorem parts_snoc (c : Nat) : ∀ (l : Cards), parts (l ++ [c]) = (parts l).flatMap (deal c)
  | [] => rfl
  | a :: l => by
    have ih := parts_snoc c l
    show ((parts (l ++ [c])).map fun p => (a :: p.1, p.2)) ++ (parts (l ++ [c])).map (fun p => (p.1, a :: p.2)) = (((parts l).map fun p => (a :: p.1, p.2)) ++ (parts l).map fun p => (p.1, a :: p.2)).flatMap (deal c)
    rw [ih, List.flatMap_append, List.map_flatMap, List.map_flatMap, List.flatMap_map, List.flatMap_map]
    rfl
theorem parts_fall {l : Cards} (h : Fall l) : ∀ z ∈ parts l, Fall z.1 ∧ Fall z.2 ∧ (∀ c ∈ z.1, c ∈ l) ∧ (∀ c ∈ z.2, c ∈ l) ∧ z.1.length + z.2.length = l.length := by
  induction l with
  | nil =>
    intro z hz
    have : z = ([], []) := by simpa [parts] using hz
    subst this
    exact ⟨List.Pairwise.nil, List.Pairwise.nil, (fun c hc => nomatch hc), (fun c hc => nomatch hc), rfl⟩
  | cons a l ih =>
    intro z hz
    have hp := List.pairwise_cons.mp h
    have ih := ih hp.2
    rcases List.mem_append.mp (show z ∈ ((parts l).map fun p => (a :: p.1, p.2)) ++ (parts l).map fun p => (p.1, a :: p.2) from hz) with hz | hz
    · obtain ⟨y, hy, rfl⟩ := List.mem_map.mp hz
      obtain ⟨h1, h2, h3, h4, h5⟩ := ih y hy
      refine ⟨List.pairwise_cons.mpr ⟨fun c hc => hp.1 c (h3 c hc), h1⟩, h2, fun c hc => ?_, fun c hc => List.mem_cons_of_mem _ (h4 c hc), ?_⟩
      · rcases List.mem_cons.mp hc with rfl | hc
        · exact List.mem_cons_self
        · exact List.mem_cons_of_mem _ (h3 c hc)
      · simp only [List.length_cons]; omega
    · obtain ⟨y, hy, rfl⟩ := List.mem_map.mp hz
      obtain ⟨h1, h2, h3, h4, h5⟩ := ih y hy
      refine ⟨h1, List.pairwise_cons.mpr ⟨fun c hc => hp.1 c (h4 c hc), h2⟩, fun c hc => List.mem_cons_of_mem _ (h3 c hc), fun c hc => ?_, ?_⟩
      · rcases List.mem_cons.mp hc with rfl | hc
        · exact List.mem_cons_self
        · exact List.mem_cons_of_mem _ (h4 c hc)
      · simp only [List.length_cons]; omega
theorem parts_length : ∀ (l : Cards), (parts l).length = 2 ^ l.length
  | [] => rfl
  | a :: l => by
    show (((parts l).map fun p => (a :: p.1, p.2)) ++ (parts l).map fun p => (p.1, a :: p.2)).length = 2 ^ (l.length + 1)
    rw [List.length_append, List.length_map, List.length_map, parts_length l, Nat.pow_succ]
    omega
end Mt
namespace Mt
def rowF (x : List Int) : List Int := (x.length : Int) :: x
def rowsF (xs : List (List Int)) : List Int := xs.flatMap rowF
def callF (c : List (List Int)) : List Int := c.headD [] ++ rowsF c.tail
theorem row_some {l x s : List Int} (h : PyFlat.row l = some (x, s)) : l = rowF x ++ s := by
  cases l with
  | nil => simp [PyFlat.row] at h
  | cons n r =>
    have h : (if 0 ≤ n ∧ n.toNat ≤ r.length then some (r.take n.toNat, r.drop n.toNat) else none) = some (x, s) := h
    by_cases hc : 0 ≤ n ∧ n.toNat ≤ r.length
    · rw [if_pos hc] at h
      have h := Option.some.inj h
      injection h with h1 h2
      subst h1 h2
      have e : ((r.take n.toNat).length : Int) = n := by rw [List.length_take]; omega
      unfold rowF
      rw [e, List.cons_append, List.take_append_drop]
    · rw [if_neg hc] at h
      cases h
theorem rows_some : ∀ {k : Nat} {l : List Int} {xs : List (List Int)} {t : List Int}, PyFlat.rows k l = some (xs, t) → xs.length = k ∧ l = rowsF xs ++ t
  | 0, l, xs, t, h => by
    have h := Option.some.inj h
    injection h with h1 h2
    subst h1 h2
    exact ⟨rfl, rfl⟩
  | k + 1, l, xs, t, h => by
    unfold PyFlat.rows at h
    split at h
    · cases h
    · rename_i x s hr
      split at h
      · cases h
      · rename_i ys u hrs
        have h := Option.some.inj h
        injection h with h1 h2
        subst h1 h2
        obtain ⟨e1, e2⟩ := rows_some hrs
        refine ⟨by rw [List.length_cons, e1], ?_⟩
        rw [row_some hr, e2]
        unfold rowsF
        rw [List.flatMap_cons, List.append_assoc]
structure Form (shape : Int → Option (Nat × Nat)) (c : List (List Int)) : Prop where
  is : ∃ (p : Int) (n k : Nat) (a : List Int) (xs : List (List Int)), c = (p :: a) :: xs ∧ shape p = some (n, k) ∧ a.length = n ∧ xs.length = k
theorem call_some {shape : Int → Option (Nat × Nat)} {l : List Int} {c : List (List Int)} {t : List Int} (h : PyFlat.call shape l = some (c, t)) : Form shape c ∧ l = callF c ++ t := by
  cases l with
  | nil => simp [PyFlat.call] at h
  | cons p r =>
    unfold PyFlat.call at h
    dsimp only at h
    cases hs : shape p with
    | none => rw [hs] at h; cases h
    | some nk =>
      obtain ⟨n, k⟩ := nk
      rw [hs] at h
      have h : (if r.length < n then none else match PyFlat.rows k (r.drop n) with
        | none => none
        | some (xs, t) => some ((p :: r.take n) :: xs, t)) = some (c, t) := h
      by_cases hl : r.length < n
      · rw [if_pos hl] at h; cases h
      · rw [if_neg hl] at h
        cases hr : PyFlat.rows k (r.drop n) with
        | none => rw [hr] at h; cases h
        | some xu =>
          obtain ⟨xs, u⟩ := xu
          rw [hr] at h
          have h := Option.some.inj h
          injection h with h1 h2
          subst h1 h2
          obtain ⟨e1, e2⟩ := rows_some hr
          refine ⟨⟨p, n, k, r.take n, xs, rfl, hs, by rw [List.length_take]; omega, e1⟩, ?_⟩
          show p :: r = (p :: r.take n) ++ rowsF xs ++ u
          rw [List.append_assoc, ← e2, List.cons_append, List.take_append_drop]
theorem calls_some {shape : Int → Option (Nat × Nat)} : ∀ {f : Nat} {l : List Int} {cs : List (List (List Int))}, PyFlat.calls shape f l = some cs → (∀ c ∈ cs, Form shape c) ∧ l = cs.flatMap callF
  | f, [], cs, h => by
    have e : PyFlat.calls shape f [] = some [] := by cases f <;> rfl
    rw [e] at h
    cases h
    exact ⟨(fun c hc => nomatch hc), rfl⟩
  | 0, p :: r, cs, h => by cases h
  | f + 1, p :: r, cs, h => by
    unfold PyFlat.calls at h
    split at h
    · cases h
    · rename_i c t hc
      split at h
      · cases h
      · rename_i cs' hcs
        have h := Option.some.inj h
        subst h
        obtain ⟨h1, h2⟩ := call_some hc
        obtain ⟨h3, h4⟩ := calls_some hcs
        refine ⟨fun c' hc' => ?_, ?_⟩
        · rcases List.mem_cons.mp hc' with rfl | hc'
          · exact h1
          · exact h3 c' hc'
        · rw [h2, List.flatMap_cons, ← h4]
theorem whole_id (c : List (List Int)) : PyVbbrak.whole c = c := by
  unfold PyVbbrak.whole
  split <;> rfl
theorem map_whole (cs : List (List (List Int))) : cs.map PyVbbrak.whole = cs := by
  induction cs with
  | nil => rfl
  | cons c cs ih => rw [List.map_cons, ih, whole_id]
structure Asked (l : List Int) (cs : List (List (List Int))) : Prop where
  parsed : PyFlat.calls PyVbbrak.shape l.length l = some cs
  few : cs.length ≤ 400
  inside : PyInside.calls PyVbbrak.bound cs = true
  ok : VbbrakNeutral.asked cs = true
  short : (PyVbbrak.answers l).length ≤ 10000000
  ans : PyVbbrak.answers l = PyFlat.told (PyFlat.played VbbrakNeutral.step VbbrakNeutral.start cs)
theorem asked_of {l : List Int} (h : PyVbbrak.answers_asked l = true) : ∃ cs, Asked l cs := by
  unfold PyVbbrak.answers_asked at h
  cases e : PyFlat.calls PyVbbrak.shape l.length l with
  | none => rw [e] at h; cases h
  | some raw =>
    rw [e] at h
    simp only [Bool.and_eq_true, map_whole] at h
    obtain ⟨⟨⟨⟨h1, h2⟩, h3⟩, h4⟩, h5⟩ := h
    refine ⟨raw, e, of_decide_eq_true h2, h3, h4, of_decide_eq_true h5, ?_⟩
    unfold PyVbbrak.answers PyVbbrak.calls
    rw [e]
    simp only [map_whole]
theorem told_cons (a : List Int) (r : List (List Int)) : PyFlat.told (a :: r) = ((a.length : Int) :: a) ++ PyFlat.told r := rfl
theorem told_append (a b : List (List Int)) : PyFlat.told (a ++ b) = PyFlat.told a ++ PyFlat.told b := List.flatMap_append
def stAt (cs : List (List (List Int))) (i : Nat) : Vbbrak.State := (cs.take i).foldl (fun s c => (VbbrakNeutral.step s c).1) VbbrakNeutral.start
theorem stAt_next {cs : List (List (List Int))} {i : Nat} {c : List (List Int)} (h : cs[i]? = some c) : stAt cs (i + 1) = (Vbbrak.stepRows (stAt cs i) c).1 := by
  unfold stAt
  have e : cs.take (i + 1) = cs.take i ++ [c] := by
    rw [List.take_succ, h]; rfl
  rw [e, List.foldl_append]
  rfl
theorem played_snoc {S : Type} (step : S → List (List Int) → S × List Int) : ∀ (cs : List (List (List Int))) (s : S) (c : List (List Int)), PyFlat.played step s (cs ++ [c]) = PyFlat.played step s cs ++ [(step (cs.foldl (fun s c => (step s c).1) s) c).2]
  | [], s, c => rfl
  | d :: cs, s, c => by
    show (step s d).2 :: PyFlat.played step (step s d).1 (cs ++ [c]) = _
    rw [played_snoc step cs (step s d).1 c]
    rfl
def ansAt (cs : List (List (List Int))) (i : Nat) : List Int := PyFlat.told (PyFlat.played VbbrakNeutral.step VbbrakNeutral.start (cs.take i))
theorem ansAt_next {cs : List (List (List Int))} {i : Nat} {c : List (List Int)} (h : cs[i]? = some c) : ansAt cs (i + 1) = ansAt cs i ++ (((Vbbrak.stepRows (stAt cs i) c).2.length : Int) :: (Vbbrak.stepRows (stAt cs i) c).2) := by
  unfold ansAt
  have e : cs.take (i + 1) = cs.take i ++ [c] := by
    rw [List.take_succ, h]; rfl
  rw [e, played_snoc, told_append]
  show _ ++ (_ :: _ ++ []) = _
  rw [List.append_nil]
  rfl
theorem ansAt_all {l : List Int} {cs : List (List (List Int))} (h : Asked l cs) : ansAt cs cs.length = PyVbbrak.answers l := by
  rw [h.ans]
  unfold ansAt
  rw [List.take_length]
theorem told_len_le : ∀ (a b : List (List Int)), (PyFlat.told a).length ≤ (PyFlat.told (a ++ b)).length := fun a b => by rw [told_append, List.length_append]; omega
theorem ansAt_short {l : List Int} {cs : List (List (List Int))} (h : Asked l cs) : ∀ i, i ≤ cs.length → (ansAt cs i).length ≤ 10000000 := by
  have mono : ∀ n i, i + n = cs.length → (ansAt cs i).length ≤ (ansAt cs cs.length).length := by
    intro n
    induction n with
    | zero => intro i e; have : i = cs.length := by omega
              subst this; exact Nat.le_refl _
    | succ n ih =>
      intro i e
      have hi : i < cs.length := by omega
      have := ih (i + 1) (by omega)
      rw [ansAt_next (List.getElem?_eq_getElem hi), List.length_append] at this
      omega
  intro i hi
  have := mono (cs.length - i) i (by omega)
  rw [ansAt_all h] at this
  have := h.short
  omega
def srch (cs : List (List (List Int))) (i : Nat) : Nat := ((cs.take i).filter VbbrakNeutral.searches).length
theorem srch_next {cs : List (List (List Int))} {i : Nat} {c : List (List Int)} (h : cs[i]? = some c) : srch cs (i + 1) = srch cs i + (if VbbrakNeutral.searches c = true then 1 else 0) := by
  unfold srch
  have e : cs.take (i + 1) = cs.take i ++ [c] := by
    rw [List.take_succ, h]; rfl
  rw [e, List.filter_append, List.length_append]
  by_cases hc : VbbrakNeutral.searches c = true
  · simp [hc]
  · simp [hc]
theorem srch_le {l : List Int} {cs : List (List (List Int))} (h : Asked l cs) (i : Nat) : srch cs i ≤ 30 := by
  have h2 := h.ok
  unfold VbbrakNeutral.asked at h2
  simp only [Bool.and_eq_true] at h2
  have h3 := of_decide_eq_true h2.2.2.2
  have : srch cs i ≤ (cs.filter VbbrakNeutral.searches).length := by
    unfold srch
    have e : cs.filter VbbrakNeutral.searches = (cs.take i).filter VbbrakNeutral.searches ++ (cs.drop i).filter VbbrakNeutral.searches := by rw [← List.filter_append, List.take_append_drop]
    rw [e, List.length_append]; omega
  omega
def posAt (cs : List (List (List Int))) (i : Nat) : Nat := ((cs.take i).flatMap callF).length
theorem posAt_next {cs : List (List (List Int))} {i : Nat} {c : List (List Int)} (h : cs[i]? = some c) : posAt cs (i + 1) = posAt cs i + (callF c).length := by
  unfold posAt
  have e : cs.take (i + 1) = cs.take i ++ [c] := by
    rw [List.take_succ, h]; rfl
  rw [e, List.flatMap_append, List.length_append]
  show _ + (callF c ++ []).length = _
  rw [List.append_nil]
theorem drop_at {l : List Int} {cs : List (List (List Int))} (h : Asked l cs) {i : Nat} {c : List (List Int)} (hc : cs[i]? = some c) : l.drop (posAt cs i) = callF c ++ (cs.drop (i + 1)).flatMap callF := by
  have e := (calls_some h.parsed).2
  have hi := (List.getElem?_eq_some_iff.mp hc)
  have e2 : cs = cs.take i ++ (c :: cs.drop (i + 1)) := by
    obtain ⟨h1, h2⟩ := hi
    rw [← h2, List.getElem_cons_drop, List.take_append_drop]
  have e3 : l = (cs.take i).flatMap callF ++ (callF c ++ (cs.drop (i + 1)).flatMap callF) := by
    rw [e]
    conv => lhs; rw [e2]
    rw [List.flatMap_append, List.flatMap_cons]
  unfold posAt
  conv => lhs; rw [e3]
  rw [List.drop_left]
theorem posAt_all {l : List Int} {cs : List (List (List Int))} (h : Asked l cs) : posAt cs cs.length = l.length := by
  unfold posAt
  rw [List.take_length, ← (calls_some h.parsed).2]
end Mt
namespace Mt
open Vbbrak
theorem parts_cut : ∀ (l : Cards) (k : Nat), (l.take k, l.drop k) ∈ parts l
  | [], k => by simp [parts]
  | a :: l, 0 => by
    have ih := parts_cut l 0
    show ([], a :: l) ∈ ((parts l).map fun p => (a :: p.1, p.2)) ++ (parts l).map fun p => (p.1, a :: p.2)
    refine List.mem_append_right _ (List.mem_map.mpr ⟨_, ih, ?_⟩)
    simp
  | a :: l, k + 1 => by
    have ih := parts_cut l k
    show (a :: l.take k, l.drop k) ∈ ((parts l).map fun p => (a :: p.1, p.2)) ++ (parts l).map fun p => (p.1, a :: p.2)
    exact List.mem_append_left _ (List.mem_map.mpr ⟨_, ih, rfl⟩)
theorem splits_ne {m : Cards} {p q : Nat} (h : m.length ≤ p + q) : splits m p q ≠ [] := by
  intro e
  unfold splits at e
  have e := List.map_eq_nil_iff.mp e
  rw [List.filter_eq_nil_iff] at e
  refine e _ (parts_cut m p) ?_
  rw [Bool.and_eq_true]
  refine ⟨decide_eq_true ?_, decide_eq_true ?_⟩
  · rw [List.length_take]; omega
  · rw [List.length_drop]; omega
theorem splits_length {m : Cards} {p q : Nat} : (splits m p q).length ≤ 2 ^ m.length := by
  unfold splits
  rw [List.length_map, ← parts_length m]
  exact List.length_filter_le _ _
def Spl5 (l : List Split) : Prop := ∀ s ∈ l, Fall s.1 ∧ Fall s.2.1 ∧ s.1.length ≤ 5 ∧ s.2.1.length ≤ 5
theorem splits_5 {m : Cards} {p q : Nat} (hf : Fall m) (hl : m.length ≤ 5) : Spl5 (splits m p q) := by
  intro s hs
  unfold splits at hs
  obtain ⟨z, hz, rfl⟩ := List.mem_map.mp hs
  obtain ⟨h1, h2, _, _, h5⟩ := parts_fall hf z (List.mem_filter.mp hz).1
  exact ⟨h1, h2, by show z.1.length ≤ 5; omega, by show z.2.length ≤ 5; omega⟩
theorem Spl5.filter {l : List Split} (f : Split → Bool) (h : Spl5 l) : Spl5 (l.filter f) := fun s hs => h s (List.mem_filter.mp hs).1
theorem Spl5.gone {l : List Split} (h : Spl5 l) (y t : Nat) : Spl5 (l.map fun s => Vbbrak.gone s y t) := by
  intro s hs
  obtain ⟨z, hz, rfl⟩ := List.mem_map.mp hs
  obtain ⟨h1, h2, h3, h4⟩ := h z hz
  exact ⟨(h1.filter _).filter _, (h2.filter _).filter _, Nat.le_trans (Nat.le_trans (without_le _ _) (without_le _ _)) h3, Nat.le_trans (Nat.le_trans (without_le _ _) (without_le _ _)) h4⟩
structure Good (s : State) : Prop where
  ph : s.phase ≤ 4
  fa : Fall s.a
  fb : Fall s.b
  la : s.a.length ≤ 4
  lb : s.b.length ≤ 4
  nd : s.need ≤ 4
  ws : s.phase ≠ 0 → s.ways ≠ []
  wl : s.ways.length ≤ 32
  w5 : Spl5 s.ways
  hd : s.hand = 0 ∨ s.hand = 1
  hx : 2 ≤ s.phase → s.x ∈ handOf s.hand s.a s.b
  hz : 4 ≤ s.phase → s.z ∈ choices (mate s)
theorem good_start : Good VbbrakNeutral.start := ⟨Nat.zero_le _, List.Pairwise.nil, List.Pairwise.nil, Nat.zero_le _, Nat.zero_le _, Nat.zero_le _, fun h => absurd rfl h, Nat.zero_le _, (fun s hs => nomatch hs), .inl rfl, (fun h => absurd h (by show ¬ 2 ≤ 0; omega)), fun h => absurd h (by show ¬ 4 ≤ 0; omega)⟩
theorem nodup_of_distinct : ∀ {l : List Nat}, distinct l = true → l.Nodup
  | [], _ => List.nodup_nil
  | a :: r, h => by
    have h : (!r.contains a && distinct r) = true := h
    rw [Bool.and_eq_true] at h
    refine List.nodup_cons.mpr ⟨fun hm => ?_, nodup_of_distinct h.2⟩
    have := h.1
    rw [Bool.not_eq_true'] at this
    rw [List.contains_eq_mem, decide_eq_false_iff_not] at this
    exact this hm
theorem distinct_of_nodup : ∀ {l : List Nat}, l.Nodup → distinct l = true
  | [], _ => rfl
  | a :: r, h => by
    have h' := List.nodup_cons.mp h
    show (!r.contains a && distinct r) = true
    rw [distinct_of_nodup h'.2, Bool.and_true, Bool.not_eq_true', List.contains_eq_mem, decide_eq_false_iff_not]
    exact h'.1
theorem falling_le {l : List Nat} : (falling l).length ≤ l.length := by
  induction l with
  | nil => exact Nat.le_refl _
  | cons a r ih =>
    have put : ∀ l : List Nat, (putDown a l).length ≤ l.length + 1 := by
      intro l
      induction l with
      | nil => exact Nat.le_refl _
      | cons b r ih =>
        unfold putDown
        split
        · exact Nat.le_refl _
        · split
          · simp
          · simp only [List.length_cons]; omega
    have := put (falling r)
    show (putDown a (falling r)).length ≤ r.length + 1
    omega
theorem good_step {s : State} (h : Good s) (c : List (List Int)) : Good (stepRows s c).1 := by
  unfold stepRows
  cases hc : callOf c with
  | none => exact h
  | some k =>
    show Good (Vbbrak.step s k).1
    cases k with
    | suit need cover p q a b m =>
      have hr : ∃ (n cv pp qq : Int) (ra rb rm : List Int), need = n.toNat ∧ within n 0 4 = true ∧ a = nats ra ∧ isCards ra 4 = true ∧ b = nats rb ∧ isCards rb 4 = true ∧ m = nats rm ∧ isCards rm 5 = true := by
        unfold callOf at hc
        split at hc <;> try (cases hc)
        · rename_i n cv pp qq ra rb rm
          unfold ranged at hc
          split at hc
          · rename_i hok
            simp only [Bool.and_eq_true] at hok
            injection hc with hc
            injection hc with e1 e2 e3 e4 e5 e6 e7
            exact ⟨n, cv, pp, qq, ra, rb, rm, e1.symm, hok.1, e5.symm, hok.2.2.2.2.1, e6.symm, hok.2.2.2.2.2.1, e7.symm, hok.2.2.2.2.2.2⟩
          · cases hc
        all_goals
          unfold ranged at hc
          split at hc <;> cases hc
      obtain ⟨n, cv, pp, qq, ra, rb, rm, rfl, hn, rfl, hra, rfl, hrb, rfl, hrm⟩ := hr
      have cl : ∀ {r : List Int} {k : Nat}, isCards r k = true → (nats r).length ≤ k := fun {r k} h => by
        unfold isCards at h
        rw [Bool.and_eq_true] at h
        show (r.map _).length ≤ k
        rw [List.length_map]
        exact of_decide_eq_true h.1
      unfold Vbbrak.step
      dsimp only
      split
      · exact h
      · split
        · exact h
        · split
          · exact h
          · rename_i h1 h2 h3
            have hm5 := cl hrm
            have hfl : (falling (nats rm)).length ≤ 5 := Nat.le_trans falling_le hm5
            have hw : ((splits (falling (nats rm)) p q)).length ≤ 32 := by
              refine Nat.le_trans splits_length ?_
              exact Nat.le_trans (Nat.pow_le_pow_right (by decide) hfl) (by decide)
            refine ⟨by show 1 ≤ 4; omega, fall_falling _, fall_falling _, Nat.le_trans falling_le (cl hra), Nat.le_trans falling_le (cl hrb), ?_, fun _ => ?_, hw, splits_5 (fall_falling _) hfl, .inl rfl, (fun q => absurd q (by show ¬ 2 ≤ 1; omega)), fun q => absurd q (by show ¬ 4 ≤ 1; omega)⟩
            · show n.toNat ≤ 4
              unfold within at hn
              rw [Bool.and_eq_true] at hn
              have := of_decide_eq_true hn.2
              omega
            · exact splits_ne (Nat.le_trans falling_le (by omega))
    | odds => unfold Vbbrak.step; dsimp only; split <;> exact h
    | ways => unfold Vbbrak.step; dsimp only; split <;> exact h
    | hands => unfold Vbbrak.step; dsimp only; split <;> exact h
    | leads => show Good (inPhase _ _ _).1; unfold inPhase; split <;> exact h
    | seconds => show Good (inPhase _ _ _).1; unfold inPhase; split <;> exact h
    | thirds => show Good (inPhase _ _ _).1; unfold inPhase; split <;> exact h
    | lasts => show Good (inPhase _ _ _).1; unfold inPhase; split <;> exact h
    | blind l => show Good (inPhase _ _ _).1; unfold inPhase; split <;> exact h
    | lead hand cd =>
      show Good (inPhase _ _ _).1
      unfold inPhase
      split
      · rename_i hp
        split
        · exact h
        · rename_i hin
          have hm : cd ∈ handOf hand s.a s.b := by
            rw [Bool.not_eq_false, List.contains_eq_mem, decide_eq_true_eq] at hin
            exact hin
          have hh : hand = 0 ∨ hand = 1 := by
            unfold callOf at hc
            split at hc <;> try (cases hc)
            all_goals
              unfold ranged at hc
              split at hc
              · rename_i hok
                first
                  | (injection hc with hc; injection hc with e1 e2
                     rw [Bool.and_eq_true] at hok
                     have := hok.1
                     unfold within at this
                     rw [Bool.and_eq_true] at this
                     have h1 := of_decide_eq_true this.1
                     have h2 := of_decide_eq_true this.2
                     omega)
                  | (injection hc with hc; cases hc)
              · cases hc
          exact ⟨by show 2 ≤ 4; omega, h.fa, h.fb, h.la, h.lb, h.nd, fun _ => h.ws (by rw [hp]; decide), h.wl, h.w5, hh, fun _ => hm, fun q => absurd q (by show ¬ 4 ≤ 2; omega)⟩
      · exact h
    | second cd =>
      show Good (inPhase _ _ _).1
      unfold inPhase
      split
      · rename_i hp
        dsimp only
        split
        · exact h
        · rename_i hne
          exact ⟨by show 3 ≤ 4; omega, h.fa, h.fb, h.la, h.lb, h.nd, fun _ => hne, Nat.le_trans (List.length_filter_le _ _) h.wl, h.w5.filter _, h.hd, fun _ => h.hx (by omega), fun q => absurd q (by show ¬ 4 ≤ 3; omega)⟩
      · exact h
    | third cd =>
      show Good (inPhase _ _ _).1
      unfold inPhase
      split
      · rename_i hp
        split
        · exact h
        · rename_i hin
          have hm : cd ∈ choices (mate s) := by
            rw [Bool.not_eq_false, List.contains_eq_mem, decide_eq_true_eq] at hin
            exact hin
          exact ⟨by show 4 ≤ 4; omega, h.fa, h.fb, h.la, h.lb, h.nd, fun _ => h.ws (by rw [hp]; decide), h.wl, h.w5, h.hd, fun _ => h.hx (by omega), fun _ => hm⟩
      · exact h
    | last cd =>
      show Good (inPhase _ _ _).1
      unfold inPhase
      split
      · rename_i hp
        split
        · exact h
        · rename_i hne
          refine ⟨by show 1 ≤ 4; omega, (h.fa.filter _).filter _, (h.fb.filter _).filter _, Nat.le_trans (Nat.le_trans (without_le _ _) (without_le _ _)) h.la, Nat.le_trans (Nat.le_trans (without_le _ _) (without_le _ _)) h.lb, ?_, fun _ => ?_, ?_, Spl5.gone (h.w5.filter _) _ _, .inl rfl, (fun q => absurd q (by show ¬ 2 ≤ 1; omega)), fun q => absurd q (by show ¬ 4 ≤ 1; omega)⟩
          · have := h.nd
            show s.need - _ ≤ 4
            omega
          · intro e
            exact hne (List.map_eq_nil_iff.mp e)
          · show ((with_ _ _ _).map _).length ≤ 32
            rw [List.length_map]
            exact Nat.le_trans (List.length_filter_le _ _) h.wl
      · exact h
theorem good_at (cs : List (List (List Int))) : ∀ i, Good (stAt cs i) := by
  have : ∀ (l : List (List (List Int))) (s : State), Good s → Good (l.foldl (fun s c => (VbbrakNeutral.step s c).1) s) := by
    intro l
    induction l with
    | nil => intro s h; exact h
    | cons c l ih => intro s h; exact ih _ (good_step h c)
  intro i
  exact this _ _ good_start
end Mt
namespace Mt
open Vbbrak
def planOf : List (Nat × Nat × Nat) → Cards → Cards → List (Nat × Nat × Nat)
  | [], _, _ => []
  | m :: r, a, b => if (handOf m.1 a b).contains m.2.1 = true ∧ (choices (handOf (1 - m.1) a b)).contains m.2.2 = true then m :: planOf r (leftA a m.2.1 m.2.2) (leftA b m.2.1 m.2.2) else []
def wonBy (cover : Bool) : List (Nat × Nat × Nat) → Split → Nat
  | [], _ => 0
  | m :: r, w => ours m.2.1 (second cover (behind m.1 w) m.2.1) m.2.2 (last (across m.1 w) m.2.1 (second cover (behind m.1 w) m.2.1) m.2.2)
      + wonBy cover r (gone w (second cover (behind m.1 w) m.2.1) (last (across m.1 w) m.2.1 (second cover (behind m.1 w) m.2.1) m.2.2))
theorem played_eq (cover : Bool) : ∀ (l : List (Nat × Nat × Nat)) (a b : Cards) (w : Split), played cover l a b w = wonBy cover (planOf l a b) w
  | [], _, _, _ => rfl
  | m :: r, a, b, w => by
    unfold played planOf
    by_cases h : (handOf m.1 a b).contains m.2.1 = true ∧ (choices (handOf (1 - m.1) a b)).contains m.2.2 = true
    · rw [if_pos h, if_pos h]
      show _ + played cover r _ _ _ = _
      rw [played_eq cover r]
      rfl
    · rw [if_neg h, if_neg h]
      rfl
def tri : List Nat → List (Nat × Nat × Nat)
  | a :: b :: c :: r => (a, b, c) :: tri r
  | _ => []
theorem tri_drop : ∀ (i : Nat) (l : List Nat), tri (l.drop (3 * i)) = (tri l).drop i
  | 0, l => rfl
  | i + 1, [] => by simp [tri]
  | i + 1, [a] => by
    rw [List.drop_eq_nil_of_le (by simp; omega)]
    simp [tri]
  | i + 1, [a, b] => by
    rw [List.drop_eq_nil_of_le (by simp; omega)]
    simp [tri]
  | i + 1, a :: b :: c :: r => by
    have e : (a :: b :: c :: r).drop (3 * (i + 1)) = r.drop (3 * i) := by
      rw [show 3 * (i + 1) = 3 * i + 3 by omega]
      rfl
    rw [e, tri_drop i r]
    rfl
theorem tri_at {l : List Nat} {i k : Nat} (hl : l.length = 3 * k) (hi : i < k) : ∃ a b c, l[3 * i]? = some a ∧ l[3 * i + 1]? = some b ∧ l[3 * i + 2]? = some c ∧ (tri l)[i]? = some (a, b, c) := by
  have e := tri_drop i l
  have hlen : (l.drop (3 * i)).length = 3 * k - 3 * i := by rw [List.length_drop, hl]
  have g0 : (l.drop (3 * i))[0]? = l[3 * i]? := by rw [List.getElem?_drop]; rfl
  have g1 : (l.drop (3 * i))[1]? = l[3 * i + 1]? := by rw [List.getElem?_drop]
  have g2 : (l.drop (3 * i))[2]? = l[3 * i + 2]? := by rw [List.getElem?_drop]
  match hd : l.drop (3 * i), hlen with
  | [], h => simp at h; omega
  | [_], h => simp at h; omega
  | [_, _], h => simp at h; omega
  | a :: b :: c :: r, h =>
    rw [hd] at e g0 g1 g2
    refine ⟨a, b, c, g0.symm, g1.symm, g2.symm, ?_⟩
    have : (tri l)[i]? = ((tri l).drop i)[0]? := by rw [List.getElem?_drop]; rfl
    rw [this, ← e]
    rfl
theorem tri_len {l : List Nat} {k : Nat} (hl : l.length = 3 * k) : (tri l).length = k := by
  induction k generalizing l with
  | zero =>
    have : l = [] := List.length_eq_zero_iff.mp (by omega)
    subst this; rfl
  | succ k ih =>
    match l, hl with
    | a :: b :: c :: r, h =>
      show (tri r).length + 1 = _
      rw [ih (by simp at h; omega)]
    | [], h => simp at h
    | [_], h => simp at h; omega
    | [_, _], h => simp at h; omega
def okTri : List Int → Bool
  | a :: b :: c :: r => within a 0 1 && (within b 0 13 && (within c 0 13 && okTri r))
  | _ => true
theorem okTri_eq : ∀ (k : Nat) (l : List Int), l.length = 3 * k → ((l.all fun z => within z 0 13) && (triplesOf l).all fun x => decide (x.1 ≤ 1)) = okTri l
  | 0, l, h => by
    have : l = [] := List.length_eq_zero_iff.mp (by omega)
    subst this; rfl
  | k + 1, l, h => by
    match l, h with
    | a :: b :: c :: r, h =>
      have ih := okTri_eq k r (by simp at h; omega)
      show ((within a 0 13 && (within b 0 13 && (within c 0 13 && r.all fun z => within z 0 13))) && (decide (a.toNat ≤ 1) && (triplesOf r).all fun x => decide (x.1 ≤ 1))) = (within a 0 1 && (within b 0 13 && (within c 0 13 && okTri r)))
      rw [← ih]
      have ea : (within a 0 13 && decide (a.toNat ≤ 1)) = within a 0 1 := by
        unfold within
        rw [Bool.eq_iff_iff]
        simp only [Bool.and_eq_true, decide_eq_true_eq]
        omega
      rw [← ea]
      cases within a 0 13 <;> cases within b 0 13 <;> cases within c 0 13 <;> cases decide (a.toNat ≤ 1) <;> simp
    | [], h => simp at h
    | [_], h => simp at h; omega
    | [_, _], h => simp at h; omega
theorem isLine_of {l : List Int} {k : Nat} (h : l.length = 3 * k) (hk : k ≤ 4) : isLine l = okTri l := by
  unfold isLine
  rw [decide_eq_true (by omega), show (l.length % 3 == 0) = true by rw [h]; simp, Bool.true_and, Bool.true_and]
  exact okTri_eq k l h
theorem isLine_no {l : List Int} (h : ¬ (l.length % 3 = 0 ∧ l.length ≤ 12)) : isLine l = false := by
  unfold isLine
  by_cases h1 : l.length ≤ 12
  · have : (l.length % 3 == 0) = false := by
      rw [beq_eq_false_iff_ne]
      exact fun e => h ⟨e, h1⟩
    rw [this]
    simp
  · rw [decide_eq_false h1]
    rfl
theorem okTri_drop : ∀ (i : Nat) (l : List Int), okTri l = true → okTri (l.drop (3 * i)) = true
  | 0, l, h => h
  | i + 1, [], h => by simp [okTri]
  | i + 1, [a], h => by rw [List.drop_eq_nil_of_le (by simp; omega)]; rfl
  | i + 1, [a, b], h => by rw [List.drop_eq_nil_of_le (by simp; omega)]; rfl
  | i + 1, a :: b :: c :: r, h => by
    have e : (a :: b :: c :: r).drop (3 * (i + 1)) = r.drop (3 * i) := by
      rw [show 3 * (i + 1) = 3 * i + 3 by omega]
      rfl
    rw [e]
    have h : (within a 0 1 && (within b 0 13 && (within c 0 13 && okTri r))) = true := h
    simp only [Bool.and_eq_true] at h
    exact okTri_drop i r h.2.2.2
theorem line_nats : ∀ (k : Nat) (l : List Int), l.length = 3 * k → okTri l = true → ∃ rs : List Nat, l = rs.map (fun n : Nat => (n : Int)) ∧ triplesOf l = tri rs ∧ ∀ m ∈ tri rs, m.1 = 0 ∨ m.1 = 1
  | 0, l, h, _ => by
    have : l = [] := List.length_eq_zero_iff.mp (by omega)
    subst this
    exact ⟨[], rfl, rfl, fun m hm => nomatch hm⟩
  | k + 1, l, h, ho => by
    match l, h, ho with
    | a :: b :: c :: r, h, ho =>
      have ho : (within a 0 1 && (within b 0 13 && (within c 0 13 && okTri r))) = true := ho
      simp only [Bool.and_eq_true] at ho
      obtain ⟨rs, e1, e2, e3⟩ := line_nats k r (by simp at h; omega) ho.2.2.2
      have ha := ho.1
      have hb := ho.2.1
      have hc := ho.2.2.1
      unfold within at ha hb hc
      simp only [Bool.and_eq_true, decide_eq_true_eq] at ha hb hc
      refine ⟨a.toNat :: b.toNat :: c.toNat :: rs, ?_, ?_, ?_⟩
      · rw [List.map_cons, List.map_cons, List.map_cons, ← e1]
        rw [Int.toNat_of_nonneg ha.1, Int.toNat_of_nonneg hb.1, Int.toNat_of_nonneg hc.1]
      · show (a.toNat, b.toNat, c.toNat) :: triplesOf r = _
        rw [e2]
        rfl
      · intro m hm
        rcases List.mem_cons.mp hm with rfl | hm
        · show a.toNat = 0 ∨ a.toNat = 1
          omega
        · exact e3 m hm
    | [], h, _ => simp at h
    | [_], h, _ => simp at h; omega
    | [_, _], h, _ => simp at h; omega
def okSuitS (n c p q : Int) (a b m : List Int) : Bool := within n 0 4 && (within c 0 1 && (within p 0 13 && (within q 0 13 && (isCards a 4 && (isCards b 4 && isCards m 5)))))
theorem step0 (s : State) (n c p q : Int) (a b m : List Int) : stepRows s [[0, n, c, p, q], a, b, m] = if okSuitS n c p q a b m = true then step s (.suit n.toNat c.toNat p.toNat q.toNat (nats a) (nats b) (nats m)) else (s, [-1]) := by
  show (match ranged (okSuitS n c p q a b m) (.suit n.toNat c.toNat p.toNat q.toNat (nats a) (nats b) (nats m)) with
    | none => (s, [-1])
    | some c => step s c) = _
  unfold ranged
  by_cases h : okSuitS n c p q a b m = true
  · rw [if_pos h, if_pos h]
  · rw [if_neg h, if_neg h]
theorem step1 (s : State) : stepRows s [[1]] = if s.phase = 0 then (s, [-2]) else (s, [0, Int.ofNat (Vbbrak.odds s), Int.ofNat (weight s.ways)]) := rfl
theorem step2 (s : State) : stepRows s [[2]] = step s .ways := rfl
theorem step3 (s : State) : stepRows s [[3]] = step s .hands := rfl
theorem step4 (s : State) : stepRows s [[4]] = step s .leads := rfl
theorem step5 (s : State) (h c : Int) : stepRows s [[5, h, c]] = if (within h 0 1 && within c 1 13) = true then step s (.lead h.toNat c.toNat) else (s, [-1]) := by
  show (match ranged (within h 0 1 && within c 1 13) (.lead h.toNat c.toNat) with
    | none => (s, [-1])
    | some c => step s c) = _
  unfold ranged
  by_cases e : (within h 0 1 && within c 1 13) = true
  · rw [if_pos e, if_pos e]
  · rw [if_neg e, if_neg e]
theorem step6 (s : State) : stepRows s [[6]] = step s .seconds := rfl
theorem step7 (s : State) (c : Int) : stepRows s [[7, c]] = if within c 0 13 = true then step s (.second c.toNat) else (s, [-1]) := by
  show (match ranged (within c 0 13) (.second c.toNat) with
    | none => (s, [-1])
    | some c => step s c) = _
  unfold ranged
  by_cases e : within c 0 13 = true
  · rw [if_pos e, if_pos e]
  · rw [if_neg e, if_neg e]
theorem step8 (s : State) : stepRows s [[8]] = step s .thirds := rfl
theorem step9 (s : State) (c : Int) : stepRows s [[9, c]] = if within c 0 13 = true then step s (.third c.toNat) else (s, [-1]) := by
  show (match ranged (within c 0 13) (.third c.toNat) with
    | none => (s, [-1])
    | some c => step s c) = _
  unfold ranged
  by_cases e : within c 0 13 = true
  · rw [if_pos e, if_pos e]
  · rw [if_neg e, if_neg e]
theorem step10 (s : State) : stepRows s [[10]] = step s .lasts := rfl
theorem step11 (s : State) (c : Int) : stepRows s [[11, c]] = if within c 0 13 = true then step s (.last c.toNat) else (s, [-1]) := by
  show (match ranged (within c 0 13) (.last c.toNat) with
    | none => (s, [-1])
    | some c => step s c) = _
  unfold ranged
  by_cases e : within c 0 13 = true
  · rw [if_pos e, if_pos e]
  · rw [if_neg e, if_neg e]
theorem step12 (s : State) (l : List Int) : stepRows s [[12], l] = if isLine l = true then step s (.blind (triplesOf l)) else (s, [-1]) := by
  show (match ranged (isLine l) (.blind (triplesOf l)) with
    | none => (s, [-1])
    | some c => step s c) = _
  unfold ranged
  by_cases e : isLine l = true
  · rw [if_pos e, if_pos e]
  · rw [if_neg e, if_neg e]
theorem step_head (s : State) (c : Call) : ∃ h l, (step s c).2 = h :: l ∧ h ≤ 0 := by
  cases c <;> unfold step <;> dsimp only [inPhase] <;> (repeat' split) <;> first | exact ⟨_, _, rfl, by decide⟩ | exact ⟨_, _, rfl, Int.le_refl _⟩
theorem rows_head (s : State) (c : Rows) : ∃ h l, (stepRows s c).2 = h :: l ∧ h ≤ 0 := by
  unfold stepRows
  split
  · exact ⟨_, _, rfl, by decide⟩
  · exact step_head s _
theorem ans_head (cs : List (List (List Int))) : ∀ i, i ≤ cs.length → ansAt cs i = [] ∨ ∃ h l, ansAt cs i = h :: l ∧ 1 ≤ h
  | 0, _ => .inl rfl
  | i + 1, hi => by
    have hci : cs[i]? = some cs[i] := List.getElem?_eq_getElem (by omega)
    obtain ⟨h, l, e, _⟩ := rows_head (stAt cs i) cs[i]
    rw [ansAt_next hci, e]
    rcases ans_head cs i (by omega) with q | ⟨h', l', q, q1⟩
    · rw [q]
      refine .inr ⟨_, _, rfl, ?_⟩
      rw [List.length_cons]
      omega
    · rw [q]
      exact .inr ⟨_, _, rfl, q1⟩
theorem ans_ne {cs : List (List (List Int))} {i : Nat} (hi : i ≤ cs.length) (s : State) (c : Rows) : ansAt cs i ≠ (stepRows s c).2 := by
  intro e
  obtain ⟨h, l, e1, e2⟩ := rows_head s c
  rcases ans_head cs i hi with q | ⟨h', l', q, q1⟩
  · rw [e, e1] at q
    cases q
  · rw [e, e1] at q
    injection q with q _
    omega
end Mt
set_option maxRecDepth 100000
namespace L2
open PySem PySem.Spec PyProof.Rows
abbrev Key := Sum Int Str
def keyIs : Key → Value → Bool
  | .inl k, v => Value.isInt k v
  | .inr x, v => Value.isStrOf x v
def keyH (w : World) : Key → Int
  | .inl k => hashInt k
  | .inr x => hashStr w x
theorem keyIs_shape : ∀ {k : Key} {v : Value}, keyIs k v = true → (∃ i t, k = Sum.inl i ∧ v = Value.int i t) ∨ (∃ x t, k = Sum.inr x ∧ v = Value.str x t)
  | .inl i, v, h => by
    obtain ⟨t, e⟩ := Value.isInt_shape (k := i) (v := v) h
    exact .inl ⟨i, t, rfl, e⟩
  | .inr x, v, h => by
    obtain ⟨t, e⟩ := Value.isStrOf_shape (x := x) (v := v) h
    exact .inr ⟨x, t, rfl, e⟩
theorem keyIs_int (i : Int) (t : Tok) : keyIs (.inl i) (.int i t) = true := by simp [keyIs, Value.isInt]
theorem keyIs_str (x : Str) (t : Tok) : keyIs (.inr x) (.str x t) = true := by simp [keyIs, Value.isStrOf]
theorem key_ll (a b : Int) : decide ((Sum.inl a : Key) = Sum.inl b) = (a == b) := by
  by_cases e : a = b
  · subst e; simp
  · have h : ¬ (Sum.inl a : Key) = Sum.inl b := fun q => e (Sum.inl.inj q)
    rw [decide_eq_false h]
    exact (beq_eq_false_iff_ne.mpr e).symm
theorem key_rr (a b : Str) : decide ((Sum.inr a : Key) = Sum.inr b) = decide (a = b) := by
  by_cases e : a = b
  · subst e; simp
  · have h : ¬ (Sum.inr a : Key) = Sum.inr b := fun q => e (Sum.inr.inj q)
    rw [decide_eq_false h, decide_eq_false e]
theorem key_lr (a : Int) (b : Str) : decide ((Sum.inl a : Key) = Sum.inr b) = false := decide_eq_false (fun q => nomatch q)
theorem key_rl (a : Str) (b : Int) : decide ((Sum.inr a : Key) = Sum.inl b) = false := decide_eq_false (fun q => nomatch q)
def mixKind (prog : Program) (w : World) : PySem.KeyKind prog w Key where
  is := keyIs
  hash := keyH w
  inj := fun v a b ha hb => by
    rcases keyIs_shape ha with ⟨i, t, rfl, rfl⟩ | ⟨x, t, rfl, rfl⟩
    · rcases keyIs_shape hb with ⟨j, u, rfl, e⟩ | ⟨y, u, rfl, e⟩
      · injection e with e1 _; rw [e1]
      · exact nomatch e
    · rcases keyIs_shape hb with ⟨j, u, rfl, e⟩ | ⟨y, u, rfl, e⟩
      · exact nomatch e
      · injection e with e1 _; rw [e1]
  byValue := fun k v h => by
    rcases keyIs_shape h with ⟨i, t, rfl, rfl⟩ | ⟨x, t, rfl, rfl⟩ <;> rfl
  pyHash := fun hv h => by
    rcases keyIs_shape hv with ⟨i, t, rfl, rfl⟩ | ⟨x, t, rfl, rfl⟩
    · exact wpAny_pyHash_int h
    · exact wpAny_pyHash_str h
  eqBool := fun hu hv h => by
    rcases keyIs_shape hu with ⟨i, t, rfl, rfl⟩ | ⟨x, t, rfl, rfl⟩
    · rcases keyIs_shape hv with ⟨j, u, rfl, rfl⟩ | ⟨y, u, rfl, rfl⟩
      · rw [key_ll] at h; exact wpAny_eqBool_int h
      · rw [key_lr] at h; exact SeqAt.EqAt.int_str i t y u _ _ _ _ h
    · rcases keyIs_shape hv with ⟨j, u, rfl, rfl⟩ | ⟨y, u, rfl, rfl⟩
      · rw [key_rl] at h; exact SeqAt.EqAt.str_int x t j u _ _ _ _ h
      · rw [key_rr] at h; exact wpAny_eqBool_str h
  «strs» := fun k x t v h => by
    rcases keyIs_shape h with ⟨i, u, rfl, e⟩ | ⟨y, u, rfl, e⟩
    · exact nomatch e
    · injection e with e1 _
      subst e1
      cases v <;> rfl
theorem mixKind_int (prog : Program) (w : World) (i : Int) (t : Tok) : (mixKind prog w).is (.inl i) (.int i t) = true := keyIs_int i t
theorem mixKind_str (prog : Program) (w : World) (x : Str) (t : Tok) : (mixKind prog w).is (.inr x) (.str x t) = true := keyIs_str x t
end L2
namespace L2
open PySem PySem.Spec PyProof.Rows
inductive V where
  | non | bl (b : Bool) | int (i : Int) | str (x : Str) | byt (b : Array UInt8) | flt (b : UInt64) | ref (a : Addr) | ty (n : String)
  deriving DecidableEq
def RelV : V → Value → Prop
  | .non, u => u = Value.none
  | .bl b, u => u = Value.bool b
  | .int i, u => ∃ t, u = Value.int i t
  | .str x, u => ∃ t, u = Value.str x t
  | .byt b, u => ∃ t, u = Value.bytes b t
  | .flt b, u => ∃ t, u = Value.float b t
  | .ref a, u => u = Value.ref a
  | .ty n, u => u = Value.type n
abbrev Vals : List V → List Value → Prop := Paired RelV
theorem Vals.length {xs : List V} {us : List Value} (r : Vals xs us) : xs.length = us.length := Paired.length r
theorem Vals.get : ∀ {xs : List V} {us : List Value} {i : Nat} {x : V}, Vals xs us → xs[i]? = some x → ∃ u, us[i]? = some u ∧ RelV x u
  | _, _, _, _, .nil, e => by simp at e
  | _, _, 0, _, .cons r _, e => by simp at e; subst e; exact ⟨_, rfl, r⟩
  | _, _, i + 1, x, .cons _ t, e => by
    obtain ⟨u, h1, h2⟩ := Vals.get (i := i) (x := x) t (by simpa using e)
    exact ⟨u, by simpa using h1, h2⟩
theorem Vals.append : ∀ {xs ys : List V} {us ws : List Value}, Vals xs us → Vals ys ws → Vals (xs ++ ys) (us ++ ws)
  | _, _, _, _, .nil, s => s
  | _, _, _, _, .cons r t, s => .cons r (Vals.append t s)
theorem Vals.take : ∀ {xs : List V} {us : List Value} (n : Nat), Vals xs us → Vals (xs.take n) (us.take n)
  | _, _, 0, _ => .nil
  | _, _, _ + 1, .nil => .nil
  | _, _, n + 1, .cons r t => .cons r (Vals.take n t)
theorem Vals.drop : ∀ {xs : List V} {us : List Value} (n : Nat), Vals xs us → Vals (xs.drop n) (us.drop n)
  | _, _, 0, r => r
  | _, _, _ + 1, .nil => .nil
  | _, _, n + 1, .cons _ t => Vals.drop n t
def RelO : Option V → Option Value → Prop
  | some v, some u => RelV v u
  | none, none => True
  | _, _ => False
def KV {κ : Type} : List (κ × V) → List (κ × Value) → Prop := Paired fun (p : κ × V) (q : κ × Value) => p.1 = q.1 ∧ RelV p.2 q.2
def kV : Key → V
  | .inl i => .int i
  | .inr x => .str x
inductive HO where
  | lst (xs : List V)
  | tup (xs : List V)
  | dK (kvs : List (Key × V)) | dT (kvs : List (List Key × V))
  | set (S : Int → Bool) (n : Nat)
  | ins (C dx : Addr) (fs : List (Str × V))
  | own (x : Addr)
  | xd (fs : List (Str × V))
  | met (f x : Addr)
  | rng (lo hi : Int)
  | frz (o : Obj) (u : HO)
  | tbl (ps : Array Value)
  | ext (φ : Heap → Prop)
abbrev Hp := Addr → Option HO
def upd (H : Hp) (a : Addr) (o : HO) : Hp := fun b => if b = a then some o else H b
theorem upd_same {H : Hp} {a : Addr} {o : HO} : upd H a o a = some o := by unfold upd; rw [if_pos rfl]
theorem upd_ne {H : Hp} {a b : Addr} {o : HO} (h : b ≠ a) : upd H a o b = H b := by unfold upd; rw [if_neg h]
theorem upd_upd {H : Hp} {a : Addr} {o u : HO} : upd (upd H a o) a u = upd H a u := by
  funext b; unfold upd; split <;> rfl
theorem ne_of {H : Hp} {a b : Addr} {o u : HO} (h : H a = some o) (h' : H b = some u) (d : o ≠ u) : a ≠ b := by
  intro e; subst e; rw [h] at h'; exact d (Option.some.inj h')
theorem ne_of_none {H : Hp} {a b : Addr} {o : HO} (h : H a = some o) (h' : H b = none) : a ≠ b := by
  intro e; subst e; rw [h] at h'; cases h'
section
variable (P : Program) (w : World)
def ObjOk (H : Hp) (h : Heap) (a : Addr) : HO → Prop
  | .lst xs => xs.length ≤ sizeLine ∧ ∃ (its : List Value) (n : Nat), Vals xs its ∧ h.get? a = some { cls := .type "list", data := .seq its.toArray n }
  | .tup xs => xs.length ≤ sizeLine ∧ ∃ its : List Value, Vals xs its ∧ IsTup h a its.toArray
  | .dK kvs => kvs.length ≤ sizeLine ∧ (a == sysModules) = false ∧ ∃ vs, KV kvs vs ∧ h.DictOf (mixKind P w) a vs
  | .dT kvs => kvs.length ≤ sizeLine ∧ (a == sysModules) = false ∧ ∃ xs : List (List Key × Addr × Value),
      Paired (fun (p : List Key × V) (q : List Key × Addr × Value) => p.1 = q.1 ∧ H q.2.1 = some (.tup (p.1.map kV)) ∧ RelV p.2 q.2.2) kvs xs ∧
      ∃ o es ep, h.get? a = some o ∧ o.ExactDict ∧ o.data = .dict es ep ∧ es.toList = xs.map (entryOfKey (tupleKind (mixKind P w))) ∧ (xs.map (·.1)).Nodup
  | .set S n => h.SetOf (intKind P w) a S n
  | .ins C dx fs => H dx = some (.own a) ∧ fs.length ≤ 1000 ∧ dx ≠ a ∧ h.get? a = some (PySem.W.instObj C dx) ∧
      ∃ mA, h.Ns1 dx mA ∧ (∀ f, RelO (fs.lookup f) (mA f)) ∧ PySem.Within mA (fs.map (·.1))
  | .own _ => ∃ o, h.get? a = some o
  | .xd fs => ∃ mA, h.Ns1 a mA ∧ ∀ f, RelO (fs.lookup f) (mA f)
  | .rng lo hi => ∃ t u v, h.get? a = some { cls := .type "range", data := .fields #[.int lo t, .int hi u, .int 1 v] }
  | .frz o u => h.get? a = some o ∧ ObjOk H h a u
  | .tbl ps => h.get? a = some { cls := .none, data := .fields ps }
  | .met f x => h.get? a = some (PySem.W.methodObj (.ref f) (.ref x))
  | .ext φ => φ h ∧ (∃ o, h.get? a = some o) ∧ ∀ h1 h2 : Heap, φ h1 → (∀ o, h1.get? a = some o → h2.get? a = some o) → φ h2
def HOk (H : Hp) (h : Heap) : Prop := ∀ a o, H a = some o → ObjOk P w H h a o
end
section
variable {P : Program} {w : World} {H H' : Hp} {h h' : Heap} {a : Addr} {o : HO}
theorem ObjOk.lt (x : ObjOk P w H h a o) : a < h.objs.size := by
  cases o with
  | lst xs => obtain ⟨_, _, _, _, e⟩ := x; exact Heap.lt_size e
  | tup xs => obtain ⟨_, _, _, p⟩ := x; exact p.lt
  | dK kvs => obtain ⟨_, _, _, _, o, _, _, e, _⟩ := x; exact Heap.lt_size e
  | dT kvs => obtain ⟨_, _, _, _, o, _, _, e, _⟩ := x; exact Heap.lt_size e
  | set S n => obtain ⟨o, _, _, _, e, _⟩ := x; exact Heap.lt_size e
  | ins C dx fs => obtain ⟨_, _, _, e, _⟩ := x; exact Heap.lt_size e
  | own y => obtain ⟨_, e⟩ := x; exact Heap.lt_size e
  | xd fs => obtain ⟨_, ⟨_, _, _, e, _⟩, _⟩ := x; exact Heap.lt_size e
  | rng lo hi => obtain ⟨_, _, _, e⟩ := x; exact Heap.lt_size e
  | frz ob u => obtain ⟨e, _⟩ := x; exact Heap.lt_size e
  | tbl ps => exact Heap.lt_size (show h.get? a = some _ from x)
  | met f y => exact Heap.lt_size (show h.get? a = some _ from x)
  | ext φ => obtain ⟨_, ⟨_, e⟩, _⟩ := x; exact Heap.lt_size e
theorem Paired.mapP {α β : Type} {F G : α → β → Prop} : ∀ {l₁ : List α} {l₂ : List β}, Paired F l₁ l₂ → (∀ a b, F a b → G a b) → Paired G l₁ l₂
  | _, _, .nil, _ => .nil
  | _, _, .cons r t, f => .cons (f _ _ r) (Paired.mapP t f)
theorem ObjOk.stay (x : ObjOk P w H h a o) (k : ∀ b u, (b = a ∨ H b = some (.own a)) → h.get? b = some u → h'.get? b = some u)
    (ho : ∀ b, H b = some (.own a) → H' b = some (.own a)) (ht : ∀ b xs, H b = some (.tup xs) → H' b = some (.tup xs)) : ObjOk P w H' h' a o := by
  induction o with
  | lst xs => obtain ⟨z, its, n, r, e⟩ := x; exact ⟨z, its, n, r, k _ _ (.inl rfl) e⟩
  | tup xs => obtain ⟨z, its, r, ob, e, c⟩ := x; exact ⟨z, its, r, ob, k _ _ (.inl rfl) e, c⟩
  | dK kvs => obtain ⟨z, y, vs, r, ob, es, ep, e, c⟩ := x; exact ⟨z, y, vs, r, ob, es, ep, k _ _ (.inl rfl) e, c⟩
  | dT kvs =>
    obtain ⟨z, y, xs, r, ob, es, ep, e, c⟩ := x
    exact ⟨z, y, xs, Paired.mapP r fun p q z => ⟨z.1, ht _ _ z.2.1, z.2.2⟩, ob, es, ep, k _ _ (.inl rfl) e, c⟩
  | set S n => obtain ⟨ob, es, ep, t, e, c⟩ := x; exact ⟨ob, es, ep, t, k _ _ (.inl rfl) e, c⟩
  | ins C dx fs =>
    obtain ⟨d, z, ne, e, mA, ⟨od, es, ep, e2, c⟩, r⟩ := x
    exact ⟨ho _ d, z, ne, k _ _ (.inl rfl) e, mA, ⟨od, es, ep, k _ _ (.inr d) e2, c⟩, r⟩
  | own y => obtain ⟨ob, e⟩ := x; exact ⟨ob, k _ _ (.inl rfl) e⟩
  | xd fs => obtain ⟨mA, ⟨od, es, ep, e, c⟩, r⟩ := x; exact ⟨mA, ⟨od, es, ep, k _ _ (.inl rfl) e, c⟩, r⟩
  | rng lo hi => obtain ⟨t, u, v, e⟩ := x; exact ⟨t, u, v, k _ _ (.inl rfl) e⟩
  | frz ob u ih => obtain ⟨e, q⟩ := x; exact ⟨k _ _ (.inl rfl) e, ih q⟩
  | tbl ps =>
    have e : h.get? a = some { cls := .none, data := .fields ps } := x
    show h'.get? a = some { cls := .none, data := .fields ps }
    exact k a _ (.inl rfl) e
  | met f y =>
    have e : h.get? a = some (PySem.W.methodObj (.ref f) (.ref y)) := x
    show h'.get? a = some (PySem.W.methodObj (.ref f) (.ref y))
    exact k a _ (.inl rfl) e
  | ext φ => obtain ⟨p, ⟨o, e⟩, st⟩ := x; exact ⟨st _ _ p fun o q => k _ _ (.inl rfl) q, ⟨o, k _ _ (.inl rfl) e⟩, st⟩
theorem HOk.lt (x : HOk P w H h) (e : H a = some o) : a < h.objs.size := (x a o e).lt
theorem HOk.fresh (x : HOk P w H h) (e : h.objs.size ≤ a) : H a = none := by
  cases q : H a with
  | none => rfl
  | some u => exact absurd (Nat.lt_of_lt_of_le (x.lt q) e) (Nat.lt_irrefl _)
theorem HOk.kept (x : HOk P w H h) (k : ∀ b u, h.get? b = some u → h'.get? b = some u) : HOk P w H h' := fun a o e =>
  (x a o e).stay (fun b u _ q => k b u q) (fun _ q => q) fun _ _ q => q
theorem HOk.laid (x : HOk P w H h) (k : ∀ b u, h.get? b = some u → h'.get? b = some u) (hp : h.objs.size ≤ a) (new : ObjOk P w (upd H a o) h' a o) : HOk P w (upd H a o) h' := fun b u e => by
  have hn := x.fresh hp
  by_cases hb : b = a
  · subst hb; rw [upd_same] at e; cases e; exact new
  · rw [upd_ne hb] at e
    exact (x b u e).stay (fun c v _ q => k c v q) (fun c q => by rw [upd_ne (ne_of_none q hn)]; exact q) fun c xs q => by rw [upd_ne (ne_of_none q hn)]; exact q
end
def Rd (H : Hp) (a : Addr) (u : HO) : Prop := H a = some u ∨ ∃ o, H a = some (.frz o u)
theorem Rd.ok {P : Program} {w : World} {H : Hp} {h : Heap} {a : Addr} {u : HO} (r : Rd H a u) (x : HOk P w H h) : ObjOk P w H h a u := by
  rcases r with r | ⟨o, r⟩
  · exact x a u r
  · obtain ⟨_, q⟩ := x a _ r
    exact q
def Mut : Option HO → Prop
  | some (.lst _) => True
  | some (.dK _) => True
  | some (.dT _) => True
  | some (.set _ _) => True
  | some (.ins _ _ _) => True
  | some (.ext _) => True
  | _ => False
section
variable {P : Program} {w : World} {H : Hp} {h h' : Heap} {x e : Addr} {o' : HO}
theorem HOk.write (ok : HOk P w H h) (mu : Mut (H x)) (he : e = x ∨ H e = some (.own x)) (k : ∀ b u, b ≠ e → h.get? b = some u → h'.get? b = some u) (heo : ∃ u, h'.get? e = some u)
    (new : ObjOk P w (upd H x o') h' x o') : HOk P w (upd H x o') h' := fun b u q => by
  have nown : ∀ c y, H c = some (.own y) → c ≠ x := fun c y r z => by subst z; rw [r] at mu; exact mu
  have ntup : ∀ c xs, H c = some (.tup xs) → c ≠ x := fun c xs r z => by subst z; rw [r] at mu; exact mu
  by_cases hb : b = x
  · subst hb; rw [upd_same] at q; cases q; exact new
  · rw [upd_ne hb] at q
    by_cases hbe : b = e
    · have q' : H b = some (.own x) := by
        rcases he with z | z
        · exact absurd (hbe.trans z) hb
        · rw [hbe]; exact z
      rw [q] at q'; cases q'
      obtain ⟨v, hv⟩ := heo
      exact ⟨v, by rw [hbe]; exact hv⟩
    · refine (ok b u q).stay (fun c v hc r => k c v ?_ r) (fun c r => by rw [upd_ne (nown c b r)]; exact r) fun c xs r => by rw [upd_ne (ntup c xs r)]; exact r
      rcases hc with rfl | hc
      · exact hbe
      · rintro rfl
        rcases he with z | z
        · exact nown c b hc z
        · rw [hc] at z; cases z; exact hb rfl
end
structure Un (fs ex : List Addr) (H H' : Hp) (h h' : Heap) : Prop where
  keep : ∀ b o, h.get? b = some o → H b = none → b ∉ fs → b ∉ ex → h'.get? b = some o
  slot : ∀ b o, h.get? b = some o → H b = none → b ∈ fs → b ∉ ex → ∃ sl, h'.get? b = some { o with slots := sl }
  free : ∀ b o, h.get? b = some o → H b = none → b ∉ ex → H' b = none
  there : ∀ b o, h.get? b = some o → b ∉ ex → ∃ o', h'.get? b = some o'
  tups : ∀ b xs, H b = some (.tup xs) → H' b = some (.tup xs)
  frzs : ∀ b o u, H b = some (.frz o u) → H' b = some (.frz o u)
  tbls : ∀ b ps, H b = some (.tbl ps) → ∃ more, H' b = some (.tbl (ps ++ more))
section
variable {fs fs' ex ex' : List Addr} {H H1 H2 : Hp} {h h1 h2 h' : Heap} {a x e : Addr} {o : HO}
theorem Un.any (u : Un fs ex H H1 h h1) {b : Addr} {ob : Obj} (q : h.get? b = some ob) (n : H b = none) (hx : b ∉ ex) : ∃ sl, h1.get? b = some { ob with slots := sl } := by
  by_cases hb : b ∈ fs
  · exact u.slot b ob q n hb hx
  · exact ⟨ob.slots, u.keep b ob q n hb hx⟩
theorem Un.kept (k : ∀ b u, h.get? b = some u → h'.get? b = some u) : Un fs ex H H h h' :=
  ⟨fun b ob q _ _ _ => k b ob q, fun b ob q _ _ _ => ⟨ob.slots, k b ob q⟩, fun _ _ _ n _ => n, fun b ob q _ => ⟨ob, k b ob q⟩, fun _ _ q => q, fun _ _ _ q => q, fun _ ps q => ⟨#[], by rw [q]; simp⟩⟩
theorem Un.refl : Un fs ex H H h h := Un.kept fun _ _ q => q
theorem Un.laid (k : ∀ b u, h.get? b = some u → h'.get? b = some u) (hp : h.objs.size ≤ a) (hn : H a = none) : Un fs ex H (upd H a o) h h' where
  keep := fun b u q _ _ _ => k b u q
  slot := fun b u q _ _ _ => ⟨u.slots, k b u q⟩
  free := fun b u q n _ => by rw [upd_ne (Nat.ne_of_lt (Nat.lt_of_lt_of_le (Heap.lt_size q) hp))]; exact n
  there := fun b u q _ => ⟨u, k b u q⟩
  tups := fun b xs q => by rw [upd_ne (ne_of_none q hn)]; exact q
  frzs := fun b u xs q => by rw [upd_ne (ne_of_none q hn)]; exact q
  tbls := fun b ps q => ⟨#[], by rw [upd_ne (ne_of_none q hn), q]; simp⟩
theorem Un.write (mu : Mut (H x)) (he : e = x ∨ H e = some (.own x)) (k : ∀ b u, b ≠ e → h.get? b = some u → h'.get? b = some u) (heo : ∃ u, h'.get? e = some u) : Un fs ex H (upd H x o) h h' := by
  have hx : ∀ b, H b = none → b ≠ x := fun b n z => by subst z; rw [n] at mu; exact mu
  have hb : ∀ b, H b = none → b ≠ e := fun b n z => by
    subst z
    rcases he with r | r
    · exact hx b n r
    · rw [n] at r; cases r
  have hm : ∀ b u, H b = some u → ¬ Mut (some u) → b ≠ x := fun b u q nm z => by subst z; rw [q] at mu; exact nm mu
  refine ⟨fun b u q n _ _ => k b u (hb b n) q, fun b u q n _ _ => ⟨u.slots, k b u (hb b n) q⟩, fun b u q n _ => by rw [upd_ne (hx b n)]; exact n, fun b u q _ => ?_,
    fun b xs q => by rw [upd_ne (hm b _ q fun z => z)]; exact q, fun b u xs q => by rw [upd_ne (hm b _ q fun z => z)]; exact q, fun b ps q => ⟨#[], by rw [upd_ne (hm b _ q fun z => z), q]; simp⟩⟩
  by_cases hbe : b = e
  · subst hbe; exact heo
  · exact ⟨u, k b u hbe q⟩
end
def trk (h : Heap) (H : Hp) : List Addr := (List.range h.objs.size).filter fun a => (H a).isSome
def hidT (h : Heap) (H : Hp) : Heap := PySem.W.hideAll h (trk h H)
theorem hidT_size (h : Heap) (H : Hp) : (hidT h H).objs.size = h.objs.size := PySem.W.hideAll_size _ _
theorem hidT_get {h : Heap} {H : Hp} {b : Addr} {o : Obj} (e : h.get? b = some o) (n : H b = none) : (hidT h H).get? b = some o :=
  PySem.W.hideAll_get _ e fun hm => by
    have q : (H b).isSome = true := (List.mem_filter.mp hm).2
    rw [n] at q; simp at q
theorem of_hidT {h : Heap} {H : Hp} {b : Addr} {o : Obj} (e : (hidT h H).get? b = some o) : h.get? b = some o ∧ H b = none := by
  have e' : h.get? b = some o := PySem.W.of_hideAll (trk h H) e
  refine ⟨e', ?_⟩
  cases q : H b with
  | none => rfl
  | some x =>
    have hm : b ∈ trk h H := List.mem_filter.mpr ⟨List.mem_range.mpr (Heap.lt_size e'), by simp [q]⟩
    have z : (hidT h H).get? b = none := PySem.W.hideAll_none (trk h H) hm
    rw [z] at e; cases e
end L2
namespace L2
open PySem PySem.Spec PyProof.Rows
structure Mod (K : PySem.W.Frag) (mg : Str → Option Value) (base : Heap) : Prop where
  kin : K.In base
  glob : base.Ns mainGlobals mg
  blt : ∃ mb, base.Ns builtinsNs mb ∧ ∀ x : Str, x ≠ "__name__" → mb x = bootBuiltins x
  nolimit : base.NoLimit
structure Cx where
  prog : Program
  w : World
  K : PySem.W.Frag
  mg : Str → Option Value
  base : Heap
  A : Around
  N : List Str
  s_0 : Shared
  H_0 : Hp
  env : Env
  outer : List Env
  stack : List Env
  ex : List Addr
  fn : Str → Bool
  calm : Bool
  pn : List (Addr × Obj)
  xe : Value → Shared → Prop
def frs (l : List Env) : List Addr := l.filterMap (·.frame)
abbrev Cx.fs (X : Cx) : List Addr := frs X.outer
def Vis (sc : Scope) (x : Str) : Prop := sc.names.lookup x = some .local ∨ sc.names.lookup x = some .cell ∨ sc.names.lookup x = some .free
def Loc (sc : Scope) (x : Str) : Prop := sc.names.lookup x = some .local ∨ sc.names.lookup x = some .cell
def Look (env : Env) (h : Heap) (m : Str → Option Value) (x : Str) (u : Value) : Prop :=
  (env.kindOf x = some .local ∧ m x = some u) ∨ ((env.kindOf x = some .cell ∨ env.kindOf x = some .free) ∧ ∃ c, env.cells.lookup x = some c ∧ h.IsCell c (some u))
structure Cx.Ok (X : Cx) : Prop where
  mod : Mod X.K X.mg X.base
  kind : X.env.scope.kind = .function
  glob : X.env.globals = mainGlobals
  blt : X.env.builtins = builtinsNs
  above : X.s_0.heap.objs.size ≤ X.env.locals
  inj : ∀ x y c, X.env.cells.lookup x = some c → X.env.cells.lookup y = some c → x = y
  has : ∀ x, (X.env.kindOf x = some .cell ∨ X.env.kindOf x = some .free) → ∃ c, X.env.cells.lookup x = some c
  cab : ∀ x c, X.fn x = true → X.env.cells.lookup x = some c → X.s_0.heap.objs.size ≤ c
  hd : X.calm = true → X.A.handled = none
  frames : X.A.frames = some X.stack
  stk : X.stack = X.outer ∨ (X.stack = X.env :: X.outer ∧ X.env.frame = some X.env.locals)
  exf : ∀ b ∈ X.ex, b ≠ X.env.locals ∧ ∀ x c, X.env.cells.lookup x = some c → c ≠ b
  bs : ∀ b o, X.base.get? b = some o → X.s_0.heap.get? b = some o ∧ X.H_0 b = none
  bsz : X.base.objs.size ≤ X.s_0.heap.objs.size
  noex : ∀ b o, X.base.get? b = some o → b ∉ X.ex
  exfs : ∀ b ∈ X.ex, b ∉ X.fs
  funs : X.s_0.heap.FunFrames X.base X.outer
  frf : ∀ b ∈ X.fs, X.H_0 b = none
structure Inv (X : Cx) (pins : List (Addr × Obj)) (σ : List (Option V)) (H : Hp) (s : Shared) : Prop where
  ok : X.Ok
  os : s.os = X.s_0.os
  bare : AllBare s.gens
  base : Un X.fs X.ex X.H_0 H X.s_0.heap s.heap
  loc : ∃ m, s.heap.Ns X.env.locals m ∧ ∀ (i : Nat) (x : Str) (v : V), X.N[i]? = some x → σ[i]? = some (some v) → Vis X.env.scope x → ∃ u, RelV v u ∧ Look X.env s.heap m x u
  cell : ∀ x c, X.env.cells.lookup x = some c → ∃ v, s.heap.IsCell c v
  free : H X.env.locals = none
  freeC : ∀ x c, X.env.cells.lookup x = some c → H c = none
  pin : ∀ p ∈ X.pn ++ pins, s.heap.get? p.1 = some p.2 ∧ H p.1 = none ∧ p.1 ≠ X.env.locals ∧ p.1 ∉ X.fs ∧ ∀ v, p.2.data ≠ .cell v
  hok : HOk X.prog X.w H s.heap
  len : σ.length = X.N.length
section
variable {X : Cx} {pins : List (Addr × Obj)} {σ : List (Option V)} {H H' : Hp} {s : Shared} {h' : Heap}
theorem Cx.Ok.nofr (ok : X.Ok) {b : Addr} {o : Obj} (e : X.base.get? b = some o) : b ∉ X.fs := fun hb => by
  have := (ok.funs.mem hb).1
  rw [e] at this; cases this
theorem Inv.bs (I : Inv X pins σ H s) : ∀ b o, X.base.get? b = some o → s.heap.get? b = some o ∧ H b = none := fun b o e =>
  ⟨I.base.keep b o (I.ok.bs b o e).1 (I.ok.bs b o e).2 (I.ok.nofr e) (I.ok.noex b o e), I.base.free b o (I.ok.bs b o e).1 (I.ok.bs b o e).2 (I.ok.noex b o e)⟩
theorem Inv.bk (I : Inv X pins σ H s) : ∀ b o, X.base.get? b = some o → s.heap.get? b = some o := fun b o e => (I.bs b o e).1
theorem Inv.mod (I : Inv X pins σ H s) : Mod X.K X.mg X.base := I.ok.mod
theorem Inv.kIn (I : Inv X pins σ H s) : X.K.In s.heap := I.ok.mod.kin.keeps I.bk
theorem Inv.fr (I : Inv X pins σ H s) : ∃ m, Fr X.base X.env.locals s.heap m :=
  let ⟨m, hn, _⟩ := I.loc
  ⟨m, hn, I.bk, Nat.le_trans I.ok.bsz I.ok.above⟩
theorem Inv.lt (I : Inv X pins σ H s) : X.env.locals < s.heap.objs.size := let ⟨_, hn, _⟩ := I.loc; hn.lt
theorem Inv.sz (I : Inv X pins σ H s) : X.s_0.heap.objs.size ≤ s.heap.objs.size := Nat.le_trans I.ok.above (Nat.le_of_lt I.lt)
theorem Inv.nofs (I : Inv X pins σ H s) {a : Addr} (h : s.heap.objs.size ≤ a) : a ∉ X.fs := fun hb => by
  obtain ⟨_, o, ho, _⟩ := I.ok.funs.mem hb
  exact absurd (Nat.lt_of_lt_of_le (Heap.lt_size ho) (Nat.le_trans I.sz h)) (Nat.lt_irrefl _)
theorem Inv.cne (I : Inv X pins σ H s) : ∀ x c, X.env.cells.lookup x = some c → c ≠ X.env.locals := fun x c e z => by
  obtain ⟨v, o, ho, hd⟩ := I.cell x c e
  obtain ⟨m, ⟨o', es, ep, ho', hd', _⟩, _⟩ := I.loc
  rw [z, ho'] at ho; cases ho; rw [hd'] at hd; cases hd
theorem Inv.funs (I : Inv X pins σ H s) : s.heap.FunFrames X.base X.outer := by
  have all : ∀ (l : List Env), (∀ b ∈ frs l, b ∈ X.fs) → X.s_0.heap.FunFrames X.base l → s.heap.FunFrames X.base l := by
    intro l
    induction l with
    | nil => intro _ _; trivial
    | cons env r ih =>
      intro hs hl
      obtain ⟨hk, ⟨L, o, hf, hn, ho, hd⟩, hr⟩ := hl
      have hL : L ∈ X.fs := hs L (by unfold frs; rw [List.filterMap_cons, hf]; exact List.mem_cons_self)
      obtain ⟨sl, e⟩ := I.base.slot L o ho (I.ok.frf L hL) hL fun z => I.ok.exfs L z hL
      exact ⟨hk, ⟨L, _, hf, hn, e, hd⟩, ih (fun b hb => hs b (by unfold frs; rw [List.filterMap_cons, hf]; exact List.mem_cons_of_mem _ hb)) hr⟩
  exact all X.outer (fun _ hb => hb) I.ok.funs
theorem Inv.stack (I : Inv X pins σ H s) : s.heap.FunFrames X.base X.stack := by
  rcases I.ok.stk with e | ⟨e, hf⟩
  · rw [e]; exact I.funs
  · rw [e]
    obtain ⟨m, hn, _⟩ := I.loc
    refine .cons (by rw [I.ok.kind]; decide) hf hn ?_ I.funs
    exact Heap.get?_none_of_le (Nat.le_trans I.ok.bsz I.ok.above)
theorem Inv.stkSub (I : Inv X pins σ H s) : ∀ b ∈ frs X.stack, b ∈ X.env.locals :: X.fs := fun b hb => by
  rcases I.ok.stk with e | ⟨e, hf⟩
  · rw [e] at hb; exact List.mem_cons_of_mem _ hb
  · rw [e] at hb
    unfold frs at hb
    rw [List.filterMap_cons, hf] at hb
    exact hb
theorem Inv.stkFree (I : Inv X pins σ H s) : ∀ b ∈ frs X.stack, H b = none := fun b hb => by
  rcases List.mem_cons.mp (I.stkSub b hb) with e | hb
  · rw [e]; exact I.free
  · obtain ⟨_, o, ho, _⟩ := I.ok.funs.mem hb
    exact I.base.free b o ho (I.ok.frf b hb) fun z => I.ok.exfs b z hb
theorem Inv.step {g' : Array GenState} {t' : Nat} {d' : Drawn} {ch : List Addr} (I : Inv X pins σ H s)
    (hch : ∀ b ∈ ch, (b ∈ X.ex ∨ X.s_0.heap.objs.size ≤ b) ∧ b ≠ X.env.locals ∧ (∀ x c, X.env.cells.lookup x = some c → c ≠ b) ∧ ∀ p ∈ X.pn ++ pins, p.1 ≠ b)
    (keep : ∀ b o, b ≠ X.env.locals → b ∉ X.fs → b ∉ ch → s.heap.get? b = some o → H b = none → h'.get? b = some o)
    (slot : ∀ b o, b ≠ X.env.locals → b ∈ X.fs → b ∉ ch → s.heap.get? b = some o → H b = none → ∃ sl, h'.get? b = some { o with slots := sl }) (free : ∀ b o, b ∉ ch → s.heap.get? b = some o → H b = none → H' b = none)
    (there : ∀ b o, b ∉ ch → s.heap.get? b = some o → ∃ o', h'.get? b = some o')
    (tups : ∀ b xs, H b = some (.tup xs) → H' b = some (.tup xs)) (frzs : ∀ b o u, H b = some (.frz o u) → H' b = some (.frz o u)) (tbls : ∀ b ps, H b = some (.tbl ps) → ∃ more, H' b = some (.tbl (ps ++ more)))
    (ns : ∀ m, s.heap.Ns X.env.locals m → h'.Ns X.env.locals m) (hok : HOk X.prog X.w H' h') (hg : AllBare g') :
    Inv X pins σ H' { s with heap := h', gens := g', drawn := d', toks := t' } := by
  have neL : ∀ b o, X.s_0.heap.get? b = some o → b ≠ X.env.locals := fun b o e => Nat.ne_of_lt (Nat.lt_of_lt_of_le (Heap.lt_size e) I.ok.above)
  have neC : ∀ b o, X.s_0.heap.get? b = some o → b ∉ X.ex → b ∉ ch := fun b o e hx hb => by
    rcases (hch b hb).1 with z | z
    · exact hx z
    · exact absurd (Nat.lt_of_lt_of_le (Heap.lt_size e) z) (Nat.lt_irrefl _)
  have cellK : ∀ x c, X.env.cells.lookup x = some c → ∀ v, s.heap.IsCell c v → h'.IsCell c v := fun x c e v ⟨o, ho, hd⟩ => by
    have nch : c ∉ ch := fun z => (hch c z).2.2.1 x c e rfl
    by_cases hc : c ∈ X.fs
    · obtain ⟨sl, q⟩ := slot c o (I.cne x c e) hc nch ho (I.freeC x c e)
      exact ⟨_, q, hd⟩
    · exact ⟨o, keep c o (I.cne x c e) hc nch ho (I.freeC x c e), hd⟩
  refine ⟨I.ok, I.os, hg, ⟨fun b o e n hb hx => ?_, fun b o e n hb hx => ?_, fun b o e n hx => ?_, fun b o e hx => ?_, fun b xs e => tups b xs (I.base.tups b xs e), fun b o xs e => frzs b o xs (I.base.frzs b o xs e), fun b ps e => ?_⟩, ?_, fun x c e => ?_, ?_, fun x c e => ?_, fun p hp => ?_, hok, I.len⟩
  · exact keep b o (neL b o e) hb (neC b o e hx) (I.base.keep b o e n hb hx) (I.base.free b o e n hx)
  · obtain ⟨sl, e1⟩ := I.base.slot b o e n hb hx
    obtain ⟨sl', e2⟩ := slot b _ (neL b o e) hb (neC b o e hx) e1 (I.base.free b o e n hx)
    exact ⟨sl', e2⟩
  · obtain ⟨o', e1⟩ := I.base.there b o e hx
    exact free b o' (neC b o e hx) e1 (I.base.free b o e n hx)
  · obtain ⟨o', e1⟩ := I.base.there b o e hx
    exact there b o' (neC b o e hx) e1
  · obtain ⟨m1, e1⟩ := I.base.tbls b ps e
    obtain ⟨m2, e2⟩ := tbls b _ e1
    exact ⟨m1 ++ m2, by rw [e2, Array.append_assoc]⟩
  · obtain ⟨m, hn, hl⟩ := I.loc
    refine ⟨m, ns m hn, fun i x v e1 e2 e3 => ?_⟩
    obtain ⟨u, r, l⟩ := hl i x v e1 e2 e3
    refine ⟨u, r, ?_⟩
    rcases l with l | ⟨k, c, e, z⟩
    · exact .inl l
    · exact .inr ⟨k, c, e, cellK x c e _ z⟩
  · obtain ⟨v, z⟩ := I.cell x c e
    exact ⟨v, cellK x c e v z⟩
  · obtain ⟨m, ⟨o, _, _, ho, _⟩, _⟩ := I.loc
    exact free _ o (fun z => (hch _ z).2.1 rfl) ho I.free
  · obtain ⟨v, o, ho, hd⟩ := I.cell x c e
    exact free c o (fun z => (hch c z).2.2.1 x c e rfl) ho (I.freeC x c e)
  · obtain ⟨e, n, ne, nf, d⟩ := I.pin p hp
    have nch : p.1 ∉ ch := fun z => (hch p.1 z).2.2.2 p hp rfl
    exact ⟨keep p.1 p.2 ne nf nch e n, free p.1 p.2 nch e n, ne, nf, d⟩
theorem Inv.un {t' : Nat} (I : Inv X pins σ H s) (u : Un X.fs [] H H' s.heap h') (hok : HOk X.prog X.w H' h') : Inv X pins σ H' { s with heap := h', toks := t' } := by
  obtain ⟨m, ⟨o, es, ep, ho, r⟩, _⟩ := id I.loc
  obtain ⟨sl, hL⟩ := u.any ho I.free (by simp)
  exact I.step (g' := s.gens) (d' := s.drawn) (ch := []) (fun _ z => nomatch z) (fun b o _ hb _ e n => u.keep b o e n hb (by simp)) (fun b o _ hb _ e n => u.slot b o e n hb (by simp)) (fun b o _ e n => u.free b o e n (by simp)) (fun b o _ e => u.there b o e (by simp)) u.tups u.frzs u.tbls (fun m' hm => by
    obtain ⟨o', es', ep', ho', r'⟩ := hm
    rw [ho] at ho'; cases ho'
    exact ⟨_, es', ep', hL, r'⟩) hok I.bare
theorem Inv.call {g' : Array GenState} {t' : Nat} {d' : Drawn} {ch : List Addr} (I : Inv X pins σ H s) (u : Un (frs X.stack) ch H H' s.heap h') (hok : HOk X.prog X.w H' h') (hg : AllBare g')
    (hch : ∀ b ∈ ch, (b ∈ X.ex ∨ X.s_0.heap.objs.size ≤ b) ∧ b ≠ X.env.locals ∧ (∀ x c, X.env.cells.lookup x = some c → c ≠ b) ∧ ∀ p ∈ X.pn ++ pins, p.1 ≠ b) :
    Inv X pins σ H' { s with heap := h', gens := g', drawn := d', toks := t' } := by
  obtain ⟨m, ⟨o, es, ep, ho, r⟩, _⟩ := id I.loc
  obtain ⟨sl, hL⟩ := u.any ho I.free fun z => (hch _ z).2.1 rfl
  exact I.step (ch := ch) hch (fun b o hL hb hc e n => u.keep b o e n (fun z => (List.mem_cons.mp (I.stkSub b z)).elim hL hb) hc) (fun b o _ _ hc e n => u.any e n hc) (fun b o hc e n => u.free b o e n hc) (fun b o hc e => u.there b o e hc) u.tups u.frzs u.tbls (fun m' hm => by
    obtain ⟨o', es', ep', ho', r'⟩ := hm
    rw [ho] at ho'; cases ho'
    exact ⟨_, es', ep', hL, r'⟩) hok hg
theorem Inv.turned {t' : Nat} {it : Addr} (I : Inv X pins σ H s) (k : ∀ b o, b ≠ it → s.heap.get? b = some o → h'.get? b = some o) (hn : H it = none) (hL : it ≠ X.env.locals)
    (h1 : it ∈ X.ex ∨ X.s_0.heap.objs.size ≤ it) (h2 : ∀ x c, X.env.cells.lookup x = some c → c ≠ it) (h3 : ∀ p ∈ X.pn ++ pins, p.1 ≠ it) : Inv X pins σ H { s with heap := h', toks := t' } := by
  have nit : ∀ b u, H b = some u → b ≠ it := fun b u e z => by rw [z, hn] at e; cases e
  refine I.step (g' := s.gens) (d' := s.drawn) (ch := [it]) (fun b hb => ?_) (fun b o _ _ hc e _ => k b o (fun z => hc (by simp [z])) e) (fun b o _ _ hc e _ => ⟨o.slots, k b o (fun z => hc (by simp [z])) e⟩) (fun _ _ _ _ n => n)
    (fun b o hc e => ⟨o, k b o (fun z => hc (by simp [z])) e⟩) (fun _ _ e => e) (fun _ _ _ e => e) (fun b ps e => ⟨#[], by rw [e]; simp⟩) (fun m hm => ?_) (fun b u e => ?_) I.bare
  · have e : b = it := by simpa using hb
    subst e
    exact ⟨h1, hL, h2, h3⟩
  · obtain ⟨o, es, ep, ho, r⟩ := hm
    exact ⟨o, es, ep, k _ o (Ne.symm hL) ho, r⟩
  · refine (I.hok b u e).stay (fun c v hc q => k c v ?_ q) (fun _ q => q) fun _ _ q => q
    rcases hc with z | z
    · rw [z]; exact nit b u e
    · exact nit c _ z
theorem Inv.tok (I : Inv X pins σ H s) (t : Nat) : Inv X pins σ H { s with toks := t } := I.un (h' := s.heap) (t' := t) Un.refl I.hok
theorem Inv.kept {t' : Nat} (I : Inv X pins σ H s) (k : ∀ b u, s.heap.get? b = some u → h'.get? b = some u) : Inv X pins σ H { s with heap := h', toks := t' } := I.un (Un.kept k) (I.hok.kept k)
theorem Inv.laid {a : Addr} {o : HO} {t' : Nat} (I : Inv X pins σ H s) (k : ∀ b u, s.heap.get? b = some u → h'.get? b = some u) (hp : s.heap.objs.size ≤ a) (new : ObjOk X.prog X.w (upd H a o) h' a o) :
    Inv X pins σ (upd H a o) { s with heap := h', toks := t' } := I.un (Un.laid k hp (I.hok.fresh hp)) (I.hok.laid k hp new)
theorem Inv.write {x e : Addr} {o : HO} {t' : Nat} (I : Inv X pins σ H s) (mu : Mut (H x)) (he : e = x ∨ H e = some (.own x)) (k : ∀ b u, b ≠ e → s.heap.get? b = some u → h'.get? b = some u) (heo : ∃ u, h'.get? e = some u)
    (new : ObjOk X.prog X.w (upd H x o) h' x o) : Inv X pins σ (upd H x o) { s with heap := h', toks := t' } := I.un (Un.write mu he k heo) (I.hok.write mu he k heo new)
theorem Inv.weak {σ' : List (Option V)} (I : Inv X pins σ H s) (hl : σ'.length = σ.length) (w : ∀ (i : Nat) v, σ'[i]? = some (some v) → σ[i]? = some (some v)) : Inv X pins σ' H s :=
  ⟨I.ok, I.os, I.bare, I.base, let ⟨m, hn, hl'⟩ := I.loc; ⟨m, hn, fun i x v e1 e2 e3 => hl' i x v e1 (w i v e2) e3⟩, I.cell, I.free, I.freeC, I.pin, I.hok, hl.trans I.len⟩
theorem Inv.pins_of {pins' : List (Addr × Obj)} (I : Inv X pins σ H s) (h : ∀ p ∈ pins', s.heap.get? p.1 = some p.2 ∧ H p.1 = none ∧ p.1 ≠ X.env.locals ∧ p.1 ∉ X.fs ∧ ∀ v, p.2.data ≠ .cell v) : Inv X pins' σ H s :=
  ⟨I.ok, I.os, I.bare, I.base, I.loc, I.cell, I.free, I.freeC, fun p hp => (List.mem_append.mp hp).elim (fun z => I.pin p (List.mem_append_left _ z)) (h p), I.hok, I.len⟩
theorem nodup_ix {N : List Str} (hN : N.Nodup) {i j : Nat} {x : Str} (a : N[i]? = some x) (b : N[j]? = some x) : i = j := by
  obtain ⟨h1, e1⟩ := List.getElem?_eq_some_iff.mp a
  obtain ⟨h2, e2⟩ := List.getElem?_eq_some_iff.mp b
  exact (List.getElem_inj hN).mp (e1.trans e2.symm)
theorem store_ok2 {M : Model} {A : Around} {E : Value → Shared → Prop} {i : Nat} {x : Str} {v : V} {u : Value} {Q : Unit → Shared → Prop} (I : Inv X pins σ H s) (hN : X.N.Nodup) (hi : X.N[i]? = some x) (hx : Loc X.env.scope x) (r : RelV v u)
    (h : ∀ s', Inv X pins (σ.set i (some v)) H s' → (∃ a, Heap.SameBut a s.heap s'.heap ∧ (a = X.env.locals ∨ X.env.cells.lookup x = some a)) → Q () s') (hf : X.fn x = true ∨ X.env.scope.names.lookup x = some .local := by first | exact .inl rfl | exact .inr rfl | assumption) : wpAny M A (storeName X.env x u) Q E s := by
  obtain ⟨m, hn, hl⟩ := id I.loc
  have hcls : (X.env.scope.kind == .class || (X.env.scope.kind == .module && X.env.locals != X.env.globals)) = false := by rw [I.ok.kind]; rfl
  have hiσ : i < σ.length := by rw [I.len]; exact (List.getElem?_eq_some_iff.mp hi).1
  have cne := I.cne
  have tracked : ∀ {a : Addr} {h' : Heap}, (∃ o, s.heap.get? a = some o ∧ H a = none) → Heap.SameBut a s.heap h' → HOk X.prog X.w H h' := fun {a h'} ha hs b ob e => by
    obtain ⟨_, _, hfree⟩ := ha
    refine (I.hok b ob e).stay (fun c w' hc q => (hs.2 c ?_).trans q) (fun _ q => q) fun _ _ q => q
    rintro rfl
    rcases hc with rfl | hc
    · rw [hfree] at e; cases e
    · rw [hfree] at hc; cases hc
  rcases hx with hk | hk
  · refine wpAny_storeName_local hk hn (fun h' hn' hs => ?_) hcls
    obtain ⟨oL, _, _, hoL, _⟩ := id hn
    refine h _ ⟨I.ok, I.os, I.bare, ⟨fun b o e n hb hx => ?_, fun b o e n hb hx => ?_, I.base.free, fun b o e hx => ?_, I.base.tups, I.base.frzs, I.base.tbls⟩, ⟨_, hn', fun j y v' e1 e2 e3 => ?_⟩, fun y c e => ?_, I.free, I.freeC, fun p hp => ?_, tracked ⟨oL, hoL, I.free⟩ hs, by simpa using I.len⟩ ⟨_, hs, .inl rfl⟩
    · exact (hs.2 b (Nat.ne_of_lt (Nat.lt_of_lt_of_le (Heap.lt_size e) I.ok.above))).trans (I.base.keep b o e n hb hx)
    · obtain ⟨sl, e1⟩ := I.base.slot b o e n hb hx
      exact ⟨sl, (hs.2 b (Nat.ne_of_lt (Nat.lt_of_lt_of_le (Heap.lt_size e) I.ok.above))).trans e1⟩
    · obtain ⟨o', e1⟩ := I.base.there b o e hx
      exact ⟨o', (hs.2 b (Nat.ne_of_lt (Nat.lt_of_lt_of_le (Heap.lt_size e) I.ok.above))).trans e1⟩
    · by_cases hj : j = i
      · subst hj
        rw [hi] at e1; cases e1
        rw [List.getElem?_set_self hiσ] at e2
        cases e2
        exact ⟨u, r, .inl ⟨hk, by simp⟩⟩
      · rw [List.getElem?_set_ne (Ne.symm hj)] at e2
        obtain ⟨u', r', q⟩ := hl j y v' e1 e2 e3
        refine ⟨u', r', ?_⟩
        rcases q with ⟨k, e⟩ | ⟨k, c, e, z⟩
        · refine .inl ⟨k, ?_⟩
          have : y ≠ x := fun e => hj (nodup_ix hN e1 (e ▸ hi))
          simp [this, e]
        · exact .inr ⟨k, c, e, z.sameBut hs (cne y c e)⟩
    · obtain ⟨w', z⟩ := I.cell y c e
      exact ⟨w', z.sameBut hs (cne y c e)⟩
    · obtain ⟨e, n, ne, nf, d⟩ := I.pin p hp
      exact ⟨(hs.2 p.1 ne).trans e, n, ne, nf, d⟩
  · have hfn : X.fn x = true := by
      rcases hf with z | z
      · exact z
      · rw [z] at hk; cases hk
    obtain ⟨c, hc⟩ := I.ok.has x (.inl hk)
    obtain ⟨w', z⟩ := I.cell x c hc
    refine wpAny_storeName_cell I.ok.kind hk hc z (fun h' hc' hs => ?_)
    obtain ⟨oc, hoc, hocd⟩ := id z
    refine h { s with heap := h' } ⟨I.ok, I.os, I.bare, ⟨fun b o e n hb hx => ?_, fun b o e n hb hx => ?_, I.base.free, fun b o e hx => ?_, I.base.tups, I.base.frzs, I.base.tbls⟩, ⟨m, hn.sameBut hs (Ne.symm (cne x c hc)), fun j y v' e1 e2 e3 => ?_⟩, fun y c' e => ?_, I.free, I.freeC, fun p hp => ?_, tracked ⟨oc, hoc, I.freeC x c hc⟩ hs, by simpa using I.len⟩ ⟨c, hs, .inr hc⟩
    · exact (hs.2 b (Nat.ne_of_lt (Nat.lt_of_lt_of_le (Heap.lt_size e) (I.ok.cab x c hfn hc)))).trans (I.base.keep b o e n hb hx)
    · obtain ⟨sl, e1⟩ := I.base.slot b o e n hb hx
      exact ⟨sl, (hs.2 b (Nat.ne_of_lt (Nat.lt_of_lt_of_le (Heap.lt_size e) (I.ok.cab x c hfn hc)))).trans e1⟩
    · obtain ⟨o', e1⟩ := I.base.there b o e hx
      exact ⟨o', (hs.2 b (Nat.ne_of_lt (Nat.lt_of_lt_of_le (Heap.lt_size e) (I.ok.cab x c hfn hc)))).trans e1⟩
    · by_cases hj : j = i
      · subst hj
        rw [hi] at e1; cases e1
        rw [List.getElem?_set_self hiσ] at e2
        cases e2
        exact ⟨u, r, .inr ⟨.inl hk, c, hc, hc'⟩⟩
      · rw [List.getElem?_set_ne (Ne.symm hj)] at e2
        obtain ⟨u', r', q⟩ := hl j y v' e1 e2 e3
        refine ⟨u', r', ?_⟩
        rcases q with q | ⟨k, c', e, z'⟩
        · exact .inl q
        · refine .inr ⟨k, c', e, z'.sameBut hs ?_⟩
          rintro rfl
          exact hj (nodup_ix hN e1 (I.ok.inj _ _ _ e hc ▸ hi))
    · by_cases hcc : c' = c
      · subst hcc; exact ⟨_, hc'⟩
      · obtain ⟨w2, z2⟩ := I.cell y c' e
        exact ⟨w2, z2.sameBut hs hcc⟩
    · obtain ⟨e, n, ne, nf, d⟩ := I.pin p hp
      refine ⟨(hs.2 p.1 ?_).trans e, n, ne, nf, d⟩
      intro q
      rw [q, hoc] at e
      have q' : oc = p.2 := Option.some.inj e
      exact d w' (by rw [← q']; exact hocd)
theorem store_ok {M : Model} {A : Around} {E : Value → Shared → Prop} {i : Nat} {x : Str} {v : V} {u : Value} {Q : Unit → Shared → Prop} (I : Inv X pins σ H s) (hN : X.N.Nodup) (hi : X.N[i]? = some x) (hx : Loc X.env.scope x) (r : RelV v u)
    (h : ∀ s', Inv X pins (σ.set i (some v)) H s' → Q () s') (hf : X.fn x = true ∨ X.env.scope.names.lookup x = some .local := by first | exact .inl rfl | exact .inr rfl | assumption) : wpAny M A (storeName X.env x u) Q E s :=
  store_ok2 I hN hi hx r (fun s' I' _ => h s' I') hf
theorem Inv.call' {s' : Shared} {ch : List Addr} (I : Inv X pins σ H s) (ho : s'.os = s.os) (u : Un (frs X.stack) ch H H' s.heap s'.heap) (hok : HOk X.prog X.w H' s'.heap) (hg : AllBare s'.gens)
    (hch : ∀ b ∈ ch, (b ∈ X.ex ∨ X.s_0.heap.objs.size ≤ b) ∧ b ≠ X.env.locals ∧ (∀ x c, X.env.cells.lookup x = some c → c ≠ b) ∧ ∀ p ∈ X.pn ++ pins, p.1 ≠ b) : Inv X pins σ H' s' := by
  obtain ⟨h', g', d', t', o'⟩ := s'
  have e : o' = s.os := ho
  subst e
  exact I.call (g' := g') (t' := t') (d' := d') u hok hg hch
end
abbrev XK := Value → Option Addr → Hp → Prop
abbrev St := List (Option V)
abbrev VK := V → Hp → Prop
abbrev TE := St → Hp → VK → Prop
abbrev TT := St → Hp → (Bool → Hp → Prop) → Prop
abbrev TA := St → Hp → (List V → Hp → Prop) → Prop
structure Ends where
  nx : St → Hp → Prop
  rt : VK
  bk : St → Hp → Prop := fun _ _ => False
  ct : St → Hp → Prop := fun _ _ => False
abbrev TS := Ends → St → Hp → Prop
def EP (X : Cx) (pins : List (Addr × Obj)) (σ : St) (Q : VK) (u : Value) (s' : Shared) : Prop := ∃ v H', Inv X pins σ H' s' ∧ RelV v u ∧ Q v H'
def TP (X : Cx) (pins : List (Addr × Obj)) (σ : St) (Q : Bool → Hp → Prop) (b : Bool) (s' : Shared) : Prop := ∃ H', Inv X pins σ H' s' ∧ Q b H'
def AP (X : Cx) (pins : List (Addr × Obj)) (σ : St) (Q : List V → Hp → Prop) (us : List Value) (s' : Shared) : Prop := ∃ vs H', Inv X pins σ H' s' ∧ Vals vs us ∧ Q vs H'
def SP (X : Cx) (pins : List (Addr × Obj)) (D : Ends) (f : Flow) (s' : Shared) : Prop :=
  match f with
  | .next => ∃ σ' H', Inv X pins σ' H' s' ∧ D.nx σ' H'
  | .brk => ∃ σ' H', Inv X pins σ' H' s' ∧ D.bk σ' H'
  | .cont => ∃ σ' H', Inv X pins σ' H' s' ∧ D.ct σ' H'
  | .ret u => ∃ v σ' H', Inv X pins σ' H' s' ∧ RelV v u ∧ D.rt v H'
def PE (X : Cx) (e : Expr) (t : TE) : Prop :=
  ∀ (pins : List (Addr × Obj)) (s : Shared) (σ : St) (H : Hp) (Q : VK), Inv X pins σ H s → t σ H Q → wpAny (model X.prog X.w) X.A (eval e X.env) (EP X pins σ Q) X.xe s
def PT (X : Cx) (e : Expr) (t : TT) : Prop :=
  ∀ (pins : List (Addr × Obj)) (s : Shared) (σ : St) (H : Hp) (Q : Bool → Hp → Prop), Inv X pins σ H s → t σ H Q → wpAny (model X.prog X.w) X.A (isTrue e X.env (eval e X.env)) (TP X pins σ Q) X.xe s
def PW (X : Cx) (e : Expr) (t : TT) : Prop :=
  ∀ (whole : Sem Value) (pins : List (Addr × Obj)) (s : Shared) (σ : St) (H : Hp) (Q : Bool → Hp → Prop), Inv X pins σ H s → t σ H Q → wpAny (model X.prog X.w) X.A (isTrue e X.env whole) (TP X pins σ Q) X.xe s
theorem PW.pt {X : Cx} {e : Expr} {t : TT} (h : PW X e t) : PT X e t := h _
def PA (X : Cx) (es : List Expr) (t : TA) : Prop :=
  ∀ (pos : Pos) (pins : List (Addr × Obj)) (s : Shared) (σ : St) (H : Hp) (Q : List V → Hp → Prop), Inv X pins σ H s → t σ H Q → wpAny (model X.prog X.w) X.A (spliced (backTo pos (starEach es X.env))) (AP X pins σ Q) X.xe s
def PS (X : Cx) (st : Stmt) (t : TS) : Prop :=
  ∀ (pins : List (Addr × Obj)) (s : Shared) (σ : St) (H : Hp) (D : Ends), Inv X pins σ H s → t D σ H → wpAny (model X.prog X.w) X.A (exec st X.env) (SP X pins D) X.xe s
def PSs (X : Cx) (st : List Stmt) (t : TS) : Prop :=
  ∀ (pins : List (Addr × Obj)) (s : Shared) (σ : St) (H : Hp) (D : Ends), Inv X pins σ H s → t D σ H → wpAny (model X.prog X.w) X.A (execs st X.env) (SP X pins D) X.xe s
theorem thn {α : Type} {t : Sem α} {Q Q' : α → Shared → Prop} {M : Model} {A : Around} {E : Value → Shared → Prop} {s : Shared} (h : wpAny M A t Q E s) (hQ : ∀ a s, Q a s → Q' a s) : wpAny M A t Q' E s := wpAny_mono h hQ fun _ _ x => x
end L2
namespace L2
open PySem PySem.Spec PyProof.Rows
section
variable {X : Cx}
theorem bin {a b : Expr} {ta tb : TE} (ha : PE X a ta) (hb : PE X b tb) {pins : List (Addr × Obj)} {s : Shared} {σ : St} {H : Hp} {R : V → V → Hp → Prop} (I : Inv X pins σ H s) (h : ta σ H fun x H1 => tb σ H1 fun y H2 => R x y H2)
    {α : Type} {Q : α → Shared → Prop} {f : Value → Value → Sem α}
    (hf : ∀ v u s2 x y H2, Inv X pins σ H2 s2 → RelV x v → RelV y u → R x y H2 → wpAny (model X.prog X.w) X.A (f v u) Q X.xe s2) :
    wpAny (model X.prog X.w) X.A (eval a X.env) (fun v s₁ => wpAny (model X.prog X.w) X.A (eval b X.env) (fun u s₂ => wpAny (model X.prog X.w) X.A (f v u) Q X.xe s₂) X.xe s₁) X.xe s := by
  refine thn (ha pins s σ H _ I h) fun v s1 ⟨x, H1, I1, r1, q1⟩ => ?_
  refine thn (hb pins s1 σ H1 _ I1 q1) fun u s2 ⟨y, H2, I2, r2, q2⟩ => ?_
  exact hf v u s2 x y H2 I2 r1 r2 q2
def tVar (i : Nat) : TE := fun σ H Q => ∃ v, σ[i]? = some (some v) ∧ Q v H
def tC (v : V) : TE := fun _ H Q => Q v H
theorem pe_var {i : Nat} {x : Str} {pos : Pos} (hN : X.N[i]? = some x) (hv : Vis X.env.scope x) (hd : (x == ("__debug__" : Str)) = false := by decide) (hcd : (x == ("__classdict__" : Str)) = false := by decide) : PE X (.Name x pos) (tVar i) := by
  intro pins s σ H Q I h
  obtain ⟨v, e, h⟩ := h
  obtain ⟨m, hn, hl⟩ := I.loc
  obtain ⟨u, r, l⟩ := hl i x v hN e hv
  have fin : EP X pins σ Q u s := ⟨v, H, I, r, h⟩
  rcases l with ⟨hk, hm⟩ | ⟨hk, c, hc, hcell⟩
  · exact wpAny_Name (wpAny_loadName_local I.ok.kind hk hn hm fin) hd
  · rcases hk with hk | hk
    · exact wpAny_Name (wpAny_loadName_cell I.ok.kind hk hc hcell fin) hd
    · exact wpAny_Name (wpAny_loadName_free I.ok.kind hk hc hcell fin hcd) hd
theorem pe_int {i j pos} : PE X (.Constant (.int i) j pos) (tC (.int i)) := fun _ _ _ H _ I h => wpAny_Constant_int ⟨.int i, H, I.tok _, ⟨_, rfl⟩, h⟩
theorem pe_bl {b j pos} : PE X (.Constant (.bool b) j pos) (tC (.bl b)) := fun _ _ _ H _ I h => Constant_bool ⟨.bl b, H, I, rfl, h⟩
def Gl (X : Cx) (x : Str) : Prop := X.env.kindOf x = some .globalImplicit
theorem ld_glob {E : Value → Shared → Prop} {pins : List (Addr × Obj)} {s : Shared} {σ : St} {H : Hp} {x : Str} {u : Value} {pos : Pos} {Q : Value → Shared → Prop} (I : Inv X pins σ H s) (hg : Gl X x) (hm : X.mg x = some u) (h : Q u s)
    (hd : (x == ("__debug__" : Str)) = false := by decide) : wpAny (model X.prog X.w) X.A (eval (.Name x pos) X.env) Q E s :=
  Calls.Name_function_global I.ok.kind hg (Calls.loadGlobal_global (by rw [I.ok.glob]; exact I.mod.glob.keeps I.bk) hm h) hd
theorem ld_blt {E : Value → Shared → Prop} {pins : List (Addr × Obj)} {s : Shared} {σ : St} {H : Hp} {x : Str} {u : Value} {pos : Pos} {Q : Value → Shared → Prop} (I : Inv X pins σ H s) (hg : Gl X x) (hm : X.mg x = none) (hv : bootBuiltins x = some u) (h : Q u s)
    (hn : x ≠ "__name__" := by decide) (hd : (x == ("__debug__" : Str)) = false := by decide) : wpAny (model X.prog X.w) X.A (eval (.Name x pos) X.env) Q E s := by
  obtain ⟨mb, h1, h2⟩ := I.mod.blt
  exact Calls.Name_function_global I.ok.kind hg (Calls.loadGlobal_builtin (by rw [I.ok.glob]; exact I.mod.glob.keeps I.bk) hm (by rw [I.ok.blt]; exact h1.keeps I.bk) ((h2 x hn).trans hv) h) hd
theorem pe_glob {x : Str} {v : V} {u : Value} {pos : Pos} (hg : Gl X x) (hm : X.mg x = some u) (r : RelV v u) (hd : (x == ("__debug__" : Str)) = false := by decide) : PE X (.Name x pos) (tC v) :=
  fun _ _ _ H _ I h => ld_glob I hg hm ⟨v, H, I, r, h⟩ hd
variable {a b : Expr} {ta tb : TE} {pos : Pos}
def PC (X : Cx) (op : CmpOp) (a b : Expr) (t : TE) : Prop :=
  ∀ (pins : List (Addr × Obj)) (s : Shared) (σ : St) (H : Hp) (Q : VK), Inv X pins σ H s → t σ H Q →
    wpAny (model X.prog X.w) X.A (eval a X.env) (fun v s₁ => wpAny (model X.prog X.w) X.A (eval b X.env) (fun u s₂ => wpAny (model X.prog X.w) X.A (compareOp op v u) (EP X pins σ Q) X.xe s₂) X.xe s₁) X.xe s
def tB (t : TE) : TT := fun σ H Q => t σ H fun x H1 => ∃ c, x = .bl c ∧ Q c H1
theorem pt_cmp {op : CmpOp} {t : TE} (h : PC X op a b t) (h1 : behindInMarks op b = false := by first | exact nobehind _ (by decide) (by decide) | rfl) : PT X (.Compare a [op] [b] pos) (tB t) := by
  intro pins s σ H Q I hw
  refine wpAny_isTrue_Compare1 (thn (h pins s σ H _ I hw) fun v s1 h1 => thn h1 fun u s2 h2 => thn h2 fun c s3 ⟨x, H1, I1, r1, q1⟩ => ?_) h1
  obtain ⟨d, rfl, q⟩ := q1
  cases r1
  exact wpAny_truthy_bool ⟨H1, I1, q⟩
theorem pt_val {e : Expr} {t : TE} (h : PE X e t) (he : ∀ whole, isTrue e X.env whole = (do let v ← whole; standAt e.pos; holding [v] (truthy v)) := by intro _; rfl) : PT X e (tB t) := by
  intro pins s σ H Q I hw
  refine isTrue_plain (thn (h pins s σ H _ I hw) fun v s1 ⟨x, H1, I1, r1, q1⟩ => ?_) (he _)
  obtain ⟨d, rfl, q⟩ := q1
  cases r1
  exact wpAny_truthy_bool ⟨H1, I1, q⟩
variable {tA tB' : TT} {rest : List Expr}
def tAnd (t u : TT) : TT := fun σ H Q => t σ H fun c H1 => if c = true then u σ H1 Q else Q false H1
def tOr (t u : TT) : TT := fun σ H Q => t σ H fun c H1 => if c = true then Q true H1 else u σ H1 Q
def tNot (t : TT) : TT := fun σ H Q => t σ H fun c H1 => Q (!c) H1
theorem pw_and1 (ha : PT X a tA) : PW X (.BoolOp .And [a] pos) tA := by
  intro wh pins s σ H Q I h
  refine isTrue_and (thn (ha pins s σ H Q I h) fun c s1 e => ?_)
  cases c with
  | true => exact isTrue_and_nil e
  | false => exact e
theorem pw_or1 (ha : PT X a tA) : PW X (.BoolOp .Or [a] pos) tA := by
  intro wh pins s σ H Q I h
  refine isTrue_or (thn (ha pins s σ H Q I h) fun c s1 e => ?_)
  cases c with
  | false => exact isTrue_or_nil e
  | true => exact e
theorem pw_and (ha : PT X a tA) (hb : PW X (.BoolOp .And (b :: rest) pos) tB') : PW X (.BoolOp .And (a :: b :: rest) pos) (tAnd tA tB') := by
  intro wh pins s σ H Q I h
  refine isTrue_and (thn (ha pins s σ H _ I h) fun c s1 ⟨H1, I1, q1⟩ => ?_)
  cases c with
  | true => exact hb wh pins s1 σ H1 Q I1 q1
  | false => exact ⟨H1, I1, q1⟩
theorem pw_or (ha : PT X a tA) (hb : PW X (.BoolOp .Or (b :: rest) pos) tB') : PW X (.BoolOp .Or (a :: b :: rest) pos) (tOr tA tB') := by
  intro wh pins s σ H Q I h
  refine isTrue_or (thn (ha pins s σ H _ I h) fun c s1 ⟨H1, I1, q1⟩ => ?_)
  cases c with
  | true => exact ⟨H1, I1, q1⟩
  | false => exact hb wh pins s1 σ H1 Q I1 q1
theorem pt_not (ha : PT X a tA) : PT X (.UnaryOp .Not a pos) (tNot tA) := by
  intro pins s σ H Q I h
  exact isTrue_not (ha pins s σ H (fun c H1 => Q (!c) H1) I h)
def tAndV (ta tb : TE) : TE := fun σ H Q => ta σ H fun x H1 => ∃ c, x = .bl c ∧ if c = true then tb σ H1 Q else Q (.bl false) H1
theorem pe_one {op} {t : TE} (h : PE X a t) : PE X (.BoolOp op [a] pos) t := fun pins s σ H Q I hw => BoolOp_one (h pins s σ H Q I hw)
theorem pe_and (ha : PE X a ta) (hb : PE X (.BoolOp .And (b :: rest) pos) tb) : PE X (.BoolOp .And (a :: b :: rest) pos) (tAndV ta tb) := by
  intro pins s σ H Q I h
  refine BoolOp_and (thn (ha pins s σ H _ I h) fun v s1 ⟨x, H1, I1, r1, q1⟩ => ?_)
  obtain ⟨c, rfl, q1⟩ := q1
  cases r1
  refine wpAny_truthy_bool ?_
  cases c with
  | true => exact hb pins s1 σ H1 Q I1 q1
  | false => exact ⟨.bl false, H1, I1, rfl, q1⟩
end
end L2
namespace L2
open PySem PySem.Spec PyProof.Rows
def SqL (K : PySem.W.Frag) (H : Hp) (a : Addr) (xs : List V) : Prop :=
  Rd H a (.lst xs) ∨
    ∃ (o : Obj) (its : Array Value) (n : Nat), K.lookup a = some o ∧ o.cls = .type "list" ∧ o.dict = none ∧ o.data = .seq its n ∧ its.size ≤ sizeLine ∧ Vals xs its.toList
def SqT (K : PySem.W.Frag) (H : Hp) (a : Addr) (xs : List V) : Prop :=
  Rd H a (.tup xs) ∨
    ∃ (o : Obj) (its : Array Value) (n : Nat), K.lookup a = some o ∧ o.cls = .type "tuple" ∧ o.data = .seq its n ∧ its.size ≤ sizeLine ∧ Vals xs its.toList
def absV : Value → Option V
  | .none => some .non
  | .bool b => some (.bl b)
  | .int i _ => some (.int i)
  | .str x _ => some (.str x)
  | .bytes b _ => some (.byt b)
  | .float b _ => some (.flt b)
  | .ref a => some (.ref a)
  | .type n => some (.ty n)
  | _ => none
theorem RelV.abs {x : V} {u : Value} (r : RelV x u) : absV u = some x := by
  cases x with
  | non => cases r; rfl
  | bl _ => cases r; rfl
  | int _ => obtain ⟨t, rfl⟩ := r; rfl
  | str _ => obtain ⟨t, rfl⟩ := r; rfl
  | byt _ => obtain ⟨t, rfl⟩ := r; rfl
  | flt _ => obtain ⟨t, rfl⟩ := r; rfl
  | ref _ => cases r; rfl
  | ty _ => cases r; rfl
theorem RelV.inj {x y : V} {u : Value} (r : RelV x u) (q : RelV y u) : x = y := Option.some.inj (r.abs.symm.trans q.abs)
theorem Vals.inj : ∀ {xs ys : List V} {us : List Value}, Vals xs us → Vals ys us → xs = ys
  | _, _, _, .nil, .nil => rfl
  | _, _, _, .cons r t, .cons r' t' => by rw [r.inj r', Vals.inj t t']
section
variable {X : Cx} {pins : List (Addr × Obj)} {σ : St} {H : Hp} {s : Shared} {a : Addr} {xs ys : List V}
theorem SqL.of {K : PySem.W.Frag} (h : H a = some (.lst xs)) : SqL K H a xs := .inl (.inl h)
theorem SqT.of {K : PySem.W.Frag} (h : H a = some (.tup xs)) : SqT K H a xs := .inl (.inl h)
theorem Inv.list (I : Inv X pins σ H s) (h : SqL X.K H a xs) : ∃ its : List Value, Vals xs its ∧ PlainL s.heap a its.toArray ∧ xs.length ≤ sizeLine := by
  rcases h with h | ⟨o, its, n, hk, hc, hd, hs, hz, r⟩
  · obtain ⟨z, its, n, r, e⟩ := h.ok I.hok
    exact ⟨its, r, ⟨_, n, e, rfl, rfl, rfl⟩, z⟩
  · refine ⟨its.toList, r, ⟨o, n, I.kIn a o hk, hc, hd, by simpa using hs⟩, ?_⟩
    have e := r.length
    simp only [Array.length_toList] at e
    omega
theorem Inv.tuple (I : Inv X pins σ H s) (h : SqT X.K H a xs) : ∃ its : List Value, Vals xs its ∧ IsTup s.heap a its.toArray ∧ xs.length ≤ sizeLine := by
  rcases h with h | ⟨o, its, n, hk, hc, hs, hz, r⟩
  · obtain ⟨z, its, r, p⟩ := h.ok I.hok
    exact ⟨its, r, p, z⟩
  · refine ⟨its.toList, r, ⟨o, I.kIn a o hk, hc, n, by simpa using hs⟩, ?_⟩
    have e := r.length
    simp only [Array.length_toList] at e
    omega
theorem Inv.list_inj (I : Inv X pins σ H s) (h : SqL X.K H a xs) (h' : SqL X.K H a ys) : xs = ys := by
  obtain ⟨its, r, ⟨o, n, e, _, _, d⟩, _⟩ := I.list h
  obtain ⟨its', r', ⟨o', n', e', _, _, d'⟩, _⟩ := I.list h'
  rw [e] at e'; cases e'
  rw [d] at d'
  injection d' with d1 _
  have : its = its' := by simpa using congrArg Array.toList d1
  subst this
  exact r.inj r'
theorem Inv.tuple_inj (I : Inv X pins σ H s) (h : SqT X.K H a xs) (h' : SqT X.K H a ys) : xs = ys := by
  obtain ⟨its, r, ⟨o, e, _, n, d⟩, _⟩ := I.tuple h
  obtain ⟨its', r', ⟨o', e', _, n', d'⟩, _⟩ := I.tuple h'
  rw [e] at e'; cases e'
  rw [d] at d'
  injection d' with d1 _
  have : its = its' := by simpa using congrArg Array.toList d1
  subst this
  exact r.inj r'
end
abbrev Cx.wish (X : Cx) (E : Value → Shared → Prop) : Cx := { X with xe := E }
abbrev Cx.nox (X : Cx) : Cx := X.wish fun _ _ => False
theorem Cx.Ok.wish {X : Cx} (ok : X.Ok) (E : Value → Shared → Prop) : (X.wish E).Ok :=
  ⟨ok.mod, ok.kind, ok.glob, ok.blt, ok.above, ok.inj, ok.has, ok.cab, ok.hd, ok.frames, ok.stk, ok.exf, ok.bs, ok.bsz, ok.noex, ok.exfs, ok.funs, ok.frf⟩
theorem Cx.Ok.unwish {X : Cx} {E : Value → Shared → Prop} (ok : (X.wish E).Ok) : X.Ok :=
  ⟨ok.mod, ok.kind, ok.glob, ok.blt, ok.above, ok.inj, ok.has, ok.cab, ok.hd, ok.frames, ok.stk, ok.exf, ok.bs, ok.bsz, ok.noex, ok.exfs, ok.funs, ok.frf⟩
section
variable {X : Cx} {pins : List (Addr × Obj)} {σ : St} {H : Hp} {s : Shared} {E : Value → Shared → Prop}
theorem Inv.wish (I : Inv X pins σ H s) (E : Value → Shared → Prop) : Inv (X.wish E) pins σ H s := ⟨I.ok.wish E, I.os, I.bare, I.base, I.loc, I.cell, I.free, I.freeC, I.pin, I.hok, I.len⟩
theorem Inv.unwish (I : Inv (X.wish E) pins σ H s) : Inv X pins σ H s := ⟨I.ok.unwish, I.os, I.bare, I.base, I.loc, I.cell, I.free, I.freeC, I.pin, I.hok, I.len⟩
theorem SP.unwish {D : Ends} {f : Flow} {s' : Shared} (h : SP (X.wish E) pins D f s') : SP X pins D f s' := by
  cases f with
  | next => obtain ⟨σ', H', I, q⟩ := h; exact ⟨σ', H', I.unwish, q⟩
  | brk => obtain ⟨σ', H', I, q⟩ := h; exact ⟨σ', H', I.unwish, q⟩
  | cont => obtain ⟨σ', H', I, q⟩ := h; exact ⟨σ', H', I.unwish, q⟩
  | ret u => obtain ⟨v, σ', H', I, r, q⟩ := h; exact ⟨v, σ', H', I.unwish, r, q⟩
theorem PSs.nox {st : List Stmt} {t : TS} (h : PSs X.nox st t) : PSs X st t := fun pins s σ H D I hw =>
  wpAny_mono (h pins s σ H D (I.wish _) hw) (fun _ _ q => q.unwish) fun _ _ z => False.elim z
end
section
variable {X : Cx} {st : Stmt} {rest : List Stmt} {t u : TS} {e : Expr} {te : TE} {pos : Pos}
def tNext : TS := fun D σ H => D.nx σ H
def tSeq (t u : TS) : TS := fun D σ H => t { D with nx := u D } σ H
theorem pss_nil : PSs X [] tNext := fun _ _ σ H _ I h => wpAny_execs_nil ⟨σ, H, I, h⟩
theorem pss_cons (h1 : PS X st t) (h2 : PSs X rest u) : PSs X (st :: rest) (tSeq t u) := by
  intro pins s σ H D I h
  refine wpAny_execs_cons (thn (h1 pins s σ H { D with nx := u D } I h) fun f s1 q => ?_)
  cases f with
  | next =>
    obtain ⟨σ', H', I', q⟩ := q
    exact h2 pins s1 σ' H' D I' q
  | ret v => exact q
  | brk => exact q
  | cont => exact q
theorem pss_one (h1 : PS X st t) : PSs X [st] t := by
  intro pins s σ H D I h
  refine wpAny_execs_cons (thn (h1 pins s σ H D I h) fun f s1 q => ?_)
  cases f with
  | next => exact wpAny_execs_nil q
  | ret v => exact q
  | brk => exact q
  | cont => exact q
theorem Inv.quiet {pins : List (Addr × Obj)} {σ : St} {H : Hp} {s : Shared} (I : Inv X pins σ H s) : interactive X.env = false := by simp [interactive, I.ok.kind]
def tDrop (te : TE) : TS := fun D σ H => te σ H fun _ H1 => D.nx σ H1
theorem ps_expr (he : PE X e te) (hs : swapsWith e none pos.line X.env = pure false := by rfl) : PS X (.Expr e pos) (tDrop te) := by
  intro pins s σ H D I h
  exact wpAny_Expr_any (thn (he pins s σ H _ I h) fun v s1 ⟨x, H1, I1, r1, q1⟩ => ⟨σ, H1, I1, q1⟩) I.quiet hs
def tRet (te : TE) : TS := fun D σ H => te σ H D.rt
theorem ps_ret (he : PE X e te) : PS X (.Return (some e) pos) (tRet te) := by
  intro pins s σ H D I h
  exact wpAny_Return_some (thn (he pins s σ H _ I h) fun v s1 ⟨x, H1, I1, r1, q1⟩ => ⟨x, σ, H1, I1, r1, q1⟩)
def tIfS (c : TT) (t u : TS) : TS := fun D σ H => c σ H fun b H1 => if b = true then t D σ H1 else u D σ H1
theorem ps_if {c : Expr} {a b : List Stmt} {tc : TT} (hc : PT X c tc) (ha : PSs X a t) (hb : PSs X b u) : PS X (.If c a b pos) (tIfS tc t u) := by
  intro pins s σ H D I h
  refine wpAny_If (thn (hc pins s σ H _ I h) fun d s1 ⟨H1, I1, q1⟩ => ?_)
  cases d with
  | true => exact ha pins s1 σ H1 D I1 q1
  | false => exact hb pins s1 σ H1 D I1 q1
def tNever : TS := fun _ _ _ => False
theorem pss_never {sts : List Stmt} : PSs X sts tNever := fun _ _ _ _ _ _ h => h.elim
end
abbrev TG := V → St → Hp → (St → Hp → Prop) → Prop
abbrev TGs := List V → St → Hp → (St → Hp → Prop) → Prop
def PG (X : Cx) (target : Expr) (t : TG) : Prop :=
  ∀ (pins : List (Addr × Obj)) (s : Shared) (σ : St) (H : Hp) (v : V) (u : Value) (Q : St → Hp → Prop), Inv X pins σ H s → RelV v u → t v σ H Q →
    wpAny (model X.prog X.w) X.A (assign target X.env u) (fun _ s' => ∃ σ' H', Inv X pins σ' H' s' ∧ Q σ' H') X.xe s
def PGs (X : Cx) (ts : List Expr) (t : TGs) : Prop :=
  ∀ (pins : List (Addr × Obj)) (s : Shared) (σ : St) (H : Hp) (vs : List V) (us : List Value) (Q : St → Hp → Prop), Inv X pins σ H s → Vals vs us → t vs σ H Q →
    wpAny (model X.prog X.w) X.A (assignInOrder ((assignEach ts X.env).map (·.2)) us) (fun _ s' => ∃ σ' H', Inv X pins σ' H' s' ∧ Q σ' H') X.xe s
abbrev TIp := V → V → Hp → VK → Prop
def PIp (X : Cx) (op : Operator) (t : TIp) : Prop :=
  ∀ (pins : List (Addr × Obj)) (s : Shared) (σ : St) (H : Hp) (x y : V) (v u : Value) (Q : VK), Inv X pins σ H s → RelV x v → RelV y u → t x y H Q →
    wpAny (model X.prog X.w) X.A (inplaceOp op v u) (EP X pins σ Q) X.xe s
section
variable {X : Cx} {pos : Pos}
def gName (i : Nat) : TG := fun v σ H Q => Q (σ.set i (some v)) H
theorem pg_name {i : Nat} {x : Str} (hN : X.N.Nodup) (hi : X.N[i]? = some x) (hx : Loc X.env.scope x) (hf : X.fn x = true ∨ X.env.scope.names.lookup x = some .local := by first | exact .inl rfl | exact .inr rfl | assumption) : PG X (.Name x pos) (gName i) := by
  intro pins s σ H v u Q I r h
  exact wpAny_assign_Name (store_ok I hN hi hx r (fun s' I' => ⟨_, H, I', h⟩) hf)
def gNil : TGs := fun vs σ H Q => vs = [] ∧ Q σ H
def gCons (t : TG) (u : TGs) : TGs := fun vs σ H Q => ∃ v r, vs = v :: r ∧ t v σ H fun σ' H' => u r σ' H' Q
theorem pgs_nil : PGs X [] gNil := by
  intro pins s σ H vs us Q I r h
  obtain ⟨e, h⟩ := h
  subst e
  cases r
  exact assignInOrder_nil ⟨σ, H, I, h⟩
theorem pgs_cons {e : Expr} {es : List Expr} {t : TG} {u : TGs} (h1 : PG X e t) (h2 : PGs X es u)
    (hs : (assignEach (e :: es) X.env).map (·.2) = assign e X.env :: (assignEach es X.env).map (·.2) := by rfl) : PGs X (e :: es) (gCons t u) := by
  intro pins s σ H vs us Q I r h
  obtain ⟨v, vr, e1, h⟩ := h
  subst e1
  cases r with
  | cons r rr =>
    rw [hs]
    refine assignInOrder_cons (thn (h1 pins s σ H _ _ _ I r h) fun _ s1 ⟨σ1, H1, I1, q1⟩ => ?_)
    exact h2 pins s1 σ1 H1 _ _ Q I1 rr q1
def gTup (K : PySem.W.Frag) (n : Nat) (t : TGs) : TG := fun v σ H Q => ∃ a xs, v = .ref a ∧ SqT K H a xs ∧ xs.length = n ∧ t xs σ H Q
theorem pg_tup {es : List Expr} {k : Nat} {t : TGs} {n : Nat} (hc : X.calm = true) (h : PGs X es t)
    (hn : (assignEach es X.env).length = n := by rfl) (hst : (assignEach es X.env).findIdx? (·.1) = none := by rfl) : PG X (.Tuple es k pos) (gTup X.K n t) := by
  intro pins s σ H v u Q I r hw
  obtain ⟨a, xs, e1, hq, hl, hw⟩ := hw
  subst e1
  cases r
  obtain ⟨its, rv, ht, hz⟩ := I.tuple hq
  refine assign_Tuple_tuple (I.ok.hd hc) ht (by simp [hn, ← hl, rv.length]) hst fun h' hx => ?_
  have I1 : Inv X pins σ H { s with heap := h' } := I.kept (t' := s.toks) fun b o e => hx b o (Nat.ne_of_lt (Heap.lt_size e)) e
  exact h pins _ σ H xs _ Q I1 (by simpa using rv) hw
def tAsg (te : TE) (g : TG) : TS := fun D σ H => te σ H fun x H1 => g x σ H1 D.nx
theorem ps_set {i : Nat} {x : Str} {e : Expr} {te : TE} {pos' : Pos} (hN : X.N.Nodup) (hi : X.N[i]? = some x) (hx : Loc X.env.scope x) (he : PE X e te) (hs : swapsWith e (some (.Name x pos')) pos.line X.env = pure false := by rfl) (hf : X.fn x = true ∨ X.env.scope.names.lookup x = some .local := by first | exact .inl rfl | exact .inr rfl | assumption) :
    PS X (.Assign [.Name x pos'] e pos) (tAsg te (gName i)) := by
  intro pins s σ H D I h
  refine wpAny_Assign_Name (thn (he pins s σ H _ I h) fun v s1 ⟨y, H1, I1, r1, q1⟩ => ?_) hs
  exact store_ok I1 hN hi hx r1 (fun s2 I2 => ⟨_, H1, I2, q1⟩) hf
def tAug (i : Nat) (te : TE) (ti : TIp) : TS := fun D σ H => ∃ x, σ[i]? = some (some x) ∧ te σ H fun y H1 => ti x y H1 fun z H2 => D.nx (σ.set i (some z)) H2
theorem ps_aug {i : Nat} {x : Str} {e : Expr} {te : TE} {op : Operator} {ti : TIp} {pos' : Pos} (hN : X.N.Nodup) (hi : X.N[i]? = some x) (hx : Loc X.env.scope x) (he : PE X e te) (ho : PIp X op ti) (hf : X.fn x = true ∨ X.env.scope.names.lookup x = some .local := by first | exact .inl rfl | exact .inr rfl | assumption) :
    PS X (.AugAssign (.Name x pos') op e pos) (tAug i te ti) := by
  intro pins s σ H D I h
  obtain ⟨v, e1, h⟩ := h
  obtain ⟨m, hn, hl⟩ := I.loc
  have vis : Vis X.env.scope x := by rcases hx with k | k; exact .inl k; exact .inr (.inl k)
  obtain ⟨u, r, l⟩ := hl i x v hi e1 vis
  refine wpAny_AugAssign_Name ?_
  have go : wpAny (model X.prog X.w) X.A (eval e X.env) (fun w s₂ => wpAny (model X.prog X.w) X.A (inplaceOp op u w) (fun r s₃ => wpAny (model X.prog X.w) X.A (storeName X.env x r) (fun _ => SP X pins D .next) X.xe s₃) X.xe s₂) X.xe s := by
    refine thn (he pins s σ H _ I h) fun w s1 ⟨y, H1, I1, r1, q1⟩ => ?_
    refine thn (ho pins s1 σ H1 v y u w _ I1 r r1 q1) fun z s2 ⟨zv, H2, I2, r2, q2⟩ => ?_
    exact store_ok I2 hN hi hx r2 (fun s3 I3 => ⟨_, H2, I3, q2⟩) hf
  rcases l with ⟨hk, hm⟩ | ⟨hk, c, hc, hcell⟩
  · exact wpAny_loadName_local I.ok.kind hk hn hm go
  · rcases hk with hk | hk
    · exact wpAny_loadName_cell I.ok.kind hk hc hcell go
    · rcases hx with k | k
      · have : X.env.scope.names.lookup x = some .free := hk
        rw [k] at this; cases this
      · have : X.env.scope.names.lookup x = some .free := hk
        rw [k] at this; cases this
def ipI (f : Int → Int → Int) : TIp := fun x y H Q => ∃ i j, x = .int i ∧ y = .int j ∧ Q (.int (f i j)) H
theorem ip_add : PIp X .Add (ipI fun i j => i + j) := by
  intro pins s σ H x y v u Q I r1 r2 h
  obtain ⟨i, j, e1, e2, q⟩ := h
  subst e1; subst e2
  obtain ⟨t, rfl⟩ := r1
  obtain ⟨t', rfl⟩ := r2
  exact iadd_int ⟨.int _, H, I.tok _, ⟨_, rfl⟩, q⟩
end
section
variable {X : Cx} {pos : Pos}
def tWhile (c : TT) (tb : TS) : TS := fun D σ H => ∃ W : Nat → St → Hp → Prop, (∃ m, W m σ H) ∧ ∀ m σ H, W m σ H →
  c σ H fun b H1 => if b = true then ∃ N : St → Hp → Prop, (∀ σ' H', N σ' H' → ∃ m', m' < m ∧ W m' σ' H') ∧ tb { D with nx := N, ct := N, bk := D.nx } σ H1 else D.nx σ H1
theorem ps_while {c : Expr} {body : List Stmt} {tc : TT} {tb : TS} (hp : PassesOwn (model X.prog X.w) X.A X.env X.xe) (hc : PT X c tc) (hb : PSs X body tb) : PS X (.While c body [] pos) (tWhile tc tb) := by
  intro pins s σ H D I h
  obtain ⟨W, ⟨m0, w0⟩, turn⟩ := h
  refine wpAny_While (codeAny_whileLoop (fun n s' => ∃ σ' H', Inv X pins σ' H' s' ∧ W n σ' H') ?_ m0 ⟨σ, H, I, w0⟩)
  rintro n s1 ⟨σ1, H1, I1, w1⟩
  refine wpAny_passesOwn hp (thn (hc pins s1 σ1 H1 _ I1 (turn n σ1 H1 w1)) fun b s2 ⟨H2, I2, q2⟩ => ?_)
  cases b with
  | true =>
    obtain ⟨N, hN, q2⟩ := q2
    rw [if_pos rfl]
    refine wpAny_passesOwn hp (thn (hb pins s2 σ1 H2 _ I2 q2) fun f s3 q3 => ?_)
    cases f with
    | next =>
      obtain ⟨σ3, H3, I3, n3⟩ := q3
      obtain ⟨m', hm, w3⟩ := hN σ3 H3 n3
      exact ⟨m', hm, σ3, H3, I3, w3⟩
    | cont =>
      obtain ⟨σ3, H3, I3, n3⟩ := q3
      obtain ⟨m', hm, w3⟩ := hN σ3 H3 n3
      exact ⟨m', hm, σ3, H3, I3, w3⟩
    | brk => exact q3
    | ret v => exact q3
  | false =>
    rw [if_neg Bool.false_ne_true]
    exact wpAny_execs_nil ⟨σ1, H2, I2, q2⟩
end
structure It where
  go : Nat → Hp → Prop
  yld : Nat → Hp → V → Hp → Prop
  stop : Nat → Hp → Prop
def FpOk (X : Cx) (pins : List (Addr × Obj)) (H : Hp) (b : Addr) : Prop :=
  H b = none ∧ b ≠ X.env.locals ∧ b ∉ X.fs ∧ (b ∈ X.ex ∨ X.s_0.heap.objs.size ≤ b) ∧ (∀ x c, X.env.cells.lookup x = some c → c ≠ b) ∧ ∀ p ∈ X.pn ++ pins, p.1 ≠ b
theorem Inv.fpOk {X : Cx} {pins : List (Addr × Obj)} {σ : St} {H H' : Hp} {s : Shared} {b : Addr} (I : Inv X pins σ H s) (hb : s.heap.objs.size ≤ b) (hn : H' b = none) : FpOk X pins H' b := by
  refine ⟨hn, Nat.ne_of_gt (Nat.lt_of_lt_of_le I.lt hb), I.nofs hb, .inr (Nat.le_trans I.sz hb), fun x c e z => ?_, fun p hp z => ?_⟩
  · obtain ⟨v, q⟩ := I.cell x c e
    exact absurd (Nat.lt_of_lt_of_le q.lt (by rw [z]; exact hb)) (Nat.lt_irrefl _)
  · exact absurd (Nat.lt_of_lt_of_le (Heap.lt_size (I.pin p hp).1) (by rw [z]; exact hb)) (Nat.lt_irrefl _)
structure Turn (P : Program) (w : World) (K : PySem.W.Frag) (tg : Expr) (J : It) (fp : List Addr) (it : Addr) (tn : Nat → Heap → Prop) : Prop where
  mem : it ∈ fp
  obj : ∀ i h, tn i h → ∀ b ∈ fp, ∃ o, h.get? b = some o ∧ ∀ v, o.data ≠ .cell v
  keep : ∀ i h h', tn i h → (∀ b ∈ fp, ∀ o, h.get? b = some o → h'.get? b = some o) → tn i h'
  item : ∀ (X : Cx), X.prog = P → X.w = w → X.K = K → X.calm = true → ∀ (i : Nat) (pins : List (Addr × Obj)) (s : Shared) (σ : St) (H : Hp) (E : Value → Shared → Prop), Inv X pins σ H s → (∀ b ∈ fp, FpOk X pins H b) → tn i s.heap → J.go i H →
    wpAny (model P w) X.A (pyNext (.ref it)) (fun r s1 => ∃ u, r = some u ∧
      wpAny (model P w) X.A (letOwnedTupleGo tg (.ref it) u) (fun _ s2 => ∃ x H', Inv X pins σ H' s2 ∧ RelV x u ∧ J.yld i H x H' ∧ tn (i + 1) s2.heap ∧ ∀ b ∈ fp, H' b = none) E s1) E s
  done : ∀ (X : Cx), X.prog = P → X.w = w → X.K = K → X.calm = true → ∀ (i : Nat) (pins : List (Addr × Obj)) (s : Shared) (σ : St) (H : Hp) (E : Value → Shared → Prop), Inv X pins σ H s → (∀ b ∈ fp, FpOk X pins H b) → tn i s.heap → J.stop i H →
    wpAny (model P w) X.A (pyNext (.ref it)) (fun r s1 => r = none ∧ Inv X pins σ H s1) E s
  self : ∀ (A : Around) (i : Nat) (s : Shared) (Q : Value → Shared → Prop) (E : Value → Shared → Prop), tn i s.heap → Q (.ref it) s → wpAny (model P w) A (pyIter (.ref it)) Q E s
abbrev TI := St → Hp → (It → Hp → Prop) → Prop
def PIE (X : Cx) (pins : List (Addr × Obj)) (σ : St) (tg : Expr) (R : It → Hp → Prop) (itv : Value) (s2 : Shared) : Prop :=
  ∃ (it : Addr) (fp : List Addr) (tn : Nat → Heap → Prop) (J : It) (H' : Hp), itv = .ref it ∧ Inv X pins σ H' s2 ∧ Turn X.prog X.w X.K tg J fp it tn ∧ tn 0 s2.heap ∧ (∀ b ∈ fp, FpOk X pins H' b) ∧ R J H'
def PI (X : Cx) (tg iter : Expr) (wi : TI) : Prop :=
  ∀ (pins : List (Addr × Obj)) (s : Shared) (σ : St) (H : Hp) (R : It → Hp → Prop), Inv X pins σ H s → wi σ H R →
    wpAny (model X.prog X.w) X.A (eval iter X.env) (fun v s1 => wpAny (model X.prog X.w) X.A (pyIter v) (PIE X pins σ tg R) X.xe s1) X.xe s
theorem go_of {M : Model} {A : Around} {E : Value → Shared → Prop} {s : Shared} {tg : Expr} {it : Addr} {u : Value} {o : Obj} {n : String} {vs : Array Value} {Q : Unit → Shared → Prop} (ho : s.heap.get? it = some o) (hc : o.cls = .type n) (hd : o.data = .fields vs)
    (hn : ["enumerate", "zip", "dict_itemiterator", "dict_reverseitemiterator", "odict_iterator", "itertools.zip_longest", "itertools.pairwise"].contains n = false) (hQ : Q () s) : wpAny M A (letOwnedTupleGo tg (.ref it) u) Q E s := by
  unfold letOwnedTupleGo
  cases tg <;> first
    | exact wpAny_pure hQ
    | (cases u <;> first
        | exact wpAny_pure hQ
        | (refine wpAny_bind (wpAny_load ho ?_)
           rw [hc, hd]
           show wpAny M A (if (["enumerate", "zip", "dict_itemiterator", "dict_reverseitemiterator", "odict_iterator", "itertools.zip_longest", "itertools.pairwise"].contains n && vs[0]? == some (rawInt _)) = true then _ else _) Q E s
           rw [if_neg (by intro h; rw [hn, Bool.false_and] at h; cases h)]
           exact wpAny_pure hQ))
def Itl (K : PySem.W.Frag) (a : Addr) : It :=
  ⟨fun i H => ∃ xs x, SqL K H a xs ∧ xs[i]? = some x, fun i H x H' => H' = H ∧ ∀ xs, SqL K H a xs → xs[i]? = some x, fun i H => ∃ xs, SqL K H a xs ∧ xs.length ≤ i⟩
def Itt (K : PySem.W.Frag) (a : Addr) : It :=
  ⟨fun i H => ∃ xs x, SqT K H a xs ∧ xs[i]? = some x, fun i H x H' => H' = H ∧ ∀ xs, SqT K H a xs → xs[i]? = some x, fun i H => ∃ xs, SqT K H a xs ∧ xs.length ≤ i⟩
def Itr (lo : Int) (n : Nat) : It := ⟨fun i _ => i < n, fun i H x H' => H' = H ∧ x = .int (lo + i), fun i _ => n ≤ i⟩
theorem turn_list {P : Program} {w : World} {K : PySem.W.Frag} {tg : Expr} (a it : Addr) : Turn P w K tg (Itl K a) [it] it (fun i h => h.IsListIter it a i) where
  mem := by simp
  obj := fun i h st b hb => by
    have e : b = it := by simpa using hb
    subst e
    obtain ⟨o, e, c, d⟩ := st
    exact ⟨o, e, fun v z => by rw [d] at z; cases z⟩
  keep := fun i h h' st k => st.at fun o e => k it (by simp) o e
  item := by
    intro X hP hw hK hc i pins s σ H E I hf st hg
    subst hP hw hK
    obtain ⟨xs, x, hq, hx⟩ := hg
    obtain ⟨its, rv, p, hz⟩ := I.list hq
    obtain ⟨u, hu, ru⟩ := rv.get hx
    obtain ⟨f0, f1, f2, f3, f4, f5⟩ := hf it (by simp)
    refine wpAny_pyNext_list_item st p.isList (x := u) (by simpa using hu) fun h' st' sb => ?_
    have I1 : Inv X pins σ H { s with heap := h' } := I.turned (t' := s.toks) (fun b o hb e => (sb.2 b hb).trans e) f0 f1 f3 f4 f5
    obtain ⟨o, e, c, d⟩ := id st'
    exact ⟨u, rfl, go_of (s := { s with heap := h' }) e c d (by decide) ⟨x, H, I1, ru, ⟨rfl, fun ys hy => by rw [I.list_inj hy hq]; exact hx⟩, st', fun b hb => (hf b hb).1⟩⟩
  done := by
    intro X hP hw hK hc i pins s σ H E I hf st hg
    subst hP hw hK
    obtain ⟨xs, hq, hx⟩ := hg
    obtain ⟨its, rv, p, hz⟩ := I.list hq
    obtain ⟨f0, f1, f2, f3, f4, f5⟩ := hf it (by simp)
    have hl := rv.length
    exact wpAny_pyNext_list_end (I.ok.hd hc) st p.isList (by simp; omega) fun h' eb => ⟨rfl, I.turned (t' := s.toks) (fun b o hb e => eb b o hb e) f0 f1 f3 f4 f5⟩
  self := fun _ _ _ _ _ st h => wpAny_pyIter_listiter st h
theorem turn_tuple {P : Program} {w : World} {K : PySem.W.Frag} {tg : Expr} (a it : Addr) : Turn P w K tg (Itt K a) [it] it (fun i h => h.IsTupleIter it a i) where
  mem := by simp
  obj := fun i h st b hb => by
    have e : b = it := by simpa using hb
    subst e
    obtain ⟨o, e, c, d⟩ := st
    exact ⟨o, e, fun v z => by rw [d] at z; cases z⟩
  keep := fun i h h' st k => st.at fun o e => k it (by simp) o e
  item := by
    intro X hP hw hK hc i pins s σ H E I hf st hg
    subst hP hw hK
    obtain ⟨xs, x, hq, hx⟩ := hg
    obtain ⟨its, rv, p, hz⟩ := I.tuple hq
    obtain ⟨u, hu, ru⟩ := rv.get hx
    obtain ⟨f0, f1, f2, f3, f4, f5⟩ := hf it (by simp)
    refine wpAny_pyNext_tuple_item st (show s.heap.IsTuple a its.toArray from p) (x := u) (by simpa using hu) fun h' st' sb => ?_
    have I1 : Inv X pins σ H { s with heap := h' } := I.turned (t' := s.toks) (fun b o hb e => (sb.2 b hb).trans e) f0 f1 f3 f4 f5
    obtain ⟨o, e, c, d⟩ := id st'
    exact ⟨u, rfl, go_of (s := { s with heap := h' }) e c d (by decide) ⟨x, H, I1, ru, ⟨rfl, fun ys hy => by rw [I.tuple_inj hy hq]; exact hx⟩, st', fun b hb => (hf b hb).1⟩⟩
  done := by
    intro X hP hw hK hc i pins s σ H E I hf st hg
    subst hP hw hK
    obtain ⟨xs, hq, hx⟩ := hg
    obtain ⟨its, rv, p, hz⟩ := I.tuple hq
    obtain ⟨f0, f1, f2, f3, f4, f5⟩ := hf it (by simp)
    have hl := rv.length
    exact wpAny_pyNext_tuple_end (I.ok.hd hc) st (show s.heap.IsTuple a its.toArray from p) (by simp; omega) fun h' eb => ⟨rfl, I.turned (t' := s.toks) (fun b o hb e => eb b o hb e) f0 f1 f3 f4 f5⟩
  self := fun _ _ _ _ _ st h => wpAny_pyIter_tupleiter st h
theorem turn_range {P : Program} {w : World} {K : PySem.W.Frag} {tg : Expr} (it : Addr) (lo : Int) (n : Nat) : Turn P w K tg (Itr lo n) [it] it (fun i h => IsRangeIter h it (lo + (i : Nat) * 1) ((n : Int) - (i : Nat)) 1) where
  mem := by simp
  obj := fun i h st b hb => by
    have e : b = it := by simpa using hb
    subst e
    exact ⟨_, st, fun v z => by
      have z' : Data.fields _ = Data.cell v := z
      cases z'⟩
  keep := fun i h h' st k => k it (by simp) _ st
  item := by
    intro X hP hw hK hc i pins s σ H E I hf st hg
    subst hP hw hK
    obtain ⟨f0, f1, f2, f3, f4, f5⟩ := hf it (by simp)
    have W := Walks.range (prog := X.prog) (w := X.w) (I.ok.hd hc) it lo 1 n
    refine W.item i s _ _ hg st fun v h' tk hv st' kk => ?_
    obtain ⟨t, rfl⟩ := hv
    have I1 : Inv X pins σ H { s with heap := h', toks := tk } := I.turned (fun b o hb e => kk b o (by simpa using hb) e) f0 f1 f3 f4 f5
    refine ⟨_, rfl, go_of (s := { s with heap := h', toks := tk }) (n := "range_iterator") st' rfl rfl (by decide) ⟨.int (lo + i), H, I1, ⟨t, ?_⟩, ⟨rfl, rfl⟩, st', fun b hb => (hf b hb).1⟩⟩
    rw [Int.mul_one]
  done := by
    intro X hP hw hK hc i pins s σ H E I hf st hg
    subst hP hw hK
    obtain ⟨f0, f1, f2, f3, f4, f5⟩ := hf it (by simp)
    exact wpAny_pyNext_range_end (I.ok.hd hc) st (by have : n ≤ i := hg; omega) fun h' eb => ⟨rfl, I.turned (t' := s.toks) (fun b o hb e => eb b o hb e) f0 f1 f3 f4 f5⟩
  self := fun _ _ _ _ _ st h => wpAny_pyIter_rangeiter st h
end L2
namespace L2
open PySem PySem.Spec PyProof.Rows
section
variable {X : Cx} {tg : Expr}
def iList (K : PySem.W.Frag) (tl : TE) : TI := fun σ H R => tl σ H fun x H1 => ∃ a, x = .ref a ∧ (∃ xs, SqL K H1 a xs) ∧ R (Itl K a) H1
def iTup (K : PySem.W.Frag) (tl : TE) : TI := fun σ H R => tl σ H fun x H1 => ∃ a, x = .ref a ∧ (∃ xs, SqT K H1 a xs) ∧ R (Itt K a) H1
theorem pi_list {l : Expr} {tl : TE} (hl : PE X l tl) : PI X tg l (iList X.K tl) := by
  intro pins s σ H R I h
  refine thn (hl pins s σ H _ I h) fun v s1 ⟨x, H1, I1, r1, q1⟩ => ?_
  obtain ⟨a, e, ⟨xs, hq⟩, q⟩ := q1
  subst e
  cases r1
  obtain ⟨its, rv, p, hz⟩ := I1.list hq
  refine wpAny_pyIter_list p.isList ?_
  refine ⟨s1.heap.objs.size, [s1.heap.objs.size], _, _, H1, rfl, I1.kept (t' := s1.toks) fun b o e => Heap.get?_push_of_some _ e, turn_list a _, ⟨_, Heap.get?_push_size _ rfl, rfl, rfl⟩, fun b hb => ?_, q⟩
  have e : b = s1.heap.objs.size := by simpa using hb
  subst e
  exact I1.fpOk (Nat.le_refl _) (I1.hok.fresh (Nat.le_refl _))
theorem pi_tup {l : Expr} {tl : TE} (hl : PE X l tl) : PI X tg l (iTup X.K tl) := by
  intro pins s σ H R I h
  refine thn (hl pins s σ H _ I h) fun v s1 ⟨x, H1, I1, r1, q1⟩ => ?_
  obtain ⟨a, e, ⟨xs, hq⟩, q⟩ := q1
  subst e
  cases r1
  obtain ⟨its, rv, p, hz⟩ := I1.tuple hq
  refine wpAny_pyIter_tuple (show s1.heap.IsTuple a its.toArray from p) ?_
  refine ⟨s1.heap.objs.size, [s1.heap.objs.size], _, _, H1, rfl, I1.kept (t' := s1.toks) fun b o e => Heap.get?_push_of_some _ e, turn_tuple a _, ⟨_, Heap.get?_push_size _ rfl, rfl, rfl⟩, fun b hb => ?_, q⟩
  have e : b = s1.heap.objs.size := by simpa using hb
  subst e
  exact I1.fpOk (Nat.le_refl _) (I1.hok.fresh (Nat.le_refl _))
theorem range_it {pins : List (Addr × Obj)} {σ : St} {H : Hp} {s : Shared} {R : It → Hp → Prop} {E : Value → Shared → Prop} {lo hi : Int} {t u v : Tok} {tk : Nat} (I : Inv X pins σ H s) (h1 : -(2 ^ 62) ≤ lo) (h2 : lo < 2 ^ 62) (h3 : -(2 ^ 62) ≤ hi) (h4 : hi < 2 ^ 62)
    (q : R (Itr lo (hi - lo).toNat) H) : wpAny (model X.prog X.w) X.A (pyIter (.ref s.heap.objs.size)) (PIE X pins σ tg R) E { s with heap := s.heap.push { cls := .type "range", data := .fields #[.int lo t, .int hi u, .int 1 v] }, toks := tk } := by
  refine wpAny_pyIter_range (IsRange.new ..) (small_one h1 h2 h3 h4) ?_
  have I1 : Inv X pins σ H { s with heap := s.heap.push { cls := .type "range", data := .fields #[.int lo t, .int hi u, .int 1 v] }, toks := tk } := I.kept fun b o e => Heap.get?_push_of_some _ e
  refine ⟨(s.heap.push { cls := .type "range", data := .fields #[.int lo t, .int hi u, .int 1 v] }).objs.size, [(s.heap.push { cls := .type "range", data := .fields #[.int lo t, .int hi u, .int 1 v] }).objs.size], _, _, H, rfl,
    I1.kept (t' := tk) fun b o e => Heap.get?_push_of_some _ e, turn_range _ lo (hi - lo).toNat, ?_, fun b hb => ?_, q⟩
  · have e1 : lo + ((0 : Nat) : Int) * 1 = lo := by simp
    have e2 : (((hi - lo).toNat : Nat) : Int) - ((0 : Nat) : Int) = Builtin.Range.rangeSize lo hi 1 := by rw [rangeSize_one]; split <;> omega
    show IsRangeIter _ _ (lo + ((0 : Nat) : Int) * 1) ((((hi - lo).toNat : Nat) : Int) - ((0 : Nat) : Int)) 1
    rw [e1, e2]
    exact Heap.get?_push_size _ rfl
  · have e : b = (s.heap.push { cls := .type "range", data := .fields #[.int lo t, .int hi u, .int 1 v] }).objs.size := by simpa using hb
    subst e
    exact I1.fpOk (Nat.le_refl _) (I1.hok.fresh (Nat.le_refl _))
def iRng1 (ta : TA) : TI := fun σ H R => ta σ H fun vs H1 => ∃ j : Int, vs = [.int j] ∧ -(2 ^ 62) ≤ j ∧ j < 2 ^ 62 ∧ R (Itr 0 j.toNat) H1
theorem pi_range1 {a : Expr} {ta : TA} {p pos : Pos} (hg : Gl X "range") (hm : X.mg "range" = none) (ha : PA X [a] ta) (hs : starEach [a] X.env = [(false, eval a X.env)] := by rfl) : PI X tg (.Call (.Name "range" p) [a] [] pos) (iRng1 ta) := by
  intro pins s σ H R I h
  refine Call_ (ld_blt I hg hm boot_range (PyProof.Rows.callWith_type1 (thn (ha pos pins s σ H _ I h) fun us s1 ⟨vs, H1, I1, r1, q1⟩ => ?_) hs rfl))
  obtain ⟨j, e, q1, q2, q⟩ := q1
  subst e
  cases r1 with
  | cons r rr =>
    cases rr
    obtain ⟨t, rfl⟩ := r
    exact call_range_1 (range_it I1 (by omega) (by omega) q1 q2 (by simpa using q))
def tFor (wi : TI) (g : TG) (tb : TS) : TS := fun D σ H => wi σ H fun J H1 => ∃ W : Nat → Nat → St → Hp → Prop, (∃ m, W 0 m σ H1) ∧ ∀ i m σ H, W i m σ H →
  (J.stop i H ∧ D.nx σ H) ∨ (J.go i H ∧ ∃ N : St → Hp → Prop, (∀ σ' H', N σ' H' → ∃ m', m' < m ∧ W (i + 1) m' σ' H') ∧ ∀ x H', J.yld i H x H' → g x σ H' fun σ2 H2 => tb { D with nx := N, ct := N, bk := D.nx } σ2 H2)
def pinsAt (fp : List Addr) (h : Heap) : List (Addr × Obj) := fp.filterMap fun b => (h.get? b).map fun o => (b, o)
theorem mem_pinsAt {fp : List Addr} {h : Heap} {b : Addr} {o : Obj} (hb : b ∈ fp) (e : h.get? b = some o) : (b, o) ∈ pinsAt fp h := List.mem_filterMap.mpr ⟨b, hb, by rw [e]; rfl⟩
theorem of_pinsAt {fp : List Addr} {h : Heap} {p : Addr × Obj} (hp : p ∈ pinsAt fp h) : p.1 ∈ fp ∧ h.get? p.1 = some p.2 := by
  obtain ⟨b, hb, e⟩ := List.mem_filterMap.mp hp
  cases q : h.get? b with
  | none => rw [q] at e; cases e
  | some o =>
    rw [q] at e
    have e' : (b, o) = p := Option.some.inj e
    subst e'
    exact ⟨hb, q⟩
theorem Inv.pinned {pins : List (Addr × Obj)} {σ : St} {H : Hp} {s : Shared} {fp : List Addr} (I : Inv X pins σ H s) (hf : ∀ b ∈ fp, FpOk X pins H b) (ho : ∀ b ∈ fp, ∃ o, s.heap.get? b = some o ∧ ∀ v, o.data ≠ .cell v) : Inv X (pins ++ pinsAt fp s.heap) σ H s :=
  I.pins_of fun p hp => (List.mem_append.mp hp).elim (fun z => I.pin p (List.mem_append_right _ z)) fun z => by
    obtain ⟨hb, e⟩ := of_pinsAt z
    obtain ⟨f0, f1, f2, _⟩ := hf p.1 hb
    obtain ⟨o, e', d⟩ := ho p.1 hb
    rw [e] at e'; cases e'
    exact ⟨e, f0, f1, f2, d⟩
theorem Inv.unpinned {pins pl : List (Addr × Obj)} {σ : St} {H : Hp} {s : Shared} (I : Inv X (pins ++ pl) σ H s) : Inv X pins σ H s := I.pins_of fun p hp => I.pin p (List.mem_append_right _ (List.mem_append_left _ hp))
theorem ps_for {iter : Expr} {body : List Stmt} {wi : TI} {g : TG} {tb : TS} {pos : Pos} (hp : PassesOwn (model X.prog X.w) X.A X.env X.xe) (hc : X.calm = true) (hi : PI X tg iter wi) (hg : PG X tg g) (hb : PSs X body tb)
    (hs : ∀ x, foldedSetIterable iter X.env x = pure x := by intro _; rfl) : PS X (.For tg iter body [] pos) (tFor wi g tb) := by
  intro pins s σ H D I h
  refine wpAny_For (thn (hi pins s σ H _ I h) fun v s1 h1 => thn h1 fun itv s2 h2 => ?_) hs
  obtain ⟨it, fp, tn, J, H2, e, I2, T, st2, f2, W, ⟨m0, w0⟩, turn⟩ := h2
  subst e
  -- what stays true of the iterator's objects through the loop
  have stat : ∀ {H' : Hp}, (∀ b ∈ fp, H' b = none) → ∀ b ∈ fp, FpOk X pins H' b := fun hn b hb => ⟨hn b hb, (f2 b hb).2⟩
  refine codeAny_forLoop_any (fun n s' => ∃ i σ' H', Inv X pins σ' H' s' ∧ tn i s'.heap ∧ (∀ b ∈ fp, H' b = none) ∧ W i n σ' H') ?_ m0 ⟨0, σ, H2, I2, st2, fun b hb => (f2 b hb).1, w0⟩
  rintro n s3 ⟨i, σ3, H3, I3, st3, fr3, w3⟩
  rcases turn i n σ3 H3 w3 with ⟨stop, qn⟩ | ⟨go, N, hN, step⟩
  · refine wpAny_passesOwn hp (thn (T.done X rfl rfl rfl hc i pins s3 σ3 H3 X.xe I3 (stat fr3) st3 stop) fun r s4 ⟨hr, I4⟩ => ?_)
    subst hr
    exact wpAny_execs_nil ⟨σ3, H3, I4, qn⟩
  · refine wpAny_passesOwn hp (thn (T.item X rfl rfl rfl hc i pins s3 σ3 H3 X.xe I3 (stat fr3) st3 go) fun r s4 ⟨u, hr, h4⟩ => ?_)
    subst hr
    refine wpAny_passesOwn hp (thn h4 fun _ s5 ⟨x, H5, I5, r5, y5, st5, fr5⟩ => ?_)
    have I5' := I5.pinned (stat fr5) (T.obj _ _ st5)
    refine wpAny_passesOwn hp (thn (hg _ s5 σ3 H5 x u _ I5' r5 (step x H5 y5)) fun _ s6 ⟨σ6, H6, I6, q6⟩ => ?_)
    refine wpAny_passesOwn hp (thn (hb _ s6 σ6 H6 _ I6 q6) fun f s7 q7 => ?_)
    have again : ∀ {σ7 : St} {H7 : Hp}, Inv X (pins ++ pinsAt fp s5.heap) σ7 H7 s7 → N σ7 H7 → ∃ m, m < n ∧ ∃ i σ' H', Inv X pins σ' H' s7 ∧ tn i s7.heap ∧ (∀ b ∈ fp, H' b = none) ∧ W i m σ' H' := fun {σ7 H7} I7 n7 => by
      obtain ⟨m', hm, w7⟩ := hN σ7 H7 n7
      refine ⟨m', hm, i + 1, σ7, H7, I7.unpinned, T.keep _ _ _ st5 fun b hb o e => (I7.pin (b, o) (List.mem_append_right _ (List.mem_append_right _ (mem_pinsAt hb e)))).1, fun b hb => ?_, w7⟩
      obtain ⟨o, e, d⟩ := T.obj _ _ st5 b hb
      exact (I7.pin (b, o) (List.mem_append_right _ (List.mem_append_right _ (mem_pinsAt hb e)))).2.1
    cases f with
    | next => obtain ⟨σ7, H7, I7, n7⟩ := q7; exact again I7 n7
    | cont => obtain ⟨σ7, H7, I7, n7⟩ := q7; exact again I7 n7
    | brk => obtain ⟨σ7, H7, I7, q7⟩ := q7; exact ⟨σ7, H7, I7.unpinned, q7⟩
    | ret v => obtain ⟨x7, σ7, H7, I7, r7, q7⟩ := q7; exact ⟨x7, σ7, H7, I7.unpinned, r7, q7⟩
end
theorem for_list {K : PySem.W.Frag} {a : Addr} {xs : List V} {g : TG} {tb : TS} {D : Ends} {σ : St} {H : Hp} (Pv : Nat → St → Hp → Prop) (h0 : Pv 0 σ H) (hl : ∀ i σ H, i ≤ xs.length → Pv i σ H → SqL K H a xs)
    (hs : ∀ i x σ H, xs[i]? = some x → Pv i σ H → g x σ H fun σ2 H2 => tb { D with nx := Pv (i + 1), ct := Pv (i + 1), bk := D.nx } σ2 H2) (hd : ∀ σ H, Pv xs.length σ H → D.nx σ H) :
    ∃ W : Nat → Nat → St → Hp → Prop, (∃ m, W 0 m σ H) ∧ ∀ i m σ H, W i m σ H →
      ((Itl K a).stop i H ∧ D.nx σ H) ∨ ((Itl K a).go i H ∧ ∃ N : St → Hp → Prop, (∀ σ' H', N σ' H' → ∃ m', m' < m ∧ W (i + 1) m' σ' H') ∧ ∀ x H', (Itl K a).yld i H x H' → g x σ H' fun σ2 H2 => tb { D with nx := N, ct := N, bk := D.nx } σ2 H2) := by
  refine ⟨fun i m σ H => m = xs.length - i ∧ i ≤ xs.length ∧ Pv i σ H, ⟨xs.length, by simp, Nat.zero_le _, h0⟩, ?_⟩
  rintro i m σ H ⟨rfl, hi, p⟩
  have q := hl i σ H hi p
  by_cases hlt : i < xs.length
  · refine .inr ⟨⟨xs, xs[i], q, by simp [hlt]⟩, Pv (i + 1), fun σ' H' p' => ⟨xs.length - (i + 1), by omega, rfl, hlt, p'⟩, fun x H' y => ?_⟩
    obtain ⟨e, y⟩ := y
    subst e
    exact hs i x σ _ (y xs q) p
  · have e : i = xs.length := by omega
    subst e
    exact .inl ⟨⟨xs, q, Nat.le_refl _⟩, hd σ H p⟩
theorem for_tup {K : PySem.W.Frag} {a : Addr} {xs : List V} {g : TG} {tb : TS} {D : Ends} {σ : St} {H : Hp} (Pv : Nat → St → Hp → Prop) (h0 : Pv 0 σ H) (hl : ∀ i σ H, i ≤ xs.length → Pv i σ H → SqT K H a xs)
    (hs : ∀ i x σ H, xs[i]? = some x → Pv i σ H → g x σ H fun σ2 H2 => tb { D with nx := Pv (i + 1), ct := Pv (i + 1), bk := D.nx } σ2 H2) (hd : ∀ σ H, Pv xs.length σ H → D.nx σ H) :
    ∃ W : Nat → Nat → St → Hp → Prop, (∃ m, W 0 m σ H) ∧ ∀ i m σ H, W i m σ H →
      ((Itt K a).stop i H ∧ D.nx σ H) ∨ ((Itt K a).go i H ∧ ∃ N : St → Hp → Prop, (∀ σ' H', N σ' H' → ∃ m', m' < m ∧ W (i + 1) m' σ' H') ∧ ∀ x H', (Itt K a).yld i H x H' → g x σ H' fun σ2 H2 => tb { D with nx := N, ct := N, bk := D.nx } σ2 H2) := by
  refine ⟨fun i m σ H => m = xs.length - i ∧ i ≤ xs.length ∧ Pv i σ H, ⟨xs.length, by simp, Nat.zero_le _, h0⟩, ?_⟩
  rintro i m σ H ⟨rfl, hi, p⟩
  have q := hl i σ H hi p
  by_cases hlt : i < xs.length
  · refine .inr ⟨⟨xs, xs[i], q, by simp [hlt]⟩, Pv (i + 1), fun σ' H' p' => ⟨xs.length - (i + 1), by omega, rfl, hlt, p'⟩, fun x H' y => ?_⟩
    obtain ⟨e, y⟩ := y
    subst e
    exact hs i x σ _ (y xs q) p
  · have e : i = xs.length := by omega
    subst e
    exact .inl ⟨⟨xs, q, Nat.le_refl _⟩, hd σ H p⟩
theorem for_range {lo : Int} {n : Nat} {g : TG} {tb : TS} {D : Ends} {σ : St} {H : Hp} (Pv : Nat → St → Hp → Prop) (h0 : Pv 0 σ H)
    (hs : ∀ i σ H, i < n → Pv i σ H → g (.int (lo + i)) σ H fun σ2 H2 => tb { D with nx := Pv (i + 1), ct := Pv (i + 1), bk := D.nx } σ2 H2) (hd : ∀ σ H, Pv n σ H → D.nx σ H) :
    ∃ W : Nat → Nat → St → Hp → Prop, (∃ m, W 0 m σ H) ∧ ∀ i m σ H, W i m σ H →
      ((Itr lo n).stop i H ∧ D.nx σ H) ∨ ((Itr lo n).go i H ∧ ∃ N : St → Hp → Prop, (∀ σ' H', N σ' H' → ∃ m', m' < m ∧ W (i + 1) m' σ' H') ∧ ∀ x H', (Itr lo n).yld i H x H' → g x σ H' fun σ2 H2 => tb { D with nx := N, ct := N, bk := D.nx } σ2 H2) := by
  refine ⟨fun i m σ H => m = n - i ∧ i ≤ n ∧ Pv i σ H, ⟨n, by simp, Nat.zero_le _, h0⟩, ?_⟩
  rintro i m σ H ⟨rfl, hi, p⟩
  by_cases hlt : i < n
  · refine .inr ⟨hlt, Pv (i + 1), fun σ' H' p' => ⟨n - (i + 1), by omega, rfl, hlt, p'⟩, fun x H' y => ?_⟩
    obtain ⟨e, y⟩ := y
    subst e y
    exact hs i σ _ hlt p
  · have e : i = n := by omega
    subst e
    exact .inl ⟨Nat.le_refl _, hd σ H p⟩
theorem while_by {c : TT} {tb : TS} {D : Ends} {σ : St} {H : Hp} (Pv : St → Hp → Prop) (μ : St → Hp → Nat) (h0 : Pv σ H)
    (hs : ∀ σ H, Pv σ H → c σ H fun b H1 => if b = true then tb { D with nx := fun σ' H' => Pv σ' H' ∧ μ σ' H' < μ σ H, ct := fun σ' H' => Pv σ' H' ∧ μ σ' H' < μ σ H, bk := D.nx } σ H1 else D.nx σ H1)
    (mono : ∀ σ H Q Q', (∀ b H1, Q b H1 → Q' b H1) → c σ H Q → c σ H Q') : tWhile c tb D σ H := by
  refine ⟨fun m σ H => m = μ σ H ∧ Pv σ H, ⟨_, rfl, h0⟩, ?_⟩
  rintro m σ H ⟨rfl, p⟩
  refine mono σ H _ _ (fun b H1 q => ?_) (hs σ H p)
  cases b with
  | true => exact ⟨_, fun σ' H' ⟨p', l⟩ => ⟨_, l, rfl, p'⟩, q⟩
  | false => exact q
end L2
namespace L2
open PySem PySem.Spec PyProof.Rows
abbrev R2 := V → V → Hp → VK → Prop
def OpR (X : Cx) (f : Value → Value → Sem Value) (r : R2) : Prop :=
  ∀ (pins : List (Addr × Obj)) (s : Shared) (σ : St) (H : Hp) (x y : V) (v u : Value) (Q : VK), Inv X pins σ H s → RelV x v → RelV y u → r x y H Q →
    wpAny (model X.prog X.w) X.A (f v u) (EP X pins σ Q) X.xe s
def UnR (X : Cx) (f : Value → Sem Value) (r : V → Hp → VK → Prop) : Prop :=
  ∀ (pins : List (Addr × Obj)) (s : Shared) (σ : St) (H : Hp) (x : V) (v : Value) (Q : VK), Inv X pins σ H s → RelV x v → r x H Q →
    wpAny (model X.prog X.w) X.A (f v) (EP X pins σ Q) X.xe s
def CallR (X : Cx) (f : Value) (r : List V → Hp → VK → Prop) : Prop :=
  ∀ (pins : List (Addr × Obj)) (s : Shared) (σ : St) (H : Hp) (xs : List V) (us : List Value) (Q : VK), Inv X pins σ H s → Vals xs us → r xs H Q →
    wpAny (model X.prog X.w) X.A (call f us) (EP X pins σ Q) X.xe s
def tOp (r : R2) (ta tb : TE) : TE := fun σ H Q => ta σ H fun x H1 => tb σ H1 fun y H2 => r x y H2 Q
def tUn (r : V → Hp → VK → Prop) (ta : TE) : TE := fun σ H Q => ta σ H fun x H1 => r x H1 Q
def rI (C : Int → Int → Prop) (g : Int → Int → V) : R2 := fun x y H Q => ∃ i j, x = .int i ∧ y = .int j ∧ C i j ∧ Q (g i j) H
def rI0 (g : Int → Int → V) : R2 := fun x y H Q => ∃ i j, x = .int i ∧ y = .int j ∧ Q (g i j) H
def rU (g : Int → V) : V → Hp → VK → Prop := fun x H Q => ∃ i, x = .int i ∧ Q (g i) H
section
variable {X : Cx} {a b c : Expr} {ta tb tc : TE} {pos : Pos}
theorem binT (ha : PE X a ta) (hb : PE X b tb) {pins : List (Addr × Obj)} {s : Shared} {σ : St} {H : Hp} {R : V → V → Hp → Prop} (I : Inv X pins σ H s)
    (h : ta σ H fun x H1 => tb σ H1 fun y H2 => R x y H2) {Q : Value → Shared → Prop} {f : Value → Value → Sem Value}
    (hf : ∀ v u s2 x y H2, Inv X pins σ H2 s2 → RelV x v → RelV y u → R x y H2 → wpAny (model X.prog X.w) X.A (f v u) Q X.xe s2) :
    wpAny (model X.prog X.w) X.A (eval a X.env) (fun v s₁ => wpAny (model X.prog X.w) X.A (eval b X.env) (fun u s₂ => wpAny (model X.prog X.w) X.A (f v u) Q X.xe s₂) X.xe s₁) X.xe s := by
  refine thn (ha pins s σ H _ I h) fun v s1 ⟨x, H1, I1, r1, q1⟩ => ?_
  refine thn (hb pins s1 σ H1 _ I1 q1) fun u s2 ⟨y, H2, I2, r2, q2⟩ => ?_
  exact hf v u s2 x y H2 I2 r1 r2 q2
theorem pe_op {op : Operator} {r : R2} (ho : OpR X (binaryOp op) r) (ha : PE X a ta) (hb : PE X b tb) : PE X (.BinOp a op b pos) (tOp r ta tb) := by
  intro pins s σ H Q I h
  exact wpAny_BinOp (binT ha hb I h fun v u s2 x y H2 I2 rx ry q => ho pins s2 σ H2 x y v u Q I2 rx ry q)
theorem pe_un {op : UnaryOp} {r : V → Hp → VK → Prop} (ho : UnR X (unaryOp op) r) (ha : PE X a ta) : PE X (.UnaryOp op a pos) (tUn r ta) := by
  intro pins s σ H Q I h
  exact UnaryOp_ (thn (ha pins s σ H _ I h) fun v s1 ⟨x, H1, I1, r1, q1⟩ => ho pins s1 σ H1 x v Q I1 r1 q1)
theorem opI {f : Value → Value → Sem Value} {C : Int → Int → Prop} {g : Int → Int → Int}
    (rule : ∀ (i j : Int) (t u : Tok) (s : Shared) (Q : Value → Shared → Prop) (E : Value → Shared → Prop), C i j → Q (.int (g i j) s.toks) { s with toks := s.toks + 1 } → wpAny (model X.prog X.w) X.A (f (.int i t) (.int j u)) Q E s) :
    OpR X f (rI C fun i j => .int (g i j)) := by
  intro pins s σ H x y v u Q I rx ry h
  obtain ⟨i, j, rfl, rfl, hc, q⟩ := h
  obtain ⟨t, rfl⟩ := rx
  obtain ⟨t', rfl⟩ := ry
  exact rule i j t t' s _ _ hc ⟨.int (g i j), H, I.tok _, ⟨_, rfl⟩, q⟩
theorem opI0 {f : Value → Value → Sem Value} {g : Int → Int → Int}
    (rule : ∀ (i j : Int) (t u : Tok) (s : Shared) (Q : Value → Shared → Prop) (E : Value → Shared → Prop), Q (.int (g i j) s.toks) { s with toks := s.toks + 1 } → wpAny (model X.prog X.w) X.A (f (.int i t) (.int j u)) Q E s) :
    OpR X f (rI0 fun i j => .int (g i j)) := by
  intro pins s σ H x y v u Q I rx ry h
  obtain ⟨i, j, rfl, rfl, q⟩ := h
  obtain ⟨t, rfl⟩ := rx
  obtain ⟨t', rfl⟩ := ry
  exact rule i j t t' s _ _ ⟨.int (g i j), H, I.tok _, ⟨_, rfl⟩, q⟩
theorem opB0 {f : Value → Value → Sem Value} {g : Int → Int → Bool}
    (rule : ∀ (i j : Int) (t u : Tok) (s : Shared) (Q : Value → Shared → Prop) (E : Value → Shared → Prop), Q (.bool (g i j)) s → wpAny (model X.prog X.w) X.A (f (.int i t) (.int j u)) Q E s) :
    OpR X f (rI0 fun i j => .bl (g i j)) := by
  intro pins s σ H x y v u Q I rx ry h
  obtain ⟨i, j, rfl, rfl, q⟩ := h
  obtain ⟨t, rfl⟩ := rx
  obtain ⟨t', rfl⟩ := ry
  exact rule i j t t' s _ _ ⟨.bl (g i j), H, I, rfl, q⟩
def CDiv (i j : Int) : Prop := 0 < j ∧ j < 1073741824
def CMul (i j : Int) : Prop := (-(2 ^ 64) < i ∧ i < 2 ^ 64) ∨ (-(2 ^ 64) < j ∧ j < 2 ^ 64)
theorem CMul.ok {i j : Int} (h : CMul i j) : IntMulOk i j := by
  rcases h with ⟨h1, h2⟩ | ⟨h1, h2⟩
  · exact .of_left (intBits_le_64 h1 h2)
  · exact .of_right (intBits_le_64 h1 h2)
theorem op_add : OpR X (binaryOp .Add) (rI0 fun i j => .int (i + j)) := opI0 fun _ _ _ _ _ _ _ q => add_int q
theorem op_sub : OpR X (binaryOp .Sub) (rI0 fun i j => .int (i - j)) := opI0 fun _ _ _ _ _ _ _ q => sub_int q
theorem op_mul : OpR X (binaryOp .Mult) (rI CMul fun i j => .int (i * j)) := opI fun _ _ _ _ _ _ _ hc q => mul_int q hc.ok
theorem op_fdiv : OpR X (binaryOp .FloorDiv) (rI CDiv fun i j => .int (i / j)) := opI fun i j _ _ _ _ _ hc q => by
  have h1 : (0 : Int) < j := hc.1
  have h2 : j < 1073741824 := hc.2
  exact floordiv_int (by omega) (by rw [Int.fdiv_eq_ediv_of_nonneg i (by omega)]; exact q) (.inl (PyProof.noPylong_small (by omega)))
theorem op_mod : OpR X (binaryOp .Mod) (rI (fun _ j => 0 < j) fun i j => .int (i % j)) := opI fun i j _ _ _ _ _ hc q => by
  have h1 : (0 : Int) < j := hc
  exact mod_int' (by omega) (by rw [Int.fmod_eq_emod_of_nonneg i (by omega)]; exact q)
theorem unI {f : Value → Sem Value} {g : Int → Int}
    (rule : ∀ (i : Int) (t : Tok) (s : Shared) (Q : Value → Shared → Prop) (E : Value → Shared → Prop), Q (.int (g i) s.toks) { s with toks := s.toks + 1 } → wpAny (model X.prog X.w) X.A (f (.int i t)) Q E s) :
    UnR X f (rU fun i => .int (g i)) := by
  intro pins s σ H x v Q I rx h
  obtain ⟨i, rfl, q⟩ := h
  obtain ⟨t, rfl⟩ := rx
  exact rule i t s _ _ ⟨.int (g i), H, I.tok _, ⟨_, rfl⟩, q⟩
theorem un_neg : UnR X (unaryOp .USub) (rU fun i => .int (-i)) := unI fun _ _ _ _ _ q => neg_int q
end
def scal : V → V → Bool
  | .non, .non => true | .non, .int _ => true | .int _, .non => true | .non, .bl _ => true | .bl _, .non => true | .non, .str _ => true | .str _, .non => true
  | .int _, .int _ => true | .bl _, .bl _ => true | .str _, .str _ => true | .byt _, .byt _ => true
  | .int _, .str _ => true | .str _, .int _ => true | .bl _, .str _ => true | .str _, .bl _ => true
  | _, _ => false
def rEq : R2 := fun x y H Q => scal x y = true ∧ Q (.bl (decide (x = y))) H
def rNe : R2 := fun x y H Q => scal x y = true ∧ Q (.bl (!decide (x = y))) H
theorem dec_int {i j : Int} : decide (V.int i = V.int j) = (i == j) := by
  rw [Bool.eq_iff_iff]
  simp
theorem dec_bl {i j : Bool} : decide (V.bl i = V.bl j) = (i == j) := by
  rw [Bool.eq_iff_iff]
  simp
theorem dec_str {i j : Str} : decide (V.str i = V.str j) = (i == j) := by
  rw [Bool.eq_iff_iff]
  simp
theorem dec_byt {i j : Array UInt8} : decide (V.byt i = V.byt j) = (i.toList == j.toList) := by
  rw [Bool.eq_iff_iff]
  cases i
  cases j
  simp
section
variable {X : Cx} {a b c : Expr} {ta tb tc : TE} {pos : Pos}
theorem fin_bl {pins : List (Addr × Obj)} {σ : St} {H : Hp} {s : Shared} {Q : VK} {k k' : Bool} (I : Inv X pins σ H s) (q : Q (.bl k) H) (e : k = k') : EP X pins σ Q (.bool k') s := by
  subst e
  exact ⟨.bl k, H, I, rfl, q⟩
theorem op_eq : OpR X (compareOp .Eq) rEq := by
  intro pins s σ H x y v u Q I rx ry h
  obtain ⟨hs, q⟩ := h
  cases x with
  | non =>
    cases rx
    cases y with
    | non => cases ry; exact PySem.EqNone.eq_none_none (fin_bl I q (by simp))
    | bl j => cases ry; exact PySem.EqNone.eq_none_bool (fin_bl I q (by simp))
    | int j => obtain ⟨t', rfl⟩ := ry; exact PySem.EqNone.eq_none_int (fin_bl I q (by simp))
    | str j => obtain ⟨t', rfl⟩ := ry; exact PySem.EqNone.eq_none_str (fin_bl I q (by simp))
    | _ => exact absurd (show false = true from hs) Bool.false_ne_true
  | bl i =>
    cases rx
    cases y with
    | non => cases ry; exact PySem.EqNone.eq_bool_none (fin_bl I q (by simp))
    | bl j => cases ry; exact eq_bool (fin_bl I q dec_bl)
    | str j => obtain ⟨t', rfl⟩ := ry; exact PySem.EqMixed.eq_bool_str (fin_bl I q (by simp))
    | _ => exact absurd (show false = true from hs) Bool.false_ne_true
  | int i =>
    obtain ⟨t, rfl⟩ := rx
    cases y with
    | non => cases ry; exact PySem.EqNone.eq_int_none (fin_bl I q (by simp))
    | int j => obtain ⟨t', rfl⟩ := ry; exact eq_int (fin_bl I q dec_int)
    | str j => obtain ⟨t', rfl⟩ := ry; exact PySem.EqMixed.eq_int_str (fin_bl I q (by simp))
    | _ => exact absurd (show false = true from hs) Bool.false_ne_true
  | str i =>
    obtain ⟨t, rfl⟩ := rx
    cases y with
    | non => cases ry; exact PySem.EqNone.eq_str_none (fin_bl I q (by simp))
    | bl j => cases ry; exact PySem.EqMixed.eq_str_bool (fin_bl I q (by simp))
    | int j => obtain ⟨t', rfl⟩ := ry; exact PySem.EqMixed.eq_str_int (fin_bl I q (by simp))
    | str j => obtain ⟨t', rfl⟩ := ry; exact eq_str (fin_bl I q dec_str)
    | _ => exact absurd (show false = true from hs) Bool.false_ne_true
  | byt i =>
    obtain ⟨t, rfl⟩ := rx
    cases y with
    | byt j => obtain ⟨t', rfl⟩ := ry; exact PySem.W.eq_bytes (fin_bl I q dec_byt)
    | _ => exact absurd (show false = true from hs) Bool.false_ne_true
  | _ => cases y <;> exact absurd (show false = true from hs) Bool.false_ne_true
theorem op_ne : OpR X (compareOp .NotEq) rNe := by
  intro pins s σ H x y v u Q I rx ry h
  obtain ⟨hs, q⟩ := h
  cases x with
  | non =>
    cases rx
    cases y with
    | non => cases ry; exact PySem.EqNone.ne_none_none (fin_bl I q (by simp))
    | bl j => cases ry; exact PySem.EqNone.ne_none_bool (fin_bl I q (by simp))
    | int j => obtain ⟨t', rfl⟩ := ry; exact PySem.EqNone.ne_none_int (fin_bl I q (by simp))
    | str j => obtain ⟨t', rfl⟩ := ry; exact PySem.EqNone.ne_none_str (fin_bl I q (by simp))
    | _ => exact absurd (show false = true from hs) Bool.false_ne_true
  | bl i =>
    cases rx
    cases y with
    | non => cases ry; exact PySem.EqNone.ne_bool_none (fin_bl I q (by simp))
    | bl j => cases ry; exact ne_bool (fin_bl I q (congrArg not dec_bl))
    | str j => obtain ⟨t', rfl⟩ := ry; exact PySem.EqMixed.ne_bool_str (fin_bl I q (by simp))
    | _ => exact absurd (show false = true from hs) Bool.false_ne_true
  | int i =>
    obtain ⟨t, rfl⟩ := rx
    cases y with
    | non => cases ry; exact PySem.EqNone.ne_int_none (fin_bl I q (by simp))
    | int j => obtain ⟨t', rfl⟩ := ry; exact ne_int (fin_bl I q (congrArg not dec_int))
    | str j => obtain ⟨t', rfl⟩ := ry; exact PySem.EqMixed.ne_int_str (fin_bl I q (by simp))
    | _ => exact absurd (show false = true from hs) Bool.false_ne_true
  | str i =>
    obtain ⟨t, rfl⟩ := rx
    cases y with
    | non => cases ry; exact PySem.EqNone.ne_str_none (fin_bl I q (by simp))
    | bl j => cases ry; exact PySem.EqMixed.ne_str_bool (fin_bl I q (by simp))
    | int j => obtain ⟨t', rfl⟩ := ry; exact PySem.EqMixed.ne_str_int (fin_bl I q (by simp))
    | str j => obtain ⟨t', rfl⟩ := ry; exact ne_str (fin_bl I q (congrArg not dec_str))
    | _ => exact absurd (show false = true from hs) Bool.false_ne_true
  | byt i =>
    obtain ⟨t, rfl⟩ := rx
    cases y with
    | byt j => obtain ⟨t', rfl⟩ := ry; exact PySem.W.ne_bytes (fin_bl I q (congrArg not dec_byt))
    | _ => exact absurd (show false = true from hs) Bool.false_ne_true
  | _ => cases y <;> exact absurd (show false = true from hs) Bool.false_ne_true
theorem op_lt : OpR X (compareOp .Lt) (rI0 fun i j => .bl (decide (i < j))) := opB0 fun _ _ _ _ _ _ _ q => lt_int q
theorem op_le : OpR X (compareOp .LtE) (rI0 fun i j => .bl (decide (i ≤ j))) := opB0 fun _ _ _ _ _ _ _ q => le_int q
theorem op_gt : OpR X (compareOp .Gt) (rI0 fun i j => .bl (decide (j < i))) := opB0 fun _ _ _ _ _ _ _ q => gt_int q
theorem op_ge : OpR X (compareOp .GtE) (rI0 fun i j => .bl (decide (j ≤ i))) := opB0 fun _ _ _ _ _ _ _ q => ge_int q
theorem nomark (b : Expr) {op : CmpOp} (h : op ≠ .In := by decide) (h2 : op ≠ .NotIn := by decide) : behindInMarks op b = false := by
  have e1 : (op == CmpOp.In) = false := by cases op <;> first | rfl | exact absurd rfl h
  have e2 : (op == CmpOp.NotIn) = false := by cases op <;> first | rfl | exact absurd rfl h2
  cases b <;> simp [behindInMarks, e1, e2]
theorem pe_cmpR {op : CmpOp} {r : R2} (ho : OpR X (compareOp op) r) (ha : PE X a ta) (hb : PE X b tb) (hm : behindInMarks op b = false) : PE X (.Compare a [op] [b] pos) (tOp r ta tb) := by
  intro pins s σ H Q I h
  exact wpAny_Compare1 (binT ha hb I h fun v u s2 x y H2 I2 rx ry q => ho pins s2 σ H2 x y v u Q I2 rx ry q) hm
def tTest (t : TE) : TT := fun σ H Q => t σ H fun x H' => ∃ k, x = .bl k ∧ Q k H'
theorem pt_cmpR {op : CmpOp} {r : R2} (ho : OpR X (compareOp op) r) (ha : PE X a ta) (hb : PE X b tb) (hm : behindInMarks op b = false) : PT X (.Compare a [op] [b] pos) (tTest (tOp r ta tb)) := by
  intro pins s σ H Q I h
  refine wpAny_isTrue_Compare1 (thn (ha pins s σ H _ I h) fun v s1 ⟨x, H1, I1, r1, q1⟩ => thn (hb pins s1 σ H1 _ I1 q1) fun u s2 ⟨y, H2, I2, r2, q2⟩ =>
    thn (ho pins s2 σ H2 x y v u _ I2 r1 r2 q2) fun c s3 ⟨z, H3, I3, r3, k, e, q3⟩ => ?_) hm
  subst e
  cases r3
  exact wpAny_truthy_bool ⟨H3, I3, q3⟩
def tChain (r r' : R2) (ta tb tc : TE) : TE := fun σ H Q => ta σ H fun x H1 => tb σ H1 fun y H2 => r x y H2 fun z H3 => ∃ k, z = .bl k ∧
  (if k = true then tc σ H3 fun w' H4 => r' y w' H4 Q else Q (.bl false) H3)
theorem pe_chain {op op' : CmpOp} {r r' : R2} (ho : OpR X (compareOp op) r) (ho' : OpR X (compareOp op') r') (ha : PE X a ta) (hb : PE X b tb) (hc : PE X c tc)
    (hm : lastMarks [op, op'] [b, c] = false := by with_unfolding_all rfl) : PE X (.Compare a [op, op'] [b, c] pos) (tChain r r' ta tb tc) := by
  intro pins s σ H Q I h
  refine Compare_chain (thn (ha pins s σ H _ I h) fun v s1 ⟨x, H1, I1, r1, q1⟩ => chain_link (thn (hb pins s1 σ H1 _ I1 q1) fun u s2 ⟨y, H2, I2, r2, q2⟩ =>
    thn (ho pins s2 σ H2 x y v u _ I2 r1 r2 q2) fun d s3 ⟨z, H3, I3, r3, k, e, q3⟩ => ?_)) hm
  subst e
  cases r3
  refine wpAny_truthy_bool ?_
  cases k with
  | false => exact ite_ff ⟨.bl false, H3, I3, rfl, q3⟩
  | true => exact ite_tt (chain_last (thn (hc pins s3 σ H3 _ I3 q3) fun w' s4 ⟨z', H4, I4, r4, q4⟩ => ho' pins s4 σ H4 y z' u w' Q I4 r2 r4 q4))
theorem pt_chain {op op' : CmpOp} {r r' : R2} (ho : OpR X (compareOp op) r) (ho' : OpR X (compareOp op') r') (ha : PE X a ta) (hb : PE X b tb) (hc : PE X c tc)
    (hm : lastMarks [op, op'] [b, c] = false := by with_unfolding_all rfl) : PT X (.Compare a [op, op'] [b, c] pos) (tTest (tChain r r' ta tb tc)) := by
  intro pins s σ H Q I h
  refine isTrue_chain (thn (ha pins s σ H _ I h) fun v s1 ⟨x, H1, I1, r1, q1⟩ => test_link (thn (hb pins s1 σ H1 _ I1 q1) fun u s2 ⟨y, H2, I2, r2, q2⟩ =>
    thn (ho pins s2 σ H2 x y v u _ I2 r1 r2 q2) fun d s3 ⟨z, H3, I3, r3, k, e, q3⟩ => ?_)) hm
  subst e
  cases r3
  refine wpAny_truthy_bool ?_
  cases k with
  | false =>
    obtain ⟨k', e', q'⟩ := q3
    cases e'
    exact ite_ff ⟨H3, I3, q'⟩
  | true =>
    refine ite_tt (test_last (thn (hc pins s3 σ H3 _ I3 q3) fun w' s4 ⟨z', H4, I4, r4, q4⟩ => thn (ho' pins s4 σ H4 y z' u w' _ I4 r2 r4 q4) fun d' s5 ⟨z2, H5, I5, r5, k2, e2, q5⟩ => ?_))
    subst e2
    cases r5
    exact wpAny_truthy_bool ⟨H5, I5, q5⟩
theorem line63 : (sizeLine : Nat) < 2 ^ 63 := by rw [sizeLine_eq]; decide
theorem vals1 {x : V} {us : List Value} (r : Vals [x] us) : ∃ u, us = [u] ∧ RelV x u := by
  cases r with
  | cons r1 r2 => cases r2; exact ⟨_, rfl, r1⟩
theorem vals2 {x y : V} {us : List Value} (r : Vals [x, y] us) : ∃ u w', us = [u, w'] ∧ RelV x u ∧ RelV y w' := by
  cases r with
  | cons r1 r2 =>
    cases r2 with
    | cons r3 r4 => cases r4; exact ⟨_, _, rfl, r1, r3⟩
theorem call_max2 (hc : X.calm = true) : CallR X (.builtin "max") (fun xs H Q => ∃ i j, xs = [.int i, .int j] ∧ Q (.int (if j > i then j else i)) H) := by
  intro pins s σ H xs us Q I r h
  obtain ⟨i, j, rfl, q⟩ := h
  obtain ⟨u, w', rfl, ⟨t, rfl⟩, ⟨t', rfl⟩⟩ := vals2 r
  refine max_two_ints (I.ok.hd hc) fun h' tk k => ⟨_, H, I.kept k, ?_, q⟩
  by_cases hj : j > i
  · rw [if_pos hj, if_pos hj]; exact ⟨_, rfl⟩
  · rw [if_neg hj, if_neg hj]; exact ⟨_, rfl⟩
end
end L2
namespace L2
open PySem PySem.Spec PyProof.Rows
structure ObjM (h : Heap) (x dx C : Addr) (mA : Str → Option Value) : Prop where
  obj : h.get? x = some (PySem.W.instObj C dx)
  ns : h.Ns1 dx mA
  ne : dx ≠ x
theorem lookIn_ns {h : Heap} {dx : Addr} {mA : Str → Option Value} (n : h.Ns1 dx mA) : ∃ od, h.get? dx = some od ∧ ∀ name, PySem.W.lookIn name od = some (mA name) := by
  obtain ⟨o, es, ep, ho, hd, hk, _, hm⟩ := n
  refine ⟨o, ho, fun name => ?_⟩
  have e := hm name
  unfold nsFind findBy at e
  rw [← Array.find?_toList] at e
  unfold PySem.W.lookIn
  rw [hd]
  dsimp only
  split
  · rename_i y q
    rw [q] at e
    exact congrArg some e
  · rename_i q
    rw [q] at e
    have a : es.toList.any (·.refKey) = false := by
      rw [List.any_eq_false]
      intro y hy
      obtain ⟨z, t, hkey⟩ := hk y (Array.mem_toList_iff.mp hy)
      simp [DictEntry.refKey, hkey]
    have a' : ¬ es.toList.any (·.refKey) = true := by rw [a]; exact Bool.false_ne_true
    rw [if_neg a']
    exact congrArg some e
theorem ObjM.look {h : Heap} {x dx C : Addr} {mA : Str → Option Value} (I : ObjM h x dx C mA) : ∃ od, PySem.W.InstAt h x (PySem.W.instObj C dx) C (some od) ∧ ∀ name, PySem.W.lookIn name od = some (mA name) :=
  let ⟨od, ho, hl⟩ := lookIn_ns I.ns
  ⟨od, ⟨I.obj, rfl, rfl, ho⟩, hl⟩
section
variable {prog : Program} {w : World} {A : Around} {E : Value → Shared → Prop} {s : Shared} {K : PySem.W.Frag} {x dx C f : Addr} {mA : Str → Option Value} {name : Str} {v : Value}
theorem get_map {expr : Bool} {Q : Value → Shared → Prop} (X : K.In s.heap) (I : ObjM s.heap x dx C mA) (hg : PySem.W.plainGet K C name = true) (hh : PySem.W.hasDictIn K C = true)
    (ha : PySem.W.findIn K (.ref C) name = some none) (hv : mA name = some v) (hv' : PySem.W.handedIn v = true) (h : Q v { s with toks := s.toks + 1 }) :
    wpAny (model prog w) A (getAttr (.ref x) name expr) Q E s := by
  obtain ⟨od, J, hl⟩ := I.look
  exact PySem.W.get_value X J (PySem.W.plainGet_of hg).1 (PySem.W.findObj_own hh ha rfl (by rw [hl, hv])) hv' h
theorem get_meth {pl : Sem Bool} {Q : Value × List Value → Shared → Prop} (X : K.In s.heap) (I : ObjM s.heap x dx C mA) (hg : PySem.W.plainGet K C name = true)
    (hf : PySem.W.findIn K (.ref C) name = some (some (.ref f))) (ht : PySem.W.isFn K (.ref f) = true) (hv : mA name = none) (h : Q (.ref f, [.ref x]) s) :
    wpAny (model prog w) A (getMethod (.ref x) name pl) Q E s := by
  obtain ⟨od, J, hl⟩ := I.look
  exact PySem.W.method_fn X J (PySem.W.plainGet_of hg).1 (PySem.W.plainGet_of hg).2 hf (beq_iff_eq.mp ht) (by show (PySem.W.lookIn name od).map (·.isSome) = some false; rw [hl, hv]; rfl) h
theorem set_map {ns : List Str} {Q : Unit → Shared → Prop} (X : K.In s.heap) (I : ObjM s.heap x dx C mA)
    (hs : PySem.W.findIn K (.ref C) "__setattr__" = some (some (.builtin "object.__setattr__"))) (hp : PySem.W.plainOver K C = true) (ht : PySem.W.takerIn K C name = some none) (hh : PySem.W.hasDictIn K C = true)
    (hw : PySem.Within mA ns) (hsz : ns.length ≤ sizeLine)
    (h : ∀ h', ObjM h' x dx C (fun y => if y = name then some v else mA y) → Heap.SameBut dx s.heap h' → Q () { s with heap := h', toks := s.toks + 2 }) :
    wpAny (model prog w) A (setAttr (.ref x) name v) Q E s := by
  obtain ⟨od, J, hl⟩ := I.look
  refine PySem.W.set_plain X J hs (PySem.W.osa_open (s := { s with toks := s.toks + 1 }) (r := none) X J hp ht fun b => ?_)
  obtain ⟨cd, hc, hd'⟩ := PySem.W.any_some hh
  have hx : s.heap.get? x = some ⟨.ref C, some dx, .plain, #[]⟩ := I.obj
  refine wpAny_bind (wpAny_pure (wpAny_bind (wpAny_bind (wpAny_loadPart hx (wpAny_bind (PySem.W.Looks.here (s := { s with toks := s.toks + 1 }) (PySem.W.looks_clsIn X hc) ?_))))))
  rw [hd']
  refine wpAny_pure (a := some dx) (wpAny_bind (wpAny_pure (wpAny_bind ?_)))
  refine wpAny_nsSet1 (s := { s with toks := s.toks + 1 }) I.ns fun h' hn2 hs2 => ?_
  obtain ⟨oD, esD, epD, hoD, hdD, hcD⟩ := hn2.count (PySem.Within.cons name v hw)
  refine wpAny_bind (wpAny_lookBehind hoD (by rw [hdD]; exact pastItsLine_dict (Nat.le_trans hcD (by rw [List.length_cons]; omega))) ?_)
  exact wpAny_pure (h _ ⟨(hs2.2 _ (Ne.symm I.ne)).trans I.obj, hn2, I.ne⟩ hs2)
theorem make_map {R : Result → Shared → Prop} {vs : List Value} {kw : List (Str × Value)} (X : K.In s.heap) (hm : PySem.W.makesIn K C = true)
    (hi : PySem.W.findIn K (.ref C) "__init__" = some (some (.ref f))) (hf : PySem.W.typeIn K (.ref f) = some (.type "function"))
    (h : codeAny (model prog w) (A.under (.builtin "type.__call__" ⟨.ref C :: vs, kw⟩)) (.call (.ref f) ⟨.ref (s.heap.objs.size + 1) :: vs, kw⟩) (PySem.W.InitBack (s.heap.objs.size + 1) R)
      { s with heap := (s.heap.push PySem.W.emptyDict).push (PySem.W.instObj C s.heap.objs.size) }) :
    codeAny (model prog w) A (.call (.ref C) ⟨vs, kw⟩) R s := by
  obtain ⟨hh, g, d, t, os⟩ := s
  exact PySem.W.make_core (PySem.W.makes_of X hm) (PySem.W.looks_findIn X hi) (fun self => PySem.W.bind_fn X self hf) (.inl rfl) h
end
def putF (f : Str) (v : V) : List (Str × V) → List (Str × V)
  | [] => [(f, v)]
  | (g, x) :: r => if g = f then (g, v) :: r else (g, x) :: putF f v r
theorem lookup_putF (f g : Str) (v : V) : ∀ fs : List (Str × V), (putF f v fs).lookup g = if g = f then some v else fs.lookup g
  | [] => by
    show List.lookup g [(f, v)] = _
    by_cases h : g = f
    · have hb : (g == f) = true := beq_iff_eq.mpr h
      simp only [List.lookup, hb, if_pos h]
    · have hb : (g == f) = false := beq_eq_false_iff_ne.mpr h
      simp only [List.lookup, hb, if_neg h]
  | (k, x) :: r => by
    have ih := lookup_putF f g v r
    rw [show putF f v ((k, x) :: r) = (if k = f then (k, v) :: r else (k, x) :: putF f v r) from rfl]
    by_cases hk : k = f
    · rw [if_pos hk]
      by_cases h : g = k
      · have hb : (g == k) = true := beq_iff_eq.mpr h
        simp only [List.lookup, hb, if_pos (h.trans hk)]
      · have hb : (g == k) = false := beq_eq_false_iff_ne.mpr h
        simp only [List.lookup, hb, if_neg (fun e : g = f => h (e.trans hk.symm))]
    · rw [if_neg hk]
      by_cases h : g = k
      · have hb : (g == k) = true := beq_iff_eq.mpr h
        simp only [List.lookup, hb, if_neg (fun e : g = f => hk (h.symm.trans e))]
      · have hb : (g == k) = false := beq_eq_false_iff_ne.mpr h
        simp only [List.lookup, hb]
        exact ih
theorem keys_putF (f : Str) (v : V) : ∀ fs : List (Str × V), f ∈ (putF f v fs).map (·.1) ∧ ∀ g, g ∈ fs.map (·.1) → g ∈ (putF f v fs).map (·.1)
  | [] => ⟨by simp [putF], fun g h => by simp at h⟩
  | (k, x) :: r => by
    obtain ⟨i1, i2⟩ := keys_putF f v r
    rw [show putF f v ((k, x) :: r) = (if k = f then (k, v) :: r else (k, x) :: putF f v r) from rfl]
    by_cases hk : k = f
    · rw [if_pos hk]
      subst hk
      exact ⟨by simp, fun g h => by simpa using h⟩
    · rw [if_neg hk]
      refine ⟨?_, fun g h => ?_⟩
      · rw [List.map_cons]
        exact List.mem_cons_of_mem _ i1
      · rw [List.map_cons] at h ⊢
        rcases List.mem_cons.mp h with e | e
        · exact List.mem_cons.mpr (.inl e)
        · exact List.mem_cons_of_mem _ (i2 g e)
theorem length_putF (f : Str) (v : V) : ∀ fs : List (Str × V), (putF f v fs).length ≤ fs.length + 1
  | [] => by simp [putF]
  | (k, x) :: r => by
    have ih := length_putF f v r
    rw [show putF f v ((k, x) :: r) = (if k = f then (k, v) :: r else (k, x) :: putF f v r) from rfl]
    by_cases hk : k = f
    · rw [if_pos hk, List.length_cons, List.length_cons]; omega
    · rw [if_neg hk, List.length_cons, List.length_cons]; omega
theorem RelO.some_of {v : V} {o : Option Value} (r : RelO (some v) o) : ∃ u, o = some u ∧ RelV v u := by
  cases o with
  | none => exact (show False from r).elim
  | some u => exact ⟨u, rfl, r⟩
theorem RelO.none_of {o : Option Value} (r : RelO none o) : o = none := by
  cases o with
  | none => rfl
  | some u => exact (show False from r).elim
theorem handed_of {v : V} {u : Value} (r : RelV v u) : PySem.W.handedIn u = true := by
  cases v with
  | non => cases (show u = Value.none from r); rfl
  | bl b => cases (show u = Value.bool b from r); rfl
  | int i => obtain ⟨t, e⟩ := (show ∃ t, u = Value.int i t from r); cases e; rfl
  | str x => obtain ⟨t, e⟩ := (show ∃ t, u = Value.str x t from r); cases e; rfl
  | byt b => obtain ⟨t, e⟩ := (show ∃ t, u = Value.bytes b t from r); cases e; rfl
  | flt b => obtain ⟨t, e⟩ := (show ∃ t, u = Value.float b t from r); cases e; rfl
  | ref a => cases (show u = Value.ref a from r); rfl
  | ty n => cases (show u = Value.type n from r); rfl
section
variable {P : Program} {w : World} {H H' : Hp} {h h' : Heap} {a C dx : Addr} {fs fs' : List (Str × V)}
theorem ins_get (hok : HOk P w H h) (e : H a = some (.ins C dx fs)) : ∃ mA, ObjM h a dx C mA ∧ (∀ f, RelO (fs.lookup f) (mA f)) ∧ PySem.Within mA (fs.map (·.1)) ∧ fs.length ≤ 1000 ∧ H dx = some (.own a) := by
  obtain ⟨d, z, ne, ob, mA, n, r, q⟩ := (show ObjOk P w H h a (.ins C dx fs) from hok a _ e)
  exact ⟨mA, ⟨ob, n, ne⟩, r, q, z, d⟩
end
structure Cls (K : PySem.W.Frag) (C : Addr) : Prop where
  pg : PySem.W.plainGet K C Str.empty = true
  hd : PySem.W.hasDictIn K C = true
  po : PySem.W.plainOver K C = true
  sa : PySem.W.findIn K (.ref C) "__setattr__" = some (some (.builtin "object.__setattr__"))
theorem Cls.get {K : PySem.W.Frag} {C : Addr} (c : Cls K C) (f : Str) : PySem.W.plainGet K C f = true := c.pg
def NoAttr (K : PySem.W.Frag) (C : Addr) (f : Str) : Prop := PySem.W.findIn K (.ref C) f = some none
theorem NoAttr.taker {K : PySem.W.Frag} {C : Addr} {f : Str} (n : NoAttr K C f) : PySem.W.takerIn K C f = some none := by
  unfold PySem.W.takerIn
  rw [show PySem.W.findIn K (.ref C) f = some none from n]
  rfl
structure Meth (K : PySem.W.Frag) (C : Addr) (m : Str) (f : Addr) : Prop where
  at_ : PySem.W.findIn K (.ref C) m = some (some (.ref f))
  fn : PySem.W.isFn K (.ref f) = true
  kp : PySem.W.keepIn K (.ref f) = true
section
variable {X : Cx} {pins : List (Addr × Obj)} {σ : St} {H : Hp} {s : Shared} {a C dx : Addr} {fs : List (Str × V)} {f : Str} {v : V} {A : Around} {E : Value → Shared → Prop}
theorem getattr_ok {b : Bool} {Q : Value → Shared → Prop} (I : Inv X pins σ H s) (e : H a = some (.ins C dx fs)) (c : Cls X.K C) (n : NoAttr X.K C f) (l : fs.lookup f = some v)
    (h : ∀ u s', Inv X pins σ H s' → RelV v u → Q u s') : wpAny (model X.prog X.w) A (getAttr (.ref a) f b) Q E s := by
  obtain ⟨mA, O, r, _, _, _⟩ := ins_get I.hok e
  obtain ⟨u, hu, ru⟩ := RelO.some_of (v := v) (o := mA f) (by rw [← l]; exact r f)
  exact get_map I.kIn O (c.get f) c.hd n hu (handed_of ru) (h u _ (I.tok _) ru)
theorem getmeth_ok {m : Str} {g : Addr} {pl : Sem Bool} {Q : Value × List Value → Shared → Prop} (I : Inv X pins σ H s) (e : H a = some (.ins C dx fs)) (c : Cls X.K C) (k : Meth X.K C m g) (l : fs.lookup m = none)
    (h : Q (.ref g, [.ref a]) s) : wpAny (model X.prog X.w) A (getMethod (.ref a) m pl) Q E s := by
  obtain ⟨mA, O, r, _, _, _⟩ := ins_get I.hok e
  have hn : mA m = none := RelO.none_of (by rw [← l]; exact r m)
  exact get_meth I.kIn O (c.get m) k.at_ k.fn hn h
theorem setattr_ok {y : V} {u : Value} {Q : Unit → Shared → Prop} (I : Inv X pins σ H s) (e : H a = some (.ins C dx fs)) (c : Cls X.K C) (n : NoAttr X.K C f) (hl : fs.length < 1000) (ry : RelV y u)
    (h : ∀ s', Inv X pins σ (upd H a (.ins C dx (putF f y fs))) s' → Q () s') : wpAny (model X.prog X.w) A (setAttr (.ref a) f u) Q E s := by
  obtain ⟨mA, O, r, wi, _, ho⟩ := ins_get I.hok e
  have hz : (fs.map (·.1)).length ≤ sizeLine := by rw [List.length_map, sizeLine_eq]; omega
  refine set_map I.kIn O c.sa c.po n.taker c.hd wi hz fun h' O' sb => h _ ?_
  have hd : ∃ o, h'.get? dx = some o := let ⟨o, _, _, e', _⟩ := O'.ns; ⟨o, e'⟩
  refine I.write (x := a) (e := dx) (by rw [e]; exact True.intro) (.inr ho) (fun b q hb z => (sb.2 b hb).trans z) hd ?_
  refine ⟨by rw [upd_ne O.ne]; exact ho, ?_, O.ne, O'.obj, _, O'.ns, fun g => ?_, fun g hg => ?_⟩
  · have := length_putF f y fs; omega
  · show RelO ((putF f y fs).lookup g) (if g = f then some u else mA g)
    rw [lookup_putF]
    by_cases q : g = f
    · rw [if_pos q, if_pos q]; exact ry
    · rw [if_neg q, if_neg q]; exact r g
  · by_cases q : g = f
    · rw [q]; exact (keys_putF f y fs).1
    · refine (keys_putF f y fs).2 g (wi g fun z => hg ?_)
      show (if g = f then some u else mA g) = none
      rw [if_neg q]; exact z
theorem Inv.made (I : Inv X pins σ H s) : Inv X pins σ (upd (upd H s.heap.objs.size (.own (s.heap.objs.size + 1))) (s.heap.objs.size + 1) (.ins C s.heap.objs.size []))
    { s with heap := (s.heap.push PySem.W.emptyDict).push (PySem.W.instObj C s.heap.objs.size) } := by
  have e1 : (s.heap.push PySem.W.emptyDict).get? s.heap.objs.size = some PySem.W.emptyDict := Heap.get?_push_size s.heap rfl
  have e2 : ((s.heap.push PySem.W.emptyDict).push (PySem.W.instObj C s.heap.objs.size)).get? (s.heap.objs.size + 1) = some (PySem.W.instObj C s.heap.objs.size) := by
    have := Heap.get?_push_size (s.heap.push PySem.W.emptyDict) (o := PySem.W.instObj C s.heap.objs.size) rfl
    rwa [Heap.size_push] at this
  have e3 : (s.heap.push PySem.W.emptyDict).Ns s.heap.objs.size (fun _ => none) := ⟨PySem.W.emptyDict, #[], _, e1, rfl, (fun e he => absurd he (by simp)), fun _ => rfl⟩
  have I1 := I.laid (a := s.heap.objs.size) (o := .own (s.heap.objs.size + 1)) (h' := s.heap.push PySem.W.emptyDict) (t' := s.toks) (fun b u q => Heap.get?_push_of_some _ q) (Nat.le_refl _) ⟨_, e1⟩
  refine I1.laid (a := s.heap.objs.size + 1) (o := .ins C s.heap.objs.size []) (t' := s.toks) (fun b u q => Heap.get?_push_of_some _ q) (Nat.le_of_eq (Heap.size_push _ _)) ?_
  have ne : s.heap.objs.size ≠ s.heap.objs.size + 1 := Nat.ne_of_lt (Nat.lt_succ_self _)
  refine ⟨by rw [upd_ne ne, upd_same], Nat.zero_le _, ne, e2, fun _ => none, (Heap.Ns1.of_empty e3).at fun o q => Heap.get?_push_of_some _ q, fun _ => True.intro, fun y hy => absurd rfl hy⟩
theorem attr_of {prog : Program} {w : World} {env : Env} {e : Expr} {f : Str} {pos : Pos} {s : Shared} {Q : Value → Shared → Prop} (hb : attributeBase e f env (eval e env) = eval e env)
    (h : wpAny (model prog w) A (eval e env) (fun o s₁ => wpAny (model prog w) A (getAttr o f true) Q E s₁) E s) : wpAny (model prog w) A (eval (.Attribute e f pos) env) Q E s :=
  Attribute_any_ h (by rw [arm_eval_Attribute, hb])
end
def tFld (K : PySem.W.Frag) (ta : TE) (f : Str) : TE := fun σ H Q => ta σ H fun x H1 => ∃ a C dx fs v, x = .ref a ∧ H1 a = some (.ins C dx fs) ∧ Cls K C ∧ NoAttr K C f ∧ fs.lookup f = some v ∧ Q v H1
def sFld (K : PySem.W.Frag) (ta tv : TE) (f : Str) : TS := fun D σ H => tv σ H fun y H1 => ta σ H1 fun x H2 => ∃ a C dx fs, x = .ref a ∧ H2 a = some (.ins C dx fs) ∧ Cls K C ∧ NoAttr K C f ∧ fs.length < 1000 ∧
  D.nx σ (upd H2 a (.ins C dx (putF f y fs)))
section
variable {X : Cx} {o e value : Expr} {f : Str} {pos pos' tpos : Pos} {ta tv : TE}
theorem pe_fld (he : PE X e ta) (hb : attributeBase e f X.env (eval e X.env) = eval e X.env) : PE X (.Attribute e f pos) (tFld X.K ta f) := by
  intro pins s σ H Q I h
  refine attr_of hb (thn (he pins s σ H _ I h) fun u s1 ⟨x, H1, I1, rx, a, C, dx, fs, v, ex, ea, c, n, l, q⟩ => ?_)
  subst ex
  obtain rfl : u = Value.ref a := rx
  exact getattr_ok I1 ea c n l fun u' s2 I2 ru => ⟨v, H1, I2, ru, q⟩
theorem ps_fld (ha : PE X o ta) (hv : PE X value tv) (hs : swapsWith value (some (.Attribute o f pos')) pos.line X.env = pure false) : PS X (.Assign [.Attribute o f pos'] value pos) (sFld X.K ta tv f) := by
  intro pins s σ H D I h
  refine plainObj_wpAny_Assign_Attribute (thn (hv pins s σ H _ I h) fun u s1 ⟨y, H1, I1, ry, q⟩ => thn (ha pins s1 σ H1 _ I1 q) fun ov s2 ⟨x, H2, I2, rx, a, C, dx, fs, ex, ea, c, n, l, q2⟩ => ?_) hs
  subst ex
  obtain rfl : ov = Value.ref a := rx
  exact setattr_ok I2 ea c n l ry fun s3 I3 => ⟨σ, _, I3, q2⟩
theorem methcall_of {pl : Sem Bool} {m : Str} {apos : Pos} {args : List Expr} {pins : List (Addr × Obj)} {s : Shared} {σ : St} {H : Hp} {Q : Value → Shared → Prop} {te : TE} (he : PE X e te) (I : Inv X pins σ H s)
    (h : te σ H fun x H1 => ∃ a C dx fs g, x = .ref a ∧ H1 a = some (.ins C dx fs) ∧ Cls X.K C ∧ Meth X.K C m g ∧ fs.lookup m = none ∧
      ∀ s1, Inv X pins σ H1 s1 → wpAny (model X.prog X.w) X.A (callWith pos (.ref g) [.ref a] (backTo pos (starEach args X.env)) (backToKw pos (keywordEach [] X.env))) Q X.xe s1)
    (ht : eval (.Call (.Attribute e m apos) args [] pos) X.env = (do
      let ov ← eval e X.env
      standAt apos.atName
      let (f, first) ← holding [ov] (getMethod ov m pl)
      callWith pos f first (backTo pos (starEach args X.env)) (backToKw pos (keywordEach [] X.env)))) :
    wpAny (model X.prog X.w) X.A (eval (.Call (.Attribute e m apos) args [] pos) X.env) Q X.xe s := by
  refine PySem.W.methodCall_KW (pl := pl) (thn (he pins s σ H _ I h) fun u s1 ⟨x, H1, I1, rx, a, C, dx, fs, g, ex, ea, c, k, l, q⟩ => ?_) ht
  subst ex
  obtain rfl : u = Value.ref a := rx
  exact getmeth_ok I1 ea c k l (q s1 I1)
end
section
variable {X : Cx} {pins : List (Addr × Obj)} {σ : St} {H : Hp} {s : Shared} {A : Around} {E : Value → Shared → Prop} {Q : Value → Shared → Prop} {c : Value} {b : Bool}
end
end L2
namespace L2
open PySem PySem.Spec PyProof.Rows
structure Room (k : Nat) (A : Around) : Prop where
  hd : A.handled = none
  dp : A.depth + 3 * k + 5 < recursionLimit
  un : A.units + 16 * k + 200 < cLine
theorem Room.mono {j k : Nat} {A : Around} (r : Room k A) (h : j ≤ k) : Room j A := ⟨r.hd, by have := r.dp; omega, by have := r.un; omega⟩
theorem Room.deeper {k : Nat} {A : Around} (r : Room (k + 1) A) (env : Env) : Room k (A.deeper env) :=
  ⟨r.hd, by have := r.dp; show A.depth + 1 + 3 * k + 5 < _; omega, by have := r.un; show A.units + 3 + 16 * k + 200 < _; omega⟩
theorem make_depth {A : Around} {C : Addr} {us : List Value} {kw : List (Str × Value)} : (A.under (.builtin "type.__call__" ⟨.ref C :: us, kw⟩)).depth = A.depth + 1 := by
  first | rfl | simp [Around.under, Code.weight, Code.isCreation, Code.isGuard, Code.isCaller, Code.frames, Code.isFrame, guardIds]
theorem make_units {A : Around} {C : Addr} {us : List Value} {kw : List (Str × Value)} : (A.under (.builtin "type.__call__" ⟨.ref C :: us, kw⟩)).units = A.units + 1 := by
  first | rfl | simp [Around.under, Code.cUnits, Code.frames, Code.isFrame]
theorem Room.make {k : Nat} {A : Around} (r : Room (k + 1) A) (C : Addr) (us : List Value) (kw : List (Str × Value)) : Room k (A.under (.builtin "type.__call__" ⟨.ref C :: us, kw⟩)) :=
  ⟨r.hd, by have := r.dp; rw [make_depth]; omega, by have := r.un; rw [make_units]; omega⟩
theorem Room.depth {k : Nat} {A : Around} (r : Room k A) : A.depth < recursionLimit := by have := r.dp; omega
def tNil : TA := fun _ H Q => Q [] H
def tCons (ta : TE) (tr : TA) : TA := fun σ H Q => ta σ H fun x H1 => tr σ H1 fun xs H2 => Q (x :: xs) H2
section
variable {X : Cx} {e : Expr} {es : List Expr} {te : TE} {t : TA} {pos : Pos}
theorem pa_nil : PA X [] tNil := fun _ _ _ _ H Q I h => Calls.spliced_nil ⟨[], H, I, .nil, h⟩
theorem pa_cons (ha : PE X e te) (hr : PA X es t) (hs : starEach (e :: es) X.env = (false, eval e X.env) :: starEach es X.env := by rfl) : PA X (e :: es) (tCons te t) := by
  intro pos pins s σ H Q I h
  rw [hs]
  show wpAny _ _ (spliced ((false, eval e X.env) :: backTo pos (starEach es X.env))) _ _ s
  refine Calls.spliced_cons (thn (ha pins s σ H _ I h) fun u s1 ⟨x, H1, I1, r1, q1⟩ => ?_)
  exact thn (hr pos pins s1 σ H1 _ I1 q1) fun us s2 ⟨xs, H2, I2, r2, q2⟩ => ⟨x :: xs, H2, I2, .cons r1 r2, q2⟩
def tTup (t : TA) : TE := fun σ H Q => t σ H fun xs H1 => xs.length ≤ sizeLine ∧ ∀ p, H1 p = none → Q (.ref p) (upd H1 p (.tup xs))
def tLst (t : TA) : TE := fun σ H Q => t σ H fun xs H1 => xs.length ≤ sizeLine ∧ ∀ p, H1 p = none → Q (.ref p) (upd H1 p (.lst xs))
theorem pe_tup {x1} (h : PA X es t) : PE X (.Tuple es x1 pos) (tTup t) := by
  intro pins s σ H Q I hq
  refine wpAny_Tuple_spliced (thn (h pos pins s σ H _ I hq) fun us s1 ⟨xs, H1, I1, r, z, q⟩ => ⟨by rw [← r.length]; exact z, ?_⟩)
  have hf : H1 s1.heap.objs.size = none := I1.hok.fresh (Nat.le_refl _)
  refine ⟨.ref s1.heap.objs.size, upd H1 s1.heap.objs.size (.tup xs), I1.laid (t' := s1.toks) (fun b u e => Heap.get?_push_of_some _ e) (Nat.le_refl _) ?_, rfl, q _ hf⟩
  exact ⟨z, us, r, ⟨_, Heap.get?_push_size _ rfl, rfl, _, rfl⟩⟩
theorem pe_lst (h : PA X es t) : PE X (.List es pos) (tLst t) := by
  intro pins s σ H Q I hq
  refine wpAny_List_spliced (thn (h pos pins s σ H _ I hq) fun us s1 ⟨xs, H1, I1, r, z, q⟩ => ⟨by rw [← r.length]; exact z, ?_⟩)
  have hf : H1 s1.heap.objs.size = none := I1.hok.fresh (Nat.le_refl _)
  refine ⟨.ref s1.heap.objs.size, upd H1 s1.heap.objs.size (.lst xs), I1.laid (t' := s1.toks) (fun b u e => Heap.get?_push_of_some _ e) (Nat.le_refl _) ?_, rfl, q _ hf⟩
  exact ⟨z, us, 0, r, Heap.get?_push_size _ rfl⟩
end
abbrev Sp := List V → Hp → VK → XK → Prop
abbrev CXT := List Env → Hp → Shared → XK → Value → Shared → Prop
structure Env0 (P : Program) (w : World) (K : PySem.W.Frag) (mg : Str → Option Value) (base : Heap) (A : Around) (outer : List Env) (s : Shared) (H : Hp) : Prop where
  frames : A.frames = some outer
  mod : Mod K mg base
  bs : ∀ b o, base.get? b = some o → s.heap.get? b = some o ∧ H b = none
  bsz : base.objs.size ≤ s.heap.objs.size
  funs : s.heap.FunFrames base outer
  frf : ∀ b ∈ frs outer, H b = none
  hok : HOk P w H s.heap
  bare : AllBare s.gens
def CE (outer : List Env) (P : Program) (w : World) (H : Hp) (s : Shared) (Q : VK) (u : Value) (s' : Shared) : Prop :=
  ∃ v H', s'.os = s.os ∧ AllBare s'.gens ∧ Un (frs outer) [] H H' s.heap s'.heap ∧ HOk P w H' s'.heap ∧ RelV v u ∧ Q v H'
def CR (CX : CXT) (outer : List Env) (P : Program) (w : World) (H : Hp) (s : Shared) (Q : VK) (E : XK) (r : Result) (s' : Shared) : Prop :=
  match r with
  | .ok (.ret u) => CE outer P w H s Q u s'
  | .ok _ => False
  | .error e => CX outer H s E e s'
structure FnOk (P : Program) (w : World) (K : PySem.W.Frag) (mg : Str → Option Value) (base : Heap) (CX : CXT) (k : Nat) (f : Addr) (fd : FuncData) (ps : List Str) (sp : Sp) : Prop where
  len : ∀ vs H Q E, sp vs H Q E → vs.length = ps.length
  run : ∀ (A : Around) (outer : List Env) (s : Shared) (H : Hp) (args : Args) (us : List Value) (vs : List V) (Q : VK) (E : XK), Room k A → Env0 P w K mg base A outer s H → BindsTo s fd args (ps.zip us) → Vals vs us → sp vs H Q E →
    codeAny (model P w) A (.call (.ref f) args) (CR CX outer P w H s Q E) s
theorem Env0.make {P : Program} {w : World} {K : PySem.W.Frag} {mg : Str → Option Value} {base : Heap} {A : Around} {outer : List Env} {s : Shared} {H : Hp} (e : Env0 P w K mg base A outer s H) (C : Addr) (us : List Value) (kw : List (Str × Value)) :
    Env0 P w K mg base (A.under (.builtin "type.__call__" ⟨.ref C :: us, kw⟩)) outer s H := ⟨by first | exact e.frames | (simpa [Around.under, Code.envs, Code.isFrame, pushEnvs] using e.frames), e.mod, e.bs, e.bsz, e.funs, e.frf, e.hok, e.bare⟩
section
variable {X : Cx} {pins : List (Addr × Obj)} {σ : St} {H : Hp} {s s' : Shared}
theorem Inv.env0 (I : Inv X pins σ H s) : Env0 X.prog X.w X.K X.mg X.base X.A X.stack s H :=
  ⟨I.ok.frames, I.ok.mod, I.bs, Nat.le_trans I.ok.bsz I.sz, I.stack, I.stkFree, I.hok, I.bare⟩
theorem Inv.after {Q : VK} {u : Value} (I : Inv X pins σ H s) (h : CE X.stack X.prog X.w H s Q u s') : EP X pins σ Q u s' := by
  obtain ⟨v, H', os, bare, un, hok, r, q⟩ := h
  obtain ⟨hh, g, d, t, os'⟩ := s'
  obtain rfl : os' = s.os := os
  exact ⟨v, H', I.call (h' := hh) (g' := g) (d' := d) (t' := t) (ch := []) un hok bare (fun b z => absurd z (by simp)), r, q⟩
end
def tCall (sp : Sp) (dvs : List V) (E : XK) (t : TA) : TE := fun σ H Q => t σ H fun vs H1 => sp (vs ++ dvs) H1 Q E
def tMeth (C : Addr) (m : Str) (sp : Sp) (dvs : List V) (E : XK) (ta : TE) (t : TA) : TE := fun σ H Q => ta σ H fun x H1 => ∃ a dx fs, x = .ref a ∧ H1 a = some (.ins C dx fs) ∧ fs.lookup m = none ∧
  t σ H1 fun vs H2 => sp (x :: (vs ++ dvs)) H2 Q E
def tMake (C : Addr) (sp : Sp) (dvs : List V) (E : XK) (t : TA) : TE := fun σ H Q => t σ H fun vs H1 => ∀ x dx, H1 x = none → H1 dx = none → dx ≠ x →
  sp (.ref x :: (vs ++ dvs)) (upd (upd H1 dx (.own x)) x (.ins C dx [])) (fun v H2 => v = .non ∧ Q (.ref x) H2) E
def Binds (K : PySem.W.Frag) (fd : FuncData) (ps : List Str) (ds : List Value) : Prop :=
  ∀ (s : Shared) (us : List Value), K.In s.heap → (us ++ ds).length = ps.length → BindsTo s fd ⟨us, []⟩ (ps.zip (us ++ ds))
theorem Binds.all {K : PySem.W.Frag} {fd : FuncData} {ps : List Str} (h : ∀ us : List Value, us.length = ps.length → bindArgs fd ⟨us, []⟩ = pure (ps.zip us)) : Binds K fd ps [] := fun s us _ hl => by
  rw [List.append_nil] at hl ⊢
  exact .of_eq (h us hl)
def Passes (CX : CXT) (X : Cx) (E : XK) : Prop := ∀ (pins : List (Addr × Obj)) (σ : St) (H : Hp) (s : Shared) (e : Value) (s' : Shared), Inv X pins σ H s → CX X.stack H s E e s' → X.xe e s'
section
variable {X : Cx} {CX : CXT} {k : Nat} {f C : Addr} {fd : FuncData} {ps : List Str} {sp : Sp} {dvs : List V} {ds : List Value} {E : XK} {x m : Str} {p pos apos : Pos} {e o : Expr} {es : List Expr} {ta : TE} {t : TA}
theorem run_fn {pins : List (Addr × Obj)} {σ : St} {H : Hp} {s : Shared} {Q : VK} {us : List Value} {vs : List V} (F : FnOk X.prog X.w X.K X.mg X.base CX k f fd ps sp) (hr : Room k X.A) (hb : Binds X.K fd ps ds) (hd : Vals dvs ds) (hx : Passes CX X E)
    (I : Inv X pins σ H s) (r : Vals vs us) (h : sp (vs ++ dvs) H Q E) : wpAny (model X.prog X.w) X.A (call (.ref f) us) (EP X pins σ Q) X.xe s := by
  have r2 : Vals (vs ++ dvs) (us ++ ds) := r.append hd
  have hl : (us ++ ds).length = ps.length := by rw [← r2.length]; exact F.len _ _ _ _ h
  refine wpAny_call (codeAny_mono (F.run X.A X.stack s H ⟨us, []⟩ (us ++ ds) (vs ++ dvs) Q E hr I.env0 (hb s us I.kIn hl) r2 h) fun r s' hq => ?_)
  cases r with
  | error e => exact hx pins σ H s e s' I hq
  | ok fl =>
    cases fl with
    | ret u => exact I.after hq
    | next => exact False.elim hq
    | brk => exact False.elim hq
    | cont => exact False.elim hq
theorem pe_call (F : FnOk X.prog X.w X.K X.mg X.base CX k f fd ps sp) (hr : Room k X.A) (hg : Gl X x) (hm : X.mg x = some (.ref f)) (hk : PySem.W.keepIn X.K (.ref f) = true) (hb : Binds X.K fd ps ds) (hd : Vals dvs ds) (hx : Passes CX X E)
    (ha : PA X (e :: es) t) (hdb : (x == ("__debug__" : Str)) = false := by decide) (he : starEach (e :: es) X.env = (false, eval e X.env) :: starEach es X.env := by rfl) (hpl : (backTo pos (starEach es X.env)).any (·.1) = false := by rfl) :
    PE X (.Call (.Name x p) (e :: es) [] pos) (tCall sp dvs E t) := by
  intro pins s σ H Q I h
  refine wpAny_Call_Name_kw (ld_glob I hg hm ?_ hdb)
  refine PySem.W.callWith_K (h₀ := X.base) I.ok.mod.kin hk (thn (ha pos pins s σ H _ I h) fun us s1 ⟨vs, H1, I1, r, q⟩ => ⟨I1.kIn, ?_⟩) he hpl
  exact run_fn F hr hb hd hx I1 r q
theorem pe_meth {pl : Sem Bool} (he : PE X o ta) (c : Cls X.K C) (hm : Meth X.K C m f) (F : FnOk X.prog X.w X.K X.mg X.base CX k f fd ps sp) (hr : Room k X.A) (hb : Binds X.K fd ps ds) (hd : Vals dvs ds) (hx : Passes CX X E) (ha : PA X (e :: es) t)
    (hst : starEach (e :: es) X.env = (false, eval e X.env) :: starEach es X.env := by rfl) (hpl : (backTo pos (starEach es X.env)).any (·.1) = false := by rfl)
    (ht : eval (.Call (.Attribute o m apos) (e :: es) [] pos) X.env = (do
      let ov ← eval o X.env
      standAt apos.atName
      let (f, first) ← holding [ov] (getMethod ov m pl)
      callWith pos f first (backTo pos (starEach (e :: es) X.env)) (backToKw pos (keywordEach [] X.env))) := by rfl) :
    PE X (.Call (.Attribute o m apos) (e :: es) [] pos) (tMeth C m sp dvs E ta t) := by
  intro pins s σ H Q I h
  refine PySem.W.methodCall_KW (pl := pl) (thn (he pins s σ H _ I h) fun u s1 ⟨x, H1, I1, rx, a, dx, fs, ex, ea, l, q⟩ => ?_) ht
  subst ex
  obtain rfl : u = Value.ref a := rx
  refine getmeth_ok I1 ea c hm l ?_
  refine PySem.W.callWith_K (first := [.ref a]) (h₀ := X.base) I.ok.mod.kin hm.kp (thn (ha pos pins s1 σ H1 _ I1 q) fun us s2 ⟨vs, H2, I2, r, q2⟩ => ⟨I2.kIn, ?_⟩) hst hpl
  exact run_fn (us := .ref a :: us) (vs := .ref a :: vs) F hr hb hd hx I2 (.cons rfl r) q2
theorem pe_meth0 {pl : Sem Bool} (he : PE X o ta) (c : Cls X.K C) (hm : Meth X.K C m f) (F : FnOk X.prog X.w X.K X.mg X.base CX k f fd ps sp) (hr : Room k X.A) (hb : Binds X.K fd ps ds) (hd : Vals dvs ds) (hx : Passes CX X E)
    (ht : eval (.Call (.Attribute o m apos) [] [] pos) X.env = (do
      let ov ← eval o X.env
      standAt apos.atName
      let (f, first) ← holding [ov] (getMethod ov m pl)
      callWith pos f first (backTo pos (starEach [] X.env)) (backToKw pos (keywordEach [] X.env))) := by rfl) :
    PE X (.Call (.Attribute o m apos) [] [] pos) (tMeth C m sp dvs E ta tNil) := by
  intro pins s σ H Q I h
  refine PySem.W.methodCall_KW (pl := pl) (thn (he pins s σ H _ I h) fun u s1 ⟨x, H1, I1, rx, a, dx, fs, ex, ea, l, q⟩ => ?_) ht
  subst ex
  obtain rfl : u = Value.ref a := rx
  refine getmeth_ok I1 ea c hm l ?_
  exact PySem.W.callWith_K0 (first := [.ref a]) I1.kIn hm.kp (run_fn (us := [.ref a]) (vs := [.ref a]) F hr hb hd hx I1 (.cons rfl .nil) q)
structure Mk (K : PySem.W.Frag) (C f : Addr) : Prop where
  makes : PySem.W.makesIn K C = true
  init : PySem.W.findIn K (.ref C) "__init__" = some (some (.ref f))
  fn : PySem.W.isFn K (.ref f) = true
  kp : PySem.W.keepIn K (.ref C) = true
theorem run_make {pins : List (Addr × Obj)} {σ : St} {H : Hp} {s : Shared} {Q : VK} {us : List Value} {vs : List V} (M : Mk X.K C f) (F : FnOk X.prog X.w X.K X.mg X.base CX k f fd ps sp) (hr : Room (k + 1) X.A) (hb : Binds X.K fd ps ds) (hd : Vals dvs ds)
    (hx : Passes CX X E) (I : Inv X pins σ H s) (r : Vals vs us)
    (h : ∀ x dx, H x = none → H dx = none → dx ≠ x → sp (.ref x :: (vs ++ dvs)) (upd (upd H dx (.own x)) x (.ins C dx [])) (fun v H2 => v = .non ∧ Q (.ref x) H2) E) :
    wpAny (model X.prog X.w) X.A (call (.ref C) us) (EP X pins σ Q) X.xe s := by
  have hq := h (s.heap.objs.size + 1) s.heap.objs.size (I.hok.fresh (Nat.le_succ _)) (I.hok.fresh (Nat.le_refl _)) (Nat.ne_of_lt (Nat.lt_succ_self _))
  have I2 := Inv.made (C := C) I
  have r2 : Vals (V.ref (s.heap.objs.size + 1) :: (vs ++ dvs)) (Value.ref (s.heap.objs.size + 1) :: (us ++ ds)) := .cons rfl (r.append hd)
  have hl : (Value.ref (s.heap.objs.size + 1) :: us ++ ds).length = ps.length := by
    have e := r2.length
    rw [F.len _ _ _ _ hq] at e
    exact e.symm
  refine wpAny_call (make_map (f := f) I.kIn M.makes M.init (beq_iff_eq.mp M.fn) (codeAny_mono (F.run _ X.stack _ _ ⟨Value.ref (s.heap.objs.size + 1) :: us, []⟩ (Value.ref (s.heap.objs.size + 1) :: (us ++ ds)) _ _ E (hr.make C us [])
    (I2.env0.make C us []) (hb _ (Value.ref (s.heap.objs.size + 1) :: us) I2.kIn hl) r2 hq) fun r s' hq' => ?_))
  cases r with
  | error e => exact hx pins σ _ _ e s' I2 hq'
  | ok fl =>
    cases fl with
    | ret u =>
      obtain ⟨v, H', I3, rv, ev, q3⟩ := I2.after hq'
      subst ev
      exact ⟨rv, ⟨V.ref (s.heap.objs.size + 1), H', I3, rfl, q3⟩⟩
    | next => exact False.elim hq'
    | brk => exact False.elim hq'
    | cont => exact False.elim hq'
theorem pe_make (M : Mk X.K C f) (F : FnOk X.prog X.w X.K X.mg X.base CX k f fd ps sp) (hr : Room (k + 1) X.A) (hg : Gl X x) (hm : X.mg x = some (.ref C)) (hb : Binds X.K fd ps ds) (hd : Vals dvs ds) (hx : Passes CX X E)
    (ha : PA X (e :: es) t) (hdb : (x == ("__debug__" : Str)) = false := by decide) (he : starEach (e :: es) X.env = (false, eval e X.env) :: starEach es X.env := by rfl) (hpl : (backTo pos (starEach es X.env)).any (·.1) = false := by rfl) :
    PE X (.Call (.Name x p) (e :: es) [] pos) (tMake C sp dvs E t) := by
  intro pins s σ H Q I h
  refine wpAny_Call_Name_kw (ld_glob I hg hm ?_ hdb)
  refine PySem.W.callWith_K (h₀ := X.base) I.ok.mod.kin M.kp (thn (ha pos pins s σ H _ I h) fun us s1 ⟨vs, H1, I1, r, q⟩ => ⟨I1.kIn, ?_⟩) he hpl
  exact run_make M F hr hb hd hx I1 r q
theorem pe_make0 (M : Mk X.K C f) (F : FnOk X.prog X.w X.K X.mg X.base CX k f fd ps sp) (hr : Room (k + 1) X.A) (hg : Gl X x) (hm : X.mg x = some (.ref C)) (hb : Binds X.K fd ps ds) (hd : Vals dvs ds) (hx : Passes CX X E)
    (hdb : (x == ("__debug__" : Str)) = false := by decide) : PE X (.Call (.Name x p) [] [] pos) (tMake C sp dvs E tNil) := by
  intro pins s σ H Q I h
  refine wpAny_Call_Name_kw (ld_glob I hg hm ?_ hdb)
  exact PySem.W.callWith_K0 I.kIn M.kp (run_make (us := []) M F hr hb hd hx I .nil h)
end
def PK (X : Cx) (kws : List Keyword) (t : TA) : Prop :=
  ∀ (pos : Pos) (pins : List (Addr × Obj)) (s : Shared) (σ : St) (H : Hp) (Q : List V → Hp → Prop), Inv X pins σ H s → t σ H Q → wpAny (model X.prog X.w) X.A (evalAll ((backToKw pos (keywordEach kws X.env)).map (·.2))) (AP X pins σ Q) X.xe s
section
variable {X : Cx} {CX : CXT} {k : Nat} {f C : Addr} {fd : FuncData} {ps ks : List Str} {sp : Sp} {E : XK} {x m : Str} {p pos apos kpos : Pos} {e o : Expr} {es : List Expr} {kws : List Keyword} {te ta : TE} {t tk : TA} {nm : Option Str}
theorem pk_nil : PK X [] tNil := fun _ _ _ _ H Q I h => wpAny_evalAll_nil ⟨[], H, I, .nil, h⟩
theorem pk_cons (ha : PE X e te) (hr : PK X kws t) : PK X (⟨nm, e, kpos⟩ :: kws) (tCons te t) := by
  intro pos pins s σ H Q I h
  show wpAny _ _ (evalAll ((do let v ← eval e X.env; standAt pos; pure v) :: (backToKw pos (keywordEach kws X.env)).map (·.2))) _ _ s
  refine wpAny_evalAll_cons (wpAny_bind (thn (ha pins s σ H _ I h) fun u s1 ⟨x, H1, I1, r1, q1⟩ => wpAny_bind (wpAny_standAt (wpAny_pure ?_))))
  exact thn (hr pos pins s1 σ H1 _ I1 q1) fun us s2 ⟨xs, H2, I2, r2, q2⟩ => ⟨x :: xs, H2, I2, .cons r1 r2, q2⟩
variable {g : List Value → List Value → List Value} {gV : List V → List V → List V}
end
structure FnScope (N P : List Str) (sc : Scope) : Prop where
  kind : sc.kind = .function
  co : sc.isCoroutine = false
  gen : sc.isGenerator = false
  nd : N.Nodup
  pre : N.take P.length = P
  par : ∀ x ∈ P, sc.names.lookup x = some .local ∨ sc.names.lookup x = some .cell
  nofree : ∀ y ∈ sc.names, y.2 ≠ .free
theorem bindL_out {kindOf : Str → Option NameKind} {x : Str} : ∀ {binds : List (Str × Value)} {m : Str → Option Value}, (∀ v, (x, v) ∉ binds) → bindL kindOf binds m x = m x
  | [], _, _ => rfl
  | (n, v) :: r, m, h => by
    unfold bindL
    rw [bindL_out fun w hw => h w (List.mem_cons_of_mem _ hw)]
    split
    · have : x ≠ n := by rintro rfl; exact h v List.mem_cons_self
      simp [this]
    · rfl
theorem bindC_out {kindOf : Str → Option NameKind} {x : Str} : ∀ {binds : List (Str × Value)} {m : Str → Option Value}, (∀ v, (x, v) ∉ binds) → bindC kindOf binds m x = m x
  | [], _, _ => rfl
  | (n, v) :: r, m, h => by
    unfold bindC
    rw [bindC_out fun w hw => h w (List.mem_cons_of_mem _ hw)]
    split
    · rfl
    · have : x ≠ n := by rintro rfl; exact h v List.mem_cons_self
      simp [this]
theorem bindL_get {kindOf : Str → Option NameKind} {x : Str} {v : Value} : ∀ {P : List Str} {vs : List Value} {i : Nat} {m : Str → Option Value}, P.Nodup → P[i]? = some x → vs[i]? = some v → kindOf x = some .local →
    bindL kindOf (P.zip vs) m x = some v
  | [], _, _, _, _, h, _, _ => by simp at h
  | _ :: _, [], _, _, _, _, h, _ => by simp at h
  | p :: P, w :: vs, 0, m, nd, h1, h2, hk => by
    simp at h1 h2; subst h1; subst h2
    show bindL kindOf ((p, w) :: P.zip vs) m p = _
    unfold bindL
    rw [bindL_out fun v hv => (List.nodup_cons.mp nd).1 (List.of_mem_zip hv).1, if_pos hk]
    simp
  | p :: P, w :: vs, i + 1, m, nd, h1, h2, hk => by
    show bindL kindOf ((p, w) :: P.zip vs) m x = _
    unfold bindL
    exact bindL_get (i := i) (List.nodup_cons.mp nd).2 (by simpa using h1) (by simpa using h2) hk
theorem bindC_get {kindOf : Str → Option NameKind} {x : Str} {v : Value} : ∀ {P : List Str} {vs : List Value} {i : Nat} {m : Str → Option Value}, P.Nodup → P[i]? = some x → vs[i]? = some v → kindOf x ≠ some .local →
    bindC kindOf (P.zip vs) m x = some v
  | [], _, _, _, _, h, _, _ => by simp at h
  | _ :: _, [], _, _, _, _, h, _ => by simp at h
  | p :: P, w :: vs, 0, m, nd, h1, h2, hk => by
    simp at h1 h2; subst h1; subst h2
    show bindC kindOf ((p, w) :: P.zip vs) m p = _
    unfold bindC
    rw [bindC_out fun v hv => (List.nodup_cons.mp nd).1 (List.of_mem_zip hv).1, if_neg hk]
    simp
  | p :: P, w :: vs, i + 1, m, nd, h1, h2, hk => by
    show bindC kindOf ((p, w) :: P.zip vs) m x = _
    unfold bindC
    exact bindC_get (i := i) (List.nodup_cons.mp nd).2 (by simpa using h1) (by simpa using h2) hk
def start (N : List Str) (vs : List V) : St := vs.map some ++ List.replicate (N.length - vs.length) none
def cxOf (CX : CXT) (P : Program) (w : World) (K : PySem.W.Frag) (mg : Str → Option Value) (base : Heap) (N : List Str) (qual : Str) (scope : Scope) (f : Addr) (cd : Value) (A : Around) (outer : List Env) (s : Shared) (H : Hp) (E : XK) : Cx where
  prog := P
  w := w
  K := K
  mg := mg
  base := base
  A := A.deeper (envOfC qual scope s.heap.objs.size f cd)
  N := N
  s_0 := s
  H_0 := H
  env := envOfC qual scope s.heap.objs.size f cd
  outer := outer
  stack := envOfC qual scope s.heap.objs.size f cd :: outer
  ex := []
  calm := true
  fn := fun _ => true
  pn := []
  xe := fun e s' => wpAny (model P w) (A.deeper (envOfC qual scope s.heap.objs.size f cd)) (leaving (envOfC qual scope s.heap.objs.size f cd) e) (fun _ s'' => CX outer H s E e s'') (fun e' s'' => CX outer H s E e' s'') s'
theorem cell_has {sc : Scope} {n : Nat} {x : Str} (h : sc.names.lookup x = some .cell) : ∃ c, (cellsFrom n sc.names []).lookup x = some c := by
  have q := PySem.W.cellsFrom_some sc.names n [] (.inl h)
  exact Option.isSome_iff_exists.mp q
theorem inv_start {CX : CXT} {P : Program} {w : World} {K : PySem.W.Frag} {mg : Str → Option Value} {base : Heap} {N ps : List Str} {qual : Str} {scope : Scope} {f : Addr} {cd : Value} {A : Around} {outer : List Env} {s s1 : Shared} {H : Hp} {E : XK} {us : List Value} {vs : List V}
    (S : FnScope N ps scope) (hd : A.handled = none) (e0 : Env0 P w K mg base A outer s H) (hl : vs.length = ps.length) (r : Vals vs us)
    (x : InCallC s s.heap.objs.size (bindL (envOfC qual scope s.heap.objs.size f cd).kindOf (ps.zip us) fun _ => none) (cellsFrom (s.heap.objs.size + 1) scope.names []) (bindC (envOfC qual scope s.heap.objs.size f cd).kindOf (ps.zip us) fun _ => none) s1) :
    Inv (cxOf CX P w K mg base N qual scope f cd A outer s H E) [] (start N vs) H s1 := by
  have hpl : ps.length ≤ N.length := by have := congrArg List.length S.pre; rw [List.length_take] at this; omega
  obtain ⟨h1, tk, rfl, hk⟩ := x.done
  have noA : ∀ b : Addr, b ∉ (cxOf CX P w K mg base N qual scope f cd A outer s H E).ex := fun b z => absurd (show b ∈ ([] : List Addr) from z) (by simp)
  refine ⟨⟨e0.mod, S.kind, rfl, rfl, Nat.le_refl _, fun y z c h1 h2 => ?_, fun y hy => ?_, fun y c _ h => ?_, fun _ => hd, Around.frames_deeper e0.frames, .inr ⟨rfl, rfl⟩, fun b z => absurd z (noA b), e0.bs, e0.bsz, fun b _ _ => noA b, fun b z => absurd z (noA b), e0.funs, e0.frf⟩,
    rfl, e0.bare, Un.kept hk, ⟨_, x.toInCall.ns, fun i y v h1 h2 h3 => ?_⟩, fun y c h => ⟨_, x.cell y c h⟩, e0.hok.fresh (Nat.le_refl _), fun y c h => ?_, fun p hp => absurd (show p ∈ ([] : List (Addr × Obj)) from hp) (by simp), e0.hok.kept hk, ?_⟩
  · exact name_of_addr x.apart (PySem.mem_of_lookup h1) (PySem.mem_of_lookup h2)
  · have hy : scope.names.lookup y = some .cell ∨ scope.names.lookup y = some .free := hy
    rcases hy with hy | hy
    · exact cell_has hy
    · exact absurd rfl (S.nofree _ (PySem.mem_of_lookup hy))
  · exact Nat.le_of_lt (x.above y c (PySem.mem_of_lookup h))
  · have hi : i < vs.length := by
      unfold start at h2
      by_cases hi : i < vs.length
      · exact hi
      · rw [List.getElem?_append_right (by simpa using hi)] at h2
        rw [List.getElem?_replicate] at h2
        split at h2 <;> cases h2
    have ha : vs[i]? = some v := by
      unfold start at h2
      rw [List.getElem?_append_left (by simpa using hi), List.getElem?_map] at h2
      cases e : vs[i]? with
      | none => rw [e] at h2; cases h2
      | some a => rw [e] at h2; cases h2; rfl
    obtain ⟨u, hu, rv⟩ := r.get ha
    have hp : ps[i]? = some y := by
      rw [← S.pre, List.getElem?_take_of_lt (by omega)]; exact h1
    have ndP : ps.Nodup := by rw [← S.pre]; exact S.nd.sublist (List.take_sublist _ _)
    refine ⟨u, rv, ?_⟩
    rcases S.par y (List.mem_of_getElem? hp) with k | k
    · exact .inl ⟨k, bindL_get ndP hp hu k⟩
    · obtain ⟨c, e⟩ := cell_has (n := s.heap.objs.size + 1) k
      refine .inr ⟨.inl k, c, e, ?_⟩
      have q := x.cell y c e
      rw [bindC_get ndP hp hu (by show scope.names.lookup y ≠ _; rw [k]; decide)] at q
      exact q
  · exact e0.hok.fresh (Nat.le_of_lt (x.above y c (PySem.mem_of_lookup h)))
  · unfold start
    show _ = N.length
    rw [List.length_append, List.length_map, List.length_replicate]
    omega
theorem fn_of {CX : CXT} {P : Program} {w : World} {K : PySem.W.Frag} {mg : Str → Option Value} {base : Heap} {k : Nat} {f : Addr} {name qual : Str} {params : Arguments} {body : List Stmt} {scope : Scope} {dV kV doc pm cdv ct oc : Value} {an od : Option Addr}
    {osl : Array (Option Value)} {N ps : List Str} {sp : Sp} (lk : K.lookup f = some ⟨oc, od, .func (PySem.W.fnOf name qual params body scope dV kV doc pm an cdv ct), osl⟩) (hcd : PySem.W.codeIn K cdv qual = true) (S : FnScope N ps scope)
    (len : ∀ vs H Q E, sp vs H Q E → vs.length = ps.length)
    (hbody : ∀ (A : Around) (outer : List Env) (s : Shared) (H : Hp) (vs : List V) (Q : VK) (E : XK), Room k (A.deeper (envOfC qual scope s.heap.objs.size f cdv)) → sp vs H Q E →
      ∃ t, PSs (cxOf CX P w K mg base N qual scope f cdv A outer s H E) body t ∧ t { nx := fun _ H' => Q .non H', rt := Q } (start N vs) H) :
    FnOk P w K mg base CX (k + 1) f (PySem.W.fnOf name qual params body scope dV kV doc pm an cdv ct) ps sp := by
  refine ⟨len, fun A outer s H args us vs Q E hr e0 hb r hsp => ?_⟩
  have hl := len _ _ _ _ hsp
  have KX : K.In s.heap := e0.mod.kin.keeps fun b o e => (e0.bs b o e).1
  have lim : s.heap.NoLimit := e0.mod.nolimit.keeps fun b o e => (e0.bs b o e).1
  have hkind : ∀ y ∈ ps.zip us, scope.names.lookup y.1 = some .local ∨ (scope.names.lookup y.1 = some .cell ∧ ((cellsFrom (s.heap.objs.size + 1) scope.names []).lookup y.1).isSome = true) := fun ⟨n, v⟩ hy => by
    rcases S.par n (List.of_mem_zip hy).1 with q | q
    · exact .inl q
    · exact .inr ⟨q, PySem.W.cellsFrom_some _ _ _ (.inl q)⟩
  refine codeAny_call_function hr.depth (KX _ _ lk) rfl S.co S.gen rfl (PySem.W.codeRec_of KX hcd) (hb _ _ _ _ ?_)
  refine wpAny_newFunctionEnv_cells S.kind hkind fun env he s1 x => ?_
  subst he
  refine ⟨lim.keeps x.toInCall.keep, codeAny_func ?_⟩
  obtain ⟨t, ht, hq⟩ := hbody A outer s H vs Q E (hr.deeper _) hsp
  have I : Inv (cxOf CX P w K mg base N qual scope f cdv A outer s H E) [] (start N vs) H s1 := inv_start S hr.hd e0 hl r x
  refine wpAny_mono (ht [] s1 (start N vs) H _ I hq) (fun fl s' hs => ?_) fun e s' hs => hs
  have fin : ∀ {σ' : St} {H' : Hp} {v : V} {u : Value}, Inv (cxOf CX P w K mg base N qual scope f cdv A outer s H E) [] σ' H' s' → RelV v u → Q v H' → CE outer P w H s Q u s' :=
    fun {σ' H' v u} J rv q => ⟨v, H', J.os, J.bare, J.base, J.hok, rv, q⟩
  cases fl with
  | ret u =>
    obtain ⟨v, σ', H', J, rv, q⟩ := hs
    exact fin J rv q
  | next =>
    obtain ⟨σ', H', J, q⟩ := hs
    exact fin (v := V.non) (u := Value.none) J rfl q
  | brk =>
    obtain ⟨_, _, _, q⟩ := hs
    exact False.elim q
  | cont =>
    obtain ⟨_, _, _, q⟩ := hs
    exact False.elim q
end L2
namespace L2
open PySem PySem.Spec PyProof.Rows
section
variable {X : Cx} {x : Str} {p pos : Pos} {e : Expr} {es : List Expr} {t : TA} {id T : String} {r : List V → Hp → VK → Prop}
def tCB (r : List V → Hp → VK → Prop) (t : TA) : TE := fun σ H Q => t σ H fun vs H1 => r vs H1 Q
theorem pe_callB (hc : CallR X (.builtin id) r) (hg : Gl X x) (hm : X.mg x = none) (hv : bootBuiltins x = some (.builtin id)) (ha : PA X (e :: es) t) (hn : x ≠ "__name__" := by decide) (hdb : (x == ("__debug__" : Str)) = false := by decide)
    (he : starEach (e :: es) X.env = (false, eval e X.env) :: starEach es X.env := by rfl) (hpl : (backTo pos (starEach es X.env)).any (·.1) = false := by rfl) : PE X (.Call (.Name x p) (e :: es) [] pos) (tCB r t) := by
  intro pins s σ H Q I h
  refine wpAny_Call_Name_kw (ld_blt I hg hm hv ?_ hn hdb)
  exact PyProof.Rows.callWith_builtin1 (thn (ha pos pins s σ H _ I h) fun us s1 ⟨vs, H1, I1, r1, q1⟩ => hc pins s1 σ H1 vs us Q I1 r1 q1) he hpl
theorem pe_callTy (hc : CallR X (.type T) r) (hg : Gl X x) (hm : X.mg x = none) (hv : bootBuiltins x = some (.type T)) (ha : PA X (e :: es) t) (hn : x ≠ "__name__" := by decide) (hdb : (x == ("__debug__" : Str)) = false := by decide)
    (he : starEach (e :: es) X.env = (false, eval e X.env) :: starEach es X.env := by rfl) (hpl : (backTo pos (starEach es X.env)).any (·.1) = false := by rfl) : PE X (.Call (.Name x p) (e :: es) [] pos) (tCB r t) := by
  intro pins s σ H Q I h
  refine wpAny_Call_Name_kw (ld_blt I hg hm hv ?_ hn hdb)
  exact PyProof.Rows.callWith_type1 (thn (ha pos pins s σ H _ I h) fun us s1 ⟨vs, H1, I1, r1, q1⟩ => hc pins s1 σ H1 vs us Q I1 r1 q1) he hpl
end
end L2
namespace HT
open PySem PyProof.Rows
section
open PySem.SeqAt
open PySem.AutoSeq1 (wpAny_loadPart')
open PySem.MeetsSeq PySem.MeetsSeq2 PySem.MeetsSeq3
end
section
variable {prog : Program} {w : World} {A : Around} {E : Value → Shared → Prop} {s : Shared}
theorem cat_tup {t b : Addr} {vs ws : List Value} {Q : Value → Shared → Prop} (ht : IsTup s.heap t vs.toArray) (hb : IsTup s.heap b ws.toArray) (hv : vs ≠ [])
    (h1 : ws = [] → Q (.ref t) s) (h2 : ws ≠ [] → Q (.ref s.heap.objs.size) { s with heap := s.heap.push { cls := .type "tuple", data := .seq (vs ++ ws).toArray } })
    (hsz : vs.length + ws.length ≤ sizeLine) : wpAny (model prog w) A (binaryOp .Add (.ref t) (.ref b)) Q E s := by
  obtain ⟨⟨cls, dd, data, sl⟩, ho, hc, n, hd⟩ := id ht
  obtain ⟨⟨cls2, dd2, data2, sl2⟩, ho2, hc2, n2, hd2⟩ := id hb
  simp only at hc hd hc2 hd2
  subst hc hd hc2 hd2
  have e : vs.toArray ++ ws.toArray = (vs ++ ws).toArray := by simp
  by_cases hw : ws = []
  · exact concat_meets ⟨_, ho, rfl⟩ ⟨_, ho2, rfl⟩ noFill_tuple_add seq_tuple_add PySem.F.slot_tuple_add PySem.F.entry_tuple_add (PySem.F.args_tuple_add_2 _ _)
      (tuple_addW1 t b vs.toArray ws.toArray n n2 dd dd2 sl sl2 (by simpa using hv) (by simp [hw])) ⟨ho, ho2, h1 hw⟩
  · refine concat_meets ⟨_, ho, rfl⟩ ⟨_, ho2, rfl⟩ noFill_tuple_add seq_tuple_add PySem.F.slot_tuple_add PySem.F.entry_tuple_add (PySem.F.args_tuple_add_2 _ _)
      (tuple_addW2 t b vs.toArray ws.toArray n n2 dd dd2 sl sl2 (by simpa using hv) (by simpa using hw) (by rw [List.size_toArray, List.size_toArray]; exact hsz)) ⟨ho, ho2, ?_⟩
    rw [e]
    exact h2 hw
def sIx (n d : Nat) : Option Int → Nat
  | none => d
  | some v => if v < 0 then (v + (n : Int)).toNat else min v.toNat n
theorem sIx_nat (n d k : Nat) : sIx n d (some (k : Int)) = min k n := by
  show (if (k : Int) < 0 then ((k : Int) + (n : Int)).toNat else min (k : Int).toNat n) = min k n
  rw [if_neg (by omega), Int.toNat_natCast]
end
end HT
namespace L2
open PySem PySem.Spec PyProof.Rows
abbrev TO := St → Hp → (Option Int → Hp → Prop) → Prop
def PO (X : Cx) (e : Option Expr) (t : TO) : Prop :=
  ∀ (pins : List (Addr × Obj)) (s : Shared) (σ : St) (H : Hp) (Q : Option Int → Hp → Prop), Inv X pins σ H s → t σ H Q →
    wpAny (model X.prog X.w) X.A (evalPart e X.env) (fun u s' => ∃ o H', Inv X pins σ H' s' ∧ IsPart u o ∧ Q o H') X.xe s
def tPart (t : TE) : TO := fun σ H Q => t σ H fun x H1 => ∃ i, x = .int i ∧ Q (some i) H1
section
variable {X : Cx} {e : Expr} {te : TE} {lo hi : Option Expr} {tl th : TO} {pos p2 : Pos}
theorem po_some (h : PE X e te) : PO X (some e) (tPart te) := by
  intro pins s σ H Q I hw
  rw [evalPart_some]
  refine thn (h pins s σ H _ I hw) fun u s1 ⟨x, H1, I1, r1, q1⟩ => ?_
  obtain ⟨i, rfl, q⟩ := q1
  obtain ⟨t, rfl⟩ := r1
  exact ⟨some i, H1, I1, .int i t, q⟩
def SlR (X : Cx) (r : V → Option Int → Option Int → Hp → VK → Prop) : Prop :=
  ∀ (pins : List (Addr × Obj)) (s : Shared) (σ : St) (H : Hp) (x : V) (v vl vu : Value) (lo hi : Option Int) (sl : Addr) (Q : VK), Inv X pins σ H s → RelV x v → s.heap.IsSliceOf sl vl vu .none → IsPart vl lo → IsPart vu hi → r x lo hi H Q →
    ∃ T id, typeLookup (.type T) "__getitem__" = pure (some (.builtin id)) ∧ s.TypeIs v T ∧ wpAny (model X.prog X.w) X.A (getItem v (.ref sl)) (EP X pins σ Q) X.xe s
def tSl (r : V → Option Int → Option Int → Hp → VK → Prop) (te : TE) (tl th : TO) : TE := fun σ H Q => te σ H fun x H1 => tl σ H1 fun l H2 => th σ H2 fun u H3 => r x l u H3 Q
theorem pe_slice {r : V → Option Int → Option Int → Hp → VK → Prop} (hr : SlR X r) (he : PE X e te) (hl : PO X lo tl) (hu : PO X hi th) : PE X (.Subscript e (.Slice lo hi none p2) pos) (tSl r te tl th) := by
  intro pins s σ H Q I h
  refine Subscript_ (thn (he pins s σ H _ I h) fun v s1 ⟨x, H1, I1, r1, q1⟩ => ?_)
  refine wpAny_Slice (thn (hl pins s1 σ H1 _ I1 q1) fun vl s2 ⟨l, H2, I2, pl, q2⟩ => thn (hu pins s2 σ H2 _ I2 q2) fun vu s3 ⟨u, H3, I3, pu, q3⟩ => ?_)
  rw [evalPart_none]
  refine wpAny_pure ?_
  have I4 : Inv X pins σ H3 { s3 with heap := s3.heap.push { cls := .type "slice", data := .fields #[vl, vu, .none] } } := I3.kept (t' := s3.toks) fun b ob q => Heap.get?_push_of_some _ q
  obtain ⟨T, id, hT, ht, hg⟩ := hr pins { s3 with heap := s3.heap.push { cls := .type "slice", data := .fields #[vl, vu, .none] } } σ H3 x v vl vu l u s3.heap.objs.size Q I4 r1 (Heap.IsSliceOf.new ..) pl pu q3
  show wpAny (model X.prog X.w) X.A (subscriptTail e (.Slice lo hi none p2) v (.ref s3.heap.objs.size)) (EP X pins σ Q) X.xe { s3 with heap := s3.heap.push { cls := .type "slice", data := .fields #[vl, vu, .none] } }
  exact tail_any (ops := [.ref s3.heap.objs.size, v]) ht hT hg (by with_unfolding_all rfl)
def cutV (xs : List V) (lo hi : Option Int) : List V := (xs.drop (HT.sIx xs.length 0 lo)).take (HT.sIx xs.length xs.length hi - HT.sIx xs.length 0 lo)
theorem cutV_length (xs : List V) (lo hi : Option Int) : (cutV xs lo hi).length ≤ xs.length := by
  unfold cutV
  rw [List.length_take, List.length_drop]
  omega
def rCatT (K : PySem.W.Frag) : R2 := fun x y H Q => ∃ a b xs ys, x = .ref a ∧ y = .ref b ∧ SqT K H a xs ∧ SqT K H b ys ∧ xs ≠ [] ∧ xs.length + ys.length ≤ sizeLine ∧
  (ys = [] → Q (.ref a) H) ∧ (ys ≠ [] → ∀ p, H p = none → Q (.ref p) (upd H p (.tup (xs ++ ys))))
theorem Vals.nil_iff {xs : List V} {us : List Value} (r : Vals xs us) : us = [] ↔ xs = [] := by
  cases r with
  | nil => simp
  | cons _ _ => simp
theorem op_catT : OpR X (binaryOp .Add) (rCatT X.K) := by
  intro pins s σ H x y v u Q I rx ry h
  obtain ⟨a, b, xs, ys, rfl, rfl, ha, hb, hx, hz, q1, q2⟩ := h
  cases rx
  cases ry
  obtain ⟨its, r1, p1, _⟩ := I.tuple ha
  obtain ⟨its2, r2, p2, _⟩ := I.tuple hb
  refine HT.cat_tup p1 p2 (fun z => hx (r1.nil_iff.mp z)) (fun z => ⟨.ref a, H, I, rfl, q1 (r2.nil_iff.mp z)⟩) (fun z => ?_) (by rw [← r1.length, ← r2.length]; exact hz)
  refine ⟨.ref s.heap.objs.size, _, I.laid (t' := s.toks) (o := .tup (xs ++ ys)) (fun b ob q => Heap.get?_push_of_some _ q) (Nat.le_refl _) ?_, rfl, q2 (fun w => z (r2.nil_iff.mpr w)) _ (I.hok.fresh (Nat.le_refl _))⟩
  exact ⟨by rw [List.length_append]; exact hz, _, r1.append r2, IsTup.new _ _⟩
end
end L2
namespace L2
open PySem PySem.Spec PyProof.Rows
def ixN (n : Nat) (i : Int) : Option Nat := if 0 ≤ i then (if i < n then some i.toNat else none) else if -(n : Int) ≤ i then some (i + n).toNat else none
def atI {α : Type} (xs : List α) (i : Int) : Option α := (ixN xs.length i).bind fun j => xs[j]?
theorem ixN_seq {n : Nat} {i : Int} {j : Nat} (h : ixN n i = some j) : seqIndex? i n = some j ∧ j < n ∧ -(n : Int) ≤ i ∧ i < n := by
  unfold ixN at h
  by_cases h0 : 0 ≤ i
  · rw [if_pos h0] at h
    by_cases h1 : i < n
    · rw [if_pos h1] at h
      have e : i.toNat = j := Option.some.inj h
      exact ⟨by rw [seqIndex_of h0 h1, e], by omega, by omega, h1⟩
    · rw [if_neg h1] at h; cases h
  · rw [if_neg h0] at h
    by_cases h1 : -(n : Int) ≤ i
    · rw [if_pos h1] at h
      have e : (i + n).toNat = j := Option.some.inj h
      exact ⟨by rw [seqIndex_neg (by omega) h1, e], by omega, h1, by omega⟩
    · rw [if_neg h1] at h; cases h
theorem atI_get {α : Type} {xs : List α} {i : Int} {v : α} (h : atI xs i = some v) : ∃ j, seqIndex? i xs.length = some j ∧ xs[j]? = some v ∧ j < xs.length ∧ -(xs.length : Int) ≤ i ∧ i < xs.length := by
  unfold atI at h
  cases e : ixN xs.length i with
  | none => rw [e] at h; cases h
  | some j =>
    rw [e] at h
    obtain ⟨h1, h2, h3, h4⟩ := ixN_seq e
    exact ⟨j, h1, h, h2, h3, h4⟩
theorem atI_nat {α : Type} {xs : List α} {j : Nat} {v : α} (h : xs[j]? = some v) : atI xs (j : Int) = some v := by
  have hj : j < xs.length := (List.getElem?_eq_some_iff.mp h).1
  have e : ixN xs.length (j : Int) = some j := by
    unfold ixN
    rw [if_pos (by omega), if_pos (by omega)]; simp
  unfold atI; rw [e]; exact h
theorem atI_last {α : Type} (xs : List α) (v : α) : atI (xs ++ [v]) (-1) = some v := by
  have hl : (xs ++ [v]).length = xs.length + 1 := by simp
  have e : ixN (xs ++ [v]).length (-1) = some xs.length := by
    unfold ixN
    rw [hl, if_neg (by decide), if_pos (by omega)]
    congr 1
    omega
  unfold atI
  rw [e]
  show (xs ++ [v])[xs.length]? = some v
  simp
def PlainIx (b : Expr) : Prop := ∀ o i, subscripted b false o i = operate [o, i] (getItem o i)
def IxR (X : Cx) (r : R2) : Prop :=
  ∀ (value slice : Expr) (pins : List (Addr × Obj)) (s : Shared) (σ : St) (H : Hp) (x y : V) (v u : Value) (Q : VK), Inv X pins σ H s → RelV x v → RelV y u → r x y H Q →
    subscripted slice false v u = operate [v, u] (getItem v u) → wpAny (model X.prog X.w) X.A (subscriptTail value slice v u) (EP X pins σ Q) X.xe s
def MtR (X : Cx) (id : String) (r : V → List V → Hp → VK → Prop) : Prop :=
  ∀ (pins : List (Addr × Obj)) (s : Shared) (σ : St) (H : Hp) (x : V) (xs : List V) (v : Value) (us : List Value) (Q : VK), Inv X pins σ H s → RelV x v → Vals xs us → r x xs H Q →
    wpAny (model X.prog X.w) X.A (call (.builtin id) (v :: us)) (EP X pins σ Q) X.xe s
section
variable {X : Cx} {a b : Expr} {ta tb : TE} {pos : Pos}
theorem pe_ix {r : R2} (hr : IxR X r) (ha : PE X a ta) (hb : PE X b tb) (hs : PlainIx b) : PE X (.Subscript a b pos) (tOp r ta tb) := by
  intro pins s σ H Q I h
  exact Subscript_ (binT ha hb I h fun v u s2 x y H2 I2 rx ry q => hr a b pins s2 σ H2 x y v u Q I2 rx ry q (hs _ _))
def rIxL (K : PySem.W.Frag) : R2 := fun x y H Q => ∃ p xs i v, x = .ref p ∧ y = .int i ∧ SqL K H p xs ∧ atI xs i = some v ∧ Q v H
def rIxT (K : PySem.W.Frag) : R2 := fun x y H Q => ∃ p xs i v, x = .ref p ∧ y = .int i ∧ SqT K H p xs ∧ atI xs i = some v ∧ Q v H
theorem ix_list : IxR X (rIxL X.K) := by
  intro value slice pins s σ H x y v u Q I rx ry h hs
  obtain ⟨p, xs, i, z, rfl, rfl, hq, he, q⟩ := h
  cases rx
  obtain ⟨t, rfl⟩ := ry
  obtain ⟨its, r, pl, hz⟩ := I.list hq
  obtain ⟨j, h1, h2, h3, h4, h5⟩ := atI_get he
  obtain ⟨w, ew, rw'⟩ := r.get h2
  have hl := r.length
  have hn := line63
  have fin : EP X pins σ Q w s := ⟨z, H, I, rw', q⟩
  by_cases h0 : 0 ≤ i
  · have hj : i.toNat = j := by
      rw [seqIndex_of h0 h5] at h1
      exact Option.some.inj h1
    exact item_listR pl.isList h0 (by omega) (by rw [hj]; simpa using ew) fin hs
  · have hj : (i + (its.toArray.size : Int)).toNat = j := by
      rw [seqIndex_neg (by omega) h4] at h1
      rw [List.size_toArray, ← hl]
      exact Option.some.inj h1
    exact subscriptTail_builtinR (x := w) pl.isList.typeIs slot_list_getitem.lookup
      (wpAny_getItem_list_neg (Q := fun r s' => r = w ∧ EP X pins σ Q r s') pl.isList (by omega) (by rw [List.size_toArray] <;> omega) (by omega) (by rw [hj]; simpa using ew) ⟨rfl, fin⟩) hs
theorem ix_tup : IxR X (rIxT X.K) := by
  intro value slice pins s σ H x y v u Q I rx ry h hs
  obtain ⟨p, xs, i, z, rfl, rfl, hq, he, q⟩ := h
  cases rx
  obtain ⟨t, rfl⟩ := ry
  obtain ⟨its, r, pl, hz⟩ := I.tuple hq
  obtain ⟨j, h1, h2, h3, h4, h5⟩ := atI_get he
  obtain ⟨w, ew, rw'⟩ := r.get h2
  have hl := r.length
  have hn := line63
  have fin : EP X pins σ Q w s := ⟨z, H, I, rw', q⟩
  exact subscriptTail_builtinR (x := w) pl.typeIs slot_tuple_getitem.lookup
    (getItem_tuple (j := j) (Q := fun r s' => r = w ∧ EP X pins σ Q r s') pl (by omega) (by omega) (by rw [List.size_toArray, ← hl]; exact h1) (by simpa using ew) ⟨rfl, fin⟩) hs
theorem slice_bounds (lo hi : Option Int) (n : Nat) : (sliceBounds lo hi none n).1 = ((HT.sIx n 0 lo : Nat) : Int) ∧ (sliceBounds lo hi none n).2.1 = ((HT.sIx n n hi : Nat) : Int) ∧ (sliceBounds lo hi none n).2.2 = 1 := by
  refine ⟨?_, ?_, rfl⟩
  · cases lo with
    | none => simp [sliceBounds, HT.sIx]
    | some i =>
      simp only [sliceBounds, HT.sIx, Option.getD_none, show (1 : Int) > 0 by decide, if_true]
      by_cases h : i < 0
      · simp only [h, if_true] <;> omega
      · simp only [h, if_false] <;> omega
  · cases hi with
    | none => simp [sliceBounds, HT.sIx]
    | some i =>
      simp only [sliceBounds, HT.sIx, Option.getD_none, show (1 : Int) > 0 by decide, if_true]
      by_cases h : i < 0
      · simp only [h, if_true] <;> omega
      · simp only [h, if_false] <;> omega
theorem slicePick_cut (its : List Value) (lo hi : Option Int) : slicePick its.toArray lo hi none = ((its.drop (HT.sIx its.length 0 lo)).take (HT.sIx its.length its.length hi - HT.sIx its.length 0 lo)).toArray := by
  obtain ⟨h1, h2, h3⟩ := slice_bounds lo hi its.toArray.size
  unfold slicePick
  rw [h1, h2, h3]
  simp only [sliceRange_one, pick_run, List.size_toArray] <;> rfl
def rSlL (K : PySem.W.Frag) : V → Option Int → Option Int → Hp → VK → Prop := fun x lo hi H Q => ∃ a xs, x = .ref a ∧ SqL K H a xs ∧ ∀ p, H p = none → Q (.ref p) (upd H p (.lst (cutV xs lo hi)))
theorem sl_list : SlR X (rSlL X.K) := by
  intro pins s σ H x v vl vu lo hi sl Q I rx hs pl pu h
  obtain ⟨a, xs, rfl, hx, q⟩ := h
  cases rx
  obtain ⟨its, r, ht, hz⟩ := I.list hx
  have hlen := r.length
  refine ⟨"list", _, slot_list_getitem.lookup, ht.isList.typeIs, ?_⟩
  refine wpAny_getItem_list_slice ht.isList hs pl pu .none (by simp) ?_ (by rw [List.size_toArray] <;> omega)
  rw [slicePick_cut, ← hlen]
  refine ⟨.ref s.heap.objs.size, _, I.laid (t' := s.toks) (o := .lst (cutV xs lo hi)) (fun b ob q => Heap.get?_push_of_some _ q) (Nat.le_refl _) ?_, rfl, q _ (I.hok.fresh (Nat.le_refl _))⟩
  exact ⟨Nat.le_trans (cutV_length xs lo hi) hz, _, 0, (r.drop (HT.sIx xs.length 0 lo)).take (HT.sIx xs.length xs.length hi - HT.sIx xs.length 0 lo), Heap.get?_push_size _ rfl⟩
def flatV : V → Bool
  | .non => true
  | .bl _ => true
  | .int _ => true
  | .str _ => true
  | _ => false
def eqV : V → V → Bool
  | .non, .non => true
  | .bl a, .bl b => a == b
  | .bl a, .int b => (if a then 1 else 0) == b
  | .int a, .bl b => a == (if b then 1 else 0)
  | .int a, .int b => a == b
  | .str a, .str b => a == b
  | _, _ => false
theorem eqAt_V {A : Around} {s : Shared} {y x : V} {u v : Value} (ry : RelV y u) (rx : RelV x v) (fy : flatV y = true) (fx : flatV x = true) : SeqAt.EqAt A s u v (eqV y x) := by
  cases y with
  | non =>
    cases ry
    cases x with
    | non => cases rx; exact SeqAt.EqAt.same _
    | bl b => cases rx; exact SeqAt.EqAt.none_bool b
    | int b => obtain ⟨t, rfl⟩ := rx; exact SeqAt.EqAt.none_int b t
    | str b => obtain ⟨t, rfl⟩ := rx; exact SeqAt.EqAt.none_str b t
    | _ => exact absurd (show false = true from fx) Bool.false_ne_true
  | bl a =>
    cases ry
    cases x with
    | non => cases rx; exact SeqAt.EqAt.bool_none a
    | bl b => cases rx; exact SeqAt.EqAt.bool_bool a b
    | int b => obtain ⟨t, rfl⟩ := rx; exact SeqAt.EqAt.bool_int a b t
    | str b => obtain ⟨t, rfl⟩ := rx; exact SeqAt.EqAt.bool_str a b t
    | _ => exact absurd (show false = true from fx) Bool.false_ne_true
  | int a =>
    obtain ⟨t', rfl⟩ := ry
    cases x with
    | non => cases rx; exact SeqAt.EqAt.int_none a t'
    | bl b => cases rx; exact SeqAt.EqAt.int_bool a t' b
    | int b => obtain ⟨t, rfl⟩ := rx; exact SeqAt.EqAt.int_int a t' b t
    | str b => obtain ⟨t, rfl⟩ := rx; exact SeqAt.EqAt.int_str a t' b t
    | _ => exact absurd (show false = true from fx) Bool.false_ne_true
  | str a =>
    obtain ⟨t', rfl⟩ := ry
    cases x with
    | non => cases rx; exact SeqAt.EqAt.str_none a t'
    | bl b => cases rx; exact SeqAt.EqAt.str_bool a t' b
    | int b => obtain ⟨t, rfl⟩ := rx; exact SeqAt.EqAt.str_int a t' b t
    | str b => obtain ⟨t, rfl⟩ := rx; exact SeqAt.EqAt.str_str a t' b t
    | _ => exact absurd (show false = true from fx) Bool.false_ne_true
  | _ => exact absurd (show false = true from fy) Bool.false_ne_true
def eqU (x : V) (u : Value) : Bool := match u with
  | .none => eqV .non x
  | .bool b => eqV (.bl b) x
  | .int i _ => eqV (.int i) x
  | .str z _ => eqV (.str z) x
  | _ => false
theorem eqU_of {x y : V} {u : Value} (r : RelV y u) (f : flatV y = true) : eqU x u = eqV y x := by
  cases y with
  | non => cases r; rfl
  | bl b => cases r; rfl
  | int i => obtain ⟨t, rfl⟩ := r; rfl
  | str z => obtain ⟨t, rfl⟩ := r; rfl
  | _ => exact absurd (show false = true from f) Bool.false_ne_true
theorem any_eqU {x : V} : ∀ {xs : List V} {us : List Value}, Vals xs us → xs.all flatV = true → us.any (eqU x) = xs.any fun y => eqV y x
  | _, _, .nil, _ => rfl
  | y :: xs, u :: us, .cons r t, f => by
    rw [List.all_cons, Bool.and_eq_true] at f
    rw [List.any_cons, List.any_cons, eqU_of r f.1, any_eqU t f.2]
theorem mem_eqAt {A : Around} {s : Shared} {x : V} {v : Value} (rx : RelV x v) (fx : flatV x = true) : ∀ {xs : List V} {us : List Value}, Vals xs us → xs.all flatV = true → ∀ u ∈ us, SeqAt.EqAt A s u v (eqU x u)
  | _, _, .nil, _ => fun u hu => by cases hu
  | y :: xs, u :: us, .cons r t, f => fun u' hu => by
    rw [List.all_cons, Bool.and_eq_true] at f
    rcases List.mem_cons.mp hu with rfl | hu
    · rw [eqU_of r f.1]; exact eqAt_V r rx f.1 fx
    · exact mem_eqAt rx fx t f.2 u' hu
def inV (x : V) (xs : List V) : Bool := xs.any fun y => eqV y x
def rIn (K : PySem.W.Frag) (neg : Bool) : R2 := fun x y H Q => ∃ p xs, y = .ref p ∧ (SqL K H p xs ∨ SqT K H p xs) ∧ flatV x = true ∧ xs.all flatV = true ∧ Q (.bl (if neg then !inV x xs else inV x xs)) H
theorem op_notIn_seq : OpR X (compareOp .NotIn) (rIn X.K true) := by
  intro pins s σ H x y v u Q I rx ry h
  obtain ⟨p, xs, rfl, hq, fx, fs, q⟩ := h
  cases ry
  rcases hq with hq | hq
  · obtain ⟨its, r, pl, hz⟩ := I.list hq
    refine SeqAt.notIn_listAt (eqU x) pl.isList (fun w hw => mem_eqAt rx fx r fs w (by simpa using hw)) ⟨.bl _, H, I, rfl, ?_⟩
    rw [show its.toArray.any (eqU x) = its.any (eqU x) by simp, any_eqU r fs]
    exact q
  · obtain ⟨its, r, pl, hz⟩ := I.tuple hq
    refine SeqAt.notIn_tupleAt (eqU x) pl (fun w hw => mem_eqAt rx fx r fs w (by simpa using hw)) ⟨.bl _, H, I, rfl, ?_⟩
    rw [show its.toArray.any (eqU x) = its.any (eqU x) by simp, any_eqU r fs]
    exact q
theorem call_len_seq : CallR X (.builtin "len") (fun xs H Q => ∃ p ys, xs = [.ref p] ∧ (SqL X.K H p ys ∨ SqT X.K H p ys) ∧ Q (.int ys.length) H) := by
  intro pins s σ H xs us Q I r h
  obtain ⟨p, ys, rfl, hq, q⟩ := h
  obtain ⟨u, rfl, rx⟩ := vals1 r
  cases rx
  have hn := line63
  rcases hq with hq | hq
  · obtain ⟨its, r', pl, hz⟩ := I.list hq
    have hlen := r'.length
    exact Calls.call_len_list pl.isList (by simp only [List.size_toArray] <;> omega) ⟨.int ys.length, H, I.tok _, ⟨s.toks + 1, by rw [List.size_toArray, hlen]⟩, q⟩
  · obtain ⟨its, r', pl, hz⟩ := I.tuple hq
    have hlen := r'.length
    exact len_tuple pl (by simp only [List.size_toArray] <;> omega) ⟨.int ys.length, H, I.tok _, ⟨s.toks + 1, by rw [List.size_toArray, hlen]⟩, q⟩
theorem call_list_of : CallR X (.type "list") (fun xs H Q => ∃ p ys, xs = [.ref p] ∧ (SqL X.K H p ys ∨ SqT X.K H p ys) ∧ ∀ l, H l = none → Q (.ref l) (upd H l (.lst ys))) := by
  intro pins s σ H xs us Q I r h
  obtain ⟨p, ys, rfl, hq, q⟩ := h
  obtain ⟨u, rfl, rx⟩ := vals1 r
  cases rx
  have fin : ∀ (its : List Value), Vals ys its → ys.length ≤ sizeLine → ∀ (h' : Heap) (c' : Nat), (∀ b o', s.heap.get? b = some o' → h'.get? b = some o') →
      h'.get? s.heap.objs.size = some { cls := .type "list", dict := none, data := .seq its.toArray c', slots := #[] } → EP X pins σ Q (.ref s.heap.objs.size) { s with heap := h' } := fun its r' hz h' c' kp e =>
    ⟨.ref s.heap.objs.size, _, I.laid (t' := s.toks) kp (Nat.le_refl _) (show ObjOk X.prog X.w _ h' _ (.lst ys) from ⟨hz, its, c', r', e⟩), rfl, q _ (I.hok.fresh (Nat.le_refl _))⟩
  rcases hq with hq | hq
  · obtain ⟨its, r', pl, hz⟩ := I.list hq
    have hlen := r'.length
    obtain ⟨o, ho, hc, n, hd⟩ := pl.isList
    exact call_list_seq p (.inl rfl) ho hc hd (fun h' c' kp e => fin its r' hz h' c' kp e) (by simp only [List.size_toArray] <;> omega)
  · obtain ⟨its, r', pl, hz⟩ := I.tuple hq
    have hlen := r'.length
    obtain ⟨o, ho, hc, n, hd⟩ := pl
    exact call_list_seq p (.inr rfl) ho hc hd (fun h' c' kp e => fin its r' hz h' c' kp e) (by simp only [List.size_toArray] <;> omega)
theorem call_tuple_of : CallR X (.type "tuple") (fun xs H Q => ∃ p ys, xs = [.ref p] ∧ ((SqL X.K H p ys ∧ ∀ l, H l = none → Q (.ref l) (upd H l (.tup ys))) ∨ (SqT X.K H p ys ∧ Q (.ref p) H))) := by
  intro pins s σ H xs us Q I r h
  obtain ⟨p, ys, rfl, h⟩ := h
  obtain ⟨u, rfl, rx⟩ := vals1 r
  cases rx
  rcases h with ⟨hq, q⟩ | ⟨hq, q⟩
  · obtain ⟨its, r', pl, hz⟩ := I.list hq
    have hlen := r'.length
    refine call_tuple_list pl.isList (fun h' kp => ?_) (by simp only [List.size_toArray] <;> omega)
    have I1 : Inv X pins σ H { s with heap := h' } := I.kept (t' := s.toks) kp
    have I2 : Inv X pins σ (upd H h'.objs.size (.tup ys)) { s with heap := h'.push { cls := .type "tuple", data := .seq its.toArray } } :=
      I1.laid (t' := s.toks) (fun b o e => Heap.get?_push_of_some _ e) (Nat.le_refl _) (show ObjOk X.prog X.w _ _ _ (.tup ys) from ⟨hz, its, r', IsTup.new _ _⟩)
    exact ⟨.ref h'.objs.size, _, I2, rfl, q _ (I1.hok.fresh (Nat.le_refl _))⟩
  · obtain ⟨its, r', pl, hz⟩ := I.tuple hq
    exact call_tuple_same pl ⟨.ref p, H, I, rfl, q⟩
def tyV (K : PySem.W.Frag) (T : String) (x : V) (H : Hp) : Prop := match x with
  | .str _ => T = "str"
  | .int _ => T = "int"
  | .ref p => (T = "list" ∧ ∃ xs, SqL K H p xs) ∨ (T = "tuple" ∧ ∃ o, K.lookup p = some o ∧ o.cls = .type "tuple" ∧ o.dict = none) ∨
      (T = "dict" ∧ ((∃ kvs, H p = some (.dK kvs)) ∨ ∃ kvs, H p = some (.dT kvs))) ∨ (T = "set" ∧ ∃ S n, H p = some (.set S n))
  | _ => False
theorem tyV_is {pins : List (Addr × Obj)} {σ : St} {H : Hp} {s : Shared} {T : String} {x : V} {v : Value} (I : Inv X pins σ H s) (r : RelV x v) (ty : tyV X.K T x H) :
    s.TypeIs v T ∧ ∀ a, v = .ref a → ∃ ob, s.heap.get? a = some ob ∧ ob.dict = none := by
  cases x with
  | str z =>
    obtain ⟨t, rfl⟩ := r
    cases (show T = "str" from ty)
    exact ⟨typeIs_str s z t, fun _ e => nomatch e⟩
  | int i =>
    obtain ⟨t, rfl⟩ := r
    cases (show T = "int" from ty)
    exact ⟨typeIs_int s i t, fun _ e => nomatch e⟩
  | ref p =>
    cases r
    rcases ty with ⟨rfl, xs, hq⟩ | ⟨rfl, o, hk, hc, hd⟩ | ⟨rfl, hk⟩ | ⟨rfl, S, n, hk⟩
    · obtain ⟨its, _, pl, _⟩ := I.list hq
      refine ⟨pl.isList.typeIs, fun a e => ?_⟩
      cases e
      obtain ⟨o, n, e, c, hd, _⟩ := pl
      exact ⟨o, e, hd⟩
    · refine ⟨⟨o, I.kIn p o hk, hc⟩, fun a e => ?_⟩
      cases e
      exact ⟨o, I.kIn _ o hk, hd⟩
    · have z : ∃ o, s.heap.get? p = some o ∧ o.ExactDict := by
        rcases hk with ⟨kvs, hk⟩ | ⟨kvs, hk⟩
        · obtain ⟨_, _, _, _, o, _, _, e, ex, _⟩ := I.hok p _ hk
          exact ⟨o, e, ex⟩
        · obtain ⟨_, _, _, _, o, _, _, e, ex, _⟩ := I.hok p _ hk
          exact ⟨o, e, ex⟩
      obtain ⟨o, e, ex⟩ := z
      refine ⟨⟨o, e, ex.1⟩, fun a e2 => ?_⟩
      cases e2
      exact ⟨o, e, ex.2.1⟩
    · obtain ⟨o, _, _, _, e, ex, _⟩ := I.hok p _ hk
      refine ⟨⟨o, e, ex.1⟩, fun a e2 => ?_⟩
      cases e2
      exact ⟨o, e, ex.2.1⟩
  | _ => exact False.elim ty
def tBM (K : PySem.W.Frag) (T : String) (r : V → List V → Hp → VK → Prop) (to : TE) (t : TA) : TE := fun σ H Q => to σ H fun x H1 => tyV K T x H1 ∧ t σ H1 fun xs H2 => r x xs H2 Q
variable {o e : Expr} {es : List Expr} {to : TE} {t : TA} {name : Str} {apos cpos : Pos} {T id : String} {r : V → List V → Hp → VK → Prop}
theorem pe_bm (pa : PlainAttrs T) (slot : Slot T name id) (hty : typeOf (.builtin id) = pure (.type "method_descriptor")) (hm : MtR X id r) (ho : PE X o to) (ha : PA X (e :: es) t)
    (hbase : attributeBase o name X.env (eval o X.env) = eval o X.env := by rfl)
    (hfew : ((backTo cpos (starEach (e :: es) X.env)).all (fun x => !x.1) && (backToKw cpos (keywordEach [] X.env)).all (fun x => x.1.isSome)
      && decide ((e :: es).length + ([] : List Keyword).length + (if ([] : List Keyword).isEmpty then 0 else 1) < 30)) = true := by rfl)
    (hline : (apos.endLine == cpos.line) = true := by rfl) (hs : starEach (e :: es) X.env = (false, eval e X.env) :: starEach es X.env := by rfl) (hplain : (backTo cpos (starEach es X.env)).any (·.1) = false := by rfl) :
    PE X (.Call (.Attribute o name apos) (e :: es) [] cpos) (tBM X.K T r to t) := by
  intro pins s σ H Q I h
  refine wpAny_Call_method_late hbase hfew hline rfl (thn (ho pins s σ H _ I h) fun v s1 ⟨x, H1, I1, r1, ty, q1⟩ => ?_)
  obtain ⟨h1, h2⟩ := tyV_is I1 r1 ty
  refine ⟨T, id, pa, slot, hty, h1, h2, ?_⟩
  have hA := ha cpos pins s1 σ H1 _ I1 q1
  rw [hs] at hA ⊢
  refine Calls.callWith_builtin (by show (false || (backTo cpos (starEach es X.env)).any (·.1)) = false; rw [hplain] <;> rfl) (Calls.evalArgs_plain ?_)
  exact thn hA fun us s2 ⟨vs, H2, I2, r2, q2⟩ => hm pins s2 σ H2 x vs v us Q I2 r1 r2 q2
end
end L2
namespace L2
open PySem PySem.Spec PyProof.Rows
def MtM (X : Cx) (id : String) (r : V → List V → Hp → VK → Prop) : Prop :=
  ∀ (pins : List (Addr × Obj)) (s : Shared) (σ : St) (H : Hp) (x : V) (xs : List V) (v : Value) (us : List Value) (Q : VK), Inv X pins σ H s → RelV x v → Vals xs us → r x xs H Q →
    wpAny (model X.prog X.w) X.A (call (.builtin id) (v :: us)) (EP X pins σ Q) X.xe s
theorem Vals.one : ∀ {x : V} {us : List Value}, Vals [x] us → ∃ u, us = [u] ∧ RelV x u
  | _, _, .cons r .nil => ⟨_, rfl, r⟩
section
variable {X : Cx} {pins : List (Addr × Obj)} {σ : St} {H : Hp} {s : Shared} {l b : Addr} {xs ys zs : List V}
theorem Inv.lset {its its' : List Value} {n : Nat} {f : Array Value → Array Value} {t' : Nat} (I : Inv X pins σ H s) (hH : H l = some (.lst xs))
    (e : s.heap.get? l = some { cls := .type "list", data := .seq its.toArray n }) (hf : f its.toArray = its'.toArray) (hv : Vals ys its') (hz : ys.length ≤ sizeLine) :
    Inv X pins σ (upd H l (.lst ys)) { s with heap := s.heap.update l (Obj.mapSeq f), toks := t' } := by
  have q := PySem.IsL.update e f
  rw [hf] at q
  refine I.write (x := l) (e := l) (by rw [hH]; exact trivial) (.inl rfl) (fun b' u hb hu => (Heap.get?_update_other s.heap (Obj.mapSeq f) (Ne.symm hb)).trans hu) ⟨_, q⟩ ?_
  exact ⟨hz, its', _, hv, q⟩
theorem Inv.lnew {its : List Value} {t' : Nat} (I : Inv X pins σ H s) (hv : Vals ys its) (hz : ys.length ≤ sizeLine) :
    Inv X pins σ (upd H s.heap.objs.size (.lst ys)) { s with heap := s.heap.push { cls := .type "list", data := .seq its.toArray }, toks := t' } :=
  I.laid (fun _ _ q => Heap.get?_push_of_some _ q) (Nat.le_refl _) ⟨hz, its, 0, hv, Heap.get?_push_size _ rfl⟩
theorem Inv.fresh (I : Inv X pins σ H s) : H s.heap.objs.size = none := I.hok.fresh (Nat.le_refl _)
theorem Inv.lstM (I : Inv X pins σ H s) (hH : H l = some (.lst xs)) : xs.length ≤ sizeLine ∧ ∃ (its : List Value) (n : Nat), Vals xs its ∧ xs.length = its.length ∧ s.heap.get? l = some { cls := .type "list", data := .seq its.toArray n } := by
  obtain ⟨z, its, n, r, e⟩ := I.hok l _ hH
  exact ⟨z, its, n, r, r.length, e⟩
theorem notLongL {n : Nat} (h : n ≤ sizeLine) : Builtin.List.listTooLong n = false := by
  unfold Builtin.List.listTooLong
  exact decide_eq_false (by omega)
end
section
variable {X : Cx}
def rAppend : V → List V → Hp → VK → Prop := fun x vs H Q => ∃ l xs y, x = .ref l ∧ vs = [y] ∧ H l = some (.lst xs) ∧ xs.length < sizeLine ∧ Q .non (upd H l (.lst (xs ++ [y])))
theorem mt_append : MtM X "list.append" rAppend := by
  intro pins s σ H x vs v us Q I rx rv h
  obtain ⟨l, xs, y, rfl, rfl, hH, hz, q⟩ := h
  cases rx
  obtain ⟨u, rfl, ru⟩ := rv.one
  obtain ⟨z, its, n, r, hl, e⟩ := I.lstM hH
  refine call_meets F.slot_list_append ⟨_, e, rfl⟩ F.entry_list_append (F.args_list_append_2 _ _) (PySem.list_append l its.toArray n u (by rw [List.size_toArray]; omega)) ⟨e, ?_⟩
  refine ⟨.non, _, I.lset (its' := its ++ [u]) hH e (by simp) (r.append (.cons ru .nil)) ?_, rfl, q⟩
  rw [List.length_append, List.length_singleton]
  omega
def rExtend : V → List V → Hp → VK → Prop := fun x vs H Q => ∃ l b xs zs, x = .ref l ∧ vs = [.ref b] ∧ H l = some (.lst xs) ∧ H b = some (.lst zs) ∧ xs.length + zs.length ≤ sizeLine ∧ Q .non (upd H l (.lst (xs ++ zs)))
theorem mt_extend : MtM X "list.extend" rExtend := by
  intro pins s σ H x vs v us Q I rx rv h
  obtain ⟨l, b, xs, zs, rfl, rfl, hH, hB, hz, q⟩ := h
  cases rx
  obtain ⟨u, rfl, ru⟩ := rv.one
  cases ru
  obtain ⟨z, its, n, r, hl, e⟩ := I.lstM hH
  obtain ⟨z2, its2, n2, r2, hl2, e2⟩ := I.lstM hB
  have hsz : its.toArray.size + its2.toArray.size ≤ sizeLine := by rw [List.size_toArray, List.size_toArray]; omega
  have hlong : ¬ (!its.toArray.isEmpty && Builtin.List.listTooLong (its.toArray.size + its2.toArray.size)) = true := by
    rw [notLongL hsz, Bool.and_false]
    exact Bool.false_ne_true
  refine call_meets F.slot_list_extend ⟨_, e, rfl⟩ F.entry_list_extend (F.args_list_extend_2 _ _)
    (AutoSeq1.list_extend_list_list_0 l its.toArray n b its2.toArray n2 hlong (by rw [List.size_toArray]; omega) (by omega)) ⟨e, e2, ?_⟩
  refine ⟨.non, _, I.lset (its' := its ++ its2) hH e (by simp) (r.append r2) ?_, rfl, q⟩
  rw [List.length_append]
  omega
def rCat : R2 := fun x y H Q => ∃ l b xs zs, x = .ref l ∧ y = .ref b ∧ H l = some (.lst xs) ∧ H b = some (.lst zs) ∧ xs.length + zs.length ≤ sizeLine ∧ ∀ p, H p = none → Q (.ref p) (upd H p (.lst (xs ++ zs)))
theorem op_cat : OpR X (binaryOp .Add) rCat := by
  intro pins s σ H x y v u Q I rx ry h
  obtain ⟨l, b, xs, zs, rfl, rfl, hH, hB, hz, q⟩ := h
  cases rx
  cases ry
  obtain ⟨z, its, n, r, hl, e⟩ := I.lstM hH
  obtain ⟨z2, its2, n2, r2, hl2, e2⟩ := I.lstM hB
  refine PySem.P.add_list e e2 ?_ (by rw [List.size_toArray, List.size_toArray]; omega)
  have ea : its.toArray ++ its2.toArray = (its ++ its2).toArray := by simp
  rw [ea]
  exact ⟨.ref _, _, I.lnew (t' := s.toks) (r.append r2) (by rw [List.length_append]; omega), rfl, q _ I.fresh⟩
end
section
variable {prog : Program} {w : World} {A : Around} {E : Value → Shared → Prop} {s : Shared}
set_option maxRecDepth 100000 in
end
section
variable {X : Cx}
end
end L2
namespace L2
open PySem PySem.Spec PyProof.Rows
theorem Vals.ints : ∀ {ns : List Int} {us : List Value}, Vals (ns.map V.int) us → IntsAre us ns
  | [], us, h => by
    rw [List.map_nil] at h
    cases h
    exact IntsAre.nil
  | n :: ns, us, h => by
    rw [List.map_cons] at h
    cases h with
    | cons r t =>
      obtain ⟨k, rfl⟩ := r
      exact IntsAre.cons n k (Vals.ints t)
theorem vals_of_ints : ∀ {us : List Value} {ns : List Int}, IntsAre us ns → Vals (ns.map V.int) us
  | _, _, .nil => by rw [List.map_nil]; exact Paired.nil
  | _, _, .cons n t h => by rw [List.map_cons]; exact Paired.cons (show RelV (V.int n) (Value.int n t) from ⟨t, rfl⟩) (vals_of_ints h)
theorem Vals.bls : ∀ {bs : List Bool} {us : List Value}, Vals (bs.map V.bl) us → us = bs.map Value.bool
  | [], us, h => by
    rw [List.map_nil] at h
    cases h
    rfl
  | b :: bs, us, h => by
    rw [List.map_cons] at h
    cases h with
    | cons r t =>
      cases r
      rw [Vals.bls t, List.map_cons]
theorem Vals.ref1 {a : Addr} {us : List Value} (r : Vals [V.ref a] us) : us = [Value.ref a] := by
  cases r with
  | cons r t =>
    cases t
    cases r
    rfl
section
variable {prog : Program} {w : World} {A : Around} {E : Value → Shared → Prop} {s : Shared} {l : Addr} {its : List Value} {ns : List Int} {Q : Value → Shared → Prop}
theorem sum_raw (hh : A.handled = none) (hl : s.heap.IsList l its.toArray) (hi : IntsAre its ns)
    (h : ∀ h' tk t', (∀ b o, s.heap.get? b = some o → h'.get? b = some o) → Q (.int ns.sum t') { s with heap := h', toks := tk }) : wpAny (model prog w) A (call (.builtin "sum") [.ref l]) Q E s := by
  obtain ⟨xs, e⟩ := hi.allInts.items
  have hn : numsOf (intItems xs).toList = ns := by rw [← e]; exact hi.numsOf
  rw [nums_intItems] at hn
  rw [e] at hl
  refine PySem.sum_intListG hh hl fun h' tk t' hk => ?_
  have := h h' tk t' hk
  rw [preSum_eq, List.take_of_length_le (by simp), hn]; exact this
end
section
variable {X : Cx}
def rSum (K : PySem.W.Frag) : List V → Hp → VK → Prop := fun vs H Q => ∃ (a : Addr) (ns : List Int), vs = [V.ref a] ∧ SqL K H a (ns.map V.int) ∧ Q (.int ns.sum) H
theorem cr_sum (hc : X.calm = true) : CallR X (.builtin "sum") (rSum X.K) := by
  intro pins s σ H vs us Q I r h
  obtain ⟨a, ns, rfl, hs, q⟩ := h
  obtain ⟨its, rv, hl, _⟩ := I.list hs
  rw [Vals.ref1 r]
  exact sum_raw (I.ok.hd hc) hl.isList rv.ints fun h' tk t' hk => ⟨.int _, H, I.kept hk, ⟨_, rfl⟩, q⟩
theorem small64 {n : Nat} (h : n < 64) : n ≤ sizeLine := by rw [sizeLine_eq]; omega
end
section
variable {X : Cx}
end
section
variable {X : Cx}
end
theorem iter_any {prog : Program} {w : World} {A : Around} {E : Value → Shared → Prop} {s : Shared} {l : Addr} {items : Array Value} {Q : Value → Shared → Prop} (hl : s.heap.IsList l items)
    (h : ∀ s₂ : Shared, s₂ = { s with heap := s.heap.push { cls := .type "list_iterator", data := .fields #[.ref l, .int 0 0] } } →
      (s₂.heap.IsListIter s.heap.objs.size l 0 ∧ s₂.heap.IsList l items) → l ≠ s.heap.objs.size → Q (.ref s.heap.objs.size) s₂) : wpAny (model prog w) A (pyIter (.ref l)) Q E s := by
  have hlt : l < s.heap.objs.size := by obtain ⟨_, e, _⟩ := hl; exact Heap.lt_size e
  exact wpAny_pyIter_list hl (h _ rfl ⟨⟨_, Heap.get?_push_size _ rfl, rfl, rfl⟩, hl.push _⟩ (Nat.ne_of_lt hlt))
theorem truth_bools {prog : Program} {w : World} {A : Around} {bs : List Bool} {its : List Value} (e : its = bs.map Value.bool) :
    TruthOf prog w A (fun i v => its.toArray[i]? = some v) (fun i => bs.getD i false) := fun i v s Q E hv hq => by
  have hv' : its[i]? = some v := by simpa using hv
  rw [e, List.getElem?_map] at hv'
  obtain ⟨b, hb, rfl⟩ := Option.map_eq_some_iff.mp hv'
  have hg : bs.getD i false = b := by rw [List.getD_eq_getElem?_getD, hb] <;> rfl
  have hq' : Q (bs.getD i false) s := hq
  rw [hg] at hq'
  exact wpAny_truthy_bool hq'
theorem any_range : ∀ bs : List Bool, (List.range bs.length).any (fun i => bs.getD i false) = bs.any id
  | [] => rfl
  | b :: bs => by
    rw [List.length_cons, List.range_succ_eq_map, List.any_cons, List.any_map, List.any_cons, ← any_range bs]
    all_goals rfl
theorem all_range : ∀ bs : List Bool, (List.range bs.length).all (fun i => bs.getD i false) = bs.all id
  | [] => rfl
  | b :: bs => by
    rw [List.length_cons, List.range_succ_eq_map, List.all_cons, List.all_map, List.all_cons, ← all_range bs]
    all_goals rfl
section
variable {X : Cx}
def rAll (K : PySem.W.Frag) : List V → Hp → VK → Prop := fun vs H Q => ∃ (a : Addr) (bs : List Bool), vs = [V.ref a] ∧ SqL K H a (bs.map V.bl) ∧ Q (.bl (bs.all id)) H
theorem cr_all (hc : X.calm = true) : CallR X (.builtin "all") (rAll X.K) := by
  intro pins s σ H vs us Q I r h
  obtain ⟨a, bs, rfl, hs, q⟩ := h
  obtain ⟨its, rv, hl, _⟩ := I.list hs
  rw [Vals.ref1 r]
  have hb := rv.bls
  refine call_all_walk (iter_any hl.isList fun s₂ e2 st hne => ?_)
  subst e2
  refine ⟨_, _, _, _, _, _, _, rfl, Walks.list (A := X.A.in1) (I.ok.hd hc) _ a hne its.toArray, st, truth_bools hb, fun h' tk hk => ?_⟩
  refine ⟨.bl _, H, I.kept fun b o eo => hk b o (fun hmem => ?_) (Heap.get?_push_of_some _ eo), ?_, q⟩
  · rcases List.mem_cons.mp hmem with e1 | hmem
    · exact absurd (e1 ▸ Heap.lt_size eo) (Nat.lt_irrefl _)
    · cases hmem
  · show Value.bool _ = Value.bool _
    rw [← all_range, hb, List.size_toArray, List.length_map]
end
section
variable {X : Cx} {pins : List (Addr × Obj)} {σ : St} {H : Hp} {s : Shared}
end
section
variable {X : Cx}
end
end L2
namespace L2
open PySem PySem.Spec PyProof.Rows
abbrev CellAt (h : Heap) (c : Addr) (v : Option Value) : Prop := h.IsCell c v
def relS (scope sc : Scope) : Scope :=
  { scope with names := scope.names.map fun (n, k) => if (k == .free && sc.kind == .function && sc.names.lookup n == some .cell) then (n, .cell) else (n, k) }
def cloFrom (cells : List (Str × Addr)) : List (Str × NameKind) → List (Str × Addr) → List (Str × Addr)
  | [], acc => acc
  | (n, k) :: r, acc => if k == .free then cloFrom cells r ((n, (cells.lookup n).getD 0) :: acc) else cloFrom cells r acc
theorem closure_loop (env : Env) (f : Str × NameKind → List (Str × Addr) → Sem (ForInStep (List (Str × Addr))))
    (hf : ∀ n k c, f (n, k) c = if k == .free then (do let a ← cellOf env n; pure (.yield ((n, a) :: c))) else pure (.yield c)) :
    ∀ (names : List (Str × NameKind)) (acc : List (Str × Addr)), (∀ y ∈ names, y.2 = .free → ∃ c, env.cells.lookup y.1 = some c) → forIn names acc f = pure (cloFrom env.cells names acc)
  | [], acc, _ => by rw [List.forIn_nil]; rfl
  | (n, k) :: r, acc, h => by
    rw [List.forIn_cons, hf]
    have ih := fun acc => closure_loop env f hf r acc fun y hy => h y (List.mem_cons_of_mem _ hy)
    unfold cloFrom
    by_cases hk : (k == NameKind.free) = true
    · rw [if_pos hk, if_pos hk]
      obtain ⟨c, hc⟩ := h (n, k) List.mem_cons_self (by simpa using hk)
      have e : cellOf env n = pure c := by unfold cellOf; rw [hc]
      rw [e]
      have e2 : (env.cells.lookup n).getD 0 = c := by rw [hc]; rfl
      rw [e2]
      exact ih _
    · rw [if_neg hk, if_neg hk]
      exact ih _
theorem closure_ok {scope : Scope} {env : Env} (h : ∀ y ∈ scope.names, y.2 = .free → ∃ c, env.cells.lookup y.1 = some c) : closureFor scope env = pure (cloFrom env.cells scope.names []) := by
  simp only [closureFor]
  rw [closure_loop env _ (fun n k c => rfl) scope.names [] h]
  rfl
theorem mem_lookup {α : Type} : ∀ {l : List (Str × α)} {n : Str} {c : α}, (n, c) ∈ l → ∃ c', l.lookup n = some c'
  | (k, v) :: r, n, c, h => by
    rw [List.lookup_cons]
    cases hb : n == k with
    | true => exact ⟨_, rfl⟩
    | false =>
      rcases List.mem_cons.mp h with e | h
      · cases e; simp at hb
      · exact mem_lookup h
theorem cloFrom_mem {cells : List (Str × Addr)} : ∀ {names : List (Str × NameKind)} {acc : List (Str × Addr)} {n : Str} {c : Addr}, (n, c) ∈ cloFrom cells names acc → (n, c) ∈ acc ∨ ((n, .free) ∈ names ∧ c = (cells.lookup n).getD 0)
  | [], _, _, _, h => .inl h
  | (m, k) :: r, acc, n, c, h => by
    unfold cloFrom at h
    split at h
    · rename_i hk
      have hk : k = .free := by simpa using hk
      rcases cloFrom_mem h with h | ⟨h1, h2⟩
      · rcases List.mem_cons.mp h with e | h
        · cases e; exact .inr ⟨hk ▸ List.mem_cons_self, rfl⟩
        · exact .inl h
      · exact .inr ⟨List.mem_cons_of_mem _ h1, h2⟩
    · rcases cloFrom_mem h with h | ⟨h1, h2⟩
      · exact .inl h
      · exact .inr ⟨List.mem_cons_of_mem _ h1, h2⟩
theorem cloFrom_acc {cells : List (Str × Addr)} : ∀ {names : List (Str × NameKind)} {acc : List (Str × Addr)} {p : Str × Addr}, p ∈ acc → p ∈ cloFrom cells names acc
  | [], _, _, h => h
  | (m, k) :: r, acc, p, h => by
    unfold cloFrom
    split
    · exact cloFrom_acc (List.mem_cons_of_mem _ h)
    · exact cloFrom_acc h
theorem cloFrom_has {cells : List (Str × Addr)} : ∀ {names : List (Str × NameKind)} {acc : List (Str × Addr)} {n : Str}, (n, .free) ∈ names → (n, (cells.lookup n).getD 0) ∈ cloFrom cells names acc
  | (m, k) :: r, acc, n, h => by
    unfold cloFrom
    rcases List.mem_cons.mp h with e | h
    · cases e
      exact cloFrom_acc List.mem_cons_self
    · split
      · exact cloFrom_has h
      · exact cloFrom_has h
theorem cells_mem : ∀ {names : List (Str × NameKind)} {h : Heap} {acc : List (Str × Addr)} {x : Str} {c : Addr}, (x, c) ∈ cellsFrom h.objs.size names acc →
    (x, c) ∈ acc ∨ ((x, .cell) ∈ names ∧ h.objs.size ≤ c ∧ CellAt (pushCells h names) c none)
  | [], _, _, _, _, h => .inl h
  | (n, k) :: r, h, acc, x, c, hm => by
    unfold cellsFrom at hm
    unfold pushCells
    split at hm
    · rename_i hk
      rw [if_pos hk]
      have hk : k = .cell := by simpa using hk
      rw [← Heap.size_push h { cls := .type "cell", data := .cell none }] at hm
      rcases cells_mem hm with hm | ⟨h1, h2, h3⟩
      · rcases List.mem_cons.mp hm with e | hm
        · cases e
          exact .inr ⟨hk ▸ List.mem_cons_self, Nat.le_refl _, _, pushCells_keeps r _ _ _ (Heap.get?_push_size _ rfl), rfl⟩
        · exact .inl hm
      · rw [Heap.size_push] at h2
        exact .inr ⟨List.mem_cons_of_mem _ h1, Nat.le_of_succ_le h2, h3⟩
    · rename_i hk
      rw [if_neg hk]
      rcases cells_mem hm with hm | ⟨h1, h2, h3⟩
      · exact .inl hm
      · exact .inr ⟨List.mem_cons_of_mem _ h1, h2, h3⟩
theorem cells_acc : ∀ {names : List (Str × NameKind)} {n : Nat} {acc : List (Str × Addr)} {p : Str × Addr}, p ∈ acc → p ∈ cellsFrom n names acc
  | [], _, _, _, h => h
  | (m, k) :: r, n, acc, p, h => by
    unfold cellsFrom
    split
    · exact cells_acc (List.mem_cons_of_mem _ h)
    · exact cells_acc h
theorem cells_has : ∀ {names : List (Str × NameKind)} {n : Nat} {acc : List (Str × Addr)} {x : Str}, (x, .cell) ∈ names → ∃ c, (x, c) ∈ cellsFrom n names acc
  | (m, k) :: r, n, acc, x, h => by
    unfold cellsFrom
    rcases List.mem_cons.mp h with e | h
    · cases e
      exact ⟨n, cells_acc List.mem_cons_self⟩
    · split
      · exact cells_has h
      · exact cells_has h
theorem cells_inj : ∀ {names : List (Str × NameKind)} {h : Heap} {acc : List (Str × Addr)} {x y : Str} {c : Addr}, (∀ p ∈ acc, p.2 < h.objs.size) → (∀ x y c, (x, c) ∈ acc → (y, c) ∈ acc → x = y) →
    (x, c) ∈ cellsFrom h.objs.size names acc → (y, c) ∈ cellsFrom h.objs.size names acc → x = y
  | [], _, _, _, _, _, _, hi, h1, h2 => hi _ _ _ h1 h2
  | (n, k) :: r, h, acc, x, y, c, hl, hi, h1, h2 => by
    unfold cellsFrom at h1 h2
    split at h1
    · rename_i hk
      rw [if_pos hk] at h2
      rw [← Heap.size_push h { cls := .type "cell", data := .cell none }] at h1 h2
      refine cells_inj (h := h.push _) (fun p hp => ?_) (fun x y c a b => ?_) h1 h2
      · rw [Heap.size_push]
        rcases List.mem_cons.mp hp with rfl | hp
        · exact Nat.lt_succ_self _
        · exact Nat.lt_succ_of_lt (hl p hp)
      · rcases List.mem_cons.mp a with e | a <;> rcases List.mem_cons.mp b with e' | b
        · cases e; cases e'; rfl
        · cases e; exact absurd (hl _ b) (Nat.lt_irrefl _)
        · cases e'; exact absurd (hl _ a) (Nat.lt_irrefl _)
        · exact hi _ _ _ a b
    · rename_i hk
      rw [if_neg hk] at h2
      exact cells_inj hl hi h1 h2
theorem newEnv_comp {M : Model} {A : Around} {E : Value → Shared → Prop} {s : Shared} {scope : Scope} {globals : Addr} {closure : List (Str × Addr)} {qual : Str} {func : Option Addr} {code : Value} {around : Env} {builtins : Addr} {Q : Env → Shared → Prop}
    (h : Q (newEnv scope s.heap.objs.size globals (cellsFrom (s.heap.objs.size + 1) scope.names closure) qual func code (some around) builtins)
      { s with heap := pushCells (s.heap.push { cls := .type "dict", data := .dict #[] }) scope.names }) :
    wpAny M A (newFunctionEnv scope globals closure [] qual func code (some around) builtins) Q E s := by
  simp only [newFunctionEnv, Option.isSome_some, if_true]
  refine wpAny_bind (wpAny_alloc ?_)
  refine wpAny_bind (wpAny_layCells _ (fun n k c => rfl) scope.names closure _ _ ?_)
  rw [show ({ s with heap := s.heap.push { cls := .type "dict", data := .dict #[] } } : Shared).heap.objs.size = s.heap.objs.size + 1 from Heap.size_push ..]
  rw [List.forIn_nil]
  exact wpAny_bind (wpAny_pure (wpAny_pure h))
theorem lookup_relS {sc : Scope} : ∀ {names : List (Str × NameKind)} {x : Str} {k : NameKind},
    (names.map fun (n, k) => if (k == NameKind.free && sc.kind == .function && sc.names.lookup n == some .cell) then (n, NameKind.cell) else (n, k)).lookup x = some k →
    ∃ k', names.lookup x = some k' ∧ (k = k' ∨ (k' = .free ∧ k = .cell))
  | [], _, _, h => by simp at h
  | (n, k₀) :: r, x, k, h => by
    have ih := @lookup_relS sc r x k
    have h' : List.lookup x ((if (k₀ == NameKind.free && sc.kind == .function && sc.names.lookup n == some .cell) = true then (n, NameKind.cell) else (n, k₀)) :: (r.map _)) = some k := h
    cases hx : x == n with
    | true =>
      simp only [List.lookup_cons, hx]
      by_cases hc : (k₀ == NameKind.free && sc.kind == .function && sc.names.lookup n == some .cell) = true
      · rw [if_pos hc] at h'
        simp only [List.lookup_cons, hx] at h'
        cases h'
        simp only [Bool.and_eq_true, beq_iff_eq] at hc
        exact ⟨k₀, rfl, .inr ⟨hc.1.1, rfl⟩⟩
      · rw [if_neg hc] at h'
        simp only [List.lookup_cons, hx] at h'
        cases h'
        exact ⟨_, rfl, .inl rfl⟩
    | false =>
      simp only [List.lookup_cons, hx]
      by_cases hc : (k₀ == NameKind.free && sc.kind == .function && sc.names.lookup n == some .cell) = true
      · rw [if_pos hc] at h'
        simp only [List.lookup_cons, hx] at h'
        exact ih h'
      · rw [if_neg hc] at h'
        simp only [List.lookup_cons, hx] at h'
        exact ih h'
structure BlkOk (N : List Str) (sc scope : Scope) (own : List (Str × Nat)) : Prop where
  kind : scope.kind = .function
  uniq : ∀ y ∈ scope.names, scope.names.lookup y.1 = some y.2
  ix : ∀ p ∈ own, N[p.2]? = some p.1
  free : ∀ y ∈ scope.names, y.2 = .free → sc.names.lookup y.1 = some .cell ∨ sc.names.lookup y.1 = some .free
  own : ∀ y ∈ scope.names, y.2 = .local ∨ y.2 = .cell → y.1 ∈ own.map (·.1) ∨ y.1 ∉ N
def wipe (σ : St) : List Nat → St
  | [] => σ
  | v :: vs => (wipe σ vs).set v none
theorem wipe_length (σ : St) : ∀ vs : List Nat, (wipe σ vs).length = σ.length
  | [] => rfl
  | v :: vs => by unfold wipe; rw [List.length_set, wipe_length σ vs]
theorem wipe_some {σ : St} {i : Nat} {x : V} : ∀ {vs : List Nat}, (wipe σ vs)[i]? = some (some x) → σ[i]? = some (some x) ∧ i ∉ vs
  | [], h => ⟨h, by simp⟩
  | v :: vs, h => by
    unfold wipe at h
    by_cases hi : v = i
    · subst hi
      by_cases hv : v < (wipe σ vs).length
      · rw [List.getElem?_set_self hv] at h; cases h
      · rw [List.getElem?_eq_none (by simpa using hv)] at h; cases h
    · rw [List.getElem?_set_ne hi] at h
      obtain ⟨h1, h2⟩ := wipe_some h
      exact ⟨h1, by simp only [List.mem_cons, not_or]; exact ⟨fun e => hi e.symm, h2⟩⟩
abbrev Cx.blk (X : Cx) (s : Shared) (H : Hp) (scope : Scope) (cenv : Env) (fp : List Addr) : Cx := { X with s_0 := s, H_0 := H, env := cenv, outer := X.stack, ex := fp, fn := fun x => scope.names.lookup x == some .cell, pn := [], xe := fun _ _ => False }
section
variable {X : Cx} {pins : List (Addr × Obj)} {σ : St} {H : Hp} {s : Shared}
theorem block_start {scope : Scope} {own : List (Str × Nat)} {fp : List Addr} (I : Inv X pins σ H s) (ok : BlkOk X.N X.env.scope scope own) (hN : X.N.Nodup) (hfp : ∀ b ∈ fp, FpOk X pins H b ∧ b < s.heap.objs.size) :
    Inv (X.blk s H scope (compEnvC scope (cellsFrom (s.heap.objs.size + 1) scope.names (cloFrom X.env.cells scope.names [])) s.heap.objs.size X.env) fp) [] (wipe σ (own.map (·.2))) H { s with heap := pushCells (s.heap.push { cls := .type "dict", data := .dict #[] }) scope.names } := by
  have hfree : ∀ y ∈ scope.names, y.2 = .free → ∃ c, X.env.cells.lookup y.1 = some c := fun y hy e => by
    rcases ok.free y hy e with k | k
    · exact I.ok.has _ (.inl k)
    · exact I.ok.has _ (.inr k)
  generalize hcenv : compEnvC scope (cellsFrom (s.heap.objs.size + 1) scope.names (cloFrom X.env.cells scope.names [])) s.heap.objs.size X.env = cenv
  have kp : ∀ b o, s.heap.get? b = some o → (pushCells (s.heap.push { cls := .type "dict", data := .dict #[] }) scope.names).get? b = some o := fun b o e => pushCells_keeps _ _ _ _ (Heap.get?_push_of_some _ e)
  have hL : cenv.locals = s.heap.objs.size := by rw [← hcenv]; rfl
  have hcl : cenv.cells = cellsFrom (s.heap.objs.size + 1) scope.names (cloFrom X.env.cells scope.names []) := by rw [← hcenv]; rfl
  have hsc : cenv.scope = relS scope X.env.scope := by rw [← hcenv]; rfl
  rw [← Heap.size_push s.heap { cls := .type "dict", data := .dict #[] }] at hcl
  have cm : ∀ {y c}, (y, c) ∈ cloFrom X.env.cells scope.names [] → X.env.cells.lookup y = some c ∧ c < s.heap.objs.size := fun {y c} hm => by
    rcases cloFrom_mem hm with hm | ⟨h1, rfl⟩
    · cases hm
    · obtain ⟨c, hc⟩ := hfree _ h1 rfl
      rw [hc]
      obtain ⟨w, z⟩ := I.cell _ _ hc
      exact ⟨rfl, z.lt⟩
  have mem : ∀ {y c}, cenv.cells.lookup y = some c → (X.env.cells.lookup y = some c ∧ c < s.heap.objs.size) ∨ (s.heap.objs.size + 1 ≤ c ∧ CellAt (pushCells (s.heap.push { cls := .type "dict", data := .dict #[] }) scope.names) c none) := fun {y c} e => by
    rw [hcl] at e
    rcases cells_mem (PySem.mem_of_lookup e) with hm | ⟨_, h2, h3⟩
    · exact .inl (cm hm)
    · rw [Heap.size_push] at h2; exact .inr ⟨h2, h3⟩
  have look : ∀ {y}, scope.names.lookup y = some .free → ∃ c, cenv.cells.lookup y = some c ∧ X.env.cells.lookup y = some c := fun {y} hl => by
    have hy : (y, NameKind.free) ∈ scope.names := PySem.mem_of_lookup hl
    obtain ⟨c', e'⟩ := mem_lookup (cells_acc (names := scope.names) (n := (s.heap.push { cls := .type "dict", data := .dict #[] }).objs.size) (cloFrom_has (cells := X.env.cells) (acc := []) hy))
    rw [← hcl] at e'
    refine ⟨c', e', ?_⟩
    rw [hcl] at e'
    rcases cells_mem (PySem.mem_of_lookup e') with hm | ⟨h1, _, _⟩
    · exact (cm hm).1
    · have := ok.uniq _ h1
      rw [hl] at this; cases this
  have okB : (X.blk s H scope cenv fp).Ok := by
    refine ⟨I.ok.mod, by show cenv.scope.kind = _; rw [hsc]; exact ok.kind, by show cenv.globals = _; rw [← hcenv]; exact I.ok.glob, by show cenv.builtins = _; rw [← hcenv]; exact I.ok.blt, by show s.heap.objs.size ≤ cenv.locals; rw [hL]; exact Nat.le_refl _,
      fun y z c e1 e2 => ?_, fun y hy => ?_, fun y c z e => ?_, I.ok.hd, I.ok.frames, .inl rfl, fun b hb => ⟨?_, fun y c e z => ?_⟩, I.bs, Nat.le_trans I.ok.bsz I.sz, fun b o e hb => ?_, fun b hb z => ?_, I.stack, I.stkFree⟩
    · have e1 : cenv.cells.lookup y = some c := e1
      have e2 : cenv.cells.lookup z = some c := e2
      rw [hcl] at e1 e2
      refine cells_inj (fun p hp => ?_) (fun y z c a b => I.ok.inj y z c (cm a).1 (cm b).1) (PySem.mem_of_lookup e1) (PySem.mem_of_lookup e2)
      rw [Heap.size_push]
      exact Nat.lt_succ_of_lt (cm (y := p.1) (c := p.2) hp).2
    · show ∃ c, cenv.cells.lookup y = some c
      have key : ∀ k, cenv.kindOf y = some k → (k = .cell ∨ k = .free) → ∃ c, cenv.cells.lookup y = some c := fun k hk hk' => by
        unfold Env.kindOf at hk
        rw [hsc] at hk
        obtain ⟨k', e, r⟩ := lookup_relS hk
        have : k' = .cell ∨ k' = .free := by
          rcases r with rfl | ⟨rfl, _⟩
          · exact hk'
          · exact .inr rfl
        rcases this with rfl | rfl
        · obtain ⟨c, hm⟩ := cells_has (n := (s.heap.push { cls := .type "dict", data := .dict #[] }).objs.size) (acc := cloFrom X.env.cells scope.names []) (PySem.mem_of_lookup e)
          obtain ⟨c', e'⟩ := mem_lookup hm
          exact ⟨c', by rw [hcl]; exact e'⟩
        · obtain ⟨c, h1, _⟩ := look e
          exact ⟨c, h1⟩
      rcases hy with hy | hy
      · exact key _ hy (.inl rfl)
      · exact key _ hy (.inr rfl)
    · have z : (scope.names.lookup y == some NameKind.cell) = true := z
      have z : scope.names.lookup y = some .cell := by simpa using z
      have e : cenv.cells.lookup y = some c := e
      rw [hcl] at e
      rcases cells_mem (PySem.mem_of_lookup e) with hm | ⟨_, h2, _⟩
      · rcases cloFrom_mem hm with hm | ⟨h1, _⟩
        · cases hm
        · have q := ok.uniq _ h1
          rw [z] at q; cases q
      · rw [Heap.size_push] at h2
        exact Nat.le_of_succ_le h2
    · show b ≠ cenv.locals
      rw [hL]; exact Nat.ne_of_lt (hfp b hb).2
    · have e : cenv.cells.lookup y = some c := e
      rcases mem e with ⟨h1, _⟩ | ⟨h1, _⟩
      · exact (hfp b hb).1.2.2.2.2.1 y c h1 z
      · have h2 : s.heap.objs.size + 1 ≤ b := by rw [← z]; exact h1
        exact absurd (Nat.lt_of_lt_of_le (hfp b hb).2 (Nat.le_of_succ_le h2)) (Nat.lt_irrefl _)
    · rcases (hfp b hb).1.2.2.2.1 with z | z
      · exact I.ok.noex b o e z
      · exact absurd (Nat.lt_of_lt_of_le (Heap.lt_size e) (Nat.le_trans I.ok.bsz z)) (Nat.lt_irrefl _)
    · rcases List.mem_cons.mp (I.stkSub b z) with z | z
      · exact (hfp b hb).1.2.1 z
      · exact (hfp b hb).1.2.2.1 z
  refine ⟨okB, rfl, I.bare, Un.kept kp, ⟨fun _ => none, ?_, fun i y av e1 e2 e3 => ?_⟩, fun y c e => ?_, ?_, fun y c e => ?_, fun p hp => ?_, I.hok.kept kp, by rw [wipe_length]; exact I.len⟩
  · show Heap.Ns _ cenv.locals _
    rw [hL]
    exact Heap.Ns.keeps (Heap.Ns.new ..) fun b o e => pushCells_keeps _ _ _ _ e
  · obtain ⟨e2, hne⟩ := wipe_some e2
    have hfr : scope.names.lookup y = some .free ∧ (cenv.kindOf y = some .cell ∨ cenv.kindOf y = some .free) := by
      have key : ∀ k, cenv.scope.names.lookup y = some k → k = .local ∨ k = .cell ∨ k = .free → scope.names.lookup y = some .free ∧ (cenv.kindOf y = some .cell ∨ cenv.kindOf y = some .free) := fun k hk hk' => by
        have hk0 := hk
        rw [hsc] at hk
        obtain ⟨k', e, r⟩ := lookup_relS hk
        have no : ¬ (k' = .local ∨ k' = .cell) := fun hh => by
          rcases ok.own _ (PySem.mem_of_lookup e) hh with e' | e'
          · obtain ⟨p, hp, hpy⟩ := List.mem_map.mp e'
            have e3 := ok.ix p hp
            have : p.1 = y := hpy
            rw [this] at e3
            exact hne (List.mem_map.mpr ⟨p, hp, nodup_ix hN e3 e1⟩)
          · exact e' (List.mem_of_getElem? e1)
        rcases r with rfl | ⟨rfl, rfl⟩
        · rcases hk' with rfl | rfl | rfl
          · exact absurd (.inl rfl) no
          · exact absurd (.inr rfl) no
          · exact ⟨e, .inr hk0⟩
        · exact ⟨e, .inl hk0⟩
      have e3 : Vis cenv.scope y := e3
      rcases e3 with e3 | e3 | e3
      · exact key _ e3 (.inl rfl)
      · exact key _ e3 (.inr (.inl rfl))
      · exact key _ e3 (.inr (.inr rfl))
    obtain ⟨m, hn, hl⟩ := I.loc
    have hvis : Vis X.env.scope y := (ok.free _ (PySem.mem_of_lookup hfr.1) rfl).elim (fun k => .inr (.inl k)) (fun k => .inr (.inr k))
    obtain ⟨w, r, q⟩ := hl i y av e1 e2 hvis
    refine ⟨w, r, .inr ⟨hfr.2, ?_⟩⟩
    obtain ⟨c, h1, h2⟩ := look hfr.1
    rcases q with ⟨k, _⟩ | ⟨_, c', e', z⟩
    · have k : X.env.scope.names.lookup y = some .local := k
      rcases ok.free _ (PySem.mem_of_lookup hfr.1) rfl with k' | k' <;> rw [show X.env.scope.names.lookup y = _ from k'] at k <;> cases k
    · rw [h2] at e'; cases e'
      exact ⟨c, h1, z.keeps kp⟩
  · have e : cenv.cells.lookup y = some c := e
    rcases mem e with ⟨h1, _⟩ | ⟨_, z⟩
    · obtain ⟨w, z⟩ := I.cell y c h1
      exact ⟨w, z.keeps kp⟩
    · exact ⟨_, z⟩
  · show H cenv.locals = none
    rw [hL]; exact I.hok.fresh (Nat.le_refl _)
  · have e : cenv.cells.lookup y = some c := e
    rcases mem e with ⟨h1, _⟩ | ⟨h1, _⟩
    · exact I.freeC y c h1
    · exact I.hok.fresh (Nat.le_of_succ_le h1)
  · exact absurd (show p ∈ ([] : List (Addr × Obj)) ++ [] from hp) (by simp)
theorem app_ok {E : Value → Shared → Prop} {D : Addr} {xs : List V} {y : V} {v : Value} {Q : Value → Shared → Prop} (I : Inv X pins σ H s) (hD : H D = some (.lst xs)) (hz : xs.length < sizeLine) (r : RelV y v)
    (h : ∀ s', Inv X pins σ (upd H D (.lst (xs ++ [y]))) s' → Q .none s') : wpAny (model X.prog X.w) X.A (call (.builtin "list.append") [.ref D, v]) Q E s := by
  obtain ⟨hz', its, n, ri, e⟩ := I.hok D _ hD
  have hl := ri.length
  refine append_at (hsz := by rw [List.size_toArray]; omega) e fun h' sb ho' => ?_
  refine h { s with heap := h' } (I.write (t' := s.toks) (by rw [hD]; trivial) (.inl rfl) (fun b u hb q => (sb.2 b hb).trans q) ⟨_, ho'⟩ ⟨by rw [List.length_append]; exact hz, its ++ [v], n + 1, ri.append (.cons r .nil), ?_⟩)
  rw [ho']
  simp
def PTs (X : Cx) (ifs : List Expr) (t : TT) : Prop :=
  ∀ (pins : List (Addr × Obj)) (s : Shared) (σ : St) (H : Hp) (Q : Bool → Hp → Prop), Inv X pins σ H s → t σ H Q →
    wpAny (model X.prog X.w) X.A (forIn ifs true fun c r => if r = true then do let ok ← isTrue c X.env (eval c X.env); pure (ForInStep.yield ok) else pure (ForInStep.yield r)) (TP X pins σ Q) X.xe s
def tYes : TT := fun _ H Q => Q true H
theorem pts_nil : PTs X [] tYes := fun _ _ _ H _ I h => wpAny_tests_nil ⟨H, I, h⟩
theorem pts_one {c : Expr} {t : TT} (h : PT X c t) : PTs X [c] t := fun pins s σ H Q I hw => wpAny_tests_one (h pins s σ H Q I hw)
end
theorem thnF {α : Type} {t : Sem α} {Q Q' : α → Shared → Prop} {M : Model} {A : Around} {E : Value → Shared → Prop} {s : Shared} (h : wpAny M A t Q (fun _ _ => False) s) (hQ : ∀ a s, Q a s → Q' a s) : wpAny M A t Q' E s := wpAny_mono h hQ fun _ _ z => False.elim z
theorem compLoop_any {prog : Program} {w : World} {A : Around} {R : Result → Shared → Prop} {s : Shared} {elt target iter : Expr} {ifs : List Expr} {scope : Scope} {pos : Pos} {it acc : Value} {env : Env} (I : Nat → Shared → Prop)
    (turn : ∀ n s, I n s → wpAny (model prog w) A (pyNext it) (fun r s₁ => match r with
      | none => R (.ok .next) s₁
      | some v => wpAny (model prog w) A (letOwnedTupleGo target it v) (fun _ s₁' => wpAny (model prog w) A (assign target env v) (fun _ s₂ =>
          wpAny (model prog w) A (forIn ifs true fun c r => if r = true then do let ok ← isTrue c env (eval c env); pure (ForInStep.yield ok) else pure (ForInStep.yield r)) (fun ok s₃ =>
            if ok = true then wpAny (model prog w) A (eval elt env) (fun x s₄ =>
              wpAny (model prog w) A (call (.builtin "list.append") [acc, x]) (fun _ s₅ => ∃ m, m < n ∧ I m s₅) (notedBy (model prog w) A env fun e s' => R (.error e) s') s₄) (notedBy (model prog w) A env fun e s' => R (.error e) s') s₃
            else ∃ m, m < n ∧ I m s₃) (notedBy (model prog w) A env fun e s' => R (.error e) s') s₂) (notedBy (model prog w) A env fun e s' => R (.error e) s') s₁') (notedBy (model prog w) A env fun e s' => R (.error e) s') s₁) (notedBy (model prog w) A env fun e s' => R (.error e) s') s)
    (n : Nat) (h : I n s) :
    codeAny (model prog w) A (.compLoop (.ListComp elt [⟨target, iter, ifs, 0⟩] scope pos) 0 it acc env) R s := by
  refine codeAny_loop rfl I (fun n s hI => ?_) n h
  show wpAny _ A ((compTurn (.ListComp elt [⟨target, iter, ifs, 0⟩] scope pos) 0 it acc env).onRaise (fun x => do noteFrame x env; theTreesLotGoes x)) _ _ s
  refine wpAny_noted ?_
  rw [compTurn_list]
  refine wpAny_bind (wpAny_standAt (wpAny_bind (wpAny_mono (turn n s hI) (fun r s₁ h₁ => ?_) fun _ _ h' => h')))
  cases r with
  | none => exact wpAny_pure h₁
  | some v =>
    refine wpAny_bind (wpAny_mono h₁ (fun _ s₁' h₁' => ?_) fun _ _ h' => h')
    refine wpAny_bind (wpAny_mono h₁' (fun _ s₂ h₂ => wpAny_bind (wpAny_mono h₂ (fun ok s₃ h₃ => ?_) fun _ _ h' => h')) fun _ _ h' => h')
    cases ok with
    | false => exact wpAny_pure ⟨rfl, h₃⟩
    | true =>
      exact wpAny_bind (wpAny_bind (wpAny_mono h₃ (fun x s₄ h₄ => wpAny_bind (wpAny_mono h₄ (fun _ s₅ h₅ => wpAny_pure (wpAny_pure ⟨rfl, h₅⟩)) fun _ _ h' => h')) fun _ _ h' => h'))
section
variable {X : Cx}
def tLc (wi : TI) (g : TG) (tt : TT) (te : TE) (vs : List Nat) : TE := fun σ H Q => wi σ H fun J H1 => ∀ D, H1 D = none → ∃ W : Nat → Nat → Hp → Prop, (∃ m, W 0 m (upd H1 D (.lst []))) ∧ ∀ i m H, W i m H →
  (J.stop i H ∧ Q (.ref D) H) ∨ (J.go i H ∧ ∃ Nx : Hp → Prop, (∀ H', Nx H' → ∃ m', m' < m ∧ W (i + 1) m' H') ∧ ∀ x H', J.yld i H x H' → g x (wipe σ vs) H' fun σ2 H2 => wipe σ2 vs = wipe σ vs ∧ tt σ2 H2 fun b H3 =>
    if b = true then te σ2 H3 fun y H4 => ∃ acc, H4 D = some (.lst acc) ∧ acc.length < sizeLine ∧ Nx (upd H4 D (.lst (acc ++ [y]))) else Nx H3)
theorem lc_core {pins : List (Addr × Obj)} {s : Shared} {σ : St} {H : Hp} {Q : VK} {elt tg iter : Expr} {ifs : List Expr} {scope : Scope} {own : List (Str × Nat)} {pos pos' : Pos} {wi : TI} {g : TG} {tt : TT} {te : TE} {use : Option (Value → Sem Unit)} {Qf : Value → Shared → Prop}
    (hc : X.calm = true) (hN : X.N.Nodup) (I : Inv X pins σ H s) (hi : PI X tg iter wi) (ok : BlkOk X.N X.env.scope scope own)
    (hg : ∀ (s : Shared) (H : Hp) (C : Addr) (cl : List (Str × Addr)) (fp : List Addr), PG (X.blk s H scope (compEnvC scope cl C X.env) fp) tg g) (ht : ∀ (s : Shared) (H : Hp) (C : Addr) (cl : List (Str × Addr)) (fp : List Addr), PTs (X.blk s H scope (compEnvC scope cl C X.env) fp) ifs tt)
    (he : ∀ (s : Shared) (H : Hp) (C : Addr) (cl : List (Str × Addr)) (fp : List Addr), PE (X.blk s H scope (compEnvC scope cl C X.env) fp) elt te) (hs : ∀ x, foldedSetIterable iter X.env x = pure x)
    (h : tLc wi g tt te (own.map (·.2)) σ H Q)
    (hRR : ∀ D C s' m H', Inv X pins σ H' s' → Q (.ref D) H' → s'.heap.Ns C m → FpOk X pins H' C → compPost (model X.prog X.w) X.A X.xe use Qf (.ref D) C (.ok .next) s') :
    wpAny (model X.prog X.w) X.A (comprehension (.ListComp elt [⟨tg, iter, ifs, 0⟩] scope pos) scope X.env pos' (newList []) false (eval iter X.env) use) Qf X.xe s := by
  have hfree : ∀ y ∈ scope.names, y.2 = .free → ∃ c, X.env.cells.lookup y.1 = some c := fun y hy e => by
    rcases ok.free y hy e with k | k
    · exact I.ok.has _ (.inl k)
    · exact I.ok.has _ (.inr k)
  refine wpAny_comprehension_free (use := use) rfl hs (closure_ok hfree) ok.kind (fun y hy e => by rw [ok.uniq y hy, e])
    (thn (hi pins s σ H _ I h) fun xv s1 hx => thn hx fun itv s2 h2 => ?_)
  obtain ⟨it, fp, tn, J, H2, e, I2, T, st2, f2, q⟩ := h2
  subst e
  refine wpAny_newObj_type (newEnv_comp ?_) (by show 0 ≤ sizeLine; decide)
  generalize hD : s2.heap.objs.size = D
  have hDn : H2 D = none := I2.hok.fresh (Nat.le_of_eq hD)
  obtain ⟨W, ⟨m0, w0⟩, turn⟩ := q D hDn
  -- the new list
  generalize hs3 : ({ s2 with heap := s2.heap.push { cls := .type "list", data := .seq ([] : List Value).toArray } } : Shared) = s3
  have I3 : Inv X pins σ (upd H2 D (.lst [])) s3 := by
    rw [← hs3]
    refine I2.laid (t' := s2.toks) (fun b o e => Heap.get?_push_of_some _ e) (Nat.le_of_eq hD) ⟨Nat.zero_le _, [], 0, .nil, ?_⟩
    rw [← hD]
    exact Heap.get?_push_size _ rfl
  have h3 : s3.heap = s2.heap.push { cls := .type "list", data := .seq ([] : List Value).toArray } := by rw [← hs3]
  have sz : ∀ b ∈ fp, b < s2.heap.objs.size := fun b hb => by
    obtain ⟨o, e, _⟩ := T.obj _ _ st2 b hb
    exact Heap.lt_size e
  have f3 : ∀ b ∈ fp, FpOk X pins (upd H2 D (.lst [])) b ∧ b < s3.heap.objs.size := fun b hb => by
    have hlt := sz b hb
    refine ⟨⟨?_, (f2 b hb).2⟩, by rw [h3, Heap.size_push]; exact Nat.lt_succ_of_lt hlt⟩
    rw [upd_ne (by rw [← hD]; exact Nat.ne_of_lt hlt)]
    exact (f2 b hb).1
  have st3 : tn 0 s3.heap := T.keep _ _ _ st2 fun b _ o e => by rw [h3]; exact Heap.get?_push_of_some _ e
  have I4 := block_start I3 ok hN f3
  have pg := hg s3 (upd H2 D (.lst [])) s3.heap.objs.size (cellsFrom (s3.heap.objs.size + 1) scope.names (cloFrom X.env.cells scope.names [])) fp
  have pt := ht s3 (upd H2 D (.lst [])) s3.heap.objs.size (cellsFrom (s3.heap.objs.size + 1) scope.names (cloFrom X.env.cells scope.names [])) fp
  have pe := he s3 (upd H2 D (.lst [])) s3.heap.objs.size (cellsFrom (s3.heap.objs.size + 1) scope.names (cloFrom X.env.cells scope.names [])) fp
  show codeAny _ _ (.compStart (.ListComp elt [⟨tg, iter, ifs, 0⟩] scope pos) 0 (.ref it) (.ref D) (compEnvC scope (cellsFrom (s3.heap.objs.size + 1) scope.names (cloFrom X.env.cells scope.names [])) s3.heap.objs.size X.env)) (compPost (model X.prog X.w) X.A X.xe use Qf (.ref D) s3.heap.objs.size) { s3 with heap := pushCells (s3.heap.push { cls := .type "dict", data := .dict #[] }) scope.names }
  have nfp : ∀ b ∈ fp, (upd H2 D (.lst [])) b = none := fun b hb => (f3 b hb).1.1
  generalize hce : compEnvC scope (cellsFrom (s3.heap.objs.size + 1) scope.names (cloFrom X.env.cells scope.names [])) s3.heap.objs.size X.env = ce at I4 pg pt pe ⊢
  have cL : ce.locals = s3.heap.objs.size := by subst hce; rfl
  generalize hH3 : upd H2 D (.lst []) = H3 at I3 I4 pg pt pe w0 nfp f3
  generalize hs4 : ({ s3 with heap := pushCells (s3.heap.push { cls := .type "dict", data := .dict #[] }) scope.names } : Shared) = s4 at I4 ⊢
  have st4 : tn 0 s4.heap := T.keep _ _ _ st3 fun b _ o e => by rw [← hs4]; exact pushCells_keeps _ _ _ _ (Heap.get?_push_of_some _ e)
  have stat : ∀ {σ' : St} {H' : Hp} {s' : Shared}, Inv (X.blk s3 H3 scope ce fp) [] σ' H' s' → (∀ b ∈ fp, H' b = none) → ∀ b ∈ fp, FpOk (X.blk s3 H3 scope ce fp) [] H' b := fun {σ' H' s'} I' hn b hb =>
    ⟨hn b hb, (I'.ok.exf b hb).1, I'.ok.exfs b hb, .inl hb, fun x c e => (I'.ok.exf b hb).2 x c e, fun p hp => absurd (show p ∈ ([] : List (Addr × Obj)) ++ [] from hp) (by simp)⟩
  have loop : codeAny (model X.prog X.w) X.A (.compLoop (.ListComp elt [⟨tg, iter, ifs, 0⟩] scope pos) 0 (.ref it) (.ref D) ce) (compPost (model X.prog X.w) X.A X.xe use Qf (.ref D) s3.heap.objs.size) s4 := by
    refine compLoop_any (fun n s' => ∃ i H', Inv (X.blk s3 H3 scope ce fp) [] (wipe σ (own.map (·.2))) H' s' ∧ tn i s'.heap ∧ (∀ b ∈ fp, H' b = none) ∧ W i n H') ?_ m0 ⟨0, H3, I4, st4, nfp, w0⟩
    rintro n s5 ⟨i, H5, I5, st5, n5, w5⟩
    rcases turn i n H5 w5 with ⟨stop, qq⟩ | ⟨go, Nx, hNx, step⟩
    · have td := T.done (X.blk s3 H3 scope ce fp) rfl rfl rfl hc i [] s5 _ H5 (fun _ _ => False) I5 (stat I5 n5) st5 stop
      refine thnF td fun r s6 ⟨hr, I6⟩ => ?_
      subst hr
      -- back in the def's context
      have I7 : Inv X pins σ H5 s6 := I3.call' (ch := fp) I6.os I6.base I6.hok I6.bare fun b hb => ⟨(f3 b hb).1.2.2.2.1, (f3 b hb).1.2.1, (f3 b hb).1.2.2.2.2.1, (f3 b hb).1.2.2.2.2.2⟩
      have nC : H5 s3.heap.objs.size = none := by
        have z : H5 ce.locals = none := I6.free
        rw [cL] at z
        exact z
      obtain ⟨m, hn, _⟩ := I6.loc
      have hn : s6.heap.Ns ce.locals m := hn
      rw [cL] at hn
      exact hRR D s3.heap.objs.size s6 m H5 I7 qq hn (I3.fpOk (Nat.le_refl _) nC)
    · have ti := T.item (X.blk s3 H3 scope ce fp) rfl rfl rfl hc i [] s5 _ H5 (fun _ _ => False) I5 (stat I5 n5) st5 go
      refine thnF ti fun r s6 ⟨u, hr, h6⟩ => ?_
      subst hr
      refine thnF h6 fun _ s7 ⟨x, H7, I7, r7, y7, st7, n7⟩ => ?_
      have I7' := I7.pinned (stat I7 n7) (T.obj _ _ st7)
      refine thnF (pg _ s7 _ H7 x u _ I7' r7 (step x H7 y7)) fun _ s8 ⟨σ8, H8, I8, hw8, q8⟩ => ?_
      refine thnF (pt _ s8 σ8 H8 _ I8 q8) fun b s9 ⟨H9, I9, q9⟩ => ?_
      -- the turn's end
      have fin : ∀ {s' : Shared} {H' : Hp}, Inv (X.blk s3 H3 scope ce fp) ([] ++ pinsAt fp s7.heap) σ8 H' s' → Nx H' → ∃ m, m < n ∧ ∃ i H', Inv (X.blk s3 H3 scope ce fp) [] (wipe σ (own.map (·.2))) H' s' ∧ tn i s'.heap ∧ (∀ b ∈ fp, H' b = none) ∧ W i m H' := fun {s' H'} I' nx => by
        obtain ⟨m', hm, w'⟩ := hNx H' nx
        have pin' : ∀ b ∈ fp, ∀ o, s7.heap.get? b = some o → s'.heap.get? b = some o ∧ H' b = none := fun b hb o e =>
          let z := I'.pin (b, o) (List.mem_append_right _ (List.mem_append_right _ (mem_pinsAt hb e)))
          ⟨z.1, z.2.1⟩
        have hl : (wipe σ (own.map (·.2))).length = σ8.length := by rw [← hw8, wipe_length]
        refine ⟨m', hm, i + 1, H', (I'.unpinned (pins := [])).weak hl (fun j v e => ?_), T.keep _ _ _ st7 fun b hb o e => (pin' b hb o e).1, fun b hb => ?_, w'⟩
        · rw [← hw8] at e
          exact (wipe_some e).1
        · obtain ⟨o, e, _⟩ := T.obj _ _ st7 b hb
          exact (pin' b hb o e).2
      cases b with
      | false =>
        simp only [Bool.false_eq_true, if_false] at q9 ⊢
        exact fin I9 q9
      | true =>
        simp only [if_true] at q9 ⊢
        refine thnF (pe _ s9 σ8 H9 _ I9 q9) fun z s10 ⟨yv, H10, I10, r10, acc, hD10, hz10, nx⟩ => ?_
        exact app_ok (X := X.blk s3 H3 scope ce fp) I10 hD10 hz10 r10 fun s11 I11 => fin I11 nx
  exact codeAny_compStart_list loop (T.self X.A 0 _ _ _ st4 loop)
theorem pe_lc {elt tg iter : Expr} {ifs : List Expr} {scope : Scope} {own : List (Str × Nat)} {pos : Pos} {wi : TI} {g : TG} {tt : TT} {te : TE} (hc : X.calm = true) (hN : X.N.Nodup) (hi : PI X tg iter wi) (ok : BlkOk X.N X.env.scope scope own)
    (hg : ∀ (s : Shared) (H : Hp) (C : Addr) (cl : List (Str × Addr)) (fp : List Addr), PG (X.blk s H scope (compEnvC scope cl C X.env) fp) tg g) (ht : ∀ (s : Shared) (H : Hp) (C : Addr) (cl : List (Str × Addr)) (fp : List Addr), PTs (X.blk s H scope (compEnvC scope cl C X.env) fp) ifs tt)
    (he : ∀ (s : Shared) (H : Hp) (C : Addr) (cl : List (Str × Addr)) (fp : List Addr), PE (X.blk s H scope (compEnvC scope cl C X.env) fp) elt te) (hs : ∀ x, foldedSetIterable iter X.env x = pure x := by intro _; rfl) :
    PE X (.ListComp elt [⟨tg, iter, ifs, 0⟩] scope pos) (tLc wi g tt te (own.map (·.2))) := by
  intro pins s σ H Q I h
  rw [eval_ListComp]
  refine lc_core hc hN I hi ok hg ht he hs h fun D C s' m H' I' q hn f => ⟨m, hn, fun h'' sb => ?_⟩
  obtain ⟨f0, f1, f2, f3, f4, f5⟩ := f
  exact ⟨.ref D, H', I'.turned (t' := s'.toks) (fun b o hb e => (sb.2 b hb).trans e) f0 f1 f3 f4 f5, rfl, q⟩
theorem ps_setLc {i : Nat} {y : Str} {py : Pos} {elt tg iter : Expr} {ifs : List Expr} {scope : Scope} {own : List (Str × Nat)} {pos spos : Pos} {wi : TI} {g : TG} {tt : TT} {te : TE} (hc : X.calm = true) (hN : X.N.Nodup) (hy : X.N[i]? = some y) (hyl : X.env.scope.names.lookup y = some .local)
    (hsw : swapsWith (.ListComp elt [⟨tg, iter, ifs, 0⟩] scope pos) (some (.Name y py)) spos.line X.env = pure true) (hi : PI X tg iter wi) (ok : BlkOk X.N X.env.scope scope own)
    (hg : ∀ (s : Shared) (H : Hp) (C : Addr) (cl : List (Str × Addr)) (fp : List Addr), PG (X.blk s H scope (compEnvC scope cl C X.env) fp) tg g) (ht : ∀ (s : Shared) (H : Hp) (C : Addr) (cl : List (Str × Addr)) (fp : List Addr), PTs (X.blk s H scope (compEnvC scope cl C X.env) fp) ifs tt)
    (he : ∀ (s : Shared) (H : Hp) (C : Addr) (cl : List (Str × Addr)) (fp : List Addr), PE (X.blk s H scope (compEnvC scope cl C X.env) fp) elt te) (hs : ∀ x, foldedSetIterable iter X.env x = pure x := by intro _; rfl) :
    PS X (.Assign [.Name y py] (.ListComp elt [⟨tg, iter, ifs, 0⟩] scope pos) spos) (tAsg (tLc wi g tt te (own.map (·.2))) (gName i)) := by
  intro pins s σ H D I h
  rw [exec_Assign_Name_used _ _ _ _ hsw]
  refine wpAny_bind (wpAny_standAt (wpAny_bind ?_))
  show wpAny _ X.A (do let _ ← comprehension (.ListComp elt [⟨tg, iter, ifs, 0⟩] scope pos) scope X.env (firstIterPos [⟨tg, iter, ifs, 0⟩] pos) (newList []) false (eval iter X.env) (some (assign (.Name y py) X.env))) _ _ s
  have h : tLc wi g tt te (own.map (·.2)) σ H (fun x H1 => gName i x σ H1 D.nx) := h
  refine wpAny_bind (thn (lc_core (Qf := fun _ s' => SP X pins D .next s') hc hN I hi ok hg ht he hs h fun L C s' m H' I' q hn f => ?_) fun _ s' hq => wpAny_pure (wpAny_pure hq))
  show wpAny _ _ (assign (.Name y py) X.env (.ref L)) _ _ _
  refine wpAny_assign_Name (store_ok2 (v := V.ref L) I' hN hy (.inl hyl) rfl (fun s2 I2 ⟨a, sb, ha⟩ => ?_) (.inr hyl))
  obtain ⟨f0, f1, f2, f3, f4, f5⟩ := f
  have haC : C ≠ a := by
    rcases ha with z | z
    · rw [z]; exact f1
    · exact fun e => f4 y a z e.symm
  refine ⟨m, hn.sameBut sb haC, fun h3 sb3 => ?_⟩
  exact ⟨_, H', I2.turned (t' := s2.toks) (fun b o hb e => (sb3.2 b hb).trans e) f0 f1 f3 f4 f5, q⟩
theorem sw_true {elt : Expr} {gs : List Comprehension} {scope : Scope} {pos py : Pos} {y : Str} {l : Nat} {env : Env} (hk : env.scope.kind = .function) (hy : env.scope.names.lookup y = some .local) (hl : (py.line == pos.line) = true)
    (ha : (scope.names.any fun (n, k) => n == y && (k == .local || k == .cell)) = false) : swapsWith (.ListComp elt gs scope pos) (some (.Name y py)) l env = pure true := by
  have ky : env.kindOf y = some .local := hy
  have hb : env.blockKind = .function := by unfold Env.blockKind; rw [hk]; rfl
  unfold swapsWith
  simp only [hb, ky, ha, Expr.pos, hl]
  rfl
end
theorem lc_list {K : PySem.W.Frag} {a : Addr} {xs : List V} {g : TG} {tt : TT} {te : TE} {vs : List Nat} {σ : St} {H1 : Hp} {D : Addr} {Qd : Hp → Prop} (Pv : Nat → Hp → Prop) (h0 : Pv 0 (upd H1 D (.lst []))) (hl : ∀ i H, i ≤ xs.length → Pv i H → SqL K H a xs)
    (hs : ∀ i x H, xs[i]? = some x → Pv i H → g x (wipe σ vs) H fun σ2 H2 => wipe σ2 vs = wipe σ vs ∧ tt σ2 H2 fun b H3 =>
      if b = true then te σ2 H3 fun y H4 => ∃ acc, H4 D = some (.lst acc) ∧ acc.length < sizeLine ∧ Pv (i + 1) (upd H4 D (.lst (acc ++ [y]))) else Pv (i + 1) H3) (hd : ∀ H, Pv xs.length H → Qd H) :
    ∃ W : Nat → Nat → Hp → Prop, (∃ m, W 0 m (upd H1 D (.lst []))) ∧ ∀ i m H, W i m H →
      ((Itl K a).stop i H ∧ Qd H) ∨ ((Itl K a).go i H ∧ ∃ Nx : Hp → Prop, (∀ H', Nx H' → ∃ m', m' < m ∧ W (i + 1) m' H') ∧ ∀ x H', (Itl K a).yld i H x H' → g x (wipe σ vs) H' fun σ2 H2 => wipe σ2 vs = wipe σ vs ∧ tt σ2 H2 fun b H3 =>
        if b = true then te σ2 H3 fun y H4 => ∃ acc, H4 D = some (.lst acc) ∧ acc.length < sizeLine ∧ Nx (upd H4 D (.lst (acc ++ [y]))) else Nx H3) := by
  refine ⟨fun i m H => m = xs.length - i ∧ i ≤ xs.length ∧ Pv i H, ⟨xs.length, by simp, Nat.zero_le _, h0⟩, ?_⟩
  rintro i m H ⟨rfl, hi, p⟩
  have q := hl i H hi p
  by_cases hlt : i < xs.length
  · refine .inr ⟨⟨xs, xs[i], q, by simp [hlt]⟩, Pv (i + 1), fun H' p' => ⟨xs.length - (i + 1), by omega, rfl, hlt, p'⟩, fun x H' y => ?_⟩
    obtain ⟨e, y⟩ := y
    subst e
    exact hs i x _ (y xs q) p
  · have e : i = xs.length := by omega
    subst e
    exact .inl ⟨⟨xs, q, Nat.le_refl _⟩, hd H p⟩
theorem lc_tup {K : PySem.W.Frag} {a : Addr} {xs : List V} {g : TG} {tt : TT} {te : TE} {vs : List Nat} {σ : St} {H1 : Hp} {D : Addr} {Qd : Hp → Prop} (Pv : Nat → Hp → Prop) (h0 : Pv 0 (upd H1 D (.lst []))) (hl : ∀ i H, i ≤ xs.length → Pv i H → SqT K H a xs)
    (hs : ∀ i x H, xs[i]? = some x → Pv i H → g x (wipe σ vs) H fun σ2 H2 => wipe σ2 vs = wipe σ vs ∧ tt σ2 H2 fun b H3 =>
      if b = true then te σ2 H3 fun y H4 => ∃ acc, H4 D = some (.lst acc) ∧ acc.length < sizeLine ∧ Pv (i + 1) (upd H4 D (.lst (acc ++ [y]))) else Pv (i + 1) H3) (hd : ∀ H, Pv xs.length H → Qd H) :
    ∃ W : Nat → Nat → Hp → Prop, (∃ m, W 0 m (upd H1 D (.lst []))) ∧ ∀ i m H, W i m H →
      ((Itt K a).stop i H ∧ Qd H) ∨ ((Itt K a).go i H ∧ ∃ Nx : Hp → Prop, (∀ H', Nx H' → ∃ m', m' < m ∧ W (i + 1) m' H') ∧ ∀ x H', (Itt K a).yld i H x H' → g x (wipe σ vs) H' fun σ2 H2 => wipe σ2 vs = wipe σ vs ∧ tt σ2 H2 fun b H3 =>
        if b = true then te σ2 H3 fun y H4 => ∃ acc, H4 D = some (.lst acc) ∧ acc.length < sizeLine ∧ Nx (upd H4 D (.lst (acc ++ [y]))) else Nx H3) := by
  refine ⟨fun i m H => m = xs.length - i ∧ i ≤ xs.length ∧ Pv i H, ⟨xs.length, by simp, Nat.zero_le _, h0⟩, ?_⟩
  rintro i m H ⟨rfl, hi, p⟩
  have q := hl i H hi p
  by_cases hlt : i < xs.length
  · refine .inr ⟨⟨xs, xs[i], q, by simp [hlt]⟩, Pv (i + 1), fun H' p' => ⟨xs.length - (i + 1), by omega, rfl, hlt, p'⟩, fun x H' y => ?_⟩
    obtain ⟨e, y⟩ := y
    subst e
    exact hs i x _ (y xs q) p
  · have e : i = xs.length := by omega
    subst e
    exact .inl ⟨⟨xs, q, Nat.le_refl _⟩, hd H p⟩
def blkC (N : List Str) (sc scope : Scope) (own : List (Str × Nat)) : Bool :=
  (match scope.kind with | .function => true | _ => false) && (scope.names.all fun y => decide (scope.names.lookup y.1 = some y.2)) && (own.all fun p => decide (N[p.2]? = some p.1)) &&
    (scope.names.all fun y => match y.2 with
      | .free => (match sc.names.lookup y.1 with | some .cell => true | some .free => true | _ => false)
      | .local => decide (y.1 ∈ own.map (·.1)) || decide (y.1 ∉ N)
      | .cell => decide (y.1 ∈ own.map (·.1)) || decide (y.1 ∉ N)
      | _ => true)
theorem blkOk_by {N : List Str} {sc scope : Scope} {own : List (Str × Nat)} (h : blkC N sc scope own = true) : BlkOk N sc scope own := by
  unfold blkC at h
  simp only [Bool.and_eq_true, List.all_eq_true, decide_eq_true_eq] at h
  obtain ⟨⟨⟨h1, h2⟩, h3⟩, h4⟩ := h
  refine ⟨?_, h2, h3, fun y hy e => ?_, fun y hy e => ?_⟩
  · split at h1
    · assumption
    · cases h1
  · have q := h4 y hy
    simp only [e] at q
    split at q <;> first | exact .inl (by assumption) | exact .inr (by assumption) | cases q
  · have q := h4 y hy
    rcases e with e | e <;> (simp only [e, Bool.or_eq_true, decide_eq_true_eq] at q; exact q)
end L2
namespace L2
open PySem PySem.Spec PyProof.Rows
section
variable {prog : Program} {w : World} {A : Around} {R : Result → Shared → Prop} {s : Shared} {elt t0 i0 t1 i1 : Expr} {ifs0 ifs1 : List Expr} {scope : Scope} {pos : Pos} {it acc : Value} {env : Env}
end
section
variable {X : Cx}
end
end L2
namespace L2
open PySem PySem.Spec PyProof.Rows
section
variable {κ : Type} [DecidableEq κ]
def valV (kvs : List (κ × V)) (k : κ) : Option V := (kvs.find? fun kv => decide (kv.1 = k)).map (·.2)
def putK (kvs : List (κ × V)) (k : κ) (v : V) : List (κ × V) :=
  if (kvs.any fun kv => decide (kv.1 = k)) = true then kvs.map (fun kv => if kv.1 = k then (kv.1, v) else kv) else kvs ++ [(k, v)]
theorem valV_pos {p : κ × V} {r : List (κ × V)} {k : κ} (e : p.1 = k) : valV (p :: r) k = some p.2 := by simp [valV, List.find?_cons, e]
theorem valV_neg {p : κ × V} {r : List (κ × V)} {k : κ} (e : ¬ p.1 = k) : valV (p :: r) k = valV r k := by simp [valV, List.find?_cons, e]
theorem valV_any (k : κ) : ∀ kvs : List (κ × V), (kvs.any fun kv => decide (kv.1 = k)) = (valV kvs k).isSome
  | [] => rfl
  | p :: r => by
    rw [List.any_cons]
    by_cases e : p.1 = k
    · simp only [valV_pos e, decide_eq_true e, Bool.true_or, Option.isSome_some]
    · rw [valV_neg e, decide_eq_false e, Bool.false_or]; exact valV_any k r
theorem length_putK (kvs : List (κ × V)) (k : κ) (v : V) : (putK kvs k v).length ≤ kvs.length + 1 := by
  unfold putK
  split
  · rw [List.length_map]; omega
  · rw [List.length_append, List.length_cons, List.length_nil]; omega
theorem putK_new {kvs : List (κ × V)} {k : κ} (v : V) (h : valV kvs k = none) : putK kvs k v = kvs ++ [(k, v)] := by
  unfold putK
  rw [valV_any, h]
  exact if_neg (by decide)
theorem RelO.isSome_eq {o : Option V} {u : Option Value} (r : RelO o u) : o.isSome = u.isSome := by
  cases o with
  | none => cases u with
    | none => rfl
    | some _ => exact (show False from r).elim
  | some _ => cases u with
    | none => exact (show False from r).elim
    | some _ => rfl
theorem KV.val {kvs : List (κ × V)} {vs : List (κ × Value)} (r : KV kvs vs) (k : κ) : RelO (valV kvs k) (valueAt vs k) := by
  unfold KV at r
  induction r with
  | nil => exact True.intro
  | @cons p q ps qs h t ih =>
    obtain ⟨h1, h2⟩ := h
    by_cases e : p.1 = k
    · have e' : q.1 = k := h1.symm.trans e
      have b : valueAt (q :: qs) k = some q.2 := by simp [valueAt, List.find?_cons, e']
      rw [valV_pos e, b]; exact h2
    · have e' : ¬ q.1 = k := fun z => e (h1.trans z)
      have b : valueAt (q :: qs) k = valueAt qs k := by simp [valueAt, List.find?_cons, e']
      rw [valV_neg e, b]; exact ih
theorem KV.any {kvs : List (κ × V)} {vs : List (κ × Value)} (r : KV kvs vs) (k : κ) : (kvs.any fun kv => decide (kv.1 = k)) = vs.any fun kv => decide (kv.1 = k) := by
  unfold KV at r
  induction r with
  | nil => rfl
  | cons h t ih => rw [List.any_cons, List.any_cons, ih, h.1]
theorem KV.repl {kvs : List (κ × V)} {vs : List (κ × Value)} (r : KV kvs vs) (k : κ) {y : V} {u : Value} (ry : RelV y u) :
    KV (kvs.map fun kv => if kv.1 = k then (kv.1, y) else kv) (vs.map fun kv => if kv.1 = k then (kv.1, u) else kv) := by
  unfold KV at r ⊢
  induction r with
  | nil => exact .nil
  | @cons p q ps qs h t ih =>
    rw [List.map_cons, List.map_cons]
    refine .cons ?_ ih
    obtain ⟨h1, h2⟩ := h
    by_cases e : p.1 = k
    · rw [if_pos e, if_pos (h1.symm.trans e)]; exact ⟨h1, ry⟩
    · rw [if_neg e, if_neg (fun z => e (h1.trans z))]; exact ⟨h1, h2⟩
theorem KV.put {kvs : List (κ × V)} {vs : List (κ × Value)} (r : KV kvs vs) (k : κ) {y : V} {u : Value} (ry : RelV y u) : KV (putK kvs k y) (stored vs k u) := by
  unfold putK stored
  rw [r.any k]
  by_cases e : (vs.any fun kv => decide (kv.1 = k)) = true
  · rw [if_pos e, if_pos e]; exact r.repl k ry
  · rw [if_neg e, if_neg e]; exact Paired.snoc r ⟨rfl, ry⟩
theorem KV.length {kvs : List (κ × V)} {vs : List (κ × Value)} (r : KV kvs vs) : kvs.length = vs.length := Paired.length r
end
theorem kV_is {P : Program} {w : World} {k : Key} {u : Value} (r : RelV (kV k) u) : (mixKind P w).is k u = true := by
  cases k with
  | inl i => obtain ⟨t, e⟩ := (show ∃ t, u = Value.int i t from r); subst e; exact mixKind_int P w i t
  | inr x => obtain ⟨t, e⟩ := (show ∃ t, u = Value.str x t from r); subst e; exact mixKind_str P w x t
theorem items_are {P : Program} {w : World} : ∀ {ks : List Key} {us : List Value}, Vals (ks.map kV) us → ItemsAre (mixKind P w) ks us
  | [], _, r => by rw [List.map_nil] at r; cases r; exact .nil
  | k :: ks, _, r => by
    rw [List.map_cons] at r
    cases r with
    | cons h t => exact .cons (kV_is h) (items_are t)
abbrev KT (H : Hp) : List (List Key × V) → List (List Key × Addr × Value) → Prop := Paired fun p q => p.1 = q.1 ∧ H q.2.1 = some (.tup (p.1.map kV)) ∧ RelV p.2 q.2.2
theorem KT.val {H : Hp} {kvs : List (List Key × V)} {xs : List (List Key × Addr × Value)} (r : KT H kvs xs) (k : List Key) : RelO (valV kvs k) ((atKey xs k).map (·.2)) := by
  induction r with
  | nil => exact True.intro
  | @cons p q ps qs h t ih =>
    obtain ⟨h1, _, h2⟩ := h
    by_cases e : p.1 = k
    · have e' : q.1 = k := h1.symm.trans e
      have b : atKey (q :: qs) k = some q.2 := by simp [atKey, List.find?_cons, e']
      rw [valV_pos e, b]; exact h2
    · have e' : ¬ q.1 = k := fun z => e (h1.trans z)
      have b : atKey (q :: qs) k = atKey qs k := by simp [atKey, List.find?_cons, e']
      rw [valV_neg e, b]; exact ih
section
variable {P : Program} {w : World} {H : Hp} {h : Heap} {a : Addr}
theorem rd_of {u : HO} (ok : HOk P w H h) (e : Rd H a u) : ObjOk P w H h a u := e.ok ok
theorem dk_rd {kvs : List (Key × V)} (ok : HOk P w H h) (e : Rd H a (.dK kvs)) : kvs.length ≤ sizeLine ∧ (a == sysModules) = false ∧ ∃ vs, KV kvs vs ∧ h.DictOf (mixKind P w) a vs :=
  show ObjOk P w H h a (.dK kvs) from rd_of ok e
theorem dk_of {kvs : List (Key × V)} (ok : HOk P w H h) (e : H a = some (.dK kvs)) : kvs.length ≤ sizeLine ∧ (a == sysModules) = false ∧ ∃ vs, KV kvs vs ∧ h.DictOf (mixKind P w) a vs := dk_rd ok (.inl e)
theorem key_of {ks : List Key} (ok : HOk P w H h) (e : H a = some (.tup (ks.map kV))) : (tupleKind (mixKind P w)).is h ks a := by
  obtain ⟨_, its, r, o, h1, h2, n, h3⟩ := (show ObjOk P w H h a (.tup (ks.map kV)) from ok a _ e)
  exact ⟨o, its.toArray, n, h1, h2, h3, by simpa using items_are r⟩
theorem dt_rd {kvs : List (List Key × V)} (ok : HOk P w H h) (e : Rd H a (.dT kvs)) : kvs.length ≤ sizeLine ∧ (a == sysModules) = false ∧
    ∃ xs, KT H kvs xs ∧ h.DictOfH (tupleKind (mixKind P w)) a xs := by
  obtain ⟨z, y, xs, r, o, es, ep, h1, h2, h3, h4, h5⟩ := (show ObjOk P w H h a (.dT kvs) from rd_of ok e)
  refine ⟨z, y, xs, r, o, es, ep, h1, h2, h3, h4, fun x hx => ?_, h5⟩
  have all : ∀ {l : List (List Key × V)} {m : List (List Key × Addr × Value)}, KT H l m → ∀ x ∈ m, (tupleKind (mixKind P w)).is h x.1 x.2.1 := by
    intro l m q
    induction q with
    | nil => intro x hx; exact nomatch hx
    | @cons p q ps qs hq t ih =>
      intro x hx
      rcases List.mem_cons.mp hx with e | hx
      · subst e
        exact key_of ok (by rw [← hq.1]; exact hq.2.1)
      · exact ih x hx
  exact all r x hx
end
def DGet (H : Hp) (a : Addr) (y : V) (r : Option V) : Prop :=
  (∃ kvs k, Rd H a (.dK kvs) ∧ y = kV k ∧ r = valV kvs k) ∨ ∃ kvs k b, Rd H a (.dT kvs) ∧ y = .ref b ∧ H b = some (.tup (k.map kV)) ∧ r = valV kvs k
section
variable {X : Cx} {pins : List (Addr × Obj)} {σ : St} {H : Hp} {s : Shared} {a : Addr} {y v : V} {u r : Value} {o : Option V} {A : Around} {E : Value → Shared → Prop}
theorem Inv.big (I : Inv X pins σ H s) : sysModules < s.heap.objs.size := by
  have h : mainGlobals < s.heap.objs.size := (I.mod.glob.keeps I.bk).lt
  exact Nat.lt_trans (by decide) h
theorem d_getItem {Q : Value → Shared → Prop} (hu : A.units + 1 < cLine) (I : Inv X pins σ H s) (g : DGet H a y (some v)) (ry : RelV y u) (h : ∀ w' s', Inv X pins σ H s' → RelV v w' → Q w' s') :
    wpAny (model X.prog X.w) A (getItem (.ref a) u) Q E s := by
  rcases g with ⟨kvs, k, e, ey, l⟩ | ⟨kvs, k, b, e, ey, eb, l⟩
  · subst ey
    obtain ⟨z, hd, vs, rel, dd⟩ := dk_rd I.hok e
    obtain ⟨w', hw, rw'⟩ := RelO.some_of (v := v) (o := valueAt vs k) (by rw [l]; exact rel.val k)
    exact wpAny_getItem_of (kV_is ry) dd.mapOf hw (h w' _ (I.tok _) rw')
  · subst ey
    cases (show u = Value.ref b from ry)
    obtain ⟨z, hd, xs, rel, dd⟩ := dt_rd I.hok e
    obtain ⟨w', hw, rw'⟩ := RelO.some_of (v := v) (o := (atKey xs k).map (·.2)) (by rw [l]; exact rel.val k)
    obtain ⟨p, hp, hp2⟩ := Option.map_eq_some_iff.mp hw
    refine wpAny_getItem_heap (tupleKind_room_in1 hu) (key_of I.hok eb) dd hp ?_
    rw [hp2]
    exact h w' _ (I.tok _) rw'
theorem d_notIn {Q : Value → Shared → Prop} (hu : A.units + 1 < cLine) (I : Inv X pins σ H s) (g : DGet H a y o) (ry : RelV y u) (h : ∀ s', Inv X pins σ H s' → Q (.bool (!o.isSome)) s') :
    wpAny (model X.prog X.w) A (compareOp .NotIn u (.ref a)) Q E s := by
  rcases g with ⟨kvs, k, e, ey, l⟩ | ⟨kvs, k, b, e, ey, eb, l⟩
  · subst ey
    obtain ⟨z, hd, vs, rel, dd⟩ := dk_rd I.hok e
    refine wpAny_notIn_of (kV_is ry) hd dd.mapOf ?_
    rw [← (rel.val k).isSome_eq, ← l]
    exact h _ (I.tok _)
  · subst ey
    cases (show u = Value.ref b from ry)
    obtain ⟨z, hd, xs, rel, dd⟩ := dt_rd I.hok e
    refine wpAny_notIn_heap (tupleKind_room_in1 hu) (key_of I.hok eb) hd dd ?_
    have q := (rel.val k).isSome_eq
    rw [Option.isSome_map] at q
    rw [← q, ← l]
    exact h _ (I.tok _)
theorem d_write {h' : Heap} {t' : Nat} {ob : HO} (I : Inv X pins σ H s) (mu : Mut (H a)) (hs : Heap.SameBut a s.heap h') (he : ∃ q, h'.get? a = some q) (new : ObjOk X.prog X.w (upd H a ob) h' a ob) :
    Inv X pins σ (upd H a ob) { s with heap := h', toks := t' } :=
  I.write (x := a) (e := a) mu (.inl rfl) (fun b q hb z => (hs.2 b hb).trans z) he new
theorem dk_new {P : Program} {w : World} {H' : Hp} {h' : Heap} {kvs : List (Key × V)} {vs : List (Key × Value)} (z : kvs.length ≤ sizeLine) (hd : (a == sysModules) = false) (rel : KV kvs vs) (dd : h'.DictOf (mixKind P w) a vs) :
    ObjOk P w H' h' a (.dK kvs) := ⟨z, hd, vs, rel, dd⟩
end
section
variable {X : Cx} {pins : List (Addr × Obj)} {σ : St} {H : Hp} {s : Shared} {a : Addr} {kvs : List (Key × V)} {k : Key} {u : Value} {A : Around} {E : Value → Shared → Prop}
end
def NoSl (i : Expr) : Prop := ∀ ov iv, subscripted i false ov iv = operate [ov, iv] (getItem ov iv)
theorem subD_of {prog : Program} {w : World} {A : Around} {E : Value → Shared → Prop} {s : Shared} {env : Env} {value slice : Expr} {pos : Pos} {T id : String} {Q : Value → Shared → Prop}
    (hl : typeLookup (.type T) "__getitem__" = pure (some (.builtin id))) (hs : NoSl slice)
    (h : wpAny (model prog w) A (eval value env) (fun o s₁ => wpAny (model prog w) A (eval slice env) (fun i s₂ => s₂.TypeIs o T ∧ wpAny (model prog w) A (getItem o i) Q E s₂) E s₁) E s) :
    wpAny (model prog w) A (eval (.Subscript value slice pos) env) Q E s := by
  refine Subscript_ (wpAny_mono h (fun o s₁ h₁ => wpAny_mono h₁ (fun i s₂ h₂ => ?_) fun _ _ x => x) fun _ _ x => x)
  obtain ⟨hT, h₂⟩ := h₂
  unfold subscriptTail
  refine wpAny_bind ?_
  rw [getitemInPython_of_ne hT.not_modules]
  refine wpAny_bind (wpAny_specialOf hT hl ?_)
  have fin : wpAny (model prog w) A (subscripted slice false o i) (fun r s₃ => wpAny (model prog w) A (letTemporaryGo value o r >>= fun _ => pure r) Q E s₃) E s₂ := by
    rw [hs o i]
    exact wpAny_operating (wpAny_mono h₂ (fun r s₃ h₃ => wpAny_bind (wpAny_letTemporaryGo (wpAny_pure h₃))) fun _ _ x => x)
  first
    | exact wpAny_pure (wpAny_bind fin)
    | exact wpAny_bind (wpAny_pure (wpAny_bind fin))
    | exact wpAny_bind fin
theorem dict_typeIs {X : Cx} {pins : List (Addr × Obj)} {σ : St} {H : Hp} {s : Shared} {a : Addr} {y : V} {o : Option V} (I : Inv X pins σ H s) (g : DGet H a y o) : s.TypeIs (.ref a) "dict" := by
  rcases g with ⟨kvs, k, e, _, _⟩ | ⟨kvs, k, b, e, _, _, _⟩
  · obtain ⟨_, _, vs, _, dd⟩ := dk_rd I.hok e
    exact dd.typeIs
  · obtain ⟨_, _, xs, _, dd⟩ := dt_rd I.hok e
    exact dd.typeIs
def tDGet (td ty : TE) : TE := fun σ H Q => td σ H fun x H1 => ty σ H1 fun y H2 => ∃ a v, x = .ref a ∧ DGet H2 a y (some v) ∧ Q v H2
def tDNotIn (ty td : TE) : TE := fun σ H Q => ty σ H fun y H1 => td σ H1 fun x H2 => ∃ a o, x = .ref a ∧ DGet H2 a y o ∧ Q (.bl (!o.isSome)) H2
section
variable {X : Cx} {o i e value : Expr} {pos pos' tpos : Pos} {td ty tv : TE}
theorem pe_dget (hu : X.A.units + 1 < cLine) (ho : PE X o td) (hi : PE X i ty) (hs : NoSl i) : PE X (.Subscript o i pos) (tDGet td ty) := by
  intro pins s σ H Q I h
  refine subD_of PySem.F.slot_dict_getitem.lookup hs (thn (ho pins s σ H _ I h) fun u s1 ⟨x, H1, I1, rx, q1⟩ => thn (hi pins s1 σ H1 _ I1 q1) fun iv s2 ⟨y, H2, I2, ry, a, v, ex, g, q2⟩ => ?_)
  subst ex
  obtain rfl : u = Value.ref a := rx
  exact ⟨dict_typeIs I2 g, d_getItem hu I2 g ry fun w' s3 I3 rw' => ⟨v, H2, I3, rw', q2⟩⟩
theorem pc_dnotin (hu : X.A.units + 1 < cLine) (hi : PE X i ty) (ho : PE X o td) : PC X .NotIn i o (tDNotIn ty td) := by
  intro pins s σ H Q I h
  refine thn (hi pins s σ H _ I h) fun iv s1 ⟨y, H1, I1, ry, q1⟩ => thn (ho pins s1 σ H1 _ I1 q1) fun u s2 ⟨x, H2, I2, rx, a, ov, ex, g, q2⟩ => ?_
  subst ex
  obtain rfl : u = Value.ref a := rx
  exact d_notIn hu I2 g ry fun s3 I3 => ⟨.bl (!ov.isSome), H2, I3, rfl, q2⟩
end
theorem dk_empty {P : Program} {w : World} {H : Hp} (h : Heap) (hb : sysModules < h.objs.size) : ObjOk P w H (h.push { cls := .type "dict", data := .dict #[] }) h.objs.size (.dK []) :=
  ⟨Nat.zero_le _, beq_eq_false_iff_ne.mpr (Ne.symm (Nat.ne_of_lt hb)), [], .nil, Heap.DictOf.new h⟩
def tDNewK : TE := fun _ H Q => ∀ p, H p = none → Q (.ref p) (upd H p (.dK []))
section
variable {X : Cx} {pos : Pos}
theorem pe_dnewK : PE X (.Dict [] [] pos) tDNewK := fun pins s σ H Q I h =>
  wpAny_Dict_empty ⟨.ref s.heap.objs.size, _, I.laid (a := s.heap.objs.size) (o := .dK []) (t' := s.toks) (fun _ _ q => Heap.get?_push_of_some _ q) (Nat.le_refl _) (dk_empty s.heap I.big), rfl, h _ (I.hok.fresh (Nat.le_refl _))⟩
end
section
variable {X : Cx} {pins : List (Addr × Obj)} {σ : St} {H : Hp} {s : Shared} {a : Addr} {y d : V} {u r : Value} {o : Option V} {A : Around} {E : Value → Shared → Prop}
end
section
variable {X : Cx} {o e f : Expr} {apos cpos : Pos} {td ty tx : TE}
end
section
variable {X : Cx} {pins : List (Addr × Obj)} {σ : St} {H : Hp} {s : Shared} {a : Addr} {kvs : List (Key × V)} {A : Around} {E : Value → Shared → Prop}
end
section
variable {X : Cx} {pins : List (Addr × Obj)} {σ : St} {H : Hp} {s : Shared} {a : Addr} {y : V} {u : Value} {A : Around} {E : Value → Shared → Prop}
end
end L2
namespace L2
open PySem PySem.Spec PyProof.Rows
section
variable {prog : Program} {w : World} {A : Around} {E : Value → Shared → Prop}
end
section
variable {X : Cx}
end
end L2
namespace L2
open PySem PySem.Spec PyProof.Rows
theorem boot_reversed5 : bootBuiltins "reversed" = some (.type "reversed") := by decide +kernel
section
variable {X : Cx} {pins : List (Addr × Obj)} {σ : St} {H : Hp} {s : Shared} {h' : Heap}
theorem Inv.turnedNew {t' : Nat} {ch : List Addr} {T : Addr} {ob : HO} (I : Inv X pins σ H s) (k : ∀ b o, b ∉ ch → s.heap.get? b = some o → h'.get? b = some o) (hf : ∀ b ∈ ch, FpOk X pins H b) (hT : s.heap.objs.size ≤ T)
    (new : ObjOk X.prog X.w (upd H T ob) h' T ob) : Inv X pins σ (upd H T ob) { s with heap := h', toks := t' } := by
  have hn : H T = none := I.hok.fresh hT
  have nit : ∀ b u, H b = some u → b ∉ ch := fun b u e z => by
    have q := (hf b z).1
    rw [q] at e; cases e
  refine I.step (g' := s.gens) (d' := s.drawn) (ch := ch) (fun b hb => ⟨(hf b hb).2.2.2.1, (hf b hb).2.1, (hf b hb).2.2.2.2.1, (hf b hb).2.2.2.2.2⟩) (fun b o _ _ hc e _ => k b o hc e) (fun b o _ _ hc e _ => ⟨o.slots, k b o hc e⟩)
    (fun b o _ e n => ?_) (fun b o hc e => ⟨o, k b o hc e⟩) (fun b xs e => ?_) (fun b o u e => ?_) (fun b ps e => ⟨#[], ?_⟩) (fun m hm => ?_) (fun b u e => ?_) I.bare
  · rw [upd_ne (Nat.ne_of_lt (Nat.lt_of_lt_of_le (Heap.lt_size e) hT))]; exact n
  · rw [upd_ne (ne_of_none e hn)]; exact e
  · rw [upd_ne (ne_of_none e hn)]; exact e
  · rw [upd_ne (ne_of_none e hn), e]; simp
  · obtain ⟨o, es, ep, ho, r⟩ := hm
    exact ⟨o, es, ep, k _ o (fun z => (hf _ z).2.1 rfl) ho, r⟩
  · by_cases hb : b = T
    · subst hb
      rw [upd_same] at e
      cases e
      exact new
    · rw [upd_ne hb] at e
      refine (I.hok b u e).stay (fun c v hc q => k c v ?_ q) (fun c q => by rw [upd_ne (ne_of_none q hn)]; exact q) fun c xs q => by rw [upd_ne (ne_of_none q hn)]; exact q
      rcases hc with z | z
      · rw [z]; exact nit b u e
      · exact nit c _ z
theorem Inv.lock {d : Addr} {u : HO} (I : Inv X pins σ H s) (h : H d = some u) (mu : Mut (some u)) : ∃ od, Inv X pins σ (upd H d (.frz od u)) s := by
  have x := I.hok d u h
  have ex : ∃ od, s.heap.get? d = some od := by
    cases u with
    | lst xs => obtain ⟨_, _, _, _, e⟩ := x; exact ⟨_, e⟩
    | dK kvs => obtain ⟨_, _, _, _, o, _, _, e, _⟩ := x; exact ⟨o, e⟩
    | dT kvs => obtain ⟨_, _, _, _, o, _, _, e, _⟩ := x; exact ⟨o, e⟩
    | set S n => obtain ⟨o, _, _, _, e, _⟩ := x; exact ⟨o, e⟩
    | ins C dx fs => obtain ⟨_, _, _, e, _⟩ := x; exact ⟨_, e⟩
    | ext φ => obtain ⟨_, ⟨_, e⟩, _⟩ := x; exact ⟨_, e⟩
    | _ => exact False.elim mu
  obtain ⟨od, e⟩ := ex
  have new : ObjOk X.prog X.w (upd H d (.frz od u)) s.heap d (.frz od u) := by
    refine ⟨e, x.stay (fun b v _ q => q) (fun b q => ?_) fun b xs q => ?_⟩
    · rw [upd_ne (fun z => by rw [z, h] at q; cases q; exact mu)]; exact q
    · rw [upd_ne (fun z => by rw [z, h] at q; cases q; exact mu)]; exact q
  exact ⟨od, I.write (x := d) (e := d) (t' := s.toks) (h' := s.heap) (by rw [h]; exact mu) (.inl rfl) (fun b v _ q => q) ⟨od, e⟩ new⟩
end
section
variable {X : Cx}
theorem pi_one {tg : Expr} {pins : List (Addr × Obj)} {σ : St} {H : Hp} {s : Shared} {R : It → Hp → Prop} {J : It} {tn : Nat → Heap → Prop} {tk : Nat} (I : Inv X pins σ H s) (o : Obj)
    (T : Turn X.prog X.w X.K tg J [s.heap.objs.size] s.heap.objs.size tn) (st : tn 0 (s.heap.push o)) (q : R J H) : PIE X pins σ tg R (.ref s.heap.objs.size) { s with heap := s.heap.push o, toks := tk } := by
  refine ⟨s.heap.objs.size, [s.heap.objs.size], tn, J, H, rfl, I.kept fun b ob e => Heap.get?_push_of_some _ e, T, st, fun b hb => ?_, q⟩
  have e : b = s.heap.objs.size := by simpa using hb
  subst e
  exact I.fpOk (Nat.le_refl _) (I.hok.fresh (Nat.le_refl _))
end
def Itc (lo c : Int) (n : Nat) : It := ⟨fun i _ => i < n, fun i H x H' => H' = H ∧ x = .int (lo + (i : Nat) * c), fun i _ => n ≤ i⟩
theorem turn_rangeC {P : Program} {w : World} {K : PySem.W.Frag} {tg : Expr} (it : Addr) (lo c : Int) (n : Nat) : Turn P w K tg (Itc lo c n) [it] it (fun i h => IsRangeIter h it (lo + (i : Nat) * c) ((n : Int) - (i : Nat)) c) where
  mem := by simp
  obj := fun i h st b hb => by
    have e : b = it := by simpa using hb
    subst e
    exact ⟨_, st, fun v z => nomatch z⟩
  keep := fun i h h' st k => k it (by simp) _ st
  item := by
    intro X hP hw hK hc i pins s σ H E I hf st hg
    subst hP hw hK
    obtain ⟨f0, f1, f2, f3, f4, f5⟩ := hf it (by simp)
    have W := Walks.range (prog := X.prog) (w := X.w) (I.ok.hd hc) it lo c n
    refine W.item i s _ _ hg st fun v h' tk hv st' kk => ?_
    obtain ⟨t, rfl⟩ := hv
    have I1 : Inv X pins σ H { s with heap := h', toks := tk } := I.turned (fun b o hb e => kk b o (by simpa using hb) e) f0 f1 f3 f4 f5
    exact ⟨_, rfl, go_of (s := { s with heap := h', toks := tk }) (n := "range_iterator") st' rfl rfl (by decide) ⟨.int (lo + (i : Nat) * c), H, I1, ⟨t, rfl⟩, ⟨rfl, rfl⟩, st', fun b hb => (hf b hb).1⟩⟩
  done := by
    intro X hP hw hK hc i pins s σ H E I hf st hg
    subst hP hw hK
    obtain ⟨f0, f1, f2, f3, f4, f5⟩ := hf it (by simp)
    exact wpAny_pyNext_range_end (I.ok.hd hc) st (by have : n ≤ i := hg; omega) fun h' eb => ⟨rfl, I.turned (t' := s.toks) (fun b o hb e => eb b o hb e) f0 f1 f3 f4 f5⟩
  self := fun A i s Q E st h => wpAny_pyIter_rangeiter st h
def RgC (i j c : Int) (n : Nat) : Prop := c ≠ 0 ∧ c.natAbs < 1073741824 ∧ Builtin.Range.small i j c = true ∧ Builtin.Range.rangeSize i j c = n
def iRng3 (ta : TA) : TI := fun σ H R => ta σ H fun vs H1 => ∃ (i j c : Int) (n : Nat), vs = [.int i, .int j, .int c] ∧ RgC i j c n ∧ R (Itc i c n) H1
section
variable {X : Cx} {tg : Expr}
theorem pi_range3 {a b c : Expr} {ta : TA} {p pos : Pos} (hg : Gl X "range") (hm : X.mg "range" = none) (ha : PA X [a, b, c] ta)
    (hs : starEach [a, b, c] X.env = (false, eval a X.env) :: starEach [b, c] X.env := by rfl) (hpl : (backTo pos (starEach [b, c] X.env)).any (·.1) = false := by rfl) :
    PI X tg (.Call (.Name "range" p) [a, b, c] [] pos) (iRng3 ta) := by
  intro pins s σ H R I h
  refine Call_ (ld_blt I hg hm boot_range (PyProof.Rows.callWith_type1 (thn (ha pos pins s σ H _ I h) fun us s1 ⟨vs, H1, I1, r1, q1⟩ => ?_) hs hpl))
  obtain ⟨i, j, k, n, e, ⟨c0, c1, c2, c3⟩, q⟩ := q1
  subst e
  cases r1 with
  | cons r rr =>
    cases rr with
    | cons r' rr =>
      cases rr with
      | cons r'' rr =>
        cases rr
        obtain ⟨t, rfl⟩ := r
        obtain ⟨t', rfl⟩ := r'
        obtain ⟨t'', rfl⟩ := r''
        refine call_range_3 c0 ?_ (.inl (PyProof.noPylong_small c1))
        refine wpAny_pyIter_range (IsRange.new ..) c2 ?_
        have I2 : Inv X pins σ H1 { s1 with heap := s1.heap.push { cls := .type "range", data := .fields #[.int i t, .int j t', .int k t''] } } := I1.kept (t' := s1.toks) fun b o e => Heap.get?_push_of_some _ e
        refine pi_one (tk := s1.toks) I2 _ (turn_rangeC _ i k n) ?_ q
        have e1 : i + ((0 : Nat) : Int) * k = i := by simp
        have e2 : (n : Int) - ((0 : Nat) : Int) = Builtin.Range.rangeSize i j k := by rw [c3]; simp
        show IsRangeIter _ _ (i + ((0 : Nat) : Int) * k) ((n : Int) - ((0 : Nat) : Int)) k
        rw [e1, e2]
        exact Heap.get?_push_size _ rfl
end
theorem for_rangeC {lo c : Int} {n : Nat} {g : TG} {tb : TS} {D : Ends} {σ : St} {H : Hp} (Pv : Nat → St → Hp → Prop) (h0 : Pv 0 σ H)
    (hs : ∀ i σ H, i < n → Pv i σ H → g (.int (lo + (i : Nat) * c)) σ H fun σ2 H2 => tb { D with nx := Pv (i + 1), ct := Pv (i + 1), bk := D.nx } σ2 H2) (hd : ∀ σ H, Pv n σ H → D.nx σ H) :
    ∃ W : Nat → Nat → St → Hp → Prop, (∃ m, W 0 m σ H) ∧ ∀ i m σ H, W i m σ H →
      ((Itc lo c n).stop i H ∧ D.nx σ H) ∨ ((Itc lo c n).go i H ∧ ∃ N : St → Hp → Prop, (∀ σ' H', N σ' H' → ∃ m', m' < m ∧ W (i + 1) m' σ' H') ∧ ∀ x H', (Itc lo c n).yld i H x H' → g x σ H' fun σ2 H2 => tb { D with nx := N, ct := N, bk := D.nx } σ2 H2) := by
  refine ⟨fun i m σ H => m = n - i ∧ i ≤ n ∧ Pv i σ H, ⟨n, by simp, Nat.zero_le _, h0⟩, ?_⟩
  rintro i m σ H ⟨rfl, hi, p⟩
  by_cases hlt : i < n
  · refine .inr ⟨hlt, Pv (i + 1), fun σ' H' p' => ⟨n - (i + 1), by omega, rfl, hlt, p'⟩, fun x H' y => ?_⟩
    obtain ⟨e, y⟩ := y
    subst e y
    exact hs i σ _ hlt p
  · have e : i = n := by omega
    subst e
    exact .inl ⟨Nat.le_refl _, hd σ H p⟩
section
variable {X : Cx} {tg : Expr}
end
section
variable {prog : Program} {w : World} {A : Around} {E : Value → Shared → Prop} {s : Shared}
end
theorem kv_get {κ : Type} {kvs : List (κ × V)} {vs : List (κ × Value)} (h : KV kvs vs) : ∀ {i : Nat} {k : κ} {v : V}, kvs[i]? = some (k, v) → ∃ u, vs[i]? = some (k, u) ∧ RelV v u := by
  unfold KV at h
  induction h with
  | nil => intro i k v e; simp at e
  | @cons a b l₁ l₂ r t ih =>
    intro i k v e
    cases i with
    | zero =>
      simp only [List.getElem?_cons_zero, Option.some.injEq] at e
      subst e
      refine ⟨b.2, ?_, r.2⟩
      simp only [List.getElem?_cons_zero]
      exact congrArg some (Prod.ext r.1.symm rfl)
    | succ j =>
      simp only [List.getElem?_cons_succ] at e ⊢
      exact ih e
theorem relV_key {k : Key} {u : Value} (h : keyIs k u = true) : RelV (kV k) u := by
  rcases keyIs_shape h with ⟨i, t, rfl, rfl⟩ | ⟨x, t, rfl, rfl⟩
  · exact ⟨t, rfl⟩
  · exact ⟨t, rfl⟩
section
variable {X : Cx} {pins : List (Addr × Obj)} {σ : St} {H : Hp} {s : Shared} {d : Addr} {o : Obj}
theorem Inv.frzK {kvs : List (Key × V)} (I : Inv X pins σ H s) (h : H d = some (.frz o (.dK kvs))) :
    (d == sysModules) = false ∧ s.heap.get? d = some o ∧ o.ExactDict ∧ ∃ (es : Array DictEntry) (ep : Nat) (vs : List (Key × Value)), o.data = .dict es ep ∧ es.size = kvs.length ∧ KV kvs vs ∧ s.heap.DictAt (mixKind X.prog X.w) d vs ep := by
  obtain ⟨hd, z, hs, vs, kv, o', es, ep, ho, hx, hdt, r⟩ := I.hok d _ h
  rw [hd] at ho
  cases ho
  refine ⟨hs, hd, hx, es, ep, vs, hdt, ?_, kv, o, es, hd, hx, hdt, r⟩
  have l1 := r.2.1.length
  have l2 : kvs.length = vs.length := Paired.length kv
  rw [Array.length_toList] at l1
  omega
end
def Itd (d : Addr) (o : Obj) (kvs : List (Key × V)) : It :=
  ⟨fun i H => H d = some (.frz o (.dK kvs)) ∧ i < kvs.length, fun i H x H' => H' = H ∧ ∃ k, kvs[i]? = some (k, x), fun i H => H d = some (.frz o (.dK kvs)) ∧ kvs.length ≤ i⟩
def Iti (d : Addr) (o : Obj) (kvs : List (Key × V)) : It :=
  ⟨fun i H => H d = some (.frz o (.dK kvs)) ∧ i < kvs.length, fun i H x H' => ∃ T k v, kvs[i]? = some (k, v) ∧ x = .ref T ∧ H T = none ∧ H' = upd H T (.tup [kV k, v]), fun i H => H d = some (.frz o (.dK kvs)) ∧ kvs.length ≤ i⟩
theorem dict_ep {o : Obj} {es es' : Array DictEntry} {ep ep' : Nat} (h : o.data = .dict es ep) (h' : o.data = .dict es' ep') : es' = es ∧ ep' = ep := by
  rw [h] at h'
  cases h'
  exact ⟨rfl, rfl⟩
section
variable {P : Program} {w : World} {K : PySem.W.Frag} {tg : Expr} {d : Addr} {o : Obj} {es : Array DictEntry} {ep : Nat}
theorem turn_vals {kvs : List (Key × V)} (it : Addr) (hod : o.data = .dict es ep) : Turn P w K tg (Itd d o kvs) [it] it (fun i h => h.IsValIter it d i kvs.length ep) where
  mem := by simp
  obj := fun i h st b hb => by
    have e : b = it := by simpa using hb
    subst e
    obtain ⟨oi, e, c, dd⟩ := st
    exact ⟨oi, e, fun v z => by rw [dd] at z; cases z⟩
  keep := fun i h h' st k => st.at fun oi e => k it (by simp) oi e
  item := by
    intro X hP hw hK hc i pins s σ H E I hf st hg
    subst hP hw hK
    obtain ⟨hd, hi⟩ := hg
    obtain ⟨f0, f1, f2, f3, f4, f5⟩ := hf it (by simp)
    obtain ⟨hs, hgd, hx, es', ep', vs, hdt, hsz, kv, hm⟩ := I.frzK hd
    obtain ⟨rfl, rfl⟩ := dict_ep hod hdt
    obtain ⟨⟨k, v⟩, hkv⟩ : ∃ p, kvs[i]? = some p := ⟨kvs[i], List.getElem?_eq_getElem hi⟩
    obtain ⟨u, hu, ru⟩ := kv_get kv hkv
    have hl : kvs.length = vs.length := Paired.length kv
    rw [hl] at st
    refine wpAny_pyNext_values_item st hm hu fun h' st' sb => ?_
    have I1 : Inv X pins σ H { s with heap := h' } := I.turned (t' := s.toks) (fun b ob hb e => (sb.2 b hb).trans e) f0 f1 f3 f4 f5
    obtain ⟨oi, e, c, dd⟩ := id st'
    refine ⟨u, rfl, go_of (s := { s with heap := h' }) e c dd (by decide) ⟨v, H, I1, ru, ⟨rfl, k, hkv⟩, ?_, fun b hb => (hf b hb).1⟩⟩
    show h'.IsValIter it d (i + 1) kvs.length _
    rw [hl]
    exact st'
  done := by
    intro X hP hw hK hc i pins s σ H E I hf st hg
    subst hP hw hK
    obtain ⟨hd, hi⟩ := hg
    obtain ⟨f0, f1, f2, f3, f4, f5⟩ := hf it (by simp)
    obtain ⟨hs, hgd, hx, es', ep', vs, hdt, hsz, kv, hm⟩ := I.frzK hd
    obtain ⟨rfl, rfl⟩ := dict_ep hod hdt
    have hl : kvs.length = vs.length := Paired.length kv
    rw [hl] at st
    exact wpAny_pyNext_values_end (I.ok.hd hc) st hm (List.getElem?_eq_none (by omega)) fun h' eb => ⟨rfl, I.turned (t' := s.toks) (fun b ob hb e => eb b ob hb e) f0 f1 f3 f4 f5⟩
  self := fun A i s Q E st h => wpAny_pyIter_valiter st h
theorem turn_items {kvs : List (Key × V)} {elts : List Expr} {kk : Nat} {tpos : Pos} (it : Addr) (hod : o.data = .dict es ep) :
    Turn P w K (.Tuple elts kk tpos) (Iti d o kvs) [it] it (fun i h => ∃ ok ov, IsItemIter h it d i kvs.length ep ok ov) where
  mem := by simp
  obj := fun i h st b hb => by
    have e : b = it := by simpa using hb
    subst e
    obtain ⟨ok, ov, e⟩ := st
    exact ⟨_, e, fun v z => nomatch z⟩
  keep := fun i h h' st k => let ⟨ok, ov, e⟩ := st; ⟨ok, ov, k it (by simp) _ e⟩
  item := by
    intro X hP hw hK hc i pins s σ H E I hf st hg
    subst hP hw hK
    obtain ⟨hd, hi⟩ := hg
    obtain ⟨hs, hgd, hx, es', ep', vs, hdt, hsz, kv, hm⟩ := I.frzK hd
    obtain ⟨rfl, rfl⟩ := dict_ep hod hdt
    obtain ⟨⟨k, v⟩, hkv⟩ : ∃ p, kvs[i]? = some p := ⟨kvs[i], List.getElem?_eq_getElem hi⟩
    obtain ⟨u, hu, ru⟩ := kv_get kv hkv
    have hl : kvs.length = vs.length := Paired.length kv
    obtain ⟨ok, ov, he⟩ := st
    rw [hl] at he
    have hlt : it < s.heap.objs.size := Heap.lt_size he
    refine wpAny_pyNext_items_item he hm hu fun key h' hkey ho hT hz hk => ?_
    refine ⟨_, rfl, wpAny_letOwnedTupleGo_items (s := { s with heap := h' }) ho fun h'' he' sb => ?_⟩
    have hT2 : h''.get? s.heap.objs.size = some { cls := .type "tuple", data := .seq #[key, u] } := (sb.2 _ (Nat.ne_of_gt hlt)).trans hT
    have new : ObjOk X.prog X.w (upd H s.heap.objs.size (.tup [kV k, v])) h'' s.heap.objs.size (.tup [kV k, v]) :=
      ⟨by show 2 ≤ sizeLine; decide, [key, u], .cons (relV_key (show keyIs k key = true from hkey)) (.cons ru .nil), ⟨_, hT2, rfl, _, rfl⟩⟩
    have I1 : Inv X pins σ (upd H s.heap.objs.size (.tup [kV k, v])) { s with heap := h'' } :=
      I.turnedNew (t' := s.toks) (ch := [it]) (fun b ob hb e => (sb.2 b (by simpa using hb)).trans (hk b ob (by simpa using hb) e)) hf (Nat.le_refl _) new
    refine ⟨.ref s.heap.objs.size, _, I1, rfl, ⟨_, k, v, hkv, rfl, I.hok.fresh (Nat.le_refl _), rfl⟩, ⟨key, u, ?_⟩, fun b hb => ?_⟩
    · rw [hl]; exact he'
    · have e : b = it := by simpa using hb
      rw [e, upd_ne (Nat.ne_of_lt hlt)]
      exact (hf it (by simp)).1
  done := by
    intro X hP hw hK hc i pins s σ H E I hf st hg
    subst hP hw hK
    obtain ⟨hd, hi⟩ := hg
    obtain ⟨f0, f1, f2, f3, f4, f5⟩ := hf it (by simp)
    obtain ⟨hs, hgd, hx, es', ep', vs, hdt, hsz, kv, hm⟩ := I.frzK hd
    obtain ⟨rfl, rfl⟩ := dict_ep hod hdt
    have hl : kvs.length = vs.length := Paired.length kv
    obtain ⟨ok, ov, he⟩ := st
    rw [hl] at he
    exact wpAny_pyNext_items_end (I.ok.hd hc) he hm (List.getElem?_eq_none (by omega)) fun h' eb => ⟨rfl, I.turned (t' := s.toks) (fun b ob hb e => eb b ob hb e) f0 f1 f3 f4 f5⟩
  self := fun A i s Q E st h => let ⟨_, _, e⟩ := st; PySem.W.kcp_self e h
end
def iItems (td : TE) : TI := fun σ H R => td σ H fun x H1 => ∃ d o kvs, x = .ref d ∧ H1 d = some (.frz o (.dK kvs)) ∧ R (Iti d o kvs) H1
section
variable {X : Cx} {tg e : Expr} {td : TE} {apos cpos : Pos}
theorem pi_items {elts : List Expr} {kk : Nat} {tpos : Pos} (he : PE X e td) (hbase : attributeBase e "items" X.env (eval e X.env) = eval e X.env := by rfl) (hline : (apos.endLine == cpos.line) = true := by rfl) :
    PI X (.Tuple elts kk tpos) (.Call (.Attribute e "items" apos) [] [] cpos) (iItems td) := by
  intro pins s σ H R I h
  refine wpAny_Call_method (T := "dict") (id := "dict.items") hbase rfl hline F.plainAttrs_dict F.slot_dict_items F.type_dict_items (thn (he pins s σ H _ I h) fun u s1 ⟨x, H1, I1, rx, d, o, kvs, ex, hd, q⟩ => ?_)
  subst ex
  obtain rfl : u = Value.ref d := rx
  obtain ⟨hs, hgd, hx, es, ep, vs, hdt, hsz, kv, hm⟩ := I1.frzK hd
  have hl : kvs.length = vs.length := Paired.length kv
  refine ⟨hm.dictOf.typeIs, hm.dictOf.mapOf.noDict, ?_⟩
  have I2 : Inv X pins σ H1 { s1 with heap := s1.heap.push { cls := .type "dict_items", data := .fields #[.ref d] } } := I1.kept (t' := s1.toks) fun b ob q => Heap.get?_push_of_some _ q
  have fin : wpAny (model X.prog X.w) X.A (pyIter (.ref s1.heap.objs.size)) (PIE X pins σ (.Tuple elts kk tpos) R) X.xe { s1 with heap := s1.heap.push { cls := .type "dict_items", data := .fields #[.ref d] } } := by
    refine wpAny_pyIter_items (d := d) (knd := mixKind X.prog X.w) ⟨_, Heap.get?_push_size _ rfl, rfl, rfl⟩ (hm.push _) (pi_one (tk := s1.toks) I2 _ (turn_items _ hdt) ⟨.none, .none, ?_⟩ q)
    rw [hl]
    exact Heap.get?_push_size _ rfl
  show wpAny _ _ (callWith cpos (.builtin "dict.items") [.ref d] [] []) _ X.xe s1
  exact method_meetsIn F.slot_dict_items F.entry_dict_items rfl (PySem.evalArgs_none ⟨rfl, hm.dictOf.typeIs, F.args_dict_items_1 _, _, meets_dict_items (mixKind X.prog X.w) d hs, ⟨vs, hm.dictOf⟩, fin⟩)
end
end L2
section 
namespace Bits
open PySem PyProof.Rows
end Bits
end 
section 
namespace TL
open PySem PySem.Builtin PySem.Builtin.Str PySem.StrLaws
end TL
end 
namespace L2
open PySem PySem.Spec PyProof.Rows
section
variable {X : Cx} {pins : List (Addr × Obj)} {σ : St} {H : Hp} {s : Shared} {Q : VK}
end
section
variable {X : Cx}
end
section
variable {X : Cx} {o e : Expr} {to te : TE}
end
end L2
namespace L2
open PySem PySem.Spec PyProof.Rows
section
variable {X : Cx}
end
end L2
namespace Att
open PySem PySem.W PySem.Calls PyProof.Rows
section
variable {prog : Program} {w : World} {A : Around} {E : Value → Shared → Prop} {s : Shared} {K : Frag}
end
end Att
namespace L2
open PySem PySem.Spec PyProof.Rows
end L2
namespace L2
open PySem PySem.Spec PyProof.Rows
end L2
namespace L2
open PySem PySem.Spec PyProof.Rows
def inClass (s : Stmt) (j : Nat) : Stmt := match s with
  | .ClassDef _ _ _ body _ _ _ _ _ _ _ => body.getD j (.Pass ⟨0, 0, 0, 0⟩)
  | _ => .Pass ⟨0, 0, 0, 0⟩
def defArgs (s : Stmt) : Arguments := match s with
  | .FunctionDef _ a _ _ _ _ _ _ _ _ => a
  | _ => { posonlyargs := [], args := [], vararg := none, kwonlyargs := [], kw_defaults := [], kwarg := none, defaults := [] }
def defBody (s : Stmt) : List Stmt := match s with
  | .FunctionDef _ _ b _ _ _ _ _ _ _ => b
  | _ => []
def defScope (s : Stmt) : Scope := match s with
  | .FunctionDef _ _ _ _ _ _ sc _ _ _ => sc
  | _ => { kind := .function, names := [], isGenerator := false, isCoroutine := false }
abbrev CX0 : CXT := fun _ _ _ _ _ _ => False
abbrev E0 : XK := fun _ _ _ => False
theorem pass0 {X : Cx} : Passes CX0 X E0 := fun _ _ _ _ _ _ _ h => h.elim
structure Fun (K : PySem.W.Frag) (x qual : Str) (st : Stmt) (f : Addr) (fd : FuncData) : Prop where
  ex : ∃ (oc : Value) (od : Option Addr) (kV doc pm : Value) (an : Option Addr) (cdv ct : Value) (osl : Array (Option Value)),
    fd = PySem.W.fnOf x qual (defArgs st) (defBody st) (defScope st) .none kV doc pm an cdv ct ∧ K.lookup f = some ⟨oc, od, .func fd, osl⟩ ∧ PySem.W.codeIn K cdv qual = true
  kp : PySem.W.keepIn K (.ref f) = true
section
variable {P : Program} {w : World} {K : PySem.W.Frag} {mg : Str → Option Value} {base : Heap}
theorem Fun.ok {x qual : Str} {st : Stmt} {f : Addr} {fd : FuncData} {N ps : List Str} {k : Nat} {sp : Sp} (F : Fun K x qual st f fd) (S : FnScope N ps (defScope st)) (len : ∀ vs H Q E, sp vs H Q E → vs.length = ps.length)
    (hbody : ∀ (cdv : Value) (A : Around) (outer : List Env) (s : Shared) (H : Hp) (vs : List V) (Q : VK) (E : XK), Room k (A.deeper (envOfC qual (defScope st) s.heap.objs.size f cdv)) → sp vs H Q E →
      ∃ t, PSs (cxOf CX0 P w K mg base N qual (defScope st) f cdv A outer s H E).nox (defBody st) t ∧ t { nx := fun _ H' => Q .non H', rt := Q } (start N vs) H) : FnOk P w K mg base CX0 (k + 1) f fd ps sp := by
  obtain ⟨oc, od, kV, doc, pm, an, cdv, ct, osl, rfl, lk, hcd⟩ := F.ex
  refine fn_of lk hcd S len fun A outer s H vs Q E hr hsp => ?_
  obtain ⟨t, h, q⟩ := hbody cdv A outer s H vs Q E hr hsp
  exact ⟨t, h.nox, q⟩
theorem Fun.binds {x qual : Str} {st : Stmt} {f : Addr} {fd : FuncData} {ps : List Str} (F : Fun K x qual st f fd)
    (h : ∀ (kV doc pm : Value) (an : Option Addr) (cdv ct : Value) (us : List Value), us.length = ps.length → bindArgs (PySem.W.fnOf x qual (defArgs st) (defBody st) (defScope st) .none kV doc pm an cdv ct) ⟨us, []⟩ = pure (ps.zip us)) : Binds K fd ps [] := by
  obtain ⟨oc, od, kV, doc, pm, an, cdv, ct, osl, rfl, lk, hcd⟩ := F.ex
  exact .all (h kV doc pm an cdv ct)
theorem fun_mk {x qual : Str} {st : Stmt} {f : Addr} {oc : Value} {od an : Option Addr} {osl : Array (Option Value)} {kV doc pm cdv ct : Value} (l : K.lookup f = some ⟨oc, od, .func (PySem.W.fnOf x qual (defArgs st) (defBody st) (defScope st) .none kV doc pm an cdv ct), osl⟩)
    (c : PySem.W.codeIn K cdv qual = true) (k : PySem.W.keepIn K (.ref f) = true) : Fun K x qual st f (PySem.W.fnOf x qual (defArgs st) (defBody st) (defScope st) .none kV doc pm an cdv ct) := ⟨⟨oc, od, kV, doc, pm, an, cdv, ct, osl, rfl, l, c⟩, k⟩
end
section
variable {X : Cx}
theorem pv (i : Nat) {x : Str} {pos : Pos} (hN : X.N[i]? = some x := by rfl) (hv : Vis X.env.scope x := by first | exact Or.inl rfl | exact Or.inr (Or.inl rfl) | exact Or.inr (Or.inr rfl)) (hd : (x == ("__debug__" : Str)) = false := by decide)
    (hcd : (x == ("__classdict__" : Str)) = false := by decide) : PE X (.Name x pos) (tVar i) := pe_var hN hv hd hcd
end
theorem iteF {A B : Prop} (h : B) : if false = true then A else B := by
  rw [if_neg Bool.false_ne_true]
  exact h
theorem iteT {A B : Prop} (h : A) : if true = true then A else B := by
  rw [if_pos rfl]
  exact h
theorem ite2 {c A B : Prop} [Decidable c] (h1 : c → A) (h2 : ¬ c → B) : if c then A else B := by
  by_cases h : c
  · rw [if_pos h]
    exact h1 h
  · rw [if_neg h]
    exact h2 h
def Same (H H' : Hp) : Prop := ∀ b o, H b = some o → H' b = some o
theorem Same.refl (H : Hp) : Same H H := fun _ _ h => h
theorem Same.trans {H H1 H2 : Hp} (a : Same H H1) (b : Same H1 H2) : Same H H2 := fun c o h => b c o (a c o h)
theorem Same.free {H H' : Hp} (e : Same H H') {l : Addr} (h : H' l = Option.none) : H l = Option.none := by
  cases q : H l with
  | none => rfl
  | some o =>
    rw [e l o q] at h
    cases h
theorem Same.seq {K : PySem.W.Frag} {H H' : Hp} {a : Addr} {xs : List V} (e : Same H H') (h : SqL K H a xs) : SqL K H' a xs := by
  rcases h with (h | ⟨o, h⟩) | h
  · exact .inl (.inl (e _ _ h))
  · exact .inl (.inr ⟨o, e _ _ h⟩)
  · exact .inr h
section
variable {κ : Type} [DecidableEq κ]
end
theorem at_of {xs : List V} {z : Int} {j : Nat} {v : V} (e : z = (j : Int)) (h : xs[j]? = some v) : atI xs z = some v := by
  rw [e]
  exact atI_nat h
theorem Same.made {H H1 : Hp} {x dx C : Addr} (nx : H x = Option.none) (nd : H dx = Option.none) (k : ∀ b o, (upd (upd H dx (.own x)) x (.ins C dx [])) b = some o → b ≠ x → H1 b = some o) : Same H H1 := fun b o e =>
  k b o (by rw [upd_ne (ne_of_none e nx), upd_ne (ne_of_none e nd)]; exact e) (ne_of_none e nx)
end L2
section
set_option maxRecDepth 100000
set_option maxHeartbeats 2000000
namespace L2
open PySem PySem.Spec PyProof.Rows
open PySem.W (WData Codec OpenSpec Well WellAll ReadsW ReadsAllW)
mutual
inductive Dw (K : PySem.W.Frag) (H : Hp) : V → WData → Prop
  | non : Dw K H .non .none
  | bl (b : Bool) : Dw K H (.bl b) (.bool b)
  | int (i : Int) : Dw K H (.int i) (.int i)
  | str (x : Str) : Dw K H (.str x) (.str x)
  | byt (b : Array UInt8) : Dw K H (.byt b) (.bytes b.toList)
  | lst {a : Addr} {xs : List V} {ds : List WData} : SqL K H a xs → DwAll K H xs ds → Dw K H (.ref a) (.list ds)
  | tup {a : Addr} {xs : List V} {ds : List WData} : SqT K H a xs → DwAll K H xs ds → Dw K H (.ref a) (.tuple ds)
inductive DwAll (K : PySem.W.Frag) (H : Hp) : List V → List WData → Prop
  | nil : DwAll K H [] []
  | cons {v : V} {vs : List V} {d : WData} {ds : List WData} : Dw K H v d → DwAll K H vs ds → DwAll K H (v :: vs) (d :: ds)
end
theorem dw_ints {K : PySem.W.Frag} {H : Hp} : ∀ ns : List Int, DwAll K H (ns.map V.int) (ns.map WData.int)
  | [] => .nil
  | n :: r => .cons (.int n) (dw_ints r)
theorem ints_dw {K : PySem.W.Frag} {H : Hp} : ∀ (ns : List Int) (xs : List V), DwAll K H xs (ns.map WData.int) → xs = ns.map V.int
  | [], xs, h => by
    cases h
    rfl
  | n :: r, xs, h => by
    cases h with
    | cons h1 h2 =>
      cases h1
      rw [ints_dw r _ h2] <;> rfl
section
variable {P : Program} {w : World} {K : PySem.W.Frag} {H : Hp} {h : Heap} {R : PySem.W.WRecords} {cl : Str → Option Addr}
theorem sqL_at {a : Addr} {xs : List V} (hok : HOk P w H h) (KX : K.In h) (q : SqL K H a xs) : ∃ (its : List Value) (o : Obj) (n : Nat), Vals xs its ∧ h.get? a = some o ∧ o.cls = .type "list" ∧ o.data = .seq its.toArray n := by
  rcases q with q | ⟨o, its, n, e, hc, _, hd, _, hv⟩
  · obtain ⟨_, its, n, hv, e⟩ := (show ObjOk P w H h a (.lst xs) from q.ok hok)
    exact ⟨its, _, n, hv, e, rfl, rfl⟩
  · exact ⟨its.toList, o, n, hv, KX _ _ e, hc, by simp [hd]⟩
theorem sqT_at {a : Addr} {xs : List V} (hok : HOk P w H h) (KX : K.In h) (q : SqT K H a xs) : ∃ (its : List Value) (o : Obj) (n : Nat), Vals xs its ∧ h.get? a = some o ∧ o.cls = .type "tuple" ∧ o.data = .seq its.toArray n := by
  rcases q with q | ⟨o, its, n, e, hc, hd, _, hv⟩
  · obtain ⟨_, its, hv, o, e, hc, n, hd⟩ := (show ObjOk P w H h a (.tup xs) from q.ok hok)
    exact ⟨its, o, n, hv, e, hc, hd⟩
  · exact ⟨its.toList, o, n, hv, KX _ _ e, hc, by simp [hd]⟩
mutual
theorem Dw.reads (hok : HOk P w H h) (KX : K.In h) : ∀ (d : WData) (v : V) (u : Value), Dw K H v d → RelV v u → ∃ as, ReadsW R cl h u d as
  | .none, _, _, x, r => by
    cases x
    cases r
    exact ⟨_, ReadsW.none⟩
  | .bool b, _, _, x, r => by
    cases x
    cases r
    exact ⟨_, ReadsW.bool b⟩
  | .int i, _, _, x, r => by
    cases x
    obtain ⟨t, rfl⟩ := r
    exact ⟨_, ReadsW.int i t⟩
  | .str s, _, _, x, r => by
    cases x
    obtain ⟨t, rfl⟩ := r
    exact ⟨_, ReadsW.str s t⟩
  | .bytes b, _, _, x, r => by
    cases x
    obtain ⟨t, rfl⟩ := r
    exact ⟨_, ReadsW.bytes _ t⟩
  | .list ds, _, _, x, r => by
    cases x with
    | lst hs ha =>
      cases r
      obtain ⟨its, o, n, rv, ho, hc, hd⟩ := sqL_at hok KX hs
      obtain ⟨as, hr⟩ := Dw.readsAll hok KX ds _ its ha rv
      exact ⟨_, ReadsW.list ho hc hd hr⟩
  | .tuple ds, _, _, x, r => by
    cases x with
    | tup hs ha =>
      cases r
      obtain ⟨its, o, n, rv, ho, hc, hd⟩ := sqT_at hok KX hs
      obtain ⟨as, hr⟩ := Dw.readsAll hok KX ds _ its ha rv
      exact ⟨_, ReadsW.tuple ho hc hd hr⟩
  | .float _, _, _, x, _ => by cases x
  | .dict _, _, _, x, _ => by cases x
  | .bytearray _, _, _, x, _ => by cases x
  | .set _, _, _, x, _ => by cases x
  | .frozenset _, _, _, x, _ => by cases x
  | .obj _ _, _, _, x, _ => by cases x
theorem Dw.readsAll (hok : HOk P w H h) (KX : K.In h) : ∀ (ds : List WData) (vs : List V) (us : List Value), DwAll K H vs ds → Vals vs us → ∃ as, ReadsAllW R cl h us ds as
  | [], _, _, x, r => by
    cases x
    cases r
    exact ⟨_, ReadsAllW.nil⟩
  | d :: ds, _, _, x, r => by
    cases x with
    | cons h1 h2 =>
      cases r with
      | cons r1 r2 =>
        obtain ⟨as, q1⟩ := Dw.reads hok KX d _ _ h1 r1
        obtain ⟨bs, q2⟩ := Dw.readsAll hok KX ds _ _ h2 r2
        exact ⟨_, ReadsAllW.cons q1 q2⟩
end
end
mutual
def plW : WData → Bool
  | .none => true
  | .bool _ => true
  | .int _ => true
  | .str _ => true
  | .bytes _ => true
  | .list xs => plWs xs
  | .tuple xs => plWs xs
  | _ => false
def plWs : List WData → Bool
  | [] => true
  | x :: r => plW x && plWs r
end
theorem plWs_map {α : Type} {f : α → WData} (h : ∀ a, plW (f a) = true) : ∀ l : List α, plWs (l.map f) = true
  | [] => rfl
  | x :: r => by
    show (plW (f x) && plWs (r.map f)) = true
    rw [h x, plWs_map h r] <;> rfl
theorem pl_enc : ∀ (c : Codec) (a : c.denote), plW (c.enc a) = true
  | .unit, _ => rfl
  | .bool, _ => rfl
  | .int _ _, _ => rfl
  | .nat _ _, _ => rfl
  | .u8, _ => rfl
  | .bytes _ _, _ => rfl
  | .text _ _ _ _, _ => rfl
  | .list _ _ c, a => plWs_map (fun x => pl_enc c x) a
  | .pair c d, a => by
    show (plW (c.enc a.1) && (plW (d.enc a.2) && true)) = true
    rw [pl_enc c a.1, pl_enc d a.2] <;> rfl
  | .triple c d e, a => by
    show (plW (c.enc a.1) && (plW (d.enc a.2.1) && (plW (e.enc a.2.2) && true))) = true
    rw [pl_enc c a.1, pl_enc d a.2.1, pl_enc e a.2.2] <;> rfl
  | .option c, none => rfl
  | .option c, some x => pl_enc c x
theorem pl_encAll : ∀ (cs : List Codec) (a : Codec.denoteAll cs), plWs (Codec.encAll cs a) = true
  | [], _ => rfl
  | c :: cs, a => by
    show (plW (c.enc a.1) && plWs (Codec.encAll cs a.2)) = true
    rw [pl_enc c a.1, pl_encAll cs a.2] <;> rfl
theorem weight_mem : ∀ {xs : List WData} {d : WData}, d ∈ xs → d.weight ≤ WData.weightAll xs
  | [], d, h => absurd h (by simp)
  | x :: r, d, h => by
    show d.weight ≤ x.weight + 1 + WData.weightAll r
    rcases List.mem_cons.mp h with e | m
    · rw [e]
      omega
    · have z := weight_mem m
      omega
def toV : Value → V
  | .none => .non
  | .bool b => .bl b
  | .int i _ => .int i
  | .str x _ => .str x
  | .bytes b _ => .byt b
  | .ref a => .ref a
  | _ => .non
def OkU (A : List Addr) : Value → Prop
  | .none => True
  | .bool _ => True
  | .int _ _ => True
  | .str _ _ => True
  | .bytes _ _ => True
  | .ref a => a ∈ A
  | _ => False
theorem OkU.mono {A B : List Addr} (h : ∀ a ∈ A, a ∈ B) : ∀ {u : Value}, OkU A u → OkU B u := fun {u} x => by
  cases u with
  | ref a => exact h a x
  | none => trivial
  | bool b => trivial
  | int i t => trivial
  | str s t => trivial
  | bytes b t => trivial
  | _ => exact False.elim x
theorem relV_toV {A : List Addr} {u : Value} (x : OkU A u) : RelV (toV u) u := by
  cases u with
  | ref a => rfl
  | none => rfl
  | bool b => rfl
  | int i t => exact ⟨t, rfl⟩
  | str s t => exact ⟨t, rfl⟩
  | bytes b t => exact ⟨t, rfl⟩
  | _ => exact False.elim x
theorem vals_toV {A : List Addr} : ∀ {vs : List Value}, (∀ u ∈ vs, OkU A u) → Vals (vs.map toV) vs
  | [], _ => .nil
  | u :: r, h => .cons (relV_toV (h u (List.mem_cons_self ..))) (vals_toV fun x hx => h x (List.mem_cons_of_mem _ hx))
def ArgOb (h : Heap) (A : List Addr) (a : Addr) : Prop := ∃ vs : List Value, vs.length ≤ sizeLine ∧ (∀ u ∈ vs, OkU A u) ∧
  (h.get? a = some { cls := .type "list", data := .seq vs.toArray } ∨ h.get? a = some { cls := .type "tuple", data := .seq vs.toArray })
theorem ArgOb.mono {h : Heap} {A B : List Addr} {a : Addr} (k : ∀ a ∈ A, a ∈ B) (x : ArgOb h A a) : ArgOb h B a := by
  obtain ⟨vs, h1, h2, h3⟩ := x
  exact ⟨vs, h1, fun u hu => (h2 u hu).mono k, h3⟩
theorem wellAll_len {P : Params} {h : Heap} : ∀ {vs : List Value} {ds : List WData}, WellAll P h vs ds → vs.length = ds.length
  | _, _, .nil => rfl
  | _, _, .cons _ b => by
    show _ + 1 = _ + 1
    rw [wellAll_len b]
theorem well_list {P : Params} {h : Heap} {v : Value} {ds : List WData} (x : Well P h v (.list ds)) : ∃ (a : Addr) (vs : List Value), v = .ref a ∧ h.get? a = some { cls := .type "list", data := .seq vs.toArray } ∧ WellAll P h vs ds := by
  cases x with
  | list ho hall => exact ⟨_, _, rfl, ho, hall⟩
theorem well_tuple {P : Params} {h : Heap} {v : Value} {ds : List WData} (x : Well P h v (.tuple ds)) : ∃ (a : Addr) (vs : List Value), v = .ref a ∧ h.get? a = some { cls := .type "tuple", data := .seq vs.toArray } ∧ WellAll P h vs ds := by
  cases x with
  | tuple ho hall => exact ⟨_, _, rfl, ho, hall⟩
theorem well_cons {P : Params} {h : Heap} {us : List Value} {d : WData} {ds : List WData} (x : WellAll P h us (d :: ds)) : ∃ (v : Value) (vs : List Value), us = v :: vs ∧ Well P h v d ∧ WellAll P h vs ds := by
  cases x with
  | cons a b => exact ⟨_, _, rfl, a, b⟩
theorem line_of {n : Nat} (h : n ≤ 1048576) : n ≤ sizeLine := Nat.le_trans h (by decide)
section
variable {P : Params} {h : Heap}
mutual
theorem area_one : ∀ (d : WData) (v : Value), Well P h v d → plW d = true → d.weight ≤ 1048576 → ∃ A : List Addr, OkU A v ∧ ∀ a ∈ A, ArgOb h A a
  | .none, _, x, _, _ => by
    cases x
    exact ⟨[], trivial, fun a m => absurd m (by simp)⟩
  | .bool b, _, x, _, _ => by
    cases x
    exact ⟨[], trivial, fun a m => absurd m (by simp)⟩
  | .int i, _, x, _, _ => by
    cases x
    exact ⟨[], trivial, fun a m => absurd m (by simp)⟩
  | .str s, _, x, _, _ => by
    cases x
    exact ⟨[], trivial, fun a m => absurd m (by simp)⟩
  | .bytes b, _, x, _, _ => by
    cases x
    exact ⟨[], trivial, fun a m => absurd m (by simp)⟩
  | .list ds, _, x, p, z => by
    obtain ⟨a, vs, rfl, ho, hall⟩ := well_list x
    have z2 : WData.weightAll ds ≤ 1048576 := z
    obtain ⟨A, h1, h2⟩ := area_all ds _ hall p fun d hd => Nat.le_trans (weight_mem hd) z2
    have k : ∀ b ∈ A, b ∈ a :: A := fun b hb => List.mem_cons_of_mem _ hb
    refine ⟨a :: A, List.mem_cons_self .., fun b hb => ?_⟩
    rcases List.mem_cons.mp hb with e | m
    · rw [e]
      exact ⟨vs, line_of (by rw [wellAll_len hall]; exact Nat.le_trans (PySem.W.length_le_weightAllW ds) z2), fun u hu => (h1 u hu).mono k, .inl ho⟩
    · exact (h2 b m).mono k
  | .tuple ds, _, x, p, z => by
    obtain ⟨a, vs, rfl, ho, hall⟩ := well_tuple x
    have z2 : WData.weightAll ds ≤ 1048576 := z
    obtain ⟨A, h1, h2⟩ := area_all ds _ hall p fun d hd => Nat.le_trans (weight_mem hd) z2
    have k : ∀ b ∈ A, b ∈ a :: A := fun b hb => List.mem_cons_of_mem _ hb
    refine ⟨a :: A, List.mem_cons_self .., fun b hb => ?_⟩
    rcases List.mem_cons.mp hb with e | m
    · rw [e]
      exact ⟨vs, line_of (by rw [wellAll_len hall]; exact Nat.le_trans (PySem.W.length_le_weightAllW ds) z2), fun u hu => (h1 u hu).mono k, .inr ho⟩
    · exact (h2 b m).mono k
  | .float _, _, _, p, _ => Bool.noConfusion (show false = true from p)
  | .dict _, _, _, p, _ => Bool.noConfusion (show false = true from p)
  | .bytearray _, _, _, p, _ => Bool.noConfusion (show false = true from p)
  | .set _, _, _, p, _ => Bool.noConfusion (show false = true from p)
  | .frozenset _, _, _, p, _ => Bool.noConfusion (show false = true from p)
  | .obj _ _, _, _, p, _ => Bool.noConfusion (show false = true from p)
theorem area_all : ∀ (ds : List WData) (vs : List Value), WellAll P h vs ds → plWs ds = true → (∀ d ∈ ds, d.weight ≤ 1048576) → ∃ A : List Addr, (∀ u ∈ vs, OkU A u) ∧ ∀ a ∈ A, ArgOb h A a
  | [], _, x, _, _ => by
    cases x
    exact ⟨[], fun u m => absurd m (by simp), fun a m => absurd m (by simp)⟩
  | d :: ds, _, x, p, z => by
    obtain ⟨v, vs, rfl, x1, x2⟩ := well_cons x
    have q : plW d = true ∧ plWs ds = true := Bool.and_eq_true_iff.mp p
    obtain ⟨A, a1, a2⟩ := area_one d v x1 q.1 (z d (List.mem_cons_self ..))
    obtain ⟨B, b1, b2⟩ := area_all ds vs x2 q.2 fun e he => z e (List.mem_cons_of_mem _ he)
    have kA : ∀ b ∈ A, b ∈ A ++ B := fun b hb => List.mem_append.mpr (.inl hb)
    have kB : ∀ b ∈ B, b ∈ A ++ B := fun b hb => List.mem_append.mpr (.inr hb)
    refine ⟨A ++ B, fun u hu => ?_, fun b hb => ?_⟩
    · rcases List.mem_cons.mp hu with e | m
      · rw [e]
        exact a1.mono kA
      · exact (b1 u m).mono kB
    · rcases List.mem_append.mp hb with m | m
      · exact (a2 b m).mono kA
      · exact (b2 b m).mono kB
end
end
def hoOf (o : Obj) : Option HO := match o.data with
  | .seq vs _ => if (o.cls == Value.type "list") = true then some (.frz o (.lst (vs.toList.map toV))) else some (.frz o (.tup (vs.toList.map toV)))
  | _ => none
def argH (K : PySem.W.Frag) (h : Heap) (A : List Addr) : Hp := fun b => if b ∈ A then (if (K.lookup b).isNone = true then (h.get? b).bind hoOf else none) else none
def OnlyF (H : Hp) : Prop := ∀ b, H b = none ∨ ∃ o u, H b = some (.frz o u)
theorem hoOf_lst (vs : List Value) : hoOf { cls := .type "list", data := .seq vs.toArray } = some (.frz { cls := .type "list", data := .seq vs.toArray } (.lst (vs.map toV))) := by
  show (if (Value.type "list" == Value.type "list") = true then some (HO.frz { cls := .type "list", data := .seq vs.toArray } (.lst (vs.toArray.toList.map toV))) else some (HO.frz { cls := .type "list", data := .seq vs.toArray } (.tup (vs.toArray.toList.map toV)))) = _
  rw [if_pos (beq_self_eq_true _)]
theorem hoOf_tup (vs : List Value) : hoOf { cls := .type "tuple", data := .seq vs.toArray } = some (.frz { cls := .type "tuple", data := .seq vs.toArray } (.tup (vs.map toV))) := by
  show (if (Value.type "tuple" == Value.type "list") = true then some (HO.frz { cls := .type "tuple", data := .seq vs.toArray } (.lst (vs.toArray.toList.map toV))) else some (HO.frz { cls := .type "tuple", data := .seq vs.toArray } (.tup (vs.toArray.toList.map toV)))) = _
  rw [if_neg (by decide)]
section
variable {P : Program} {w : World} {K : PySem.W.Frag} {h : Heap} {A : List Addr}
theorem argH_at {b : Addr} {o : Obj} (hb : b ∈ A) (hk : K.lookup b = none) (e : h.get? b = some o) : argH K h A b = hoOf o := by
  unfold argH
  rw [if_pos hb, hk, if_pos (show (none : Option Obj).isNone = true from rfl), e] <;> rfl
theorem of_argH {b : Addr} {u : HO} (q : argH K h A b = some u) : b ∈ A ∧ K.lookup b = none := by
  unfold argH at q
  by_cases hb : b ∈ A
  · rw [if_pos hb] at q
    cases hk : K.lookup b with
    | none => exact ⟨hb, rfl⟩
    | some o =>
      rw [hk, if_neg (by simp)] at q
      cases q
  · rw [if_neg hb] at q
    cases q
theorem argH_is (ar : ∀ a ∈ A, ArgOb h A a) {b : Addr} {u : HO} (q : argH K h A b = some u) : K.lookup b = none ∧ ∃ vs : List Value, vs.length ≤ sizeLine ∧ (∀ u ∈ vs, OkU A u) ∧
    ((h.get? b = some { cls := .type "list", data := .seq vs.toArray } ∧ u = .frz { cls := .type "list", data := .seq vs.toArray } (.lst (vs.map toV))) ∨
     (h.get? b = some { cls := .type "tuple", data := .seq vs.toArray } ∧ u = .frz { cls := .type "tuple", data := .seq vs.toArray } (.tup (vs.map toV)))) := by
  obtain ⟨hb, hk⟩ := of_argH q
  obtain ⟨vs, h1, h2, h3⟩ := ar b hb
  refine ⟨hk, vs, h1, h2, ?_⟩
  rcases h3 with e | e
  · rw [argH_at hb hk e, hoOf_lst] at q
    exact .inl ⟨e, (Option.some.inj q).symm⟩
  · rw [argH_at hb hk e, hoOf_tup] at q
    exact .inr ⟨e, (Option.some.inj q).symm⟩
theorem argH_only (ar : ∀ a ∈ A, ArgOb h A a) : OnlyF (argH K h A) := fun b => by
  cases q : argH K h A b with
  | none => exact .inl rfl
  | some u =>
    obtain ⟨_, vs, _, _, ⟨_, e⟩ | ⟨_, e⟩⟩ := argH_is ar q
    · exact .inr ⟨_, _, by rw [e]⟩
    · exact .inr ⟨_, _, by rw [e]⟩
theorem argH_ok (ar : ∀ a ∈ A, ArgOb h A a) : HOk P w (argH K h A) h := fun b u q => by
  obtain ⟨_, vs, h1, h2, ⟨e, rfl⟩ | ⟨e, rfl⟩⟩ := argH_is ar q
  · exact ⟨e, by rw [List.length_map]; exact h1, vs, _, vals_toV h2, e⟩
  · exact ⟨e, by rw [List.length_map]; exact h1, vs, vals_toV h2, _, e, rfl, _, rfl⟩
theorem seq_inj {c c' : Value} {vs us : List Value} (e : (some { cls := c, data := .seq vs.toArray } : Option Obj) = some { cls := c', data := .seq us.toArray }) : c = c' ∧ vs = us := by
  have e1 := Option.some.inj e
  have e2 : c = c' := congrArg Obj.cls e1
  have e3 : Data.seq vs.toArray = Data.seq us.toArray := congrArg Obj.data e1
  injection e3 with e4
  refine ⟨e2, ?_⟩
  have e5 := congrArg Array.toList e4
  simpa using e5
theorem argL (KX : K.In h) (ar : ∀ a ∈ A, ArgOb h A a) {a : Addr} {vs : List Value} (ha : a ∈ A) (e : h.get? a = some { cls := .type "list", data := .seq vs.toArray }) : (∀ u ∈ vs, OkU A u) ∧ SqL K (argH K h A) a (vs.map toV) := by
  obtain ⟨us, h1, h2, h3⟩ := ar a ha
  have hu : us = vs := by
    rcases h3 with q | q
    · rw [e] at q
      exact (seq_inj q).2.symm
    · rw [e] at q
      exact absurd (Value.type.inj (seq_inj q).1) (by decide)
  subst hu
  refine ⟨h2, ?_⟩
  cases hk : K.lookup a with
  | none => exact .inl (.inr ⟨_, by rw [argH_at ha hk e, hoOf_lst]⟩)
  | some o =>
    have e2 := KX a o hk
    rw [e] at e2
    obtain rfl := Option.some.inj e2
    exact .inr ⟨_, us.toArray, _, hk, rfl, rfl, rfl, by rw [List.size_toArray]; exact h1, by simpa using vals_toV h2⟩
theorem argT (KX : K.In h) (ar : ∀ a ∈ A, ArgOb h A a) {a : Addr} {vs : List Value} (ha : a ∈ A) (e : h.get? a = some { cls := .type "tuple", data := .seq vs.toArray }) : (∀ u ∈ vs, OkU A u) ∧ SqT K (argH K h A) a (vs.map toV) := by
  obtain ⟨us, h1, h2, h3⟩ := ar a ha
  have hu : us = vs := by
    rcases h3 with q | q
    · rw [e] at q
      exact absurd (Value.type.inj (seq_inj q).1) (by decide)
    · rw [e] at q
      exact (seq_inj q).2.symm
  subst hu
  refine ⟨h2, ?_⟩
  cases hk : K.lookup a with
  | none => exact .inl (.inr ⟨_, by rw [argH_at ha hk e, hoOf_tup]⟩)
  | some o =>
    have e2 := KX a o hk
    rw [e] at e2
    obtain rfl := Option.some.inj e2
    exact .inr ⟨_, us.toArray, _, hk, rfl, rfl, by rw [List.size_toArray]; exact h1, by simpa using vals_toV h2⟩
mutual
theorem dw_one {Pm : Params} (KX : K.In h) (ar : ∀ a ∈ A, ArgOb h A a) : ∀ (d : WData) (v : Value), Well Pm h v d → plW d = true → OkU A v → Dw K (argH K h A) (toV v) d
  | .none, _, x, _, _ => by
    cases x
    exact .non
  | .bool b, _, x, _, _ => by
    cases x
    exact .bl b
  | .int i, _, x, _, _ => by
    cases x
    exact .int i
  | .str s, _, x, _, _ => by
    cases x
    exact .str s
  | .bytes b, _, x, _, _ => by
    cases x
    have z := Dw.byt (K := K) (H := argH K h A) b.toArray
    exact z
  | .list ds, _, x, p, hu => by
    obtain ⟨a, vs, rfl, ho, hall⟩ := well_list x
    obtain ⟨h2, hs⟩ := argL KX ar hu ho
    exact .lst hs (dw_all KX ar ds _ hall p h2)
  | .tuple ds, _, x, p, hu => by
    obtain ⟨a, vs, rfl, ho, hall⟩ := well_tuple x
    obtain ⟨h2, hs⟩ := argT KX ar hu ho
    exact .tup hs (dw_all KX ar ds _ hall p h2)
  | .float _, _, _, p, _ => Bool.noConfusion (show false = true from p)
  | .dict _, _, _, p, _ => Bool.noConfusion (show false = true from p)
  | .bytearray _, _, _, p, _ => Bool.noConfusion (show false = true from p)
  | .set _, _, _, p, _ => Bool.noConfusion (show false = true from p)
  | .frozenset _, _, _, p, _ => Bool.noConfusion (show false = true from p)
  | .obj _ _, _, _, p, _ => Bool.noConfusion (show false = true from p)
theorem dw_all {Pm : Params} (KX : K.In h) (ar : ∀ a ∈ A, ArgOb h A a) : ∀ (ds : List WData) (vs : List Value), WellAll Pm h vs ds → plWs ds = true → (∀ u ∈ vs, OkU A u) → DwAll K (argH K h A) (vs.map toV) ds
  | [], _, x, _, _ => by
    cases x
    exact .nil
  | d :: ds, _, x, p, hu => by
    obtain ⟨v, vs, rfl, x1, x2⟩ := well_cons x
    have q : plW d = true ∧ plWs ds = true := Bool.and_eq_true_iff.mp p
    exact .cons (dw_one KX ar d v x1 q.1 (hu _ (List.mem_cons_self ..))) (dw_all KX ar ds vs x2 q.2 fun u m => hu u (List.mem_cons_of_mem _ m))
end
end
theorem spec_call {P : Program} {w : World} {K : PySem.W.Frag} {mg mb : Str → Option Value} {CX : CXT} {k : Nat} {fa : Addr} {fd : FuncData} {ps : List Str} {sp : Sp} {s₁ : Shared} {vals : List Value} {ds : List WData} {R : PySem.W.WRecords} {cl : Str → Option Addr} {d0 : WData}
    (KX : K.In s₁.heap) (hns : s₁.heap.Ns mainGlobals mg) (hb : s₁.heap.Ns builtinsNs mb) (hbb : ∀ x : Str, x ≠ "__name__" → mb x = bootBuiltins x) (hlim : s₁.heap.NoLimit) (hg : s₁.gens = #[])
    (hwl : WellAll w.params s₁.heap vals ds) (hpl : plWs ds = true) (hwt : ∀ d ∈ ds, d.weight ≤ 1048576) (hr : Room k callerA)
    (F : ∀ base : Heap, K.In base → base.Ns mainGlobals mg → FnOk P w K mg base CX k fa fd ps sp) (hbind : ∀ (s : Shared) (us : List Value), us.length = ps.length → BindsTo s fd ⟨us, []⟩ (ps.zip us)) (hlen : ds.length = ps.length)
    (hsp : ∀ (H : Hp) (xs : List V), OnlyF H → DwAll K H xs ds → sp xs H (fun v H' => Dw K H' v d0) fun _ _ _ => False)
    (hCX : ∀ H e s', CX [] H s₁ (fun _ _ _ => False) e s' → False) :
    codeAny (model P w) callerA (.call (.ref fa) ⟨vals, []⟩) (fun r s' => ∃ u as, r = .ok (.ret u) ∧ ReadsW R cl s'.heap u d0 as ∧ OldK s₁.heap s'.heap ∧ s'.os = s₁.os ∧ AllBare s'.gens) s₁ := by
  obtain ⟨A, ho, ar⟩ := area_all ds vals hwl hpl hwt
  have hO : OnlyF (argH K s₁.heap A) := argH_only ar
  have hok : HOk P w (argH K s₁.heap A) s₁.heap := argH_ok ar
  have hS := dw_all KX ar ds vals hwl hpl ho
  have hV := vals_toV ho
  have hK : ∀ b u, argH K s₁.heap A b = some u → K.lookup b = none := fun b u q => (argH_is ar q).1
  have noA : ∀ {b : Addr} {o : Obj} {es : Array DictEntry} {ep : Nat}, s₁.heap.get? b = some o → o.data = .dict es ep → argH K s₁.heap A b = none := fun {b o es ep} e d => by
    cases q : argH K s₁.heap A b with
    | none => rfl
    | some u =>
      obtain ⟨_, vs, _, _, ⟨e2, _⟩ | ⟨e2, _⟩⟩ := argH_is ar q
      · rw [e2] at e
        cases e
        have d' : Data.seq vs.toArray _ = Data.dict es ep := d
        cases d'
      · rw [e2] at e
        cases e
        have d' : Data.seq vs.toArray _ = Data.dict es ep := d
        cases d'
  generalize argH K s₁.heap A = H at hO hok hS hK noA
  have base_of : ∀ {b : Addr} {o : Obj}, s₁.heap.get? b = some o → H b = none → (hidT s₁.heap H).get? b = some o := fun e n => hidT_get e n
  have nsK : ∀ {b : Addr} {m : Str → Option Value}, s₁.heap.Ns b m → (hidT s₁.heap H).Ns b m := fun {b m} ⟨o, es, ep, e, d, r⟩ => ⟨o, es, ep, base_of e (noA e d), d, r⟩
  have nK : ∀ b o, K.lookup b = some o → H b = none := fun b o e => by
    cases q : H b with
    | none => rfl
    | some u =>
      rw [hK b u q] at e
      cases e
  have hKb : K.In (hidT s₁.heap H) := fun b o e => base_of (KX b o e) (nK b o e)
  have hM : Mod K mg (hidT s₁.heap H) := ⟨hKb, nsK hns, ⟨mb, nsK hb, hbb⟩, let ⟨mc, h1, h2⟩ := hlim; ⟨mc, nsK h1, h2⟩⟩
  have e0 : Env0 P w K mg (hidT s₁.heap H) callerA [] s₁ H := ⟨rfl, hM, fun b o e => of_hidT e, Nat.le_of_eq (hidT_size _ _), trivial, fun b hb => absurd (show b ∈ ([] : List Addr) from hb) (by simp), hok, .of_eq hg⟩
  have hl : vals.length = ps.length := by rw [wellAll_len hwl]; exact hlen
  refine codeAny_mono ((F _ hKb (nsK hns)).run callerA [] s₁ H ⟨vals, []⟩ vals (vals.map toV) _ _ hr e0 (hbind s₁ vals hl) hV (hsp H _ hO hS)) fun r s' x => ?_
  cases r with
  | error e => exact (hCX H e s' x).elim
  | ok fl =>
    cases fl with
    | next => exact False.elim x
    | brk => exact False.elim x
    | cont => exact False.elim x
    | ret u =>
      obtain ⟨v, H', os, bare, un, hok', r', q⟩ := x
      have kept : ∀ b o, s₁.heap.get? b = some o → s'.heap.get? b = some o := fun b o e => by
        cases q2 : H b with
        | none => exact un.keep b o e q2 (by intro z; exact absurd (show b ∈ ([] : List Addr) from z) (by simp)) (by simp)
        | some u2 =>
          rcases hO b with z | ⟨ob, u3, z⟩
          · rw [q2] at z
            cases z
          · have z2 := un.frzs b ob _ z
            obtain ⟨e1, _⟩ := hok b _ z
            obtain ⟨e2, _⟩ := hok' b _ z2
            rw [e] at e1
            cases e1
            exact e2
      have KX' : K.In s'.heap := fun b o e => kept b o (KX b o e)
      obtain ⟨as, hrd⟩ := Dw.reads (R := R) (cl := cl) hok' KX' d0 v u q r'
      exact ⟨u, as, rfl, hrd, OldK.of_keep kept, os, bare⟩
theorem layable_weight {ds : List WData} (h : WData.layableAll ds = true) : ∀ d ∈ ds, d.weight ≤ 1048576 := fun d hd =>
  (PySem.W.layableW_iff.mp (List.all_eq_true.mp h d hd)).2.2
theorem encAll_len : ∀ (cs : List Codec) (a : Codec.denoteAll cs), (Codec.encAll cs a).length = cs.length
  | [], _ => rfl
  | c :: cs, a => by
    show (Codec.encAll cs a.2).length + 1 = cs.length + 1
    rw [encAll_len cs a.2]
theorem walk_spec {r : OpenSpec} {k : Nat} {q : Program} {loose : List Str} {XP : (Str → Option Value) → Heap → Prop} {YP : World → Heap → Prop} {d : DefRec} {K : Params → PySem.W.Frag} {CX : World → CXT} {ps : List Str} {sp : World → Sp}
    (hwell : r.wellSaid = true) (hdf : d.params.defaults = []) (hlen : r.args.length = ps.length) (hr : Room k callerA)
    (hY : ∀ (w : World) (h : Heap), YP w h → (K w.params).In h)
    (F : ∀ (w : World) (mg : Str → Option Value) (fa : Addr) (h : Heap), YP w h → (K w.params).In h → h.Ns mainGlobals mg → mg d.name = some (.ref fa) →
      ∃ fd : FuncData, (∀ (s : Shared) (us : List Value), us.length = ps.length → BindsTo s fd ⟨us, []⟩ (ps.zip us)) ∧
        ∀ base : Heap, (K w.params).In base → base.Ns mainGlobals mg → FnOk r.prog w (K w.params) mg base (CX w) k fa fd ps (sp w))
    (hsp : ∀ (w : World) (H : Hp) (xs : List V) (a : Codec.denoteAll r.args), OnlyF H → Codec.withinAll r.args a = true → Codec.app r.args r.asked a = true → DwAll (K w.params) H xs (Codec.encAll r.args a) →
      sp w xs H (fun v H' => Dw (K w.params) H' v (r.ret.enc (Codec.app r.args r.f a))) fun _ _ _ => False)
    (hCX : ∀ (w : World) (H : Hp) (s : Shared) (e : Value) (s' : Shared), CX w [] H s (fun _ _ _ => False) e s' → False) :
    PySem.W.WalkOS q loose XP YP r d [] (fun f vs => PySem.call f vs) := by
  intro w s_0 s₁ mg mb G Y fa o pm cd doc dV kV ho hd hcd hD hmg hg args vals as hpre hlay hrd hwl hlo
  obtain ⟨a, e1, e2⟩ := PySem.W.os_pre_some hpre
  obtain ⟨e3, hwi⟩ := Codec.encAll_of_decAll r.args args a e1
  subst e3
  have KX := hY w _ Y
  obtain ⟨fd, hb, hF⟩ := F w mg fa _ Y KX G.T.g hmg
  refine PySem.W.enter_call (codeAny_mono (spec_call (R := []) (cl := classAt s_0.heap) (d0 := r.ret.enc (Codec.app r.args r.f a)) KX G.T.g G.T.b G.T.builtins G.T.nolimit hg hwl (pl_encAll _ _) (layable_weight hlay) hr hF hb (by rw [encAll_len]; exact hlen)
    (fun H xs hO hS => hsp w H xs a hO hwi e2 hS) fun H e s' => hCX w H s₁ e s') fun r' s' hq => ?_)
  obtain ⟨u, as', rfl, h1, h2, h3, h4⟩ := hq
  exact ⟨.inl ⟨u, _, as', rfl, fun _ => rfl, h1, (OpenSpec.post_iff hwell hwi _ _).mpr rfl, fun z => Bool.noConfusion (show false = true from z)⟩, h2, h3, h4⟩
theorem walk_specK {r : OpenSpec} {k : Nat} {q : Program} {loose : List Str} {XP : (Str → Option Value) → Heap → Prop} {YP : World → Heap → Prop} {d : DefRec} {K : Params → PySem.W.Frag} {CX : CXT} {ps : List Str} {sp : PySem.W.Frag → Sp}
    (hwell : r.wellSaid = true) (hdf : d.params.defaults = []) (hlen : r.args.length = ps.length) (hr : Room k callerA)
    (hY : ∀ (w : World) (h : Heap), YP w h → (K w.params).In h)
    (F : ∀ (w : World) (mg : Str → Option Value) (fa : Addr) (h : Heap), YP w h → (K w.params).In h → h.Ns mainGlobals mg → mg d.name = some (.ref fa) →
      ∃ fd : FuncData, (∀ (s : Shared) (us : List Value), us.length = ps.length → BindsTo s fd ⟨us, []⟩ (ps.zip us)) ∧
        ∀ base : Heap, (K w.params).In base → base.Ns mainGlobals mg → FnOk r.prog w (K w.params) mg base CX k fa fd ps (sp (K w.params)))
    (hsp : ∀ (K : PySem.W.Frag) (H : Hp) (xs : List V) (a : Codec.denoteAll r.args), OnlyF H → Codec.withinAll r.args a = true → Codec.app r.args r.asked a = true → DwAll K H xs (Codec.encAll r.args a) →
      sp K xs H (fun v H' => Dw K H' v (r.ret.enc (Codec.app r.args r.f a))) fun _ _ _ => False)
    (hCX : ∀ (H : Hp) (s : Shared) (e : Value) (s' : Shared), CX [] H s (fun _ _ _ => False) e s' → False) :
    PySem.W.WalkOS q loose XP YP r d [] (fun f vs => PySem.call f vs) :=
  walk_spec (K := K) (CX := fun _ => CX) (sp := fun w => sp (K w.params)) hwell hdf hlen hr hY F (fun w H xs a h1 h2 h3 h4 => hsp (K w.params) H xs a h1 h2 h3 h4) fun _ H s e s' => hCX H s e s'
end L2
end
set_option maxRecDepth 100000
namespace Tk
open PySem
inductive Tr where
  | i (n : Int)
  | t (l : List Tr)
noncomputable instance : DecidableEq Tr := fun a b => Classical.propDecidable (a = b)
def TrIs (h : Heap) : Nat → Tr → Value → Prop
  | _, .i n, v => ∃ tk, v = .int n tk
  | 0, .t _, _ => False
  | n + 1, .t l, v => ∃ a o items m, v = .ref a ∧ h.get? a = some o ∧ o.cls = .type "tuple" ∧ o.data = .seq items m ∧ Paired (TrIs h n) l items.toList
def hashTr : Nat → Tr → Int
  | _, .i n => hashInt n
  | 0, .t _ => 0
  | n + 1, .t l => reduceHash (Builtin.Tuple.tupleHashOf (l.map (hashTr n)))
def drawsTr : Nat → Tr → Nat
  | _, .i _ => 1
  | 0, .t _ => 0
  | n + 1, .t l => (l.map (drawsTr n)).sum + 1
theorem trIs_i {h : Heap} {n : Nat} {k : Int} {v : Value} : TrIs h n (.i k) v ↔ ∃ tk, v = .int k tk := by
  cases n <;> exact Iff.rfl
theorem hash_i (n : Nat) (k : Int) : hashTr n (.i k) = hashInt k := by cases n <;> rfl
theorem draws_i (n : Nat) (k : Int) : drawsTr n (.i k) = 1 := by cases n <;> rfl
theorem Paired.inj2 {α β : Type} {F : α → β → Prop} (hf : ∀ a b v, F a v → F b v → a = b) : ∀ {x y : List α} {vs : List β}, Paired F x vs → Paired F y vs → x = y
  | _, _, _, .nil, .nil => rfl
  | _, _, _, .cons h1 t1, .cons h2 t2 => by rw [hf _ _ _ h1 h2, Paired.inj2 hf t1 t2]
theorem TrIs.inj {h : Heap} : ∀ (n : Nat) (a b : Tr) (v : Value), TrIs h n a v → TrIs h n b v → a = b
  | 0, .i x, .i y, v, ha, hb => by
    obtain ⟨_, rfl⟩ := trIs_i.mp ha
    obtain ⟨_, e⟩ := trIs_i.mp hb
    cases e; rfl
  | 0, .t _, _, v, ha, _ => ha.elim
  | 0, .i _, .t _, v, _, hb => hb.elim
  | n + 1, .i x, .i y, v, ha, hb => by
    obtain ⟨_, rfl⟩ := trIs_i.mp ha
    obtain ⟨_, e⟩ := trIs_i.mp hb
    cases e; rfl
  | n + 1, .i x, .t y, v, ha, hb => by
    obtain ⟨_, rfl⟩ := trIs_i.mp ha
    obtain ⟨_, _, _, _, e, _⟩ := hb
    cases e
  | n + 1, .t x, .i y, v, ha, hb => by
    obtain ⟨_, rfl⟩ := trIs_i.mp hb
    obtain ⟨_, _, _, _, e, _⟩ := ha
    cases e
  | n + 1, .t x, .t y, v, ha, hb => by
    obtain ⟨a, o, items, m, rfl, ho, _, hd, hp⟩ := ha
    obtain ⟨a', o', items', m', e, ho', _, hd', hp'⟩ := hb
    cases e
    obtain rfl : o = o' := Option.some.inj (ho.symm.trans ho')
    rw [hd] at hd'
    injection hd' with h1 _
    subst h1
    rw [Paired.inj2 (TrIs.inj n) hp hp']
theorem paired_mono {α β : Type} {F G : α → β → Prop} (hf : ∀ a b, F a b → G a b) : ∀ {x : List α} {vs : List β}, Paired F x vs → Paired G x vs
  | _, _, .nil => .nil
  | _, _, .cons h t => .cons (hf _ _ h) (paired_mono hf t)
theorem TrIs.keep {h h' : Heap} (k : ∀ (a : Addr) (o : Obj) (items : Array Value) (m : Nat), h.get? a = some o → o.data = .seq items m → h'.get? a = some o) : ∀ (n : Nat) (x : Tr) (v : Value), TrIs h n x v → TrIs h' n x v
  | 0, .i x, v, hx => hx
  | 0, .t _, v, hx => hx.elim
  | n + 1, .i x, v, hx => hx
  | n + 1, .t x, v, hx => by
    obtain ⟨a, o, items, m, rfl, ho, hc, hd, hp⟩ := hx
    exact ⟨a, o, items, m, rfl, k a o items m ho hd, hc, hd, paired_mono (TrIs.keep k n) hp⟩
section
variable {prog : Program} {w : World}
theorem sum_snoc (l : List Nat) (z : Nat) : (l ++ [z]).sum = l.sum + z := by simp [List.sum_append]
theorem pyHash_tr : ∀ (n : Nat) {A : Around} {E : Value → Shared → Prop} {s : Shared} {x : Tr} {v : Value} {Q : Int → Shared → Prop}, A.units + n < cLine → TrIs s.heap n x v →
    Q (hashTr n x) { s with toks := s.toks + drawsTr n x } → wpAny (model prog w) A (pyHash v) Q E s
  | 0, A, E, s, .i k, v, Q, hu, hx, h => by
    obtain ⟨t, rfl⟩ := trIs_i.mp hx
    exact wpAny_pyHash_int h
  | 0, A, E, s, .t _, v, Q, hu, hx, h => hx.elim
  | n + 1, A, E, s, .i k, v, Q, hu, hx, h => by
    obtain ⟨t, rfl⟩ := trIs_i.mp hx
    exact wpAny_pyHash_int h
  | n + 1, A, E, s, .t l, v, Q, hu, hx, h => by
    obtain ⟨a, o, items, m, rfl, ho, hc, hd, hi⟩ := hx
    have hT : s.TypeIs (.ref a) "tuple" := ⟨o, ho, hc⟩
    have hu0 : A.units < cLine := by omega
    unfold pyHash
    first | unfold pyHashByItsType | skip
    first | refine wpAny_bind (wpAny_cRoomFor_or (.inr hu0) ?_) | skip
    refine wpAny_bind (wpAny_specialOf hT F.slot_tuple_hash.lookup ?_)
    show wpAny _ _ (if (some (Value.builtin "tuple.__hash__") == some Value.none) = true then _ else _) Q E s
    rw [if_neg (by rw [beq_builtin_none]; exact Bool.false_ne_true)]
    refine wpAny_bind (wpAny_specialOf hT F.slot_tuple_hash.lookup ?_)
    show wpAny _ _ (callSpecialIfBoundUnlessNone? (.ref a) "__hash__" _ >>= _) Q E s
    refine wpAny_bind (wpAny_callSpecialIfBoundUnlessNone?_slot hT F.slot_tuple_hash (wpAny_call_entry F.slot_tuple_hash hT F.entry_tuple_hash ?_ (F.args_tuple_hash_1 _)))
    show wpAny _ _ (Builtin.Tuple.tupleItemsOf (.ref a) >>= _) _ _ s
    refine wpAny_bind (wpAny_tupleItemsOf ho hd ?_)
    refine wpAny_bind ?_
    rw [← Array.forIn_toList]
    refine wpAny_forIn_list _
      (fun rest (b : Array Int) s' => ∃ done left, l = done ++ left ∧ Paired (TrIs s.heap n) left rest ∧ b.toList = done.map (hashTr n) ∧ s' = { s with toks := s.toks + (done.map (drawsTr n)).sum })
      _ ?_ ?_ _ _ ⟨[], l, rfl, hi, rfl, rfl⟩
    · rintro x rest b s' ⟨done, left, rfl, hl, hb, rfl⟩
      cases hl with
      | @cons k _ ks' _ h1 hl' =>
        have hin : A.in1.units + n < cLine := by show A.units + 1 + n < cLine; omega
        refine wpAny_bind (pyHash_tr n hin h1 ?_)
        first
          | exact wpAny_pure ⟨done ++ [k], ks', by simp, hl', by simp [hb], by simp [Nat.add_assoc, List.sum_append]⟩
          | exact wpAny_bind (wpAny_pure (wpAny_pure ⟨done ++ [k], ks', by simp, hl', by simp [hb], by simp [Nat.add_assoc, List.sum_append]⟩))
    · rintro b s' ⟨done, left, rfl, hl, hb, rfl⟩
      cases hl
      rw [List.append_nil] at h
      show wpAny _ _ (retInt (Builtin.Tuple.tupleHashOf b.toList)) _ _ _
      rw [hb]
      refine wpAny_ret_mkInt ?_
      show wpAny _ _ (if (decide (-(2 : Int) ^ 63 ≤ Builtin.Tuple.tupleHashOf (done.map (hashTr n))) && decide (Builtin.Tuple.tupleHashOf (done.map (hashTr n)) < 2 ^ 63)) = true then _ else _) Q E _
      rw [hashTr, drawsTr] at h
      unfold reduceHash at h
      by_cases hr : (decide (-(2 : Int) ^ 63 ≤ Builtin.Tuple.tupleHashOf (done.map (hashTr n))) && decide (Builtin.Tuple.tupleHashOf (done.map (hashTr n)) < 2 ^ 63)) = true
      · rw [if_pos hr]
        rw [if_pos hr] at h
        exact wpAny_pure (by simpa [Nat.add_assoc] using h)
      · rw [if_neg hr]
        rw [if_neg hr] at h
        exact wpAny_bind (wpAny_rule (wpAny_pure (by simpa [Nat.add_assoc] using h)))
theorem decide_tt {x y : List Tr} : decide (Tr.t x = Tr.t y) = decide (x = y) := by
  by_cases h : x = y
  · subst h; simp
  · rw [decide_eq_false h, decide_eq_false]
    intro e; injection e with e; exact h e
theorem eqBool_tr : ∀ (n : Nat) {A : Around} {E : Value → Shared → Prop} {s : Shared} {x y : Tr} {u v : Value} {Q : Bool → Shared → Prop}, A.units + n < cLine → TrIs s.heap n x u → TrIs s.heap n y v →
    Q (decide (x = y)) s → wpAny (model prog w) A (eqBool u v) Q E s := by
  have ii : ∀ {A : Around} {E : Value → Shared → Prop} {s : Shared} {a b : Int} {t t' : Tok} {Q : Bool → Shared → Prop}, Q (decide (Tr.i a = Tr.i b)) s → wpAny (model prog w) A (eqBool (.int a t) (.int b t')) Q E s := by
    intro A E s a b t t' Q h
    refine wpAny_eqBool_int ?_
    have e : (a == b) = decide (Tr.i a = Tr.i b) := by
      by_cases hab : a = b
      · subst hab; simp
      · rw [decide_eq_false (by intro e; injection e with e; exact hab e)]
        exact beq_eq_false_iff_ne.mpr hab
    rw [e]; exact h
  intro n
  induction n with
  | zero =>
    intro A E s x y u v Q hu hx hy h
    cases x with
    | t l => exact hx.elim
    | i a =>
      cases y with
      | t l => exact hy.elim
      | i b =>
        obtain ⟨t, rfl⟩ := trIs_i.mp hx
        obtain ⟨t', rfl⟩ := trIs_i.mp hy
        exact ii h
  | succ n ih =>
    intro A E s x y u v Q hu hx hy h
    have hu0 : A.units < cLine := by omega
    cases x with
    | i a =>
      obtain ⟨t, rfl⟩ := trIs_i.mp hx
      cases y with
      | i b =>
        obtain ⟨t', rfl⟩ := trIs_i.mp hy
        exact ii h
      | t l =>
        obtain ⟨b, o, items, m, rfl, ho, hc, hd, hi⟩ := hy
        rw [decide_eq_false (by intro e; cases e)] at h
        exact SeqAt.EqAt.int_tuple a t (items := items) ⟨o, ho, hc, m, hd⟩ hu0 _ _ _ _ h
    | t l =>
      obtain ⟨a, oa, xs, na, rfl, hoa, hca, hda, hia⟩ := hx
      cases y with
      | i b =>
        obtain ⟨t', rfl⟩ := trIs_i.mp hy
        rw [decide_eq_false (by intro e; cases e)] at h
        exact SeqAt.EqAt.tuple_int b t' (items := xs) ⟨oa, hoa, hca, na, hda⟩ hu0 _ _ _ _ h
      | t l' =>
        have hy0 := hy
        have hx0 : TrIs s.heap (n + 1) (.t l) (.ref a) := ⟨a, oa, xs, na, rfl, hoa, hca, hda, hia⟩
        obtain ⟨b, ob, ys, nb, rfl, hob, hcb, hdb, hib⟩ := hy
        unfold eqBool
        try with_reducible refine wpAny_holding ?_
        show wpAny _ _ (if (Value.ref a == Value.ref b) = true then _ else _) Q E s
        by_cases hab : (Value.ref a == Value.ref b) = true
        · rw [if_pos hab]
          have e : a = b := by have := eq_of_beq hab; injection this
          subst e
          have e2 := TrIs.inj (n + 1) _ _ _ hx0 hy0
          rw [decide_eq_true e2] at h
          exact wpAny_bind (wpAny_rule (wpAny_pure h))
        · rw [if_neg hab]
          rw [decide_tt] at h
          have hTa : s.TypeIs (.ref a) "tuple" := ⟨oa, hoa, hca⟩
          have hTb : s.TypeIs (.ref b) "tuple" := ⟨ob, hob, hcb⟩
          refine wpAny_bind (wpAny_richCompare_same_room (op := .Eq) hTa hTb F.slot_tuple_eq
            (wpAny_call_entry F.slot_tuple_eq hTa F.entry_tuple_eq ?_ (F.args_tuple_eq_2 _ _)) hu0)
          have fin : ∀ r : Bool, r = decide (l = l') → ∃ v, Fin.done (.ret (.bool r)) = .done (.ret v) ∧ v ≠ .notImplemented ∧ wpAny (model prog w) A (truthOfDropped v) Q E s := fun r e => by
            subst e
            exact ⟨_, rfl, (fun e => nomatch e), wpAny_truthy_bool h⟩
          show wpAny _ _ (isInstance (.ref b) (.type "tuple") >>= _) _ _ s
          refine wpAny_bind (wpAny_isInstance hTb isSubtype_tuple_tuple ?_)
          simp only [Bool.not_true, Bool.false_eq_true, if_false]
          refine wpAny_bind (wpAny_tupleItemsOf hoa hda ?_)
          refine wpAny_bind (wpAny_tupleItemsOf hob hdb ?_)
          refine wpAny_bind ?_
          refine wpAny_forIn_list _
            (fun rest r s' => r.1 = none ∧ s' = s ∧ ∃ x' y' xs' ys', rest = List.zip xs' ys' ∧ Paired (TrIs s.heap n) x' xs' ∧ Paired (TrIs s.heap n) y' ys' ∧ decide (x' = y') = decide (l = l') ∧ (xs'.length == ys'.length) = (xs.size == ys.size))
            _ ?_ ?_ _ _ ⟨rfl, rfl, l, l', xs.toList, ys.toList, rfl, hia, hib, rfl, by simp⟩
          · rintro ⟨u, v⟩ rest r s' ⟨hr, rfl, x', y', xs', ys', hz, hx', hy', hdec, hlen⟩
            cases hx' with
            | nil => simp at hz
            | @cons k1 u' x'' xs'' h1 hx'' =>
              cases hy' with
              | nil => simp at hz
              | @cons k2 v' y'' ys'' h2 hy'' =>
                simp only [List.zip_cons_cons, List.cons.injEq, Prod.mk.injEq] at hz
                obtain ⟨⟨rfl, rfl⟩, rfl⟩ := hz
                have hin : A.in1.units + n < cLine := by show A.units + 1 + n < cLine; omega
                refine wpAny_bind (ih hin h1 h2 ?_)
                by_cases hk : k1 = k2
                · subst hk
                  rw [decide_eq_true rfl]
                  simp only [Bool.not_true, Bool.false_eq_true, if_false]
                  refine wpAny_pure ⟨rfl, rfl, x'', y'', xs'', ys'', rfl, hx'', hy'', ?_, by simpa using hlen⟩
                  rw [← hdec]
                  by_cases hxy : x'' = y''
                  · simp [hxy]
                  · simp [hxy]
                · rw [decide_eq_false hk]
                  simp only [Bool.not_false, if_true]
                  have hf : false = decide (l = l') := by rw [← hdec]; simp [hk]
                  exact wpAny_bind (wpAny_pure (wpAny_pure (wpAny_pure (fin _ hf))))
          · rintro ⟨r1, r2⟩ s' ⟨hr, rfl, x', y', xs', ys', hz, hx', hy', hdec, hlen⟩
            simp only at hr
            subst hr
            refine wpAny_pure ?_
            have hfin : (xs.size == ys.size) = decide (l = l') := by
              rw [← hdec, ← hlen]
              cases hx' with
              | nil =>
                cases hy' with
                | nil => simp
                | cons _ _ => simp
              | cons _ _ =>
                cases hy' with
                | nil => simp
                | cons _ _ => simp at hz
            exact fin _ hfin
theorem quiet_tr : ∀ (n : Nat) {A : Around} {E : Value → Shared → Prop} {s : Shared} {x : Tr} {v : Value} {Q : Bool → Shared → Prop}, TrIs s.heap n x v → Q true s → wpAny (model prog w) A (eqIsQuiet n v) Q E s
  | 0, A, E, s, .i k, v, Q, hx, h => by
    obtain ⟨t, rfl⟩ := trIs_i.mp hx
    rw [eqIsQuiet_byValue _ rfl]
    exact wpAny_pure h
  | 0, A, E, s, .t _, v, Q, hx, h => hx.elim
  | n + 1, A, E, s, .i k, v, Q, hx, h => by
    obtain ⟨t, rfl⟩ := trIs_i.mp hx
    rw [eqIsQuiet_byValue _ rfl]
    exact wpAny_pure h
  | n + 1, A, E, s, .t l, v, Q, hx, h => by
    obtain ⟨a, o, items, m, rfl, ho, hc, hd, hi⟩ := hx
    have hT : s.TypeIs (.ref a) "tuple" := ⟨o, ho, hc⟩
    unfold eqIsQuiet
    refine wpAny_bind (wpAny_specialOf hT F.slot_tuple_eq.lookup ?_)
    show wpAny _ _ (isInstance (.ref a) (.type "tuple") >>= _) _ _ s
    refine wpAny_bind (wpAny_isInstance hT isSubtype_tuple_tuple ?_)
    simp only [Bool.not_true, Bool.false_eq_true, if_false]
    refine wpAny_bind (wpAny_seqItems ho hd ?_)
    refine wpAny_bind ?_
    show wpAny _ _ (forIn items _ _) _ _ s
    rw [← Array.forIn_toList]
    refine wpAny_forIn_list _ (fun rest r s' => r.1 = none ∧ s' = s ∧ ∃ left, Paired (TrIs s.heap n) left rest) _ ?_ ?_ _ _ ⟨rfl, rfl, l, hi⟩
    · rintro v rest r s' ⟨hr, rfl, left, hl⟩
      cases hl with
      | cons h1 hl' =>
        refine wpAny_bind (quiet_tr n h1 ?_)
        simp only [Bool.not_true, Bool.false_eq_true, if_false]
        exact wpAny_pure ⟨rfl, rfl, _, hl'⟩
    · rintro ⟨r1, r2⟩ s' ⟨hr, rfl, _⟩
      simp only at hr
      subst hr
      exact wpAny_pure h
noncomputable def trKind (prog : Program) (w : World) : HeapKind prog w Tr where
  is := fun h x a => TrIs h 8 x (.ref a)
  hash := hashTr 8
  draws := drawsTr 8
  room := fun A => A.units + 8 < cLine
  inj := fun hx hy => TrIs.inj 8 _ _ _ hx hy
  keeps := fun {h h' k a d o es ep} x ho hd hs => TrIs.keep (fun b ob items m hb hdb => by
    have hne : b ≠ d := by
      rintro rfl
      obtain rfl : ob = o := Option.some.inj (hb.symm.trans ho)
      rw [hd] at hdb; exact nomatch hdb
    exact (hs.2 b hne).trans hb) 8 _ _ x
  pyHash := fun hu hk h => pyHash_tr 8 hu hk h
  eqBool := fun hu hx hy h => eqBool_tr 8 hu hx hy h
  quiet := fun hk h => quiet_tr 8 hk h
end
end Tk
set_option maxRecDepth 100000
namespace PySem
namespace F
theorem owner_rvt : Manifest.owners.lookup (String.ofList ['d', 'e', 's', 'r', 'e', 'v', 'e', 'r'].reverse) = some Manifest.sig_reversed := by kernel_rfl
theorem slot_rvt_next : Slot "reversed" "__next__" "reversed.__next__" :=
  .of (owner := "reversed") (n := "__next__") (by rw [typeLookup_type, builtinLookup_eq_fast]; kernel_rfl) (by decide +kernel) (by decide +kernel) (by decide +kernel)
    (by first | exact .inl (by decide +kernel) | exact .inr (by decide +kernel)) (by rw [isSubtype_type]; kernel_rfl)
theorem entry_rvt_next : entryFor table "reversed.__next__" = some Builtin.«reversed.__next__» := entryFor_of_tree (by kernel_rfl)
theorem args_rvt_next_1 (a : Value) : argsOk "reversed.__next__" ⟨[a], []⟩ := by
  unfold argsOk; rw [signature?_of (id := "reversed.__next__") (n := ['_', '_', 't', 'x', 'e', 'n', '_', '_']) (o := ['d', 'e', 's', 'r', 'e', 'v', 'e', 'r']) (by kernel_rfl) owner_rvt]; kernel_rfl
theorem slot_rvt_iter : Slot "reversed" "__iter__" "reversed.__iter__" :=
  .of (owner := "reversed") (n := "__iter__") (by rw [typeLookup_type, builtinLookup_eq_fast]; kernel_rfl) (by decide +kernel) (by decide +kernel) (by decide +kernel)
    (by first | exact .inl (by decide +kernel) | exact .inr (by decide +kernel)) (by rw [isSubtype_type]; kernel_rfl)
theorem args_rvt_iter_1 (a : Value) : argsOk "reversed.__iter__" ⟨[a], []⟩ := by
  unfold argsOk; rw [signature?_of (id := "reversed.__iter__") (n := ['_', '_', 'r', 'e', 't', 'i', '_', '_']) (o := ['d', 'e', 's', 'r', 'e', 'v', 'e', 'r']) (by kernel_rfl) owner_rvt]; kernel_rfl
theorem entry_rvt_iter : entryFor table "reversed.__iter__" = some Builtin.«dict_keyiterator.__iter__» :=
  entryFor_alias (id' := "dict_keyiterator.__iter__") (by kernel_rfl) (by first | rfl | decide +kernel | (unfold String.splitOn; simp +decide [String.splitOnAux])) (by decide +kernel) (by kernel_rfl)
theorem noRev_tuple : typeLookup (.type "tuple") "__reversed__" = pure none := by rw [typeLookup_type, builtinLookup_eq_fast]; kernel_rfl
end F
open PyProof.Rows
section
variable {prog : Program} {w : World} {A : Around} {E : Value → Shared → Prop} {s : Shared}
def rvtObj (l : Addr) (i : Int) : Obj := { cls := .type "reversed", data := .fields #[.ref l, rawInt i] }
def Heap.IsRvt (h : Heap) (a l : Addr) (i : Int) : Prop := ∃ o, h.get? a = some o ∧ o.cls = .type "reversed" ∧ o.data = .fields #[.ref l, rawInt i]
theorem Heap.IsRvt.typeIs {a l : Addr} {i : Int} (x : s.heap.IsRvt a l i) : s.TypeIs (.ref a) "reversed" := let ⟨o, ho, hc, _⟩ := x; ⟨o, ho, hc⟩
theorem Heap.IsRvt.at {h h' : Heap} {a l : Addr} {i : Int} (x : h.IsRvt a l i) (e : ∀ o, h.get? a = some o → h'.get? a = some o) : h'.IsRvt a l i := let ⟨o, ho, r⟩ := x; ⟨o, e _ ho, r⟩
theorem rvt_new (l : Addr) :
    MeetsIn prog w (Builtin.«reversed.__new__» ⟨[.type "reversed", .ref l], []⟩) (fun A R s => ∃ items, IsTup s.heap l items ∧ (items.size : Int) < 2 ^ 63 ∧ R (.ok (.ret (.ref s.heap.objs.size))) { s with heap := s.heap.push (rvtObj l ((items.size : Int) - 1)), toks := s.toks + 1 + 1 }) :=
  .of_wp fun A R s ⟨items, ht, hfit, h⟩ => by
  unfold Builtin.«reversed.__new__»
  refine wpAny_bind (wpAny_of_eq (newClass_reversed _) ?_)
  try dsimp only
  refine wpAny_bind (wpAny_of_eq (a := ()) (by first | rfl | kernel_rfl) ?_)
  refine wpAny_bind (wpAny_of_eq (a := ()) (by first | rfl | kernel_rfl) ?_)
  try dsimp only
  refine wpAny_bind (wpAny_specialOf ht.typeIs F.noRev_tuple ?_)
  try dsimp only
  refine wpAny_bind ?_
  show wpAny _ _ (isInstance (.ref l) (.type "dict") >>= _) _ _ s
  refine wpAny_bind (wpAny_isInstance ht.typeIs F.sub_tuple_dict ?_)
  simp only [Bool.false_eq_true, if_false]
  refine wpAny_bind (wpAny_specialOf ht.typeIs slot_tuple_getitem.lookup ?_)
  show wpAny _ _ (pure true) _ _ s
  refine wpAny_pure ?_
  simp only [Bool.not_true, Bool.false_eq_true, if_false]
  refine wpAny_bind (len_tuple ht hfit ?_)
  refine wpAny_bind (wpAny_of_eq (a := some (items.size : Int)) rfl ?_)
  try dsimp only
  refine wpAny_bind ?_
  show wpAny _ _ (newObj (.type "reversed") (.fields #[.ref l, rawInt ((items.size : Int) - 1)])) _ _ _
  refine wpAny_newObj_type ?_ (by size_fits)
  exact wpAny_pure ⟨_, rfl, h⟩
theorem F.slot_rvt_init : Slot "reversed" "__init__" "object.__init__" :=
  .of (owner := "object") (n := "__init__") (by rw [typeLookup_type, builtinLookup_eq_fast]; kernel_rfl) (by decide +kernel) (by decide +kernel) (by decide +kernel)
    (by first | exact .inl (by decide +kernel) | exact .inr (by decide +kernel)) (by rw [isSubtype_type]; kernel_rfl)
theorem F.called_rvt : TypeCalled "reversed" "reversed.__new__" "object.__init__" :=
  ⟨by decide +kernel, by decide +kernel, ⟨_, _, F.mro_reversed⟩, F.made_reversed, by decide +kernel, by rw [isSubtype_type]; kernel_rfl, F.slot_rvt_init⟩
theorem call_rvt {l : Addr} {items : Array Value} {Q : Value → Shared → Prop} (ht : IsTup s.heap l items) (hfit : (items.size : Int) < 2 ^ 63)
    (h : Q (.ref s.heap.objs.size) { s with heap := s.heap.push (rvtObj l ((items.size : Int) - 1)), toks := s.toks + 1 + 1 }) : wpAny (model prog w) A (call (.type "reversed") [.ref l]) Q E s :=
  callType_newIn F.called_rvt (by decide) (F.typeCall_reversed_1 _) (F.newCall_reversed_1 _) (fun obj => F.args_object_init_2 obj _) F.entry_reversed_new (rvt_new l)
    ⟨items, ht, hfit, ⟨_, Heap.get?_push_size _ rfl, rfl⟩, h⟩
theorem pyNext_rvt_item {it l : Addr} {i : Nat} {items : Array Value} {x : Value} {Q : Option Value → Shared → Prop} (hit : s.heap.IsRvt it l (i : Int)) (hl : IsTup s.heap l items) (hx : items[i]? = some x) (hfit : (items.size : Int) < 2 ^ 63)
    (hQ : ∀ h' t', h'.IsRvt it l ((i : Int) - 1) → Heap.SameBut it s.heap h' → Q (some x) { s with heap := h', toks := t' }) : wpAny (model prog w) A (pyNext (.ref it)) Q E s := by
  obtain ⟨o, ho, hc, hd⟩ := id hit
  have hi : i < items.size := (Array.getElem?_eq_some_iff.mp hx).1
  unfold pyNext
  refine wpAny_bind (wpAny_attempt (wpAny_callSpecial?_slot (name := Str.ofString "__next__") hit.typeIs F.slot_rvt_next
    (wpAny_call_entry F.slot_rvt_next hit.typeIs F.entry_rvt_next ?_ (F.args_rvt_next_1 _))))
  unfold Builtin.«reversed.__next__»
  refine wpAny_bind (wpAny_of_eq (a := (Value.ref it, [])) rfl ?_)
  try dsimp only
  refine wpAny_bind (wpAny_field ho hd (x := .ref l) rfl ?_)
  refine wpAny_bind (wpAny_field ho hd (x := rawInt (i : Int)) rfl ?_)
  show wpAny _ _ (if (i : Int) < 0 then _ else _) _ _ s
  rw [if_neg (by omega)]
  refine wpAny_bind (wpAny_specialOf hl.typeIs slot_tuple_getitem.lookup ?_)
  simp only [Option.isNone_some, Bool.false_eq_true, if_false]
  refine wpAny_bind (wpAny_mkInt ?_)
  refine wpAny_bind (wpAny_attempt (getItem_tuple (j := i) (x := x) hl (by omega) (by omega) ?_ hx ?_))
  · unfold seqIndex?
    have h0 : ¬ ((i : Int) < 0) := by omega
    simp [h0, hi]
  · refine wpAny_bind (wpAny_field ho hd (x := rawInt (i : Int)) rfl ?_)
    show wpAny _ _ (setField (.ref it) 1 (rawInt ((i : Int) - 1)) >>= _) _ _ _
    refine wpAny_bind (wpAny_setField ho hd (by simp) ?_)
    refine wpAny_pure ⟨x, rfl, wpAny_pure (hQ _ _ ?_ (Heap.SameBut.update ..))⟩
    exact ⟨_, Heap.get?_update_self _ ho (Obj.isFreed_of_fields (Obj.data_mapFields hd _)), (Obj.cls_mapFields ..).trans hc, by
      rw [Obj.data_mapFields hd]; simp⟩
theorem pyNext_rvt_end {it l : Addr} {Q : Option Value → Shared → Prop} (hh : A.handled = none) (hit : s.heap.IsRvt it l (-1))
    (hQ : ∀ h', Heap.ExtBut it s.heap h' → Q none { s with heap := h' }) : wpAny (model prog w) A (pyNext (.ref it)) Q E s := by
  obtain ⟨o, ho, hc, hd⟩ := id hit
  unfold pyNext
  refine wpAny_bind (wpAny_attempt (wpAny_callSpecial?_slot (name := Str.ofString "__next__") hit.typeIs F.slot_rvt_next
    (wpAny_call_entry F.slot_rvt_next hit.typeIs F.entry_rvt_next ?_ (F.args_rvt_next_1 _))))
  unfold Builtin.«reversed.__next__»
  refine wpAny_bind (wpAny_of_eq (a := (Value.ref it, [])) rfl ?_)
  try dsimp only
  refine wpAny_bind (wpAny_field ho hd (x := .ref l) rfl ?_)
  refine wpAny_bind (wpAny_field ho hd (x := rawInt (-1)) rfl ?_)
  show wpAny _ _ (if (-1 : Int) < 0 then _ else _) _ _ s
  rw [if_pos (by decide)]
  refine wpAny_bind (wpAny_rule ?_)
  refine wpAny_bind ?_
  show wpAny _ _ (setField (.ref it) 1 (rawInt (-1)) >>= _) _ _ _
  refine wpAny_bind (wpAny_setField ho hd (by simp) ?_)
  have ho2 : (s.heap.update it (Obj.mapFields (·.setIfInBounds 1 (rawInt (-1))))).get? it = some (Obj.mapFields (·.setIfInBounds 1 (rawInt (-1))) o) :=
    Heap.get?_update_self _ ho (Obj.isFreed_of_fields (Obj.data_mapFields hd _))
  refine wpAny_setField (s := { s with heap := s.heap.update it (Obj.mapFields (·.setIfInBounds 1 (rawInt (-1)))) }) ho2 (Obj.data_mapFields hd _) (by simp) ?_
  have ext : Heap.ExtBut it s.heap ((s.heap.update it (Obj.mapFields (·.setIfInBounds 1 (rawInt (-1))))).update it (Obj.mapFields (·.setIfInBounds 0 Value.none))) := fun b ob hb e =>
    ((Heap.SameBut.update ..).2 b hb).trans (((Heap.SameBut.update ..).2 b hb).trans e)
  refine wpAny_bind ?_
  show wpAny _ _ (newExc (.type "StopIteration") [] >>= _) _ _ _
  refine wpAny_bind ?_
  simp only [newExc, newTuple]
  refine wpAny_bind (wpAny_newObj_type ?_ (by size_fits))
  refine wpAny_bind (m := firstArgMember _ _) (wpAny_of_eq (a := Value.none) (by first | rfl | (simp only [firstArgMember]; rfl)) ?_)
  refine wpAny_newObj_type ?_ (by size_fits)
  simp only [raiseNew]
  refine wpAny_bind (wpAny_handled ?_)
  first | rw [show A.in1.handled = none from hh] | rw [hh]
  refine wpAny_bind (wpAny_pure (wpAny_throw ?_))
  refine wpAny_bind (wpAny_isInstance (T := "StopIteration") (b := true) ⟨_, Heap.get?_push_size _ rfl, rfl⟩ isSubtype_stop ?_)
  exact wpAny_pure (hQ _ ((ext.push _).push _))
theorem pyIter_rvt {it l : Addr} {i : Int} {Q : Value → Shared → Prop} (hit : s.heap.IsRvt it l i) (h : Q (.ref it) s) : wpAny (model prog w) A (pyIter (.ref it)) Q E s := by
  refine wpAny_pyIter_slot hit.typeIs F.slot_rvt_iter (wpAny_call_entry F.slot_rvt_iter hit.typeIs F.entry_rvt_iter ?_ (F.args_rvt_iter_1 _))
  show wpAny _ _ (ret (.ref it)) _ _ s
  exact wpAny_pure ⟨_, rfl, "reversed", _, hit.typeIs, F.slot_rvt_next.lookup, h⟩
end
end PySem
set_option maxRecDepth 100000
namespace L2
open PySem PySem.Spec PyProof.Rows
def tFrz (t : TE) : TE := fun σ H Q => t σ H fun v H1 => ∃ d u, v = .ref d ∧ H1 d = some u ∧ Mut (some u) ∧ ∀ od, Q v (upd H1 d (.frz od u))
theorem pe_frz {X : Cx} {e : Expr} {t : TE} (h : PE X e t) : PE X e (tFrz t) := fun pins s σ H Q I hw => thn (h pins s σ H _ I hw) fun u s1 ⟨v, H1, I1, r1, q1⟩ => by
  obtain ⟨d, o, rfl, hd, mu, q⟩ := q1
  obtain ⟨od, I2⟩ := I1.lock hd mu
  exact ⟨.ref d, _, I2, r1, q od⟩
def TrV (K : PySem.W.Frag) (H : Hp) : Nat → Tk.Tr → V → Prop
  | _, .i n, v => v = .int n
  | 0, .t _, _ => False
  | n + 1, .t l, v => ∃ a xs, v = .ref a ∧ SqT K H a xs ∧ Paired (TrV K H n) l xs
theorem trV_i {K : PySem.W.Frag} {H : Hp} {n : Nat} {k : Int} {v : V} : TrV K H n (.i k) v ↔ v = .int k := by
  cases n <;> exact Iff.rfl
theorem paired_vals {F : Tk.Tr → V → Prop} {G : Tk.Tr → Value → Prop} (hf : ∀ x v u, F x v → RelV v u → G x u) : ∀ {l : List Tk.Tr} {xs : List V} {us : List Value}, Paired F l xs → Vals xs us → Paired G l us
  | _, _, _, .nil, .nil => .nil
  | _, _, _, .cons h t, .cons r rs => .cons (hf _ _ _ h r) (paired_vals hf t rs)
theorem TrV.is {X : Cx} {pins : List (Addr × Obj)} {σ : St} {H : Hp} {s : Shared} (I : Inv X pins σ H s) : ∀ (n : Nat) (x : Tk.Tr) (v : V) (u : Value), TrV X.K H n x v → RelV v u → Tk.TrIs s.heap n x u
  | n, .i k, v, u, h, r => by
    have e := trV_i.mp h
    subst e
    exact Tk.trIs_i.mpr r
  | 0, .t _, v, u, h, _ => h.elim
  | n + 1, .t l, v, u, h, r => by
    obtain ⟨a, xs, rfl, hs, hp⟩ := h
    obtain rfl : u = Value.ref a := r
    obtain ⟨its, rv, ⟨o, ho, hc, m, hd⟩, _⟩ := I.tuple hs
    exact ⟨a, o, its.toArray, m, rfl, ho, hc, hd, by simpa using paired_vals (fun x v u h r => TrV.is I n x v u h r) hp rv⟩
theorem TrV.mono {K : PySem.W.Frag} {H H' : Hp} (k : ∀ a xs, SqT K H a xs → SqT K H' a xs) : ∀ (n : Nat) (x : Tk.Tr) (v : V), TrV K H n x v → TrV K H' n x v
  | n, .i _, v, h => trV_i.mpr (trV_i.mp h)
  | 0, .t _, v, h => h.elim
  | n + 1, .t l, v, h => by
    obtain ⟨a, xs, e, hs, hp⟩ := h
    exact ⟨a, xs, e, k a xs hs, Tk.paired_mono (fun x v h => TrV.mono k n x v h) hp⟩
theorem sqT_upd {K : PySem.W.Frag} {H : Hp} {d : Addr} {o : HO} (h : Mut (H d)) {a : Addr} {xs : List V} (q : SqT K H a xs) : SqT K (upd H d o) a xs := by
  rcases q with (q | ⟨ob, q⟩) | q
  · refine .inl (.inl ?_)
    rw [upd_ne]; exact q
    rintro rfl; rw [q] at h; exact h
  · refine .inl (.inr ⟨ob, ?_⟩)
    rw [upd_ne]; exact q
    rintro rfl; rw [q] at h; exact h
  · exact .inr q
noncomputable def dN (P : Program) (w : World) (d : Addr) (xs : List (Tk.Tr × Addr × Value)) : HO :=
  .ext fun h => ∃ o es ep, h.get? d = some o ∧ o.ExactDict ∧ o.data = .dict es ep ∧ es.toList = xs.map (entryOfKey (Tk.trKind P w)) ∧ (xs.map (·.1)).Nodup
noncomputable def valN (kvs : List (Tk.Tr × Int)) (k : Tk.Tr) : Option Int := (kvs.find? fun p => decide (p.1 = k)).map (·.2)
noncomputable def putN (kvs : List (Tk.Tr × Int)) (k : Tk.Tr) (v : Int) : List (Tk.Tr × Int) := if (valN kvs k).isSome then kvs.map (fun p => if p.1 = k then (p.1, v) else p) else kvs ++ [(k, v)]
def NRel (K : PySem.W.Frag) (H : Hp) (p : Tk.Tr × Int) (q : Tk.Tr × Addr × Value) : Prop := p.1 = q.1 ∧ (∃ t, q.2.2 = Value.int p.2 t) ∧ TrV K H 8 p.1 (.ref q.2.1)
def DN (P : Program) (w : World) (K : PySem.W.Frag) (H : Hp) (d : Addr) (kvs : List (Tk.Tr × Int)) : Prop :=
  (d == sysModules) = false ∧ kvs.length ≤ sizeLine ∧ ∃ xs, H d = some (dN P w d xs) ∧ Paired (NRel K H) kvs xs
theorem valN_at {K : PySem.W.Frag} {H : Hp} (k : Tk.Tr) : ∀ {kvs : List (Tk.Tr × Int)} {xs : List (Tk.Tr × Addr × Value)}, Paired (NRel K H) kvs xs →
    (valN kvs k = none ∧ atKey xs k = none) ∨ ∃ v p t, valN kvs k = some v ∧ atKey xs k = some p ∧ p.2 = Value.int v t
  | _, _, .nil => .inl ⟨rfl, rfl⟩
  | _, _, .cons (a := p) (b := q) h t => by
    obtain ⟨e, ⟨tk, et⟩, _⟩ := h
    by_cases hk : p.1 = k
    · refine .inr ⟨p.2, q.2, tk, ?_, ?_, et⟩
      · simp [valN, List.find?_cons, hk]
      · simp [atKey, List.find?_cons, ← e, hk]
    · have hk' : ¬ q.1 = k := fun z => hk (e.trans z)
      have e1 : ∀ r, valN (p :: r) k = valN r k := fun r => by simp [valN, List.find?_cons, hk]
      have e2 : ∀ r, atKey (q :: r) k = atKey r k := fun r => by simp [atKey, List.find?_cons, hk']
      rw [e1, e2]
      exact valN_at k t
theorem putN_rel {K : PySem.W.Frag} {H : Hp} {k : Tk.Tr} {b : Addr} {v : Int} {t : Tok} (hb : TrV K H 8 k (.ref b)) {kvs : List (Tk.Tr × Int)} {xs : List (Tk.Tr × Addr × Value)} (h : Paired (NRel K H) kvs xs) :
    Paired (NRel K H) (putN kvs k v) (storedH xs k b (.int v t)) := by
  have hm : ∀ {kvs : List (Tk.Tr × Int)} {xs : List (Tk.Tr × Addr × Value)}, Paired (NRel K H) kvs xs → Paired (NRel K H) (kvs.map fun p => if p.1 = k then (p.1, v) else p) (xs.map (putAt k (.int v t))) := by
    intro kvs xs h
    induction h with
    | nil => exact .nil
    | @cons p q _ _ h _ ih =>
      refine .cons ?_ ih
      obtain ⟨e, et, htr⟩ := h
      unfold putAt
      show NRel K H (if p.1 = k then (p.1, v) else p) (if q.1 = k then (q.1, q.2.1, Value.int v t) else q)
      by_cases hk : p.1 = k
      · rw [if_pos hk, if_pos (show q.1 = k from e ▸ hk)]
        exact ⟨e, ⟨t, rfl⟩, htr⟩
      · rw [if_neg hk, if_neg (fun z => hk (e.trans z))]
        exact ⟨e, et, htr⟩
  unfold putN storedH
  rcases valN_at k h with ⟨e1, e2⟩ | ⟨v', p, t', e1, e2, _⟩
  · rw [e1, e2]
    exact Paired.snoc h ⟨rfl, ⟨t, rfl⟩, hb⟩
  · rw [e1, e2]
    exact hm h
theorem putN_length (kvs : List (Tk.Tr × Int)) (k : Tk.Tr) (v : Int) : (putN kvs k v).length ≤ kvs.length + 1 := by
  unfold putN
  split
  · rw [List.length_map]; omega
  · simp
theorem mem_putN {kvs : List (Tk.Tr × Int)} {k : Tk.Tr} {v : Int} {p : Tk.Tr × Int} (h : p ∈ putN kvs k v) : p = (k, v) ∨ p ∈ kvs := by
  unfold putN at h
  split at h
  · obtain ⟨q, hq, rfl⟩ := List.mem_map.mp h
    by_cases e : q.1 = k
    · rw [if_pos e]; exact .inl (by rw [e])
    · rw [if_neg e]; exact .inr hq
  · rcases List.mem_append.mp h with h | h
    · exact .inr h
    · exact .inl (List.mem_singleton.mp h)
theorem valN_mem {kvs : List (Tk.Tr × Int)} {k : Tk.Tr} {v : Int} (h : valN kvs k = some v) : (k, v) ∈ kvs := by
  unfold valN at h
  obtain ⟨p, hp, e⟩ := Option.map_eq_some_iff.mp h
  have h1 := List.mem_of_find?_eq_some hp
  have h2 : p.1 = k := by simpa using List.find?_some hp
  obtain ⟨a, b⟩ := p
  simp only at h2 e
  subst h2 e
  exact h1
theorem valN_putN (kvs : List (Tk.Tr × Int)) (k : Tk.Tr) (v : Int) : valN (putN kvs k v) k = some v := by
  unfold putN
  cases h : valN kvs k with
  | none =>
    have h' : kvs.find? (fun p => decide (p.1 = k)) = none := by
      unfold valN at h
      exact Option.map_eq_none_iff.mp h
    simp [valN, List.find?_append, h']
  | some u =>
    rw [if_pos (show (some u).isSome = true from rfl)]
    have : ∀ kvs : List (Tk.Tr × Int), (∃ u, valN kvs k = some u) → valN (kvs.map fun p => if p.1 = k then (p.1, v) else p) k = some v := by
      intro kvs
      induction kvs with
      | nil => rintro ⟨u, h⟩; simp [valN] at h
      | cons p r ih =>
        rintro ⟨u, h⟩
        by_cases e : p.1 = k
        · simp [valN, List.find?_cons, e]
        · have h' : valN r k = some u := by simpa [valN, List.find?_cons, e] using h
          have := ih ⟨u, h'⟩
          simpa [valN, List.find?_cons, e] using this
    exact this kvs ⟨u, h⟩
section
variable {X : Cx} {pins : List (Addr × Obj)} {σ : St} {H : Hp} {s : Shared} {d b : Addr} {kvs : List (Tk.Tr × Int)} {k : Tk.Tr}
theorem DN.at (I : Inv X pins σ H s) (h : DN X.prog X.w X.K H d kvs) : ∃ xs, Paired (NRel X.K H) kvs xs ∧ H d = some (dN X.prog X.w d xs) ∧ s.heap.DictOfH (Tk.trKind X.prog X.w) d xs := by
  obtain ⟨_, _, xs, e, rel⟩ := h
  obtain ⟨⟨o, es, ep, h1, h2, h3, h4, h5⟩, _⟩ := I.hok d _ e
  refine ⟨xs, rel, e, o, es, ep, h1, h2, h3, h4, fun x hx => ?_, h5⟩
  have : ∀ {kvs : List (Tk.Tr × Int)} {xs : List (Tk.Tr × Addr × Value)}, Paired (NRel X.K H) kvs xs → ∀ x ∈ xs, Tk.TrIs s.heap 8 x.1 (.ref x.2.1) := by
    intro kvs xs h
    induction h with
    | nil => intro x hx; cases hx
    | @cons p q _ _ h _ ih =>
      intro x hx
      rcases List.mem_cons.mp hx with rfl | hx
      · obtain ⟨e, _, ht⟩ := h
        rw [← e]
        exact TrV.is I 8 _ _ _ ht rfl
      · exact ih x hx
  exact this rel x hx
def tDNewN (P : Program) (w : World) (K : PySem.W.Frag) : TE := fun _ H Q => ∀ p, H p = none → DN P w K (upd H p (dN P w p [])) p [] → Q (.ref p) (upd H p (dN P w p []))
theorem dn_ok {P : Program} {w : World} {H : Hp} {h : Heap} {xs : List (Tk.Tr × Addr × Value)} (x : ∃ o es ep, h.get? d = some o ∧ o.ExactDict ∧ o.data = .dict es ep ∧ es.toList = xs.map (entryOfKey (Tk.trKind P w)) ∧ (xs.map (·.1)).Nodup) : ObjOk P w H h d (dN P w d xs) := by
  refine ⟨x, let ⟨o, _, _, e, _⟩ := x; ⟨o, e⟩, ?_⟩
  rintro h1 h2 ⟨o, es, ep, e, r⟩ kk
  exact ⟨o, es, ep, kk o e, r⟩
theorem pe_dnewN {pos : Pos} : PE X (.Dict [] [] pos) (tDNewN X.prog X.w X.K) := fun pins s σ H Q I h =>
  wpAny_Dict_empty ⟨.ref s.heap.objs.size, _, I.laid (a := s.heap.objs.size) (o := dN X.prog X.w s.heap.objs.size []) (t' := s.toks) (fun _ _ q => Heap.get?_push_of_some _ q) (Nat.le_refl _)
    (dn_ok ⟨_, #[], 0, Heap.get?_push_size _ rfl, ⟨rfl, rfl, rfl⟩, rfl, rfl, List.nodup_nil⟩), rfl,
    h _ (I.hok.fresh (Nat.le_refl _)) ⟨beq_eq_false_iff_ne.mpr (Ne.symm (Nat.ne_of_lt I.big)), Nat.zero_le _, [], upd_same, .nil⟩⟩
def tNNotIn (P : Program) (w : World) (K : PySem.W.Frag) (ty td : TE) : TE := fun σ H Q => ty σ H fun y H1 => td σ H1 fun x H2 => ∃ d kvs k b, x = .ref d ∧ y = .ref b ∧ DN P w K H2 d kvs ∧ TrV K H2 8 k (.ref b) ∧ Q (.bl (!(valN kvs k).isSome)) H2
theorem pc_nnotin {i o : Expr} {ty td : TE} (hu : X.A.units + 16 < cLine) (hi : PE X i ty) (ho : PE X o td) : PC X .NotIn i o (tNNotIn X.prog X.w X.K ty td) := by
  intro pins s σ H Q I h
  refine thn (hi pins s σ H _ I h) fun iv s1 ⟨y, H1, I1, ry, q1⟩ => thn (ho pins s1 σ H1 _ I1 q1) fun u s2 ⟨x, H2, I2, rx, d, kvs, k, b, ex, ey, hD, hk, q2⟩ => ?_
  subst ex ey
  obtain rfl : u = Value.ref d := rx
  obtain rfl : iv = Value.ref b := ry
  obtain ⟨xs, rel, _, dd⟩ := hD.at I2
  refine wpAny_notIn_heap (knd := Tk.trKind X.prog X.w) (show X.A.in1.units + 8 < cLine by show X.A.units + 1 + 8 < cLine; omega) (TrV.is I2 8 _ _ _ hk rfl) hD.1 dd ?_
  rcases valN_at k rel with ⟨e1, e2⟩ | ⟨v', p, t', e1, e2, _⟩
  · rw [e1] at q2; rw [e2]
    exact ⟨.bl _, H2, I2.tok _, rfl, q2⟩
  · rw [e1] at q2; rw [e2]
    exact ⟨.bl _, H2, I2.tok _, rfl, q2⟩
def tNGet (P : Program) (w : World) (K : PySem.W.Frag) (td ty : TE) : TE := fun σ H Q => td σ H fun x H1 => ty σ H1 fun y H2 => ∃ d kvs k b v, x = .ref d ∧ y = .ref b ∧ DN P w K H2 d kvs ∧ TrV K H2 8 k (.ref b) ∧ valN kvs k = some v ∧ Q (.int v) H2
theorem pe_nget {i o : Expr} {ty td : TE} {pos : Pos} (hu : X.A.units + 16 < cLine) (ho : PE X o td) (hi : PE X i ty) (hs : NoSl i) : PE X (.Subscript o i pos) (tNGet X.prog X.w X.K td ty) := by
  intro pins s σ H Q I h
  refine subD_of PySem.F.slot_dict_getitem.lookup hs (thn (ho pins s σ H _ I h) fun u s1 ⟨x, H1, I1, rx, q1⟩ => thn (hi pins s1 σ H1 _ I1 q1) fun iv s2 ⟨y, H2, I2, ry, d, kvs, k, b, v, ex, ey, hD, hk, hv, q2⟩ => ?_)
  subst ex ey
  obtain rfl : u = Value.ref d := rx
  obtain rfl : iv = Value.ref b := ry
  obtain ⟨xs, rel, _, dd⟩ := hD.at I2
  refine ⟨dd.typeIs, ?_⟩
  rcases valN_at k rel with ⟨e1, e2⟩ | ⟨v', p, t', e1, e2, e3⟩
  · rw [e1] at hv; cases hv
  · obtain rfl : v' = v := Option.some.inj (e1.symm.trans hv)
    refine wpAny_getItem_heap (knd := Tk.trKind X.prog X.w) (show X.A.in1.units + 8 < cLine by show X.A.units + 1 + 8 < cLine; omega) (TrV.is I2 8 _ _ _ hk rfl) dd e2 ?_
    rw [e3]
    exact ⟨.int v', H2, I2.tok _, ⟨_, rfl⟩, q2⟩
def sNPut (P : Program) (w : World) (K : PySem.W.Frag) (td ty tv : TE) : TS := fun D σ H => tv σ H fun v H1 => td σ H1 fun x H2 => ty σ H2 fun y H3 => ∃ d kvs k b z, x = .ref d ∧ y = .ref b ∧ v = .int z ∧ DN P w K H3 d kvs ∧ kvs.length < sizeLine ∧ TrV K H3 8 k (.ref b) ∧
  ∀ o, DN P w K (upd H3 d o) d (putN kvs k z) → D.nx σ (upd H3 d o)
theorem ps_nput {i o value : Expr} {ty td tv : TE} {pos pos' : Pos} (hu : X.A.units + 16 < cLine) (ho : PE X o td) (hi : PE X i ty) (hv : PE X value tv) (hs : swapsWith value (some (.Subscript o i pos')) pos.line X.env = pure false) :
    PS X (.Assign [.Subscript o i pos'] value pos) (sNPut X.prog X.w X.K td ty tv) := by
  intro pins s σ H D I h
  refine wpAny_Assign_Subscript (thn (hv pins s σ H _ I h) fun r s1 ⟨v, H1, I1, rv, q1⟩ => thn (ho pins s1 σ H1 _ I1 q1) fun u s2 ⟨x, H2, I2, rx, q2⟩ => thn (hi pins s2 σ H2 _ I2 q2) fun iv s3 ⟨y, H3, I3, ry, d, kvs, k, b, z, ex, ey, ev, hD, hz, hk, q3⟩ => ?_) hs
  subst ex ey ev
  obtain rfl : u = Value.ref d := rx
  obtain rfl : iv = Value.ref b := ry
  obtain ⟨t, rfl⟩ := rv
  obtain ⟨xs, rel, hH, dd⟩ := hD.at I3
  have hlen := Paired.length rel
  refine wpAny_setItem_heap (hsz := by omega) (knd := Tk.trKind X.prog X.w) (show X.A.in1.units + 8 < cLine by show X.A.units + 1 + 8 < cLine; omega) (TrV.is I3 8 _ _ _ hk rfl) dd fun h' dd' hsb => ?_
  obtain ⟨q, es, ep, hq, h2, h3, h4, _, h5⟩ := dd'
  have mu : Mut (H3 d) := by rw [hH]; exact True.intro
  refine ⟨σ, _, d_write (ob := dN X.prog X.w d (storedH xs k b (.int z t))) I3 mu hsb ⟨q, hq⟩ (dn_ok ⟨q, es, ep, hq, h2, h3, h4, h5⟩), q3 _ ⟨hD.1, by have := putN_length kvs k z; omega, _, upd_same, ?_⟩⟩
  exact Tk.paired_mono (fun p q ⟨e1, e2, e3⟩ => ⟨e1, e2, TrV.mono (fun a xs h => sqT_upd mu h) 8 _ _ e3⟩) (putN_rel hk rel)
end
end L2
set_option maxRecDepth 100000
namespace L2
open PySem PySem.Spec PyProof.Rows
def rSetdef : V → List V → Hp → VK → Prop := fun x xs H Q => ∃ d kvs k y, x = .ref d ∧ xs = [kV k, y] ∧ H d = some (.dK kvs) ∧ kvs.length < sizeLine ∧
  (∀ v, valV kvs k = some v → Q v H) ∧ (valV kvs k = none → Q y (upd H d (.dK (putK kvs k y))))
theorem mt_setdefault {X : Cx} : MtR X "dict.setdefault" rSetdef := by
  intro pins s σ H x xs v us Q I rx rxs h
  obtain ⟨d, kvs, k, y, rfl, rfl, hd, hz, q1, q2⟩ := h
  cases rx
  obtain ⟨uk, uy, rfl, rk, ry⟩ := vals2 rxs
  obtain ⟨z, lo, vs, rel, dd⟩ := dk_of I.hok hd
  refine call_meetsIn PySem.F.slot_dict_setdefault dd.typeIs PySem.F.entry_dict_setdefault (PySem.F.args_dict_setdefault_3 _ _ _) (kt_meets_setdefault (mixKind X.prog X.w) d (kV_is rk) lo uy)
    ⟨vs, dd, by rw [← rel.length]; exact z, fun w' hw => ?_, fun hn h' hm hs => ?_⟩
  · have hr := rel.val k
    rw [hw] at hr
    cases hv : valV kvs k with
    | none => rw [hv] at hr; exact hr.elim
    | some v' =>
      rw [hv] at hr
      exact ⟨v', H, I.tok _, hr, q1 v' hv⟩
  · have hr := rel.val k
    rw [hn] at hr
    cases hv : valV kvs k with
    | some v' => rw [hv] at hr; exact hr.elim
    | none =>
      have hl : (putK kvs k y).length ≤ sizeLine := by have := length_putK kvs k y; omega
      have he : ∃ q, h'.get? d = some q := let ⟨q, _, _, hq, _⟩ := hm; ⟨q, hq⟩
      exact ⟨y, _, d_write I (by rw [hd]; exact True.intro) hs he (dk_new hl lo (rel.put k ry) hm), ry, q2 hv⟩
theorem boot_sorted5 : bootBuiltins "sorted" = some (.builtin "sorted") := by decide +kernel
def rSortRev (K : PySem.W.Frag) : V → Hp → VK → Prop := fun x H Q => ∃ (a : Addr) (ns : List Int), x = .ref a ∧ ns.length < 64 ∧
  (SqL K H a (ns.map V.int) ∨ ∃ kvs, Rd H a (.dK kvs) ∧ kvs.map (·.1) = ns.map Sum.inl) ∧
  ∀ (ns' : List Int) (p : Addr), ns'.Perm ns → ns'.Pairwise (· ≥ ·) → H p = none → Q (.ref p) (upd H p (.lst (ns'.map V.int)))
theorem sort_at {prog : Program} {w : World} {A : Around} {E : Value → Shared → Prop} {s : Shared} {a : Addr} {vs : List Value} {ns : List Int} {n : Nat} {Q : Value → Shared → Prop} (ho : s.heap.get? a = some (seqObj "list" vs.toArray n))
    (hI : IntsAre vs ns) (h64 : vs.length < 64)
    (h : ∀ (out : Array Value) (ns' : List Int), IntsAre out.toList ns' → ns'.Perm ns → ns'.Pairwise (· ≥ ·) → Q .none { s with heap := sortedHeap s.heap a vs out }) :
    wpAny (model prog w) A (call (.builtin "list.sort") [.ref a] [(Str.ofString "reverse", .bool true)]) Q E s :=
  wpAny_call_entry_kw slot_list_sort ⟨_, ho, rfl⟩ entry_list_sort (list_sort_tree_rev ho hI h64 fun out ns' a1 a2 a3 => ⟨_, rfl, h out ns' a1 a2 a3⟩) (args_list_sort_rev _ _)
theorem dk_ints : ∀ {ns : List Int} {kvs : List (Key × V)} {vs : List (Key × Value)} {us : List Value}, kvs.map (·.1) = ns.map Sum.inl → KV kvs vs → us.length = vs.length →
    (∀ (j : Nat) (u : Value), us[j]? = some u → ∃ k x, vs[j]? = some (k, x) ∧ keyIs k u = true) → IntsAre us ns
  | [], [], _, us, _, .nil, hl, _ => by
    have : us = [] := List.length_eq_zero_iff.mp hl
    subst this; exact .nil
  | [], _ :: _, _, _, h, _, _, _ => by simp at h
  | _ :: _, [], _, _, h, _, _, _ => by simp at h
  | n :: ns, kv :: kvs, _, us, h, .cons (b := q) h1 t, hl, hu => by
    rw [List.map_cons, List.map_cons] at h
    injection h with e1 e2
    cases us with
    | nil => simp at hl
    | cons u us =>
      obtain ⟨k, x, e, hk⟩ := hu 0 u rfl
      have e : q = (k, x) := Option.some.inj e
      have : k = Sum.inl n := by
        have h11 := h1.1
        rw [e] at h11
        exact h11.symm.trans e1
      subst this
      obtain ⟨t', rfl⟩ := Value.isInt_shape (show Value.isInt n u = true from hk)
      exact .cons n t' (dk_ints e2 t (by simpa using hl) fun j u' hj => hu (j + 1) u' (by simpa using hj))
theorem pe_sortRev {X : Cx} {e : Expr} {te : TE} {p pos kp cp : Pos} {j : Nat} (hc : X.calm = true) (hg : Gl X "sorted") (hm : X.mg "sorted" = none) (he : PE X e te)
    (hs : starEach [e] X.env = (false, eval e X.env) :: starEach [] X.env := by rfl)
    (he' : backTo pos (starEach [e] X.env) = (false, eval e X.env) :: backTo pos (starEach [] X.env) := by rfl)
    (hpl : (backTo pos (starEach [e] X.env)).any (·.1) = false := by rfl) :
    PE X (.Call (.Name "sorted" p) [e] [⟨some "reverse", .Constant (.bool true) j cp, kp⟩] pos) (fun σ H Q => te σ H fun x H1 => rSortRev X.K x H1 Q) := by
  intro pins s σ H Q I h
  refine wpAny_Call_Name_kw (ld_blt I hg hm boot_sorted5 ?_)
  have ha := pa_cons (X := X) (es := []) he pa_nil hs
  refine callWith_kw (kws := [⟨some "reverse", .Constant (.bool true) j cp, kp⟩]) (thn (ha pos pins s σ H (fun vs H1 => ∃ x, vs = [x] ∧ rSortRev X.K x H1 Q) I ?_) fun us s1 ⟨vs, H1, I1, r, x, e1, q⟩ => ?_) he' hpl
  · have e2 : (fun (x : V) (H1 : Hp) => rSortRev X.K x H1 Q) = fun x H1 => ∃ y, ([x] : List V) = [y] ∧ rSortRev X.K y H1 Q := by
      funext x H1
      exact propext ⟨fun z => ⟨x, rfl, z⟩, fun ⟨y, ey, z⟩ => by cases ey; exact z⟩
    rw [e2] at h
    exact h
  subst e1
  obtain ⟨u, rfl, ru⟩ := vals1 r
  refine thn (pk_cons (X := X) (nm := some "reverse") (kpos := kp) (pe_bl (b := true) (j := j) (pos := cp)) pk_nil pos pins s1 σ H1 (fun zs H2 => zs = [.bl true] ∧ H2 = H1) I1 ⟨rfl, rfl⟩) fun ws s2 ⟨zs, H2, I2, rz, e3, e4⟩ => ?_
  subst e3 e4
  obtain ⟨wv, rfl, rw'⟩ := vals1 rz
  obtain rfl : wv = Value.bool true := rw'
  obtain ⟨a, ns, rfl, h64, src, q⟩ := q
  obtain rfl : u = Value.ref a := ru
  have hh : X.A.handled = none := I2.ok.hd hc
  show wpAny _ _ (call (.builtin "sorted") [.ref a] [(Str.ofString "reverse", .bool true)]) _ _ _
  have fin : ∀ (s3 : Shared) (vs : List Value), IntsAre vs ns → (∀ b o, s2.heap.get? b = some o → s3.heap.get? b = some o) → s3.gens = s2.gens → s3.drawn = s2.drawn → s3.os = s2.os →
      wpAny (model X.prog X.w) X.A.in1 (do let l ← newList vs; let _ ← holding [l] (call (.builtin "list.sort") [l] [(Str.ofString "reverse", .bool true)]); ret l) (fun fin s' => ∃ v, fin = .done (.ret v) ∧ EP X pins σ Q v s') X.xe s3 := by
    intro s3 vs hI kp hgn hdr hos
    obtain ⟨h3, g3, d3, t3, o3⟩ := s3
    simp only at hgn hdr hos kp
    subst hgn hdr hos
    have hl : vs.length = ns.length := hI.length
    refine wpAny_bind (wpAny_newList ?_ (by have := small64 h64; omega))
    have ho : (h3.push (seqObj "list" vs.toArray 0)).get? h3.objs.size = some (seqObj "list" vs.toArray 0) := Heap.get?_push_size _ rfl
    refine wpAny_bind (wpAny_holding (sort_at (n := 0) (s := { heap := h3.push (seqObj "list" vs.toArray 0), gens := s2.gens, drawn := s2.drawn, toks := t3, os := s2.os }) ho hI (by omega) fun out ns' h1 h2 h3' => ?_))
    refine wpAny_pure ⟨_, rfl, ?_⟩
    obtain ⟨ep, he2⟩ := sortedHeap_at (vs := vs) (out := out) ho
    have hlen : (ns'.map V.int).length ≤ sizeLine := by rw [List.length_map, h2.length_eq]; exact small64 h64
    have I3 : Inv X pins σ H2 { s2 with heap := h3, toks := t3 } := I2.kept kp
    refine ⟨.ref h3.objs.size, upd H2 h3.objs.size (.lst (ns'.map V.int)), I3.laid (t' := t3) (fun b u hu => ?_) (Nat.le_refl _) ⟨hlen, out.toList, ep, vals_of_ints h1, he2⟩, rfl, q ns' _ h2 h3' (I3.hok.fresh (Nat.le_refl _))⟩
    have hb : b ≠ h3.objs.size := Nat.ne_of_lt (Heap.lt_size hu)
    have hu' : (h3.push (seqObj "list" vs.toArray 0)).get? b = some u := Heap.get?_push_of_some _ hu
    rw [sortedHeap_old hb (Heap.lt_size hu')]
    exact hu'
  refine call_function_entry_kw kind_sorted plain_sorted entry_sorted (args_sorted_rev _ _) ?_
  unfold Builtin.«sorted»
  refine wpAny_bind (m := checkCount "sorted" 1 1 _) (wpAny_pure ?_)
  rcases src with hq | ⟨kvs, hd, hk⟩
  · obtain ⟨its, rv, hl, _⟩ := I2.list hq
    have hi := rv.ints
    refine wpAny_bind (collect_list hl.isList ?_ (by rw [hi.length]; exact small64 h64))
    refine fin _ its hi (fun b o e => ?_) rfl rfl rfl
    show ((s2.heap.push (seqObj "list" #[] 0)).update s2.heap.objs.size (Obj.mapSeq (· ++ its.toArray))).get? b = some o
    rw [Heap.get?_update_other _ _ (Nat.ne_of_gt (Heap.lt_size e))]
    exact Heap.get?_push_of_some _ e
  · obtain ⟨z, lo, vs, rel, dd⟩ := dk_rd I2.hok hd
    obtain ⟨ep, hat⟩ := dd.dictAt
    have hlen := rel.length
    refine wpAny_bind (PySem.W.kdu_collect (A := X.A.in1) (PySem.W.kdl_dict (knd := mixKind X.prog X.w) (kvs := vs) (ep := ep) lo) hh hat (by rw [← hlen]; exact z) fun h' tk acc hkp hacc => ?_)
    refine fin _ acc.toList (dk_ints hk rel (by rw [Array.length_toList]; exact hacc.1) fun j u hj => ?_) hkp rfl rfl rfl
    exact hacc.2 j u (by rw [← Array.getElem?_toList]; exact hj)
end L2
set_option maxRecDepth 100000
namespace L2
open PySem PySem.Spec PyProof.Rows
theorem cat_tup0 {prog : Program} {w : World} {A : Around} {E : Value → Shared → Prop} {s : Shared} {t b : Addr} {vs ws : List Value} {Q : Value → Shared → Prop} (ht : IsTup s.heap t vs.toArray) (hb : IsTup s.heap b ws.toArray) (hv : vs = [])
    (h : Q (.ref b) s) : wpAny (model prog w) A (binaryOp .Add (.ref t) (.ref b)) Q E s := by
  obtain ⟨⟨cls, dd, data, sl⟩, ho, hc, n, hd⟩ := id ht
  obtain ⟨⟨cls2, dd2, data2, sl2⟩, ho2, hc2, n2, hd2⟩ := id hb
  simp only at hc hd hc2 hd2
  subst hc hd hc2 hd2
  exact concat_meets ⟨_, ho, rfl⟩ ⟨_, ho2, rfl⟩ noFill_tuple_add seq_tuple_add PySem.F.slot_tuple_add PySem.F.entry_tuple_add (PySem.F.args_tuple_add_2 _ _)
    (tuple_addW0 t b vs.toArray ws.toArray n n2 dd dd2 sl sl2 (by simp [hv])) ⟨ho, ho2, h⟩
def rCatU (K : PySem.W.Frag) : R2 := fun x y H Q => ∃ a b xs ys, x = .ref a ∧ y = .ref b ∧ SqT K H a xs ∧ SqT K H b ys ∧ xs.length + ys.length ≤ sizeLine ∧
  (xs = [] → Q (.ref b) H) ∧ (xs ≠ [] → ys = [] → Q (.ref a) H) ∧ (xs ≠ [] → ys ≠ [] → ∀ p, H p = none → Q (.ref p) (upd H p (.tup (xs ++ ys))))
theorem op_catU {X : Cx} : OpR X (binaryOp .Add) (rCatU X.K) := by
  intro pins s σ H x y v u Q I rx ry h
  obtain ⟨a, b, xs, ys, ex, ey, ha, hb, hz, q0, q1, q2⟩ := h
  by_cases hx : xs = []
  · subst ex ey
    obtain rfl : v = Value.ref a := rx
    obtain rfl : u = Value.ref b := ry
    obtain ⟨its, r1, p1, _⟩ := I.tuple ha
    obtain ⟨its2, r2, p2, _⟩ := I.tuple hb
    exact cat_tup0 p1 p2 (r1.nil_iff.mpr hx) ⟨.ref b, H, I, rfl, q0 hx⟩
  · exact op_catT pins s σ H x y v u Q I rx ry ⟨a, b, xs, ys, ex, ey, ha, hb, hx, hz, q1 hx, q2 hx⟩
def Itw (K : PySem.W.Frag) (a : Addr) (n : Nat) : It :=
  ⟨fun i H => i < n ∧ ∃ (xs : List V) (x : V), SqT K H a xs ∧ xs[n - 1 - i]? = some x, fun i H x H' => H' = H ∧ ∀ xs, SqT K H a xs → xs[n - 1 - i]? = some x, fun i _ => n ≤ i⟩
theorem turn_rvt {P : Program} {w : World} {K : PySem.W.Frag} {tg : Expr} (a it : Addr) (n : Nat) : Turn P w K tg (Itw K a n) [it] it (fun i h => i ≤ n ∧ h.IsRvt it a ((n : Int) - 1 - (i : Nat))) where
  mem := by simp
  obj := fun i h st b hb => by
    have e : b = it := by simpa using hb
    subst e
    obtain ⟨_, o, e, c, d⟩ := st
    exact ⟨o, e, fun v z => by rw [d] at z; cases z⟩
  keep := fun i h h' st k => ⟨st.1, st.2.at fun o e => k it (by simp) o e⟩
  item := by
    intro X hP hw hK hc i pins s σ H E I hf st hg
    subst hP hw hK
    obtain ⟨hin, xs, x, hq, hx⟩ := hg
    obtain ⟨its, rv, p, hz⟩ := I.tuple hq
    obtain ⟨u, hu, ru⟩ := rv.get hx
    obtain ⟨f0, f1, f2, f3, f4, f5⟩ := hf it (by simp)
    obtain ⟨_, hit⟩ := st
    have e1 : (n : Int) - 1 - ((i : Nat) : Int) = ((n - 1 - i : Nat) : Int) := by omega
    rw [e1] at hit
    have hfit : ((its.toArray.size : Nat) : Int) < 2 ^ 63 := by
      have := rv.length
      have h2 : sizeLine = 16777216 := sizeLine_eq
      rw [List.size_toArray]
      omega
    refine pyNext_rvt_item hit p (x := u) (by simpa using hu) hfit fun h' t' st' sb => ?_
    have e2 : ((n - 1 - i : Nat) : Int) - 1 = (n : Int) - 1 - ((i + 1 : Nat) : Int) := by omega
    rw [e2] at st'
    have I1 : Inv X pins σ H { s with heap := h', toks := t' } := I.turned (t' := t') (fun b o hb e => (sb.2 b hb).trans e) f0 f1 f3 f4 f5
    obtain ⟨o, e, c, d⟩ := id st'
    exact ⟨u, rfl, go_of (s := { s with heap := h', toks := t' }) e c d (by decide) ⟨x, H, I1, ru, ⟨rfl, fun ys hy => by rw [I.tuple_inj hy hq]; exact hx⟩, ⟨hin, st'⟩, fun b hb => (hf b hb).1⟩⟩
  done := by
    intro X hP hw hK hc i pins s σ H E I hf st hg
    subst hP hw hK
    obtain ⟨f0, f1, f2, f3, f4, f5⟩ := hf it (by simp)
    obtain ⟨hin, hit⟩ := st
    have hge : n ≤ i := hg
    have e1 : (n : Int) - 1 - ((i : Nat) : Int) = -1 := by omega
    rw [e1] at hit
    exact pyNext_rvt_end (I.ok.hd hc) hit fun h' eb => ⟨rfl, I.turned (t' := s.toks) (fun b o hb e => eb b o hb e) f0 f1 f3 f4 f5⟩
  self := fun A i s Q E st h => pyIter_rvt st.2 h
def iRevT (K : PySem.W.Frag) (ta : TA) : TI := fun σ H R => ta σ H fun vs H1 => ∃ (a : Addr) (xs : List V), vs = [.ref a] ∧ SqT K H1 a xs ∧ R (Itw K a xs.length) H1
theorem pi_reversedT {X : Cx} {tg : Expr} {e : Expr} {ta : TA} {p pos : Pos} (hg : Gl X "reversed") (hm : X.mg "reversed" = none) (ha : PA X [e] ta) (hs : starEach [e] X.env = [(false, eval e X.env)] := by rfl) : PI X tg (.Call (.Name "reversed" p) [e] [] pos) (iRevT X.K ta) := by
  intro pins s σ H R I h
  refine Call_ (ld_blt I hg hm boot_reversed5 (PyProof.Rows.callWith_type1 (thn (ha pos pins s σ H _ I h) fun us s1 ⟨vs, H1, I1, r1, q1⟩ => ?_) hs rfl))
  obtain ⟨a, xs, e, hq, q⟩ := q1
  subst e
  cases r1 with
  | cons r rr =>
    cases rr
    cases r
    obtain ⟨its, rv, p', hz⟩ := I1.tuple hq
    have hl := rv.length
    have hfit : ((its.toArray.size : Nat) : Int) < 2 ^ 63 := by
      have h2 : sizeLine = 16777216 := sizeLine_eq
      rw [List.size_toArray]
      omega
    have e1 : ((its.toArray.size : Nat) : Int) - 1 = (xs.length : Int) - 1 - ((0 : Nat) : Int) := by simp only [List.size_toArray]; omega
    refine call_rvt p' hfit (pyIter_rvt (l := a) (i := ((its.toArray.size : Nat) : Int) - 1) ⟨_, Heap.get?_push_size _ rfl, rfl, rfl⟩ ?_)
    refine pi_one (tk := s1.toks + 1 + 1) I1 _ (turn_rvt a _ xs.length) ⟨Nat.zero_le _, ?_⟩ q
    rw [← e1]
    exact ⟨_, Heap.get?_push_size _ rfl, rfl, rfl⟩
theorem for_rev {K : PySem.W.Frag} {a : Addr} {xs : List V} {g : TG} {tb : TS} {D : Ends} {σ : St} {H : Hp} (Pv : Nat → St → Hp → Prop) (h0 : Pv 0 σ H) (hl : ∀ i σ H, i ≤ xs.length → Pv i σ H → SqT K H a xs)
    (hs : ∀ i x σ H, i < xs.length → xs[xs.length - 1 - i]? = some x → Pv i σ H → g x σ H fun σ2 H2 => tb { D with nx := Pv (i + 1), ct := Pv (i + 1), bk := D.nx } σ2 H2) (hd : ∀ σ H, Pv xs.length σ H → D.nx σ H) :
    ∃ W : Nat → Nat → St → Hp → Prop, (∃ m, W 0 m σ H) ∧ ∀ i m σ H, W i m σ H →
      ((Itw K a xs.length).stop i H ∧ D.nx σ H) ∨ ((Itw K a xs.length).go i H ∧ ∃ N : St → Hp → Prop, (∀ σ' H', N σ' H' → ∃ m', m' < m ∧ W (i + 1) m' σ' H') ∧ ∀ x H', (Itw K a xs.length).yld i H x H' → g x σ H' fun σ2 H2 => tb { D with nx := N, ct := N, bk := D.nx } σ2 H2) := by
  refine ⟨fun i m σ H => i ≤ xs.length ∧ m = xs.length - i ∧ Pv i σ H, ⟨_, Nat.zero_le _, rfl, h0⟩, ?_⟩
  rintro i m σ H ⟨hi, rfl, hp⟩
  rcases Nat.lt_or_ge i xs.length with hlt | hge
  · refine .inr ⟨⟨hlt, xs, xs[xs.length - 1 - i]'(by omega), hl i σ H hi hp, List.getElem?_eq_getElem _⟩, Pv (i + 1), fun σ' H' h => ⟨_, ?_, hlt, rfl, h⟩, ?_⟩
    · omega
    · rintro x H' ⟨e', hx⟩
      rw [e']
      exact hs i x σ H hlt (hx xs (hl i σ H hi hp)) hp
  · have e : i = xs.length := by omega
    subst e
    exact .inl ⟨Nat.le_refl _, hd σ H hp⟩
theorem boot_set5 : bootBuiltins "set" = some (.type "set") := by decide +kernel
def dedup (ns : List Int) : List Int := ns.foldl (fun σ k => if σ.any (· == k) then σ else σ ++ [k]) []
theorem firstMet_dedup (ns : List Int) : firstMet (fun i => ns.getD i 0) ns.length = dedup ns := by
  unfold firstMet dedup
  have e : (List.range ns.length).map (fun i => ns.getD i 0) = ns := by
    apply List.ext_getElem
    · simp
    · intro i h1 h2
      simp at h1
      simp [h1]
  rw [e]
  rfl
theorem call_setL {X : Cx} (hc : X.calm = true) : CallR X (.type "set") (fun vs H Q => ∃ (a : Addr) (ns : List Int), vs = [.ref a] ∧ SqL X.K H a (ns.map V.int) ∧ ns.length < 64 ∧ ∀ (p : Addr) (S : Int → Bool), H p = none → Q (.ref p) (upd H p (.set S (dedup ns).length))) := by
  intro pins s σ H vs us Q I r h
  obtain ⟨a, ns, rfl, hs, h64, q⟩ := h
  obtain ⟨its, rv, hl, _⟩ := I.list hs
  rw [Vals.ref1 r]
  have hi := rv.ints
  have hlen := hi.length
  have hsz : its.toArray.size = ns.length := by rw [List.size_toArray]; exact hlen
  refine call_set_list (I.ok.hd hc) hl.isList (ns := ns) (by simpa using hi) (by rw [hsz]; show ns.length + 1 < 4096; omega) fun h' tk hS hk => ?_
  rw [hsz, firstMet_dedup] at hS
  exact ⟨.ref s.heap.objs.size, _, I.laid (a := s.heap.objs.size) (t' := tk) (o := .set _ (dedup ns).length) (fun b u hu => hk b u (Heap.lt_size hu) hu) (Nat.le_refl _) hS, rfl, q _ _ (I.hok.fresh (Nat.le_refl _))⟩
theorem call_lenS {X : Cx} : CallR X (.builtin "len") (fun vs H Q => ∃ (a : Addr) (S : Int → Bool) (n : Nat), vs = [.ref a] ∧ H a = some (.set S n) ∧ n < 4096 ∧ Q (.int n) H) := by
  intro pins s σ H vs us Q I r h
  obtain ⟨a, S, n, rfl, ha, hn, q⟩ := h
  rw [Vals.ref1 r]
  have hS : s.heap.SetOf (intKind X.prog X.w) a S n := I.hok a _ ha
  obtain ⟨o, es, ep, t, ho, hex, hd, _, _, _, hf, e⟩ := hS
  refine call_len_set ho hex hd hf (by omega) ?_
  exact ⟨.int n, H, I.tok _, ⟨_, by rw [e]⟩, q⟩
end L2
set_option maxRecDepth 100000
set_option maxHeartbeats 2000000
namespace L2
open PySem PySem.Spec PyProof.Rows
theorem take_snoc' {α : Type} : ∀ {l : List α} {i : Nat} {x : α}, l[i]? = some x → l.take (i + 1) = l.take i ++ [x] := fun {l i x} h => by
  obtain ⟨hi, e⟩ := List.getElem?_eq_some_iff.mp h
  rw [List.take_succ, h]
  rfl
theorem Same.new' {H : Hp} {p : Addr} {o : HO} (h : H p = none) : Same H (upd H p o) := fun b u e => by rw [upd_ne (ne_of_none e h)]; exact e
theorem Same.tup' {K : PySem.W.Frag} {H H' : Hp} (s : Same H H') {a : Addr} {xs : List V} (h : SqT K H a xs) : SqT K H' a xs := by
  rcases h with (h | ⟨o, h⟩) | h
  · exact .inl (.inl (s _ _ h))
  · exact .inl (.inr ⟨o, s _ _ h⟩)
  · exact .inr h
theorem lc_pureT {K : PySem.W.Frag} {a : Addr} {xs : List V} {g : TG} {tt : TT} {te : TE} {vs : List Nat} {σ : St} {H1 : Hp} {D : Addr} {Qd : Hp → Prop} (hq : SqT K H1 a xs) (hD : H1 D = none) (hlen : xs.length ≤ sizeLine) (p : V → Bool) (f : V → V)
    (hs : ∀ x ∈ xs, ∀ (H : Hp) (R : V → Hp → Prop) (R' : Hp → Prop), Same H1 H → (p x = true → R (f x) H) → (p x = false → R' H) → g x (wipe σ vs) H fun σ2 H2 => wipe σ2 vs = wipe σ vs ∧ tt σ2 H2 fun b H3 => if b = true then te σ2 H3 R else R' H3)
    (hd : Qd (upd H1 D (.lst ((xs.filter p).map f)))) :
    ∃ W : Nat → Nat → Hp → Prop, (∃ m, W 0 m (upd H1 D (.lst []))) ∧ ∀ i m H, W i m H →
      ((Itt K a).stop i H ∧ Qd H) ∨ ((Itt K a).go i H ∧ ∃ Nx : Hp → Prop, (∀ H', Nx H' → ∃ m', m' < m ∧ W (i + 1) m' H') ∧ ∀ x H', (Itt K a).yld i H x H' → g x (wipe σ vs) H' fun σ2 H2 => wipe σ2 vs = wipe σ vs ∧ tt σ2 H2 fun b H3 =>
        if b = true then te σ2 H3 fun y H4 => ∃ acc, H4 D = some (.lst acc) ∧ acc.length < sizeLine ∧ Nx (upd H4 D (.lst (acc ++ [y]))) else Nx H3) := by
  refine lc_tup (xs := xs) (fun i H => H = upd H1 D (.lst (((xs.take i).filter p).map f))) rfl (fun i H _ e => ?_) (fun i x H hx e => ?_) (fun H e => ?_)
  · rw [e]; exact (Same.new' hD).tup' hq
  · have hm := List.mem_of_getElem? hx
    have hi := (List.getElem?_eq_some_iff.mp hx).1
    refine hs x hm H _ _ (by rw [e]; exact Same.new' hD) (fun hp => ?_) (fun hp => ?_)
    · refine ⟨_, by rw [e, upd_same], ?_, ?_⟩
      · rw [List.length_map]
        have h1 := List.length_filter_le p (xs.take i)
        rw [List.length_take] at h1
        omega
      · rw [e, upd_upd, take_snoc' hx, List.filter_append, List.map_append]
        have : [x].filter p = [x] := by simp [hp]
        rw [this]
        rfl
    · show H = _
      rw [e, take_snoc' hx, List.filter_append]
      have : [x].filter p = [] := by simp [hp]
      rw [this, List.append_nil]
  · rw [List.take_length] at e
    rw [e]; exact hd
theorem lc_pureL {K : PySem.W.Frag} {a : Addr} {xs : List V} {g : TG} {tt : TT} {te : TE} {vs : List Nat} {σ : St} {H1 : Hp} {D : Addr} {Qd : Hp → Prop} (hq : SqL K H1 a xs) (hD : H1 D = none) (hlen : xs.length ≤ sizeLine) (p : V → Bool) (f : V → V)
    (hs : ∀ x ∈ xs, ∀ (H : Hp) (R : V → Hp → Prop) (R' : Hp → Prop), Same H1 H → (p x = true → R (f x) H) → (p x = false → R' H) → g x (wipe σ vs) H fun σ2 H2 => wipe σ2 vs = wipe σ vs ∧ tt σ2 H2 fun b H3 => if b = true then te σ2 H3 R else R' H3)
    (hd : Qd (upd H1 D (.lst ((xs.filter p).map f)))) :
    ∃ W : Nat → Nat → Hp → Prop, (∃ m, W 0 m (upd H1 D (.lst []))) ∧ ∀ i m H, W i m H →
      ((Itl K a).stop i H ∧ Qd H) ∨ ((Itl K a).go i H ∧ ∃ Nx : Hp → Prop, (∀ H', Nx H' → ∃ m', m' < m ∧ W (i + 1) m' H') ∧ ∀ x H', (Itl K a).yld i H x H' → g x (wipe σ vs) H' fun σ2 H2 => wipe σ2 vs = wipe σ vs ∧ tt σ2 H2 fun b H3 =>
        if b = true then te σ2 H3 fun y H4 => ∃ acc, H4 D = some (.lst acc) ∧ acc.length < sizeLine ∧ Nx (upd H4 D (.lst (acc ++ [y]))) else Nx H3) := by
  refine lc_list (xs := xs) (fun i H => H = upd H1 D (.lst (((xs.take i).filter p).map f))) rfl (fun i H _ e => ?_) (fun i x H hx e => ?_) (fun H e => ?_)
  · rw [e]; exact (Same.new' hD).seq hq
  · have hm := List.mem_of_getElem? hx
    have hi := (List.getElem?_eq_some_iff.mp hx).1
    refine hs x hm H _ _ (by rw [e]; exact Same.new' hD) (fun hp => ?_) (fun hp => ?_)
    · refine ⟨_, by rw [e, upd_same], ?_, ?_⟩
      · rw [List.length_map]
        have h1 := List.length_filter_le p (xs.take i)
        rw [List.length_take] at h1
        omega
      · rw [e, upd_upd, take_snoc' hx, List.filter_append, List.map_append]
        have : [x].filter p = [x] := by simp [hp]
        rw [this]
        rfl
    · show H = _
      rw [e, take_snoc' hx, List.filter_append]
      have : [x].filter p = [] := by simp [hp]
      rw [this, List.append_nil]
  · rw [List.take_length] at e
    rw [e]; exact hd
end L2
set_option maxRecDepth 100000
set_option maxHeartbeats 2000000
namespace On
open PySem PySem.Spec PyProof.Rows L2
def top (i : Nat) : Stmt := PySem.Challenge.pw_onesuit_s01_answers.main.body.getD i (.Pass ⟨0, 0, 0, 0⟩)
abbrev sLow : Stmt := top 2
abbrev sSec : Stmt := top 3
abbrev sLas : Stmt := top 4
abbrev iv (n : Nat) : V := .int (n : Int)
abbrev Tn (K : PySem.W.Frag) (H : Hp) (a : Addr) (cs : List Nat) : Prop := SqT K H a (cs.map iv)
structure Names (mg : Str → Option Value) : Prop where
  reversed : mg "reversed" = none
  len : mg "len" = none
  sorted : mg "sorted" = none
  tuple : mg "tuple" = none
  sum : mg "sum" = none
  range : mg "range" = none
  max : mg "max" = none
  all : mg "all" = none
  set : mg "set" = none
  list : mg "list" = none
  jack : ∃ t, mg "JACK" = some (.int 10 t)
section
variable {P : Program} {w : World} {K : PySem.W.Frag} {mg : Str → Option Value} {base : Heap}
def spLow (K : PySem.W.Frag) : Sp := fun vs H Q _ => ∃ (a : Addr) (cs : List Nat) (fl : Nat), vs = [.ref a, iv fl] ∧ Tn K H a cs ∧ cs ≠ [] ∧ Mt.Fall cs ∧ Q (iv (Mt.lowAbove cs fl)) H
theorem scLow : FnScope ["cards", "floor", "card"] ["cards", "floor"] (defScope sLow) := ⟨rfl, rfl, rfl, by decide +kernel, rfl, by decide +kernel, by decide +kernel⟩
theorem find_rev {cs : List Nat} {p : Nat → Bool} {i : Nat} {c : Nat} (hi : i < cs.length) (hc : cs[cs.length - 1 - i]? = some c) (hp : p c = true) (hb : ∀ j d, j < i → cs[cs.length - 1 - j]? = some d → p d = false) :
    cs.reverse.find? p = some c := by
  rw [List.find?_eq_some_iff_getElem]
  have hlen : i < cs.reverse.length := by simpa using hi
  have e : ∀ j (h : j < cs.reverse.length), cs[cs.length - 1 - j]? = some cs.reverse[j] := fun j h => by
    have h' : j < cs.length := by simpa using h
    rw [List.getElem_reverse, List.getElem?_eq_getElem (by omega)]
  refine ⟨hp, i, hlen, ?_, fun j hj => ?_⟩
  · have := e i hlen
    rw [hc] at this
    exact (Option.some.inj this).symm
  · have hj' : j < cs.reverse.length := by omega
    have := hb j _ hj (e j hj')
    simpa using this
theorem find_rev_none {cs : List Nat} {p : Nat → Bool} (hb : ∀ j d, j < cs.length → cs[cs.length - 1 - j]? = some d → p d = false) : cs.reverse.find? p = none := by
  rw [List.find?_eq_none]
  intro c hc
  obtain ⟨i, hi, e⟩ := List.mem_iff_getElem.mp (List.mem_reverse.mp hc)
  have := hb (cs.length - 1 - i) c (by omega) (by rw [show cs.length - 1 - (cs.length - 1 - i) = i by omega, List.getElem?_eq_getElem hi, e])
  simp [this]
theorem get_map {α β : Type} {f : α → β} {l : List α} {i : Nat} {y : β} (h : (l.map f)[i]? = some y) : ∃ x, l[i]? = some x ∧ y = f x := by
  rw [List.getElem?_map] at h
  obtain ⟨x, hx, e⟩ := Option.map_eq_some_iff.mp h
  exact ⟨x, hx, e.symm⟩
theorem last_at {cs : List Nat} (hn : cs ≠ []) (hf : Mt.Fall cs) : atI (cs.map iv) (-1) = some (iv (Vbbrak.lowest cs)) := by
  have e := List.dropLast_concat_getLast hn
  have h2 : Vbbrak.lowest cs = cs.getLast hn := by
    conv => lhs; rw [← e]
    exact Mt.lowest_snoc (by rw [e]; exact hf)
  rw [h2]
  conv => lhs; rw [← e]
  rw [List.map_append]
  exact atI_last _ _
theorem ok_low {f : Addr} {fd : FuncData} (F : Fun K "lowest_above" "lowest_above" sLow f fd) (T : Names mg) : FnOk P w K mg base CX0 1 f fd ["cards", "floor"] (spLow K) := by
  refine F.ok scLow (fun vs H Q E h => ?_) (fun cdv A outer s H vs Q E hr h => ?_)
  · obtain ⟨a, cs, fl, rfl, _⟩ := h
    rfl
  · obtain ⟨a, cs, fl, rfl, hT, hn, hf, k⟩ := h
    refine ⟨_, pss_cons (ps_for PassesOwn.never rfl (pi_reversedT rfl T.reversed (pa_cons (pv 0) pa_nil)) (pg_name (i := 2) scLow.nd rfl (Or.inl rfl))
        (pss_one (ps_if (pt_cmpR op_gt (pv 2) (pv 1) (nomark _)) (pss_one (ps_ret (pv 2))) pss_nil)))
      (pss_one (ps_ret (pe_ix ix_tup (pv 0) (pe_un un_neg pe_int) (fun _ _ => rfl)))), ?_⟩
    refine ⟨_, rfl, a, _, rfl, hT, for_rev (K := K) (a := a) (xs := cs.map iv) (fun i σ H' => ∃ v : Option V, σ = [some (.ref a), some (iv fl), v] ∧ H' = H ∧ ∀ j d, j < i → cs[cs.length - 1 - j]? = some d → decide (fl < d) = false)
      ⟨none, rfl, rfl, fun j d h => absurd h (Nat.not_lt_zero _)⟩ (fun i σ H' _ ⟨_, _, e, _⟩ => by rw [e]; exact hT) ?_ ?_⟩
    · rintro i y σ H' hi hy ⟨v, rfl, rfl, hb⟩
      rw [List.length_map] at hi hy
      obtain ⟨c, hc, rfl⟩ := get_map hy
      refine ⟨_, rfl, _, rfl, _, _, rfl, rfl, _, rfl, ?_⟩
      refine ite2 (fun h => ?_) (fun h => ?_)
      · have hlt : fl < c := by have := of_decide_eq_true h; omega
        refine ⟨_, rfl, ?_⟩
        have e : Mt.lowAbove cs fl = c := by
          unfold Mt.lowAbove
          rw [find_rev (p := fun c => decide (fl < c)) hi hc (decide_eq_true hlt) hb]
          rfl
        rw [e] at k
        exact k
      · refine ⟨_, rfl, rfl, fun j d hj hd => ?_⟩
        rcases Nat.lt_or_ge j i with hji | hji
        · exact hb j d hji hd
        · have : j = i := by omega
          subst this
          rw [hc] at hd
          cases hd
          refine decide_eq_false fun z => h (decide_eq_true ?_)
          show (fl : Int) < (c : Int)
          omega
    · rintro σ H' ⟨v, rfl, rfl, hb⟩
      rw [List.length_map] at hb
      refine ⟨_, rfl, _, rfl, a, _, _, _, rfl, rfl, hT, last_at hn hf, ?_⟩
      have e : Mt.lowAbove cs fl = Vbbrak.lowest cs := by
        unfold Mt.lowAbove
        rw [find_rev_none (p := fun c => decide (fl < c)) hb]
        rfl
      rw [e] at k
      exact k
def cv (b : Bool) : V := .int (if b then 1 else 0)
def spSec (K : PySem.W.Frag) : Sp := fun vs H Q _ => ∃ (a : Addr) (cs : List Nat) (led : Nat) (c : Bool), vs = [.ref a, iv led, cv c] ∧ Tn K H a cs ∧ Mt.Fall cs ∧ Q (iv (Vbbrak.second c cs led)) H
theorem scSec : FnScope ["cards", "led", "cover"] ["cards", "led", "cover"] (defScope sSec) := ⟨rfl, rfl, rfl, by decide +kernel, rfl, by decide +kernel, by decide +kernel⟩
theorem ok_sec {f fL : Addr} {fd fdL : FuncData} (F : Fun K "second_card" "second_card" sSec f fd) (T : Names mg) (mL : mg "lowest_above" = some (.ref fL)) (FL : Fun K "lowest_above" "lowest_above" sLow fL fdL) (bL : Binds K fdL ["cards", "floor"] []) :
    FnOk P w K mg base CX0 2 f fd ["cards", "led", "cover"] (spSec K) := by
  have GL : FnOk P w K mg base CX0 1 fL fdL ["cards", "floor"] (spLow K) := ok_low FL T
  refine F.ok scSec (fun vs H Q E h => ?_) (fun cdv A outer s H vs Q E hr h => ?_)
  · obtain ⟨a, cs, led, c, rfl, _⟩ := h
    rfl
  · obtain ⟨a, cs, led, c, rfl, hT, hf, k⟩ := h
    obtain ⟨tj, hj⟩ := T.jack
    refine ⟨_, pss_cons (ps_if (pt_cmpR op_eq (pe_callB call_len_seq (by rfl) T.len PySem.boot_len (pa_cons (pv 0) pa_nil)) pe_int (nomark _)) (pss_one (ps_ret pe_int)) pss_nil)
      (pss_cons (ps_if (pw_and (pt_cmpR op_eq (pv 2) pe_int (nomark _)) (pw_and1 (pt_cmpR op_ge (pv 1) (pe_glob (v := .int 10) (by rfl) hj ⟨tj, rfl⟩) (nomark _)))).pt
        (pss_one (ps_ret (pe_call GL hr rfl mL FL.kp bL .nil pass0 (pa_cons (pv 0) (pa_cons (pv 1) pa_nil))))) pss_nil)
      (pss_one (ps_ret (pe_ix ix_tup (pv 0) (pe_un un_neg pe_int) (fun _ _ => rfl))))), ?_⟩
    refine ⟨_, rfl, a, _, rfl, .inr hT, rfl, _, rfl, ?_⟩
    refine ite2 (fun h => ?_) (fun h => ?_)
    · have e : cs = [] := by
        have := of_decide_eq_true h
        simpa using this
      subst e
      rw [Mt.second_nil] at k
      exact k
    · have hn : cs ≠ [] := by
        rintro rfl
        exact h rfl
      rw [Mt.second_eq c led hf] at k
      refine ⟨_, rfl, rfl, _, rfl, ?_⟩
      cases c with
      | false =>
        refine ite2 (fun h => ?_) (fun h => ?_)
        · have := of_decide_eq_true h
          cases this
        · refine iteF ?_
          rw [if_neg (fun q => Bool.false_ne_true q.1)] at k
          exact ⟨_, rfl, _, rfl, a, _, _, _, rfl, rfl, hT, last_at hn hf, k⟩
      | true =>
        refine ite2 (fun _ => ?_) (fun h => absurd (decide_eq_true rfl) h)
        refine ⟨_, rfl, _, _, rfl, rfl, _, rfl, ?_⟩
        refine ite2 (fun h => ?_) (fun h => ?_)
        · have h10 : 10 ≤ led := by have := of_decide_eq_true h; omega
          rw [if_pos ⟨rfl, h10⟩] at k
          exact ⟨_, rfl, _, rfl, a, cs, led, rfl, hT, hn, hf, k⟩
        · have h10 : ¬ 10 ≤ led := fun z => h (decide_eq_true (by show (10 : Int) ≤ (led : Int); omega))
          rw [if_neg (fun q => h10 q.2)] at k
          exact ⟨_, rfl, _, rfl, a, _, _, _, rfl, rfl, hT, last_at hn hf, k⟩
def lastAt (cs : List Nat) (ours partner : Nat) : Nat := if ours < partner then Vbbrak.lowest cs else Mt.lowAbove cs ours
theorem lastAt_eq {cs : List Nat} (hf : Mt.Fall cs) (x y z : Nat) : Vbbrak.last cs x y z = lastAt cs (max x z) y := Mt.last_eq x y z hf
theorem lastAt_nil (o p : Nat) : lastAt [] o p = 0 := by
  unfold lastAt Mt.lowAbove
  split <;> rfl
def spLas (K : PySem.W.Frag) : Sp := fun vs H Q _ => ∃ (a : Addr) (cs : List Nat) (o p : Nat), vs = [.ref a, iv o, iv p] ∧ Tn K H a cs ∧ Mt.Fall cs ∧ Q (iv (lastAt cs o p)) H
theorem scLas : FnScope ["cards", "ours", "partner"] ["cards", "ours", "partner"] (defScope sLas) := ⟨rfl, rfl, rfl, by decide +kernel, rfl, by decide +kernel, by decide +kernel⟩
theorem ok_las {f fL : Addr} {fd fdL : FuncData} (F : Fun K "last_card" "last_card" sLas f fd) (T : Names mg) (mL : mg "lowest_above" = some (.ref fL)) (FL : Fun K "lowest_above" "lowest_above" sLow fL fdL) (bL : Binds K fdL ["cards", "floor"] []) :
    FnOk P w K mg base CX0 2 f fd ["cards", "ours", "partner"] (spLas K) := by
  have GL : FnOk P w K mg base CX0 1 fL fdL ["cards", "floor"] (spLow K) := ok_low FL T
  refine F.ok scLas (fun vs H Q E h => ?_) (fun cdv A outer s H vs Q E hr h => ?_)
  · obtain ⟨a, cs, o, p, rfl, _⟩ := h
    rfl
  · obtain ⟨a, cs, o, p, rfl, hT, hf, k⟩ := h
    refine ⟨_, pss_cons (ps_if (pt_cmpR op_eq (pe_callB call_len_seq (by rfl) T.len PySem.boot_len (pa_cons (pv 0) pa_nil)) pe_int (nomark _)) (pss_one (ps_ret pe_int)) pss_nil)
      (pss_cons (ps_if (pt_cmpR op_gt (pv 2) (pv 1) (nomark _)) (pss_one (ps_ret (pe_ix ix_tup (pv 0) (pe_un un_neg pe_int) (fun _ _ => rfl)))) pss_nil)
      (pss_one (ps_ret (pe_call GL hr rfl mL FL.kp bL .nil pass0 (pa_cons (pv 0) (pa_cons (pv 1) pa_nil)))))), ?_⟩
    refine ⟨_, rfl, a, _, rfl, .inr hT, rfl, _, rfl, ?_⟩
    refine ite2 (fun h => ?_) (fun h => ?_)
    · have e : cs = [] := by
        have := of_decide_eq_true h
        simpa using this
      subst e
      rw [lastAt_nil] at k
      exact k
    · have hn : cs ≠ [] := by
        rintro rfl
        exact h rfl
      refine ⟨_, rfl, _, rfl, _, _, rfl, rfl, _, rfl, ?_⟩
      unfold lastAt at k
      refine ite2 (fun h => ?_) (fun h => ?_)
      · have hp : o < p := by have := of_decide_eq_true h; omega
        rw [if_pos hp] at k
        exact ⟨_, rfl, _, rfl, a, _, _, _, rfl, rfl, hT, last_at hn hf, k⟩
      · have hp : ¬ o < p := fun z => h (decide_eq_true (by show (o : Int) < (p : Int); omega))
        rw [if_neg hp] at k
        exact ⟨_, rfl, _, rfl, a, cs, o, rfl, hT, hn, hf, k⟩
end
end On
set_option maxRecDepth 100000
set_option maxHeartbeats 2000000
namespace On
open PySem PySem.Spec PyProof.Rows L2
abbrev sFal : Stmt := top 6
abbrev sWo : Stmt := top 7
def KT (H H' : Hp) : Prop := (∀ b xs, H b = some (.tup xs) → H' b = some (.tup xs)) ∧ ∀ b o u, H b = some (.frz o u) → H' b = some (.frz o u)
theorem KT.refl (H : Hp) : KT H H := ⟨fun _ _ h => h, fun _ _ _ h => h⟩
theorem KT.trans {H H1 H2 : Hp} (a : KT H H1) (b : KT H1 H2) : KT H H2 := ⟨fun c xs h => b.1 c xs (a.1 c xs h), fun c o u h => b.2 c o u (a.2 c o u h)⟩
theorem _root_.L2.Same.kt {H H' : Hp} (s : Same H H') : KT H H' := ⟨fun b xs h => s b _ h, fun b o u h => s b _ h⟩
theorem KT.sq {K : PySem.W.Frag} {H H' : Hp} (s : KT H H') {a : Addr} {xs : List V} (h : SqT K H a xs) : SqT K H' a xs := by
  rcases h with (h | ⟨o, h⟩) | h
  · exact .inl (.inl (s.1 _ _ h))
  · exact .inl (.inr ⟨o, s.2 _ _ _ h⟩)
  · exact .inr h
theorem _root_.L2.Same.new {H : Hp} {p : Addr} {o : HO} (h : H p = none) : Same H (upd H p o) := fun b u e => by rw [upd_ne (ne_of_none e h)]; exact e
def Pr (K : PySem.W.Frag) (H : Hp) (p : Addr) (xs ys : List Nat) : Prop := ∃ a b, SqT K H p [.ref a, .ref b] ∧ Tn K H a xs ∧ Tn K H b ys
theorem Pr.kt {K : PySem.W.Frag} {H H' : Hp} (s : KT H H') {p : Addr} {xs ys : List Nat} (h : Pr K H p xs ys) : Pr K H' p xs ys := let ⟨a, b, h1, h2, h3⟩ := h; ⟨a, b, s.sq h1, s.sq h2, s.sq h3⟩
section
variable {P : Program} {w : World} {K : PySem.W.Frag} {mg : Str → Option Value} {base : Heap}
def NumsAt (K : PySem.W.Frag) (H : Hp) (a : Addr) (ns : List Nat) : Prop := SqL K H a (ns.map iv) ∨ ∃ kvs, Rd H a (.dK kvs) ∧ kvs.map (·.1) = ns.map fun n : Nat => (Sum.inl (n : Int) : Key)
def spFal (K : PySem.W.Frag) : Sp := fun vs H Q _ => ∃ (a : Addr) (ns : List Nat), vs = [.ref a] ∧ NumsAt K H a ns ∧ ns.Nodup ∧ ns.length < 64 ∧
  ∀ (p : Addr) (H' : Hp), Same H H' → H' p = some (.tup ((Vbbrak.falling ns).map iv)) → Q (.ref p) H'
theorem sorted_nats {ns : List Nat} {ms : List Int} (hn : ns.Nodup) (hp : ms.Perm (ns.map fun n : Nat => (n : Int))) (hs : ms.Pairwise (· ≥ ·)) : ms = (Vbbrak.falling ns).map fun n : Nat => (n : Int) := by
  refine List.Perm.eq_of_pairwise (le := (· ≥ ·)) (fun a b _ _ h1 h2 => Int.le_antisymm h2 h1) hs ?_ (hp.trans ((Mt.falling_perm hn).symm.map _))
  rw [List.pairwise_map]
  exact (Mt.fall_falling ns).imp fun {a b} h => by
    show (a : Int) ≥ (b : Int)
    have : a > b := h
    omega
theorem scFal : FnScope ["cards"] ["cards"] (defScope sFal) := ⟨rfl, rfl, rfl, by decide +kernel, rfl, by decide +kernel, by decide +kernel⟩
theorem boot_tuple5 : bootBuiltins "tuple" = some (.type "tuple") := by decide +kernel
theorem ok_fal {f : Addr} {fd : FuncData} (F : Fun K "falling" "falling" sFal f fd) (T : Names mg) : FnOk P w K mg base CX0 1 f fd ["cards"] (spFal K) := by
  refine F.ok scFal (fun vs H Q E h => ?_) (fun cdv A outer s H vs Q E hr h => ?_)
  · obtain ⟨a, ns, rfl, _⟩ := h
    rfl
  · obtain ⟨a, ns, rfl, hN, hn, h64, k⟩ := h
    refine ⟨_, pss_one (ps_ret (pe_callTy call_tuple_of (by rfl) T.tuple boot_tuple5 (pa_cons (pe_sortRev rfl (by rfl) T.sorted (pv 0)) pa_nil))), ?_⟩
    refine ⟨_, rfl, a, ns.map fun n : Nat => (n : Int), rfl, by rw [List.length_map]; exact h64, ?_, fun ms p hp hs hnew => ?_⟩
    · rcases hN with h | ⟨kvs, h1, h2⟩
      · refine .inl ?_
        rw [List.map_map]
        exact h
      · refine .inr ⟨kvs, h1, ?_⟩
        rw [h2, List.map_map]
        rfl
    · refine ⟨p, _, rfl, .inl ⟨SqL.of upd_same, fun l hl => ?_⟩⟩
      have e := sorted_nats hn hp hs
      refine k l _ (fun b o h => ?_) ?_
      · exact Same.new hl b o (Same.new hnew b o h)
      · rw [upd_same, e, List.map_map]
        rfl
def spWo (K : PySem.W.Frag) : Sp := fun vs H Q _ => ∃ (p : Addr) (one other : Nat) (xs ys : List Nat), vs = [.ref p, iv one, iv other] ∧ Pr K H p xs ys ∧ xs.length < 64 ∧ ys.length < 64 ∧
  ∀ (q : Addr) (H' : Hp), Same H H' → Pr K H' q (Vbbrak.without (Vbbrak.without xs one) other) (Vbbrak.without (Vbbrak.without ys one) other) → Q (.ref q) H'
def woV (one other : Nat) (v : V) : Bool := !decide (v = iv one) && !decide (v = iv other)
theorem iv_eq (a b : Nat) : decide (iv a = iv b) = decide (a = b) := by
  by_cases h : a = b
  · subst h; simp
  · rw [decide_eq_false h, decide_eq_false]
    intro e
    injection e with e
    omega
theorem wo_list (xs : List Nat) (one other : Nat) : ((xs.map iv).filter fun v => woV one other v).map id = (Vbbrak.without (Vbbrak.without xs one) other).map iv := by
  rw [List.map_id, List.filter_map]
  congr 1
  unfold Vbbrak.without
  rw [List.filter_filter]
  congr 1
  funext x
  show (!decide (iv x = iv one) && !decide (iv x = iv other)) = ((x != other) && (x != one))
  rw [iv_eq, iv_eq, Bool.and_comm]
  by_cases h1 : x = one <;> by_cases h2 : x = other <;> simp [h1, h2]
theorem wo_turn {xs : List Nat} {one other : Nat} {x : V} {p : V} {t3 t4 : Option V} {H' : Hp} {R : V → Hp → Prop} {R' : Hp → Prop} (hx : x ∈ xs.map iv) (hp : woV one other x = true → R (id x) H') (hq : woV one other x = false → R' H') :
    gName 5 x (wipe [some p, some (iv one), some (iv other), t3, t4, none] [5]) H' fun σ2 H2 => wipe σ2 [5] = wipe [some p, some (iv one), some (iv other), t3, t4, none] [5] ∧ tAnd (tTest (tOp rNe (tVar 5) (tVar 1))) (tTest (tOp rNe (tVar 5) (tVar 2))) σ2 H2 fun b H3 => if b = true then tVar 5 σ2 H3 R else R' H3 := by
  obtain ⟨n, _, rfl⟩ := List.mem_map.mp hx
  refine ⟨rfl, _, rfl, _, rfl, rfl, _, rfl, ?_⟩
  unfold woV at hp hq
  by_cases h1 : iv n = iv one
  · rw [decide_eq_true h1] at hp hq ⊢
    refine iteF (iteF (hq rfl))
  · rw [decide_eq_false h1] at hp hq ⊢
    refine iteT ⟨_, rfl, _, rfl, rfl, _, rfl, ?_⟩
    by_cases h2 : iv n = iv other
    · rw [decide_eq_true h2] at hp hq ⊢
      exact iteF (hq rfl)
    · rw [decide_eq_false h2] at hp hq ⊢
      exact iteT ⟨_, rfl, hp rfl⟩
theorem scWo : FnScope ["pair", "one", "other", "first", "second", "card"] ["pair", "one", "other"] (defScope sWo) := ⟨rfl, rfl, rfl, by decide +kernel, rfl, by decide +kernel, by decide +kernel⟩
theorem ok_wo {f : Addr} {fd : FuncData} (F : Fun K "without" "without" sWo f fd) (T : Names mg) : FnOk P w K mg base CX0 1 f fd ["pair", "one", "other"] (spWo K) := by
  refine F.ok scWo (fun vs H Q E h => ?_) (fun cdv A outer s H vs Q E hr h => ?_)
  · obtain ⟨p, one, other, xs, ys, rfl, _⟩ := h
    rfl
  · obtain ⟨p, one, other, xs, ys, rfl, hP, hx, hy, k⟩ := h
    refine ⟨_, pss_cons (ps_setLc (i := 3) (own := [("card", 5)]) rfl scWo.nd rfl rfl (sw_true rfl rfl rfl rfl) (pi_tup (pe_ix ix_tup (pv 0) pe_int (fun _ _ => rfl))) (blkOk_by (show blkC ["pair", "one", "other", "first", "second", "card"] (defScope sWo) _ [("card", 5)] = true by decide +kernel))
        (fun _ _ _ _ _ => pg_name (i := 5) scWo.nd rfl (Or.inl rfl)) (fun _ _ _ _ _ => pts_one (pw_and (pt_cmpR op_ne (pv 5) (pv 1) (nomark _)) (pw_and1 (pt_cmpR op_ne (pv 5) (pv 2) (nomark _)))).pt) (fun _ _ _ _ _ => pv 5))
      (pss_cons (ps_setLc (i := 4) (own := [("card", 5)]) rfl scWo.nd rfl rfl (sw_true rfl rfl rfl rfl) (pi_tup (pe_ix ix_tup (pv 0) pe_int (fun _ _ => rfl))) (blkOk_by (show blkC ["pair", "one", "other", "first", "second", "card"] (defScope sWo) _ [("card", 5)] = true by decide +kernel))
        (fun _ _ _ _ _ => pg_name (i := 5) scWo.nd rfl (Or.inl rfl)) (fun _ _ _ _ _ => pts_one (pw_and (pt_cmpR op_ne (pv 5) (pv 1) (nomark _)) (pw_and1 (pt_cmpR op_ne (pv 5) (pv 2) (nomark _)))).pt) (fun _ _ _ _ _ => pv 5))
      (pss_one (ps_ret (pe_tup (pa_cons (pe_callTy call_tuple_of (by rfl) T.tuple boot_tuple5 (pa_cons (pv 3) pa_nil)) (pa_cons (pe_callTy call_tuple_of (by rfl) T.tuple boot_tuple5 (pa_cons (pv 4) pa_nil)) pa_nil)))))), ?_⟩
    obtain ⟨a, b, h0, h1, h2⟩ := hP
    have hxs : (xs.map iv).length ≤ sizeLine := by rw [List.length_map]; exact small64 hx
    have hys : (ys.map iv).length ≤ sizeLine := by rw [List.length_map]; exact small64 hy
    -- first
    refine ⟨_, rfl, p, _, _, _, rfl, rfl, h0, rfl, a, rfl, ⟨_, h1⟩, fun D hD => lc_pureT h1 hD hxs (fun v => woV one other v) id (fun x hx H' R R' hS hp hq => ?_) ?_⟩
    · exact wo_turn hx hp hq
    have s1 : Same H (upd H D (.lst (((xs.map iv).filter fun v => woV one other v).map id))) := Same.new hD
    -- second
    refine ⟨_, rfl, p, _, _, _, rfl, rfl, s1.kt.sq h0, rfl, b, rfl, ⟨_, s1.kt.sq h2⟩, fun D' hD' => lc_pureT (s1.kt.sq h2) hD' hys (fun v => woV one other v) id (fun x hx H' R R' hS hp hq => ?_) ?_⟩
    · exact wo_turn hx hp hq
    have s2 := s1.trans (Same.new (o := .lst (((ys.map iv).filter fun v => woV one other v).map id)) hD')
    refine ⟨_, rfl, D, _, rfl, .inl ⟨SqL.of (by rw [upd_ne (ne_of_none upd_same hD'), upd_same]), fun l hl => ?_⟩⟩
    have s3 := s2.trans (Same.new (o := .tup (((xs.map iv).filter fun v => woV one other v).map id)) hl)
    refine ⟨_, rfl, D', _, rfl, .inl ⟨SqL.of (Same.new hl _ _ upd_same), fun l' hl' => ?_⟩⟩
    have s4 := s3.trans (Same.new (o := .tup (((ys.map iv).filter fun v => woV one other v).map id)) hl')
    refine ⟨by show 2 ≤ sizeLine; decide, fun q hq => ?_⟩
    have s5 := s4.trans (Same.new (o := .tup [.ref l, .ref l']) hq)
    refine k q _ s5 ⟨l, l', SqT.of upd_same, SqT.of ?_, SqT.of ?_⟩
    · rw [← wo_list xs]
      exact Same.new hq _ _ (Same.new hl' _ _ upd_same)
    · rw [← wo_list ys]
      exact Same.new hq _ _ upd_same
end
end On
set_option maxRecDepth 100000
set_option maxHeartbeats 2000000
namespace L2
open PySem PySem.Spec PyProof.Rows
theorem op_cat3 {X : Cx} : OpR X (binaryOp .Add) (fun x y H Q => ∃ a b xs ys, x = .ref a ∧ y = .ref b ∧ SqT X.K H a xs ∧ SqT X.K H b ys ∧ xs.length + ys.length ≤ sizeLine ∧ ∀ r H', Same H H' → SqT X.K H' r (xs ++ ys) → Q (.ref r) H') := by
  intro pins s σ H x y v u Q I rx ry h
  obtain ⟨a, b, xs, ys, ex, ey, ha, hb, hz, q⟩ := h
  refine op_catU pins s σ H x y v u Q I rx ry ⟨a, b, xs, ys, ex, ey, ha, hb, hz, fun e => q b H (Same.refl H) (by rw [e]; exact hb), fun _ e => q a H (Same.refl H) (by rw [e, List.append_nil]; exact ha), fun _ _ p hp => q p _ (Same.new' hp) (SqT.of upd_same)⟩
end L2
namespace On
open PySem PySem.Spec PyProof.Rows L2
abbrev sCho : Stmt := top 8
abbrev sSha : Stmt := top 9
abbrev sSpl : Stmt := top 10
abbrev sWay : Stmt := top 11
section
variable {P : Program} {w : World} {K : PySem.W.Frag} {mg : Str → Option Value} {base : Heap}
def spCho : Sp := fun vs H Q _ => ∃ (n k : Nat), vs = [iv n, iv k] ∧ k ≤ n ∧ n ≤ 1000 ∧ Q (iv (Vbbrak.choose n k)) H
theorem scCho : FnScope ["things", "taken", "number", "step"] ["things", "taken"] (defScope sCho) := ⟨rfl, rfl, rfl, by decide +kernel, rfl, by decide +kernel, by decide +kernel⟩
theorem ok_cho {f : Addr} {fd : FuncData} (F : Fun K "choices" "choices" sCho f fd) (T : Names mg) : FnOk P w K mg base CX0 1 f fd ["things", "taken"] spCho := by
  refine F.ok scCho (fun vs H Q E h => ?_) (fun cdv A outer s H vs Q E hr h => ?_)
  · obtain ⟨n, k, rfl, _⟩ := h
    rfl
  · obtain ⟨n, k, rfl, hk, hn, q⟩ := h
    refine ⟨_, pss_cons (ps_set (i := 2) scCho.nd rfl (Or.inl rfl) pe_int)
      (pss_cons (ps_for PassesOwn.never rfl (pi_range1 rfl T.range (pa_cons (pv 1) pa_nil)) (pg_name (i := 3) scCho.nd rfl (Or.inl rfl))
        (pss_one (ps_set (i := 2) scCho.nd rfl (Or.inl rfl) (pe_op op_fdiv (pe_op op_mul (pv 2) (pe_op op_sub (pv 0) (pv 3))) (pe_op op_add (pv 3) pe_int)))))
      (pss_one (ps_ret (pv 2)))), ?_⟩
    refine ⟨_, rfl, (k : Int), rfl, by omega, by omega, for_range (n := k) (fun i σ H' => ∃ v : Option V, σ = [some (iv n), some (iv k), some (iv (Mt.C n i)), v] ∧ H' = H)
      ⟨none, by rw [Mt.C_zero]; rfl, rfl⟩ ?_ ?_⟩
    · rintro i σ H' hi ⟨v, rfl, rfl⟩
      refine ⟨_, rfl, _, rfl, _, rfl, _, _, rfl, rfl, _, _, rfl, rfl, .inr ⟨?_, ?_⟩, _, rfl, _, _, rfl, rfl, _, _, rfl, rfl, ⟨?_, ?_⟩, ?_⟩
      · show -(2 ^ 64 : Int) < (n : Int) - (0 + (i : Int)); omega
      · show (n : Int) - (0 + (i : Int)) < (2 ^ 64 : Int); omega
      · show (0 : Int) < 0 + (i : Int) + 1; omega
      · show (0 : Int) + (i : Int) + 1 < 1073741824; omega
      · refine ⟨some (.int (0 + (i : Int))), ?_, rfl⟩
        have e := Mt.C_step (n := n) (i := i) (by omega)
        show [some (iv n), some (iv k), some (V.int (((Mt.C n i : Nat) : Int) * ((n : Int) - (0 + (i : Int))) / (0 + (i : Int) + 1))), some (V.int (0 + (i : Int)))] = _
        rw [Int.zero_add, e]
    · rintro σ H' ⟨v, rfl, rfl⟩
      refine ⟨_, rfl, ?_⟩
      rw [Mt.choose_eq hk] at q
      exact q
def ShL (K : PySem.W.Frag) (H : Hp) (a : Addr) (l : List (List Nat × List Nat)) : Prop := ∃ vs : List V, H a = some (.lst vs) ∧ Paired (fun (v : V) (z : List Nat × List Nat) => ∃ p, v = .ref p ∧ Pr K H p z.1 z.2) vs l
theorem paired_len {α β : Type} {F : α → β → Prop} {l : List α} {m : List β} (h : Paired F l m) : l.length = m.length := Paired.length h
theorem paired_at {α β : Type} {F : α → β → Prop} : ∀ {l : List α} {m : List β} {i : Nat} {x : α}, Paired F l m → l[i]? = some x → ∃ y, m[i]? = some y ∧ F x y
  | _, _, _, _, .nil, h => by simp at h
  | _, _, 0, _, .cons h _, e => by simp at e; subst e; exact ⟨_, rfl, h⟩
  | _, _, i + 1, x, .cons _ t, e => by
    obtain ⟨y, h1, h2⟩ := paired_at (i := i) (x := x) t (by simpa using e)
    exact ⟨y, by simpa using h1, h2⟩
theorem paired_app {α β : Type} {F : α → β → Prop} : ∀ {l l' : List α} {m m' : List β}, Paired F l m → Paired F l' m' → Paired F (l ++ l') (m ++ m')
  | _, _, _, _, .nil, h => h
  | _, _, _, _, .cons h t, h' => .cons h (paired_app t h')
theorem kt_mut {H : Hp} {lg : Addr} {u o : HO} (h : H lg = some u) (mu : Mut (some u)) : KT H (upd H lg o) := by
  refine ⟨fun b xs e => ?_, fun b o' u' e => ?_⟩
  · rw [upd_ne]; exact e
    rintro rfl; rw [h] at e; cases e; exact mu
  · rw [upd_ne]; exact e
    rintro rfl; rw [h] at e; cases e; exact mu
theorem ShL.kt {K : PySem.W.Frag} {H H' : Hp} (s : KT H H') {l : List (List Nat × List Nat)} {vs : List V} (h : Paired (fun (v : V) (z : List Nat × List Nat) => ∃ p, v = .ref p ∧ Pr K H p z.1 z.2) vs l) :
    Paired (fun (v : V) (z : List Nat × List Nat) => ∃ p, v = .ref p ∧ Pr K H' p z.1 z.2) vs l := Tk.paired_mono (fun v z ⟨p, e, h⟩ => ⟨p, e, h.kt s⟩) h
theorem ShL.push {K : PySem.W.Frag} {H H' : Hp} {lg q : Addr} {l : List (List Nat × List Nat)} {z : List Nat × List Nat} (h : ShL K H lg l) (s : Same H H') (hq : Pr K H' q z.1 z.2) :
    ∃ ys, H' lg = some (.lst ys) ∧ ys.length = l.length ∧ ShL K (upd H' lg (.lst (ys ++ [.ref q]))) lg (l ++ [z]) := by
  obtain ⟨ys, h1, h2⟩ := h
  have e := s lg _ h1
  have kt := kt_mut (o := .lst (ys ++ [.ref q])) e True.intro
  refine ⟨ys, e, paired_len h2, ys ++ [.ref q], upd_same, paired_app (ShL.kt (s.kt.trans kt) h2) (.cons ⟨q, rfl, hq.kt kt⟩ .nil)⟩
def But (lg : Addr) (H H' : Hp) : Prop := ∀ b o, H b = some o → b ≠ lg → H' b = some o
theorem But.refl (lg : Addr) (H : Hp) : But lg H H := fun _ _ h _ => h
theorem But.trans {lg : Addr} {H H1 H2 : Hp} (a : But lg H H1) (b : But lg H1 H2) : But lg H H2 := fun c o h n => b c o (a c o h n) n
theorem But.same {lg : Addr} {H H1 H2 : Hp} (a : But lg H H1) (b : Same H1 H2) : But lg H H2 := fun c o h n => b c o (a c o h n)
theorem But.upd {lg : Addr} {H H1 : Hp} {o : HO} (a : But lg H H1) : But lg H (upd H1 lg o) := fun c u h n => by rw [upd_ne n]; exact a c u h n
theorem But.to_same {lg : Addr} {H H1 : Hp} (a : But lg H H1) (h : H lg = none) : Same H H1 := fun c o e => a c o e (ne_of_none e h)
theorem But.kt {lg : Addr} {H H1 : Hp} {u : HO} (a : But lg H H1) (h : H lg = some u) (mu : Mut (some u)) : KT H H1 := by
  refine ⟨fun b xs e => a b _ e ?_, fun b o' u' e => a b _ e ?_⟩
  · rintro rfl; rw [h] at e; cases e; exact mu
  · rintro rfl; rw [h] at e; cases e; exact mu
theorem parts_len16 {l : List Nat} (h : l.length < 16) : (Vbbrak.parts l).length * 2 < sizeLine := by
  rw [Mt.parts_length]
  have : 2 ^ l.length ≤ 2 ^ 15 := Nat.pow_le_pow_right (by decide) (by omega)
  have e : sizeLine = 16777216 := sizeLine_eq
  omega
theorem flat_len {α : Type} (g : α → List α) (hg : ∀ x, (g x).length = 2) : ∀ l : List α, (l.flatMap g).length = l.length * 2
  | [] => rfl
  | a :: l => by rw [List.flatMap_cons, List.length_append, flat_len g hg l, hg, List.length_cons]; omega
def spSha (K : PySem.W.Frag) : Sp := fun vs H Q _ => ∃ (a : Addr) (ns : List Nat), vs = [.ref a] ∧ SqL K H a (ns.map iv) ∧ ns.Nodup ∧ ns.length < 16 ∧
  ∀ (p : Addr) (H' : Hp), Same H H' → H p = none → ShL K H' p (Vbbrak.parts (Vbbrak.falling ns)) → Q (.ref p) H'
theorem scSha : FnScope ["missing", "shares", "card", "longer", "west", "east"] ["missing"] (defScope sSha) := ⟨rfl, rfl, rfl, by decide +kernel, rfl, by decide +kernel, by decide +kernel⟩
theorem ok_sha {f fF : Addr} {fd fdF : FuncData} (F : Fun K "all_shares" "all_shares" sSha f fd) (T : Names mg) (mF : mg "falling" = some (.ref fF)) (FF : Fun K "falling" "falling" sFal fF fdF) (bF : Binds K fdF ["cards"] []) :
    FnOk P w K mg base CX0 2 f fd ["missing"] (spSha K) := by
  have GF : FnOk P w K mg base CX0 1 fF fdF ["cards"] (spFal K) := ok_fal FF T
  refine F.ok scSha (fun vs H Q E h => ?_) (fun cdv A outer s H vs Q E hr h => ?_)
  · obtain ⟨a, ns, rfl, _⟩ := h
    rfl
  · obtain ⟨a, ns, rfl, hL, hn, h16, k⟩ := h
    refine ⟨_, pss_cons (ps_set (i := 1) scSha.nd rfl (Or.inl rfl) (pe_lst (pa_cons (pe_tup (pa_cons (pe_tup pa_nil) (pa_cons (pe_tup pa_nil) pa_nil))) pa_nil)))
      (pss_cons (ps_for PassesOwn.never rfl (pi_tup (pe_call GF hr rfl mF FF.kp bF .nil pass0 (pa_cons (pv 0) pa_nil))) (pg_name (i := 2) scSha.nd rfl (Or.inl rfl))
        (pss_cons (ps_set (i := 3) scSha.nd rfl (Or.inl rfl) (pe_lst pa_nil))
        (pss_cons (ps_for PassesOwn.never rfl (pi_list (pv 1)) (pg_tup (n := 2) rfl (pgs_cons (pg_name (i := 4) scSha.nd rfl (Or.inl rfl)) (pgs_cons (pg_name (i := 5) scSha.nd rfl (Or.inl rfl)) pgs_nil)))
          (pss_cons (ps_expr (pe_bm PySem.F.plainAttrs_list PySem.F.slot_list_append PySem.F.type_list_append mt_append (pv 3) (pa_cons (pe_tup (pa_cons (pe_op op_cat3 (pv 4) (pe_tup (pa_cons (pv 2) pa_nil))) (pa_cons (pv 5) pa_nil))) pa_nil)))
          (pss_one (ps_expr (pe_bm PySem.F.plainAttrs_list PySem.F.slot_list_append PySem.F.type_list_append mt_append (pv 3) (pa_cons (pe_tup (pa_cons (pv 4) (pa_cons (pe_op op_cat3 (pv 5) (pe_tup (pa_cons (pv 2) pa_nil))) pa_nil))) pa_nil))))))
        (pss_one (ps_set (i := 1) scSha.nd rfl (Or.inl rfl) (pv 3))))))
      (pss_one (ps_ret (pv 1)))), ?_⟩
    have hfl : (Vbbrak.falling ns).length < 16 := by rw [Mt.falling_length hn]; exact h16
    refine ⟨Nat.zero_le _, fun e1 h1 => ⟨Nat.zero_le _, fun e2 h2 => ⟨by show 2 ≤ sizeLine; decide, fun t0 h3 => ⟨by show 1 ≤ sizeLine; decide, fun sh h4 => ?_⟩⟩⟩⟩
    have s1 : Same H (upd H e1 (.tup [])) := Same.new h1
    have s2 := s1.trans (Same.new (o := .tup []) h2)
    have s3 := s2.trans (Same.new (o := .tup [.ref e1, .ref e2]) h3)
    have s4 := s3.trans (Same.new (o := .lst [.ref t0]) h4)
    have hsh : ShL K (upd (upd (upd (upd H e1 (.tup [])) e2 (.tup [])) t0 (.tup [.ref e1, .ref e2])) sh (.lst [.ref t0])) sh (Vbbrak.parts []) := by
      refine ⟨[.ref t0], upd_same, .cons ⟨t0, rfl, e1, e2, SqT.of (Same.new h4 _ _ upd_same), SqT.of ?_, SqT.of ?_⟩ .nil⟩
      · exact Same.new h4 _ _ (Same.new h3 _ _ (Same.new h2 _ _ upd_same))
      · exact Same.new h4 _ _ (Same.new h3 _ _ upd_same)
    refine ⟨_, rfl, a, ns, rfl, .inl (s4.seq hL), hn, by omega, fun tf Hf sf htf => ⟨tf, rfl, ⟨_, SqT.of htf⟩, ?_⟩⟩
    refine for_tup (K := K) (a := tf) (xs := (Vbbrak.falling ns).map iv) (fun i σ H' => ∃ (sh : Addr) (v2 v3 v4 v5 : Option V), σ = [some (.ref a), some (.ref sh), v2, v3, v4, v5] ∧ Same H H' ∧ H sh = none ∧ H' tf = some (.tup ((Vbbrak.falling ns).map iv)) ∧ ShL K H' sh (Vbbrak.parts ((Vbbrak.falling ns).take i)))
      ⟨sh, none, none, none, none, rfl, s4.trans sf, s3.free h4, htf, ?_⟩ (fun i σ H' _ ⟨_, _, _, _, _, _, _, _, e, _⟩ => SqT.of e) ?_ ?_
    · obtain ⟨vs, g1, g2⟩ := hsh
      exact ⟨vs, sf _ _ g1, ShL.kt sf.kt g2⟩
    · rintro i y σ H' hi ⟨sh, v2, v3, v4, v5, rfl, sH, fsh, etf, vs, g1, g2⟩
      obtain ⟨c, hc, rfl⟩ := get_map hi
      refine ⟨Nat.zero_le _, fun lg hlg => ?_⟩
      have nls : sh ≠ lg := ne_of_none g1 hlg
      have b1 : But lg (upd H' lg (.lst [])) (upd H' lg (.lst [])) := But.refl _ _
      refine ⟨_, rfl, sh, rfl, ⟨_, SqL.of (Same.new hlg _ _ g1)⟩, ?_⟩
      refine for_list (K := K) (a := sh) (xs := vs) (fun j σ H2 => ∃ v4 v5 : Option V, σ = [some (.ref a), some (.ref sh), some (iv c), some (.ref lg), v4, v5] ∧ But lg (upd H' lg (.lst [])) H2 ∧ ShL K H2 lg (((Vbbrak.parts ((Vbbrak.falling ns).take i)).take j).flatMap (Mt.deal c)))
        ⟨v4, v5, rfl, b1, [], upd_same, .nil⟩ (fun j σ H2 _ ⟨_, _, _, b, _⟩ => SqL.of (b _ _ (Same.new hlg _ _ g1) nls)) ?_ ?_
      · rintro j y σ H2 hj ⟨w4, w5, rfl, b2, hL2⟩
        obtain ⟨z, hz, pz, rfl, hpz⟩ := paired_at g2 hj
        have ktH : KT H' H2 := (Same.new (o := .lst []) hlg).kt.trans (b2.kt upd_same True.intro)
        obtain ⟨pa, pb, q0, q1, q2⟩ := hpz.kt ktH
        have hlen2 : ((((Vbbrak.parts ((Vbbrak.falling ns).take i)).take j).flatMap (Mt.deal c)).length + 1 < sizeLine) := by
          rw [flat_len _ (fun _ => rfl), List.length_take]
          have h0 := parts_len16 (l := (Vbbrak.falling ns).take i) (by rw [List.length_take]; omega)
          have hj' : j < (Vbbrak.parts ((Vbbrak.falling ns).take i)).length := (List.getElem?_eq_some_iff.mp hz).1
          omega
        have hz1 : z ∈ Vbbrak.parts ((Vbbrak.falling ns).take i) := List.mem_of_getElem? hz
        have zl := (Mt.parts_fall (List.Pairwise.sublist (List.take_sublist i _) (Mt.fall_falling ns)) z hz1).2.2.2.2
        have ztk : ((Vbbrak.falling ns).take i).length ≤ 16 := by rw [List.length_take]; omega
        have e16 : sizeLine = 16777216 := sizeLine_eq
        -- west, east
        refine ⟨pz, [.ref pa, .ref pb], rfl, q0, rfl, _, _, rfl, _, _, rfl, rfl, ?_⟩
        -- longer.append((west + (card,), east))
        obtain ⟨ys0, hy0, _⟩ := id hL2
        refine ⟨_, rfl, .inl ⟨rfl, _, SqL.of hy0⟩, _, rfl, _, rfl, by show 1 ≤ sizeLine; decide, fun t1 ht1 => ⟨pa, t1, _, _, rfl, rfl, (Same.new ht1).kt.sq q1, SqT.of upd_same, ?_, fun r Hr sr hr' => ⟨_, rfl, by show 2 ≤ sizeLine; decide, fun q hq => ?_⟩⟩⟩
        · show (z.1.map iv).length + 1 ≤ sizeLine
          rw [List.length_map]; omega
        have sA : Same H2 (upd Hr q (.tup [.ref r, .ref pb])) := ((Same.new ht1).trans sr).trans (Same.new hq)
        have pA : Pr K (upd Hr q (.tup [.ref r, .ref pb])) q (z.1 ++ [c]) z.2 := ⟨r, pb, SqT.of upd_same, (Same.new hq).kt.sq (by show SqT K Hr r ((z.1 ++ [c]).map iv); rw [List.map_append]; exact hr'), sA.kt.sq q2⟩
        obtain ⟨ys, hy, hyl, hL3⟩ := hL2.push (z := (z.1 ++ [c], z.2)) sA pA
        refine ⟨lg, _, _, rfl, rfl, hy, by omega, ?_⟩
        have b3 : But lg (upd H' lg (.lst [])) (upd (upd Hr q (.tup [.ref r, .ref pb])) lg (.lst (ys ++ [.ref q]))) := (b2.same sA).upd
        have ktB := kt_mut (o := .lst (ys ++ [.ref q])) hy True.intro
        -- longer.append((west, east + (card,)))
        obtain ⟨ys1, hy1, _⟩ := id hL3
        refine ⟨_, rfl, .inl ⟨rfl, _, SqL.of hy1⟩, _, rfl, _, rfl, _, rfl, by show 1 ≤ sizeLine; decide, fun t2 ht2 => ⟨pb, t2, _, _, rfl, rfl, (Same.new ht2).kt.sq (ktB.sq (sA.kt.sq q2)), SqT.of upd_same, ?_, fun r2 Hr2 sr2 hr2 => ⟨by show 2 ≤ sizeLine; decide, fun q' hq' => ?_⟩⟩⟩
        · show (z.2.map iv).length + 1 ≤ sizeLine
          rw [List.length_map]; omega
        have sB := ((Same.new (o := .tup [iv c]) ht2).trans sr2).trans (Same.new (o := .tup [.ref pa, .ref r2]) hq')
        have pB : Pr K (upd Hr2 q' (.tup [.ref pa, .ref r2])) q' z.1 (z.2 ++ [c]) := ⟨pa, r2, SqT.of upd_same, sB.kt.sq (ktB.sq (sA.kt.sq q1)), (Same.new hq').kt.sq (by show SqT K Hr2 r2 ((z.2 ++ [c]).map iv); rw [List.map_append]; exact hr2)⟩
        obtain ⟨ys2, hy2, hyl2, hL4⟩ := hL3.push (z := (z.1, z.2 ++ [c])) sB pB
        refine ⟨lg, _, _, rfl, rfl, hy2, ?_, ?_⟩
        · rw [hyl2, List.length_append]
          show _ + 1 < sizeLine
          omega
        refine ⟨_, _, rfl, (b3.same sB).upd, ?_⟩
        rw [List.append_assoc] at hL4
        rw [take_snoc' hz, List.flatMap_append]
        exact hL4
      · rintro σ H2 ⟨w4, w5, rfl, b2, hL2⟩
        refine ⟨_, rfl, ?_⟩
        have sH2 : Same H' H2 := fun b o e => b2 b o (Same.new hlg _ _ e) (ne_of_none e hlg)
        refine ⟨lg, _, _, _, _, rfl, sH.trans sH2, sH.free hlg, sH2 _ _ etf, ?_⟩
        have e1 : vs.length = (Vbbrak.parts ((Vbbrak.falling ns).take i)).length := paired_len g2
        rw [e1, List.take_length] at hL2
        rw [take_snoc' hc, Mt.parts_snoc]
        exact hL2
    · rintro σ H' ⟨sh, v2, v3, v4, v5, rfl, sH, fsh, etf, hL2⟩
      rw [List.length_map, List.take_length] at hL2
      exact ⟨_, rfl, k sh H' sH fsh hL2⟩
end
end On
set_option maxRecDepth 100000
set_option maxHeartbeats 2000000
namespace On
open PySem PySem.Spec PyProof.Rows L2
def Spl (K : PySem.W.Frag) (H : Hp) (v : V) (s : Vbbrak.Split) : Prop := ∃ p q, v = .ref p ∧ SqT K H p [iv s.2.2, .ref q] ∧ Pr K H q s.1 s.2.1
theorem Spl.kt {K : PySem.W.Frag} {H H' : Hp} (k : KT H H') {v : V} {s : Vbbrak.Split} (h : Spl K H v s) : Spl K H' v s := let ⟨p, q, e, h1, h2⟩ := h; ⟨p, q, e, k.sq h1, h2.kt k⟩
def SpL (K : PySem.W.Frag) (H : Hp) (a : Addr) (l : List Vbbrak.Split) : Prop := ∃ vs, SqL K H a vs ∧ Paired (Spl K H) vs l
def SpT (K : PySem.W.Frag) (H : Hp) (a : Addr) (l : List Vbbrak.Split) : Prop := ∃ vs, SqT K H a vs ∧ Paired (Spl K H) vs l
theorem SpT.kt {K : PySem.W.Frag} {H H' : Hp} (k : KT H H') {a : Addr} {l : List Vbbrak.Split} (h : SpT K H a l) : SpT K H' a l := let ⟨vs, h1, h2⟩ := h; ⟨vs, k.sq h1, Tk.paired_mono (fun _ _ z => z.kt k) h2⟩
theorem SpL.same {K : PySem.W.Frag} {H H' : Hp} (k : Same H H') {a : Addr} {l : List Vbbrak.Split} (h : SpL K H a l) : SpL K H' a l := let ⟨vs, h1, h2⟩ := h; ⟨vs, k.seq h1, Tk.paired_mono (fun _ _ z => z.kt k.kt) h2⟩
theorem spl_push {K : PySem.W.Frag} {H H' : Hp} {lg : Addr} {vs : List V} {l : List Vbbrak.Split} {v : V} {s : Vbbrak.Split} (h1 : H lg = some (.lst vs)) (h : Paired (Spl K H) vs l) (sm : Same H H') (hq : Spl K H' v s) :
    Paired (Spl K (upd H' lg (.lst (vs ++ [v])))) (vs ++ [v]) (l ++ [s]) := by
  have kt := kt_mut (o := .lst (vs ++ [v])) (sm lg _ h1) True.intro
  exact paired_app (Tk.paired_mono (fun _ _ z => z.kt (sm.kt.trans kt)) h) (.cons (hq.kt kt) .nil)
section
variable {P : Program} {w : World} {K : PySem.W.Frag} {mg : Str → Option Value} {base : Heap}
def spSpl (K : PySem.W.Frag) : Sp := fun vs H Q _ => ∃ (p q : Nat) (a : Addr) (ns : List Nat), vs = [iv p, iv q, .ref a] ∧ SqL K H a (ns.map iv) ∧ ns.Nodup ∧ ns.length < 16 ∧ ns.length ≤ p + q ∧ p ≤ 100 ∧ q ≤ 100 ∧
  ∀ (r : Addr) (H' : Hp), Same H H' → SpT K H' r (Vbbrak.splits (Vbbrak.falling ns) p q) → Q (.ref r) H'
def okS (p q : Nat) (z : List Nat × List Nat) : Bool := decide (z.1.length ≤ p) && decide (z.2.length ≤ q)
def mkS (p q m : Nat) (z : List Nat × List Nat) : Vbbrak.Split := (z.1, z.2, Vbbrak.choose (p + q - m) (p - z.1.length))
theorem splits_eq (ns : List Nat) (p q : Nat) : Vbbrak.splits ns p q = ((Vbbrak.parts ns).filter (okS p q)).map (mkS p q ns.length) := rfl
theorem scSpl : FnScope ["p", "q", "missing", "others", "splits", "west", "east"] ["p", "q", "missing"] (defScope sSpl) := ⟨rfl, rfl, rfl, by decide +kernel, rfl, by decide +kernel, by decide +kernel⟩
theorem ok_spl {f fS fC : Addr} {fd fdS fdC : FuncData} (F : Fun K "all_splits" "all_splits" sSpl f fd) (T : Names mg) (mS : mg "all_shares" = some (.ref fS)) (FS : Fun K "all_shares" "all_shares" sSha fS fdS) (bS : Binds K fdS ["missing"] [])
    (GS : FnOk P w K mg base CX0 2 fS fdS ["missing"] (spSha K)) (mC : mg "choices" = some (.ref fC)) (FC : Fun K "choices" "choices" sCho fC fdC) (bC : Binds K fdC ["things", "taken"] []) :
    FnOk P w K mg base CX0 3 f fd ["p", "q", "missing"] (spSpl K) := by
  have GC : FnOk P w K mg base CX0 1 fC fdC ["things", "taken"] spCho := ok_cho FC T
  refine F.ok scSpl (fun vs H Q E h => ?_) (fun cdv A outer s H vs Q E hr h => ?_)
  · obtain ⟨p, q, a, ns, rfl, _⟩ := h
    rfl
  · obtain ⟨p, q, a, ns, rfl, hL, hn, h16, hm, hp, hq, k⟩ := h
    have hr1 : Room 1 _ := hr.mono (by decide)
    have nd := scSpl.nd
    have e16 : sizeLine = 16777216 := sizeLine_eq
    refine ⟨_, pss_cons (ps_set (i := 3) nd rfl (Or.inl rfl) (pe_op op_sub (pe_op op_add (pv 0) (pv 1)) (pe_callB call_len_seq (by rfl) T.len PySem.boot_len (pa_cons (pv 2) pa_nil))))
      (pss_cons (ps_set (i := 4) nd rfl (Or.inl rfl) (pe_lst pa_nil))
      (pss_cons (ps_for PassesOwn.never rfl (pi_list (pe_call GS hr rfl mS FS.kp bS .nil pass0 (pa_cons (pv 2) pa_nil))) (pg_tup (n := 2) rfl (pgs_cons (pg_name (i := 5) nd rfl (Or.inl rfl)) (pgs_cons (pg_name (i := 6) nd rfl (Or.inl rfl)) pgs_nil)))
        (pss_one (ps_if (pw_and (pt_cmpR op_le (pe_callB call_len_seq (by rfl) T.len PySem.boot_len (pa_cons (pv 5) pa_nil)) (pv 0) (nomark _)) (pw_and1 (pt_cmpR op_le (pe_callB call_len_seq (by rfl) T.len PySem.boot_len (pa_cons (pv 6) pa_nil)) (pv 1) (nomark _)))).pt
          (pss_one (ps_expr (pe_bm PySem.F.plainAttrs_list PySem.F.slot_list_append PySem.F.type_list_append mt_append (pv 4) (pa_cons (pe_tup (pa_cons (pe_call GC hr1 rfl mC FC.kp bC .nil pass0 (pa_cons (pv 3) (pa_cons (pe_op op_sub (pv 0) (pe_callB call_len_seq (by rfl) T.len PySem.boot_len (pa_cons (pv 5) pa_nil))) pa_nil))) (pa_cons (pe_tup (pa_cons (pv 5) (pa_cons (pv 6) pa_nil))) pa_nil))) pa_nil))))
          pss_nil)))
      (pss_one (ps_ret (pe_callTy call_tuple_of (by rfl) T.tuple boot_tuple5 (pa_cons (pv 4) pa_nil)))))), ?_⟩
    refine ⟨_, rfl, _, rfl, _, _, rfl, rfl, _, rfl, a, _, rfl, .inl hL, _, _, rfl, rfl, ?_⟩
    refine ⟨Nat.zero_le _, fun sA hsA => ?_⟩
    have s1 : Same H (upd H sA (.lst [])) := Same.new hsA
    refine ⟨_, rfl, a, ns, rfl, s1.seq hL, hn, h16, fun shA Hs sS fsh hSh => ?_⟩
    obtain ⟨us, hus, hup⟩ := hSh
    refine ⟨shA, rfl, ⟨_, SqL.of hus⟩, ?_⟩
    have hsAs : Hs sA = some (.lst []) := sS _ _ upd_same
    have nsh : shA ≠ sA := fun e => by rw [e, upd_same] at fsh; cases fsh
    have elen : (Vbbrak.falling ns).length = ns.length := Mt.falling_length hn
    refine for_list (K := K) (a := shA) (xs := us) (fun i σ H' => ∃ (v5 v6 : Option V), σ = [some (iv p), some (iv q), some (.ref a), some (.int ((p : Int) + (q : Int) - ((ns.map iv).length : Int))), some (.ref sA), v5, v6] ∧ But sA Hs H' ∧
        ∃ vs, H' sA = some (.lst vs) ∧ Paired (Spl K H') vs ((((Vbbrak.parts (Vbbrak.falling ns)).take i).filter (okS p q)).map (mkS p q ns.length)))
      ⟨none, none, rfl, But.refl _ _, [], hsAs, .nil⟩ (fun i σ H' _ ⟨_, _, _, b, _⟩ => SqL.of (b _ _ hus nsh)) ?_ ?_
    · rintro i y σ H' hi ⟨v5, v6, rfl, b, vs, hvs, hvp⟩
      obtain ⟨z, hz, pz, rfl, hpz⟩ := paired_at hup hi
      have hzm : z ∈ Vbbrak.parts (Vbbrak.falling ns) := List.mem_of_getElem? hz
      have hzi : i < (Vbbrak.parts (Vbbrak.falling ns)).length := (List.getElem?_eq_some_iff.mp hz).1
      obtain ⟨f1, f2, _, _, f5⟩ := Mt.parts_fall (Mt.fall_falling ns) z hzm
      obtain ⟨pa, pb, q0, q1, q2⟩ := hpz.kt (b.kt hsAs True.intro)
      have hlv : vs.length ≤ i := by
        rw [paired_len hvp, List.length_map]
        have := List.length_filter_le (okS p q) ((Vbbrak.parts (Vbbrak.falling ns)).take i)
        rw [List.length_take] at this
        omega
      have hpl := parts_len16 (l := Vbbrak.falling ns) (by omega)
      refine ⟨pz, [.ref pa, .ref pb], rfl, q0, rfl, _, _, rfl, _, _, rfl, rfl, ?_⟩
      have next : ∀ ok, okS p q z = ok → (((Vbbrak.parts (Vbbrak.falling ns)).take (i + 1)).filter (okS p q)).map (mkS p q ns.length) = (((Vbbrak.parts (Vbbrak.falling ns)).take i).filter (okS p q)).map (mkS p q ns.length) ++ (if ok then [mkS p q ns.length z] else []) := by
        intro ok hok
        rw [take_snoc' hz, List.filter_append, List.map_append]
        cases ok with
        | true => simp [hok]
        | false => simp [hok]
      refine ⟨_, rfl, pa, _, rfl, .inr q1, _, rfl, _, _, rfl, rfl, _, rfl, ?_⟩
      refine ite2 (fun hw => ?_) (fun hw => ?_)
      · have hw' : z.1.length ≤ p := by
          have := of_decide_eq_true hw
          rw [List.length_map] at this
          omega
        refine ⟨_, rfl, pb, _, rfl, .inr q2, _, rfl, _, _, rfl, rfl, _, rfl, ?_⟩
        refine ite2 (fun he => ?_) (fun he => ?_)
        · have he' : z.2.length ≤ q := by
            have := of_decide_eq_true he
            rw [List.length_map] at this
            omega
          have nx := next true (by unfold okS; rw [decide_eq_true hw', decide_eq_true he']; rfl)
          refine ⟨_, rfl, .inl ⟨rfl, _, SqL.of hvs⟩, _, rfl, _, rfl, _, rfl, pa, _, rfl, .inr q1, _, _, rfl, rfl, ?_⟩
          refine ⟨p + q - ns.length, p - z.1.length, ?_, by omega, by omega, ?_⟩
          · show [V.int ((p : Int) + (q : Int) - ((ns.map iv).length : Int)), V.int ((p : Int) - ((z.1.map iv).length : Int))] = [iv (p + q - ns.length), iv (p - z.1.length)]
            rw [List.length_map, List.length_map, show (p : Int) + (q : Int) - (ns.length : Int) = ((p + q - ns.length : Nat) : Int) by omega, show (p : Int) - (z.1.length : Int) = ((p - z.1.length : Nat) : Int) by omega]
          refine ⟨_, rfl, _, rfl, by show 2 ≤ sizeLine; decide, fun t1 ht1 => ⟨by show 2 ≤ sizeLine; decide, fun t2 ht2 => ?_⟩⟩
          have sA2 := (Same.new (o := .tup [.ref pa, .ref pb]) ht1).trans (Same.new (o := .tup [iv (Vbbrak.choose (p + q - ns.length) (p - z.1.length)), .ref t1]) ht2)
          refine ⟨sA, _, _, rfl, rfl, sA2 _ _ hvs, by omega, ?_⟩
          refine ⟨_, _, rfl, (b.same sA2).upd, _, upd_same, ?_⟩
          rw [nx]
          exact spl_push hvs hvp sA2 ⟨t2, t1, rfl, SqT.of upd_same, pa, pb, SqT.of (Same.new ht2 _ _ upd_same), sA2.kt.sq q1, sA2.kt.sq q2⟩
        · have nx := next false (by
            unfold okS
            have : ¬ z.2.length ≤ q := fun h => he (decide_eq_true (by show ((z.2.map iv).length : Int) ≤ (q : Int); rw [List.length_map]; omega))
            rw [decide_eq_false this, Bool.and_false])
          refine ⟨_, _, rfl, b, vs, hvs, ?_⟩
          rw [nx]
          simpa using hvp
      · have nx := next false (by
          unfold okS
          have : ¬ z.1.length ≤ p := fun h => hw (decide_eq_true (by show ((z.1.map iv).length : Int) ≤ (p : Int); rw [List.length_map]; omega))
          rw [decide_eq_false this, Bool.false_and])
        refine iteF ?_
        refine ⟨_, _, rfl, b, vs, hvs, ?_⟩
        rw [nx]
        simpa using hvp
    · rintro σ H' ⟨v5, v6, rfl, b, vs, hvs, hvp⟩
      rw [paired_len hup, List.take_length] at hvp
      refine ⟨_, rfl, sA, _, rfl, .inl ⟨SqL.of hvs, fun r hr' => ?_⟩⟩
      have sHH' : Same H H' := fun c o e => b c o (sS _ _ (s1 _ _ e)) (ne_of_none e hsA)
      refine k r _ (sHH'.trans (Same.new hr')) ⟨vs, SqT.of upd_same, ?_⟩
      rw [splits_eq, elen]
      exact Tk.paired_mono (fun _ _ z => z.kt (Same.new hr').kt) hvp
end
end On
set_option maxRecDepth 100000
set_option maxHeartbeats 2000000
namespace L2
open PySem PySem.Spec PyProof.Rows
theorem lc_mapT {K : PySem.W.Frag} {a : Addr} {xs ys : List V} {g : TG} {te : TE} {vs : List Nat} {σ : St} {H1 : Hp} {D : Addr} {Qd : Hp → Prop} (hq : SqT K H1 a xs) (hD : H1 D = none) (hlen : xs.length ≤ sizeLine) (hl : ys.length = xs.length)
    (hs : ∀ (i : Nat) x y, xs[i]? = some x → ys[i]? = some y → ∀ (H : Hp) (R : V → Hp → Prop), Same H1 H → R y H → g x (wipe σ vs) H fun σ2 H2 => wipe σ2 vs = wipe σ vs ∧ te σ2 H2 R)
    (hd : Qd (upd H1 D (.lst ys))) :
    ∃ W : Nat → Nat → Hp → Prop, (∃ m, W 0 m (upd H1 D (.lst []))) ∧ ∀ i m H, W i m H →
      ((Itt K a).stop i H ∧ Qd H) ∨ ((Itt K a).go i H ∧ ∃ Nx : Hp → Prop, (∀ H', Nx H' → ∃ m', m' < m ∧ W (i + 1) m' H') ∧ ∀ x H', (Itt K a).yld i H x H' → g x (wipe σ vs) H' fun σ2 H2 => wipe σ2 vs = wipe σ vs ∧ tYes σ2 H2 fun b H3 =>
        if b = true then te σ2 H3 fun y H4 => ∃ acc, H4 D = some (.lst acc) ∧ acc.length < sizeLine ∧ Nx (upd H4 D (.lst (acc ++ [y]))) else Nx H3) := by
  refine lc_tup (xs := xs) (tt := tYes) (fun i H => H = upd H1 D (.lst (ys.take i))) rfl (fun i H _ e => ?_) (fun i x H hx e => ?_) (fun H e => ?_)
  · rw [e]; exact (Same.new' hD).tup' hq
  · have hi := (List.getElem?_eq_some_iff.mp hx).1
    have hy : ys[i]? = some (ys[i]'(by omega)) := List.getElem?_eq_getElem _
    refine hs i x _ hx hy H (fun y H4 => ∃ acc, H4 D = some (.lst acc) ∧ acc.length < sizeLine ∧ (upd H4 D (.lst (acc ++ [y])) = upd H1 D (.lst (ys.take (i + 1))))) (by rw [e]; exact Same.new' hD) ?_
    refine ⟨_, by rw [e, upd_same], ?_, ?_⟩
    · rw [List.length_take]; omega
    · rw [e, upd_upd, take_snoc' hy]
  · rw [← hl, List.take_length] at e
    rw [e]; exact hd
theorem lc_mapL {K : PySem.W.Frag} {a : Addr} {xs ys : List V} {g : TG} {te : TE} {vs : List Nat} {σ : St} {H1 : Hp} {D : Addr} {Qd : Hp → Prop} (hq : SqL K H1 a xs) (hD : H1 D = none) (hlen : xs.length ≤ sizeLine) (hl : ys.length = xs.length)
    (hs : ∀ (i : Nat) x y, xs[i]? = some x → ys[i]? = some y → ∀ (H : Hp) (R : V → Hp → Prop), Same H1 H → R y H → g x (wipe σ vs) H fun σ2 H2 => wipe σ2 vs = wipe σ vs ∧ te σ2 H2 R)
    (hd : Qd (upd H1 D (.lst ys))) :
    ∃ W : Nat → Nat → Hp → Prop, (∃ m, W 0 m (upd H1 D (.lst []))) ∧ ∀ i m H, W i m H →
      ((Itl K a).stop i H ∧ Qd H) ∨ ((Itl K a).go i H ∧ ∃ Nx : Hp → Prop, (∀ H', Nx H' → ∃ m', m' < m ∧ W (i + 1) m' H') ∧ ∀ x H', (Itl K a).yld i H x H' → g x (wipe σ vs) H' fun σ2 H2 => wipe σ2 vs = wipe σ vs ∧ tYes σ2 H2 fun b H3 =>
        if b = true then te σ2 H3 fun y H4 => ∃ acc, H4 D = some (.lst acc) ∧ acc.length < sizeLine ∧ Nx (upd H4 D (.lst (acc ++ [y]))) else Nx H3) := by
  refine lc_list (xs := xs) (tt := tYes) (fun i H => H = upd H1 D (.lst (ys.take i))) rfl (fun i H _ e => ?_) (fun i x H hx e => ?_) (fun H e => ?_)
  · rw [e]; exact (Same.new' hD).seq hq
  · have hi := (List.getElem?_eq_some_iff.mp hx).1
    have hy : ys[i]? = some (ys[i]'(by omega)) := List.getElem?_eq_getElem _
    refine hs i x _ hx hy H (fun y H4 => ∃ acc, H4 D = some (.lst acc) ∧ acc.length < sizeLine ∧ (upd H4 D (.lst (acc ++ [y])) = upd H1 D (.lst (ys.take (i + 1))))) (by rw [e]; exact Same.new' hD) ?_
    refine ⟨_, by rw [e, upd_same], ?_, ?_⟩
    · rw [List.length_take]; omega
    · rw [e, upd_upd, take_snoc' hy]
  · rw [← hl, List.take_length] at e
    rw [e]; exact hd
end L2
namespace On
open PySem PySem.Spec PyProof.Rows L2
abbrev sAft : Stmt := top 14
section
variable {P : Program} {w : World} {K : PySem.W.Frag} {mg : Str → Option Value} {base : Heap}
def SpA (K : PySem.W.Frag) (H : Hp) (a : Addr) (l : List Vbbrak.Split) : Prop := SpT K H a l ∨ SpL K H a l
theorem SpA.same {H H' : Hp} (k : Same H H') {a : Addr} {l : List Vbbrak.Split} (h : SpA K H a l) : SpA K H' a l := h.elim (fun h => .inl (h.kt k.kt)) fun h => .inr (h.same k)
def spWay (K : PySem.W.Frag) : Sp := fun vs H Q _ => ∃ (a : Addr) (l : List Vbbrak.Split), vs = [.ref a] ∧ SpA K H a l ∧ l.length ≤ 1000 ∧ ∀ H', Same H H' → Q (iv (Vbbrak.weight l)) H'
theorem weight_sum (l : List Vbbrak.Split) : (l.map fun s => ((s.2.2 : Nat) : Int)).sum = ((Vbbrak.weight l : Nat) : Int) := by
  induction l with
  | nil => rfl
  | cons s l ih =>
    rw [List.map_cons, List.sum_cons, ih]
    show _ = (((s.2.2 + Vbbrak.sum (l.map fun s => s.2.2)) : Nat) : Int)
    rw [Int.natCast_add]
    rfl
theorem small1000' {n : Nat} (h : n ≤ 1000) : n ≤ sizeLine := by rw [sizeLine_eq]; omega
theorem boot_sum5 : bootBuiltins "sum" = some (.builtin "sum") := by decide +kernel
theorem scWay : FnScope ["splits", "split"] ["splits"] (defScope sWay) := ⟨rfl, rfl, rfl, by decide +kernel, rfl, by decide +kernel, by decide +kernel⟩
theorem ok_way {f : Addr} {fd : FuncData} (F : Fun K "ways_of" "ways_of" sWay f fd) (T : Names mg) : FnOk P w K mg base CX0 1 f fd ["splits"] (spWay K) := by
  refine F.ok scWay (fun vs H Q E h => ?_) (fun cdv A outer s H vs Q E hr h => ?_)
  · obtain ⟨a, l, rfl, _⟩ := h
    rfl
  · obtain ⟨a, l, rfl, hS, hl, k⟩ := h
    have fin : ∀ D, H D = none → SqL K (upd H D (.lst (l.map fun s => iv s.2.2))) D ((l.map fun s => ((s.2.2 : Nat) : Int)).map V.int) := fun D hD => SqL.of (by rw [upd_same, List.map_map]; rfl)
    rcases hS with ⟨vs, h1, h2⟩ | ⟨vs, h1, h2⟩
    · refine ⟨_, pss_one (ps_ret (pe_callB (cr_sum rfl) (by rfl) T.sum boot_sum5 (pa_cons (pe_lc (own := [("split", 1)]) rfl scWay.nd (pi_tup (pv 0)) (blkOk_by (show blkC ["splits", "split"] (defScope sWay) _ [("split", 1)] = true by decide +kernel))
        (fun _ _ _ _ _ => pg_name (i := 1) scWay.nd rfl (Or.inl rfl)) (fun _ _ _ _ _ => pts_nil) (fun _ _ _ _ _ => pe_ix (r := rIxT K) ix_tup (pv 1) pe_int (fun _ _ => rfl))) pa_nil))), ?_⟩
      refine ⟨_, rfl, a, rfl, ⟨_, h1⟩, fun D hD => lc_mapT (ys := l.map fun s => iv s.2.2) h1 hD (by rw [paired_len h2]; exact small1000' hl) (by rw [List.length_map, paired_len h2]) (fun i x y hx hy H' R hS hR => ?_) ?_⟩
      · obtain ⟨z, hz, p, q, rfl, g1, g2⟩ := paired_at h2 hx
        obtain ⟨z', hz', rfl⟩ := get_map hy
        have : z' = z := Option.some.inj (hz'.symm.trans hz)
        subst this
        exact ⟨rfl, _, rfl, p, _, _, _, rfl, rfl, hS.kt.sq g1, rfl, hR⟩
      · refine ⟨D, _, rfl, fin D hD, ?_⟩
        rw [weight_sum]
        exact k _ (Same.new hD)
    · refine ⟨_, pss_one (ps_ret (pe_callB (cr_sum rfl) (by rfl) T.sum boot_sum5 (pa_cons (pe_lc (own := [("split", 1)]) rfl scWay.nd (pi_list (pv 0)) (blkOk_by (show blkC ["splits", "split"] (defScope sWay) _ [("split", 1)] = true by decide +kernel))
        (fun _ _ _ _ _ => pg_name (i := 1) scWay.nd rfl (Or.inl rfl)) (fun _ _ _ _ _ => pts_nil) (fun _ _ _ _ _ => pe_ix (r := rIxT K) ix_tup (pv 1) pe_int (fun _ _ => rfl))) pa_nil))), ?_⟩
      refine ⟨_, rfl, a, rfl, ⟨_, h1⟩, fun D hD => lc_mapL (ys := l.map fun s => iv s.2.2) h1 hD (by rw [paired_len h2]; exact small1000' hl) (by rw [List.length_map, paired_len h2]) (fun i x y hx hy H' R hS hR => ?_) ?_⟩
      · obtain ⟨z, hz, p, q, rfl, g1, g2⟩ := paired_at h2 hx
        obtain ⟨z', hz', rfl⟩ := get_map hy
        have : z' = z := Option.some.inj (hz'.symm.trans hz)
        subst this
        exact ⟨rfl, _, rfl, p, _, _, _, rfl, rfl, hS.kt.sq g1, rfl, hR⟩
      · refine ⟨D, _, rfl, fin D hD, ?_⟩
        rw [weight_sum]
        exact k _ (Same.new hD)
def spAft (K : PySem.W.Frag) : Sp := fun vs H Q _ => ∃ (a : Addr) (l : List Vbbrak.Split) (y t : Nat), vs = [.ref a, iv y, iv t] ∧ SpL K H a l ∧ l.length ≤ 1000 ∧ (∀ s ∈ l, s.1.length < 64 ∧ s.2.1.length < 64) ∧
  ∀ (r : Addr) (H' : Hp), Same H H' → SpT K H' r (l.map fun s => Vbbrak.gone s y t) → Q (.ref r) H'
theorem scAft : FnScope ["splits", "second", "last", "split"] ["splits", "second", "last"] (defScope sAft) := ⟨rfl, rfl, rfl, by decide +kernel, rfl, by decide +kernel, by decide +kernel⟩
theorem ok_aft {f fW : Addr} {fd fdW : FuncData} (F : Fun K "after_trick" "after_trick" sAft f fd) (T : Names mg) (mW : mg "without" = some (.ref fW)) (FW : Fun K "without" "without" sWo fW fdW) (bW : Binds K fdW ["pair", "one", "other"] []) :
    FnOk P w K mg base CX0 2 f fd ["splits", "second", "last"] (spAft K) := by
  have GW : FnOk P w K mg base CX0 1 fW fdW ["pair", "one", "other"] (spWo K) := ok_wo FW T
  refine F.ok scAft (fun vs H Q E h => ?_) (fun cdv A outer s H vs Q E hr h => ?_)
  · obtain ⟨a, l, y, t, rfl, _⟩ := h
    rfl
  · obtain ⟨a, l, y, t, rfl, ⟨vs, h1, h2⟩, hl, hb, k⟩ := h
    refine ⟨_, pss_one (ps_ret (pe_callTy call_tuple_of (by rfl) T.tuple boot_tuple5 (pa_cons (pe_lc (own := [("split", 3)]) rfl scAft.nd (pi_list (pv 0)) (blkOk_by (show blkC ["splits", "second", "last", "split"] (defScope sAft) _ [("split", 3)] = true by decide +kernel))
        (fun _ _ _ _ _ => pg_name (i := 3) scAft.nd rfl (Or.inl rfl)) (fun _ _ _ _ _ => pts_nil) (fun _ _ _ _ _ => pe_tup (pa_cons (pe_ix (r := rIxT K) ix_tup (pv 3) pe_int (fun _ _ => rfl)) (pa_cons (pe_call GW hr rfl mW FW.kp bW .nil pass0 (pa_cons (pe_ix (r := rIxT K) ix_tup (pv 3) pe_int (fun _ _ => rfl)) (pa_cons (pv 1) (pa_cons (pv 2) pa_nil)))) pa_nil)))) pa_nil))), ?_⟩
    refine ⟨_, rfl, a, rfl, ⟨_, h1⟩, fun D hD => lc_list (xs := vs) (tt := tYes) (fun i H' => Same H H' ∧ ∃ us, H' D = some (.lst us) ∧ Paired (Spl K H') us ((l.take i).map fun s => Vbbrak.gone s y t)) ⟨Same.new hD, [], upd_same, .nil⟩ (fun i H' _ e => e.1.seq h1) (fun i x H' hx e => ?_) (fun H' e => ?_)⟩
    · obtain ⟨sm, us, hus, hup⟩ := e
      obtain ⟨z, hz, p, q, rfl, g1, g2⟩ := paired_at h2 hx
      have hzm := List.mem_of_getElem? hz
      have hi := (List.getElem?_eq_some_iff.mp hz).1
      refine ⟨rfl, _, rfl, p, _, _, _, rfl, rfl, sm.kt.sq g1, rfl, _, rfl, p, _, _, _, rfl, rfl, sm.kt.sq g1, rfl, _, rfl, _, rfl, q, y, t, z.1, z.2.1, rfl, g2.kt sm.kt, (hb z hzm).1, (hb z hzm).2, fun r Hr sr hr' => ⟨by show 2 ≤ sizeLine; decide, fun q' hq' => ?_⟩⟩
      have s2 := sr.trans (Same.new (o := .tup [iv z.2.2, .ref r]) hq')
      have eL : us.length ≤ i := by
        rw [paired_len hup, List.length_map, List.length_take]; omega
      refine ⟨us, s2 _ _ hus, by have e16 : sizeLine = 16777216 := sizeLine_eq; omega, fun b o e => ?_, _, upd_same, ?_⟩
      · rw [upd_ne (ne_of_none e hD)]
        exact s2 _ _ (sm _ _ e)
      · rw [take_snoc' hz, List.map_append]
        exact spl_push hus hup s2 ⟨q', r, rfl, SqT.of upd_same, hr'.kt (Same.new hq').kt⟩
    · obtain ⟨sm, us, hus, hup⟩ := e
      rw [paired_len h2, List.take_length] at hup
      refine ⟨D, _, rfl, .inl ⟨SqL.of hus, fun r hr' => ?_⟩⟩
      exact k r _ (sm.trans (Same.new hr')) ⟨us, SqT.of upd_same, Tk.paired_mono (fun _ _ z => z.kt (Same.new hr').kt) hup⟩
end
end On
set_option maxRecDepth 100000
set_option maxHeartbeats 2000000
namespace On
open PySem PySem.Spec PyProof.Rows L2
abbrev sBy2 : Stmt := top 12
abbrev sBy4 : Stmt := top 13
def GrE (K : PySem.W.Frag) (H0 H : Hp) (kv : Key × V) (g : Nat × List Vbbrak.Split) : Prop :=
  kv.1 = Sum.inl (g.1 : Int) ∧ ∃ a vs, kv.2 = .ref a ∧ H0 a = none ∧ H a = some (.lst vs) ∧ Paired (Spl K H) vs g.2
structure Grp (K : PySem.W.Frag) (H0 H : Hp) (d : Addr) (gs : List (Nat × List Vbbrak.Split)) (kvs : List (Key × V)) : Prop where
  dict : H d = some (.dK kvs)
  new : H0 d = none
  ent : Paired (GrE K H0 H) kvs gs
  inj : ∀ kv ∈ kvs, ∀ kv' ∈ kvs, kv.2 = kv'.2 → kv.1 = kv'.1
section
variable {K : PySem.W.Frag}
theorem paired_map_right {α β γ : Type} {F : α → β → Prop} {G : α → β → Prop} {h h' : γ → β} : ∀ {l : List α} {m : List γ}, Paired F l (m.map h) → (∀ x ∈ l, ∀ c ∈ m, F x (h c) → G x (h' c)) → Paired G l (m.map h')
  | _, [], .nil, _ => .nil
  | _, c :: m, .cons h1 t, hf => .cons (hf _ (by simp) c (by simp) h1) (paired_map_right t fun x hx c hc => hf x (by simp [hx]) c (by simp [hc]))
theorem keys_of {H0 H : Hp} {f : Vbbrak.Split → Nat} {l : List Vbbrak.Split} : ∀ {kvs : List (Key × V)} {ks : List Nat}, Paired (GrE K H0 H) kvs (ks.map fun c => (c, Vbbrak.with_ f l c)) → kvs.map (·.1) = ks.map fun c : Nat => (Sum.inl (c : Int) : Key)
  | _, [], .nil => rfl
  | _, c :: ks, .cons h t => by rw [List.map_cons, List.map_cons, keys_of t, h.1]
theorem val_none_iff {kvs : List (Key × V)} {k : Key} : valV kvs k = none ↔ k ∉ kvs.map (·.1) := by
  unfold valV
  rw [Option.map_eq_none_iff, List.find?_eq_none]
  constructor
  · intro h hm
    obtain ⟨kv, hkv, e⟩ := List.mem_map.mp hm
    exact h kv hkv (by simp [e])
  · intro h kv hkv e
    exact h (List.mem_map.mpr ⟨kv, hkv, by simpa using e⟩)
theorem val_mem {kvs : List (Key × V)} {k : Key} {v : V} (h : valV kvs k = some v) : (k, v) ∈ kvs := by
  unfold valV at h
  obtain ⟨p, hp, e⟩ := Option.map_eq_some_iff.mp h
  have h1 := List.mem_of_find?_eq_some hp
  have h2 : p.1 = k := by simpa using List.find?_some hp
  obtain ⟨a, b⟩ := p
  simp only at h2 e
  subst h2 e
  exact h1
theorem key_inj {a b : Nat} (h : (Sum.inl (a : Int) : Key) = Sum.inl (b : Int)) : a = b := by
  injection h with h; omega
theorem nodup_map_inj {α β : Type} {g : α → β} (hg : ∀ x y, g x = g y → x = y) : ∀ {l : List α}, l.Nodup → (l.map g).Nodup
  | [], _ => List.nodup_nil
  | a :: l, h => by
    have h' := List.nodup_cons.mp h
    rw [List.map_cons, List.nodup_cons]
    refine ⟨fun hm => ?_, nodup_map_inj hg h'.2⟩
    obtain ⟨b, hb, e⟩ := List.mem_map.mp hm
    exact h'.1 (hg _ _ e ▸ hb)
theorem one_of_key {α β : Type} {g : α → β} : ∀ {l : List α}, (l.map g).Nodup → ∀ x ∈ l, ∀ y ∈ l, g x = g y → x = y
  | a :: l, h, x, hx, y, hy, e => by
    rw [List.map_cons, List.nodup_cons] at h
    rcases List.mem_cons.mp hx with ex | hx2
    · rcases List.mem_cons.mp hy with ey | hy2
      · rw [ex, ey]
      · exact absurd (List.mem_map.mpr ⟨y, hy2, by rw [← e, ex]⟩) h.1
    · rcases List.mem_cons.mp hy with ey | hy2
      · exact absurd (List.mem_map.mpr ⟨x, hx2, by rw [e, ey]⟩) h.1
      · exact one_of_key h.2 x hx2 y hy2 e
theorem paired_mem {α β : Type} {F : α → β → Prop} : ∀ {l : List α} {m : List β} {x : α}, Paired F l m → x ∈ l → ∃ y ∈ m, F x y
  | _, _, _, .cons h t, hx => by
    rcases List.mem_cons.mp hx with rfl | hx
    · exact ⟨_, by simp, h⟩
    · obtain ⟨y, hy, e⟩ := paired_mem t hx
      exact ⟨y, by simp [hy], e⟩
theorem GrE.same {H0 H H' : Hp} {kv : Key × V} {g : Nat × List Vbbrak.Split} (s : Same H H') (h : GrE K H0 H kv g) : GrE K H0 H' kv g := by
  obtain ⟨e, a, vs, h1, h0, h2, h3⟩ := h
  exact ⟨e, a, vs, h1, h0, s _ _ h2, Tk.paired_mono (fun _ _ z => z.kt s.kt) h3⟩
theorem Grp.there {H0 H H1 : Hp} {d : Addr} {f : Vbbrak.Split → Nat} {l : List Vbbrak.Split} {kvs : List (Key × V)} {s : Vbbrak.Split} {v v' : V} (G : Grp K H0 H d (Mt.groups f l) kvs) (sm : Same H H1) (hv : Spl K H1 v s)
    (hk : valV kvs (Sum.inl ((f s : Nat) : Int)) = some v') : ∃ a vs, v' = .ref a ∧ H0 a = none ∧ H1 a = some (.lst vs) ∧ vs.length ≤ l.length ∧ Grp K H0 (upd H1 a (.lst (vs ++ [v]))) d (Mt.groups f (l ++ [s])) kvs := by
  have hm := val_mem hk
  obtain ⟨g, hg, e, a, vs, e2, h0, h1, h2⟩ := paired_mem G.ent hm
  obtain ⟨c, hc, rfl⟩ := List.mem_map.mp hg
  have ec : c = f s := (key_inj e).symm
  subst ec
  have hin : f s ∈ Mt.firsts f l := hc
  have h1' := sm _ _ h1
  have kt := kt_mut (o := .lst (vs ++ [v])) h1' True.intro
  refine ⟨a, vs, e2, h0, h1', ?_, ?_, G.new, ?_, G.inj⟩
  · rw [paired_len h2]
    exact List.length_filter_le _ _
  · have : d ≠ a := ne_of G.dict h1 (by intro z; cases z)
    rw [upd_ne this]
    exact sm _ _ G.dict
  · have ef : Mt.firsts f (l ++ [s]) = Mt.firsts f l := by rw [Mt.firsts_snoc, if_pos hin]
    show Paired _ kvs ((Mt.firsts f (l ++ [s])).map fun c => (c, Vbbrak.with_ f (l ++ [s]) c))
    rw [ef]
    refine paired_map_right (h := fun c => (c, Vbbrak.with_ f l c)) G.ent fun kv hkv c hc hE => ?_
    obtain ⟨e3, a', vs', e4, h0', h3, h4⟩ := hE
    refine ⟨e3, ?_⟩
    rw [Mt.with_snoc]
    by_cases hcs : f s = c
    · subst hcs
      rw [if_pos rfl]
      have ekv : kv.1 = Sum.inl ((f s : Nat) : Int) := e3
      have eaa : a' = a := by
        have i1 : (kvs.map (·.1)).Nodup := by
          rw [keys_of G.ent]
          exact nodup_map_inj (fun x y hxy => key_inj hxy) (Mt.nodup_firsts f l)
        have hkv2 : kv = (Sum.inl ((f s : Nat) : Int), v') := one_of_key i1 kv hkv _ hm ekv
        rw [hkv2] at e4
        have : V.ref a' = V.ref a := e4.symm.trans e2
        injection this with this
      subst eaa
      have evs : vs' = vs := by
        have := h3.symm.trans h1
        injection this with this
        injection this with this
      subst evs
      exact ⟨a', _, e4, h0', upd_same, paired_app (Tk.paired_mono (fun _ _ z => z.kt (sm.kt.trans kt)) h4) (.cons (hv.kt kt) .nil)⟩
    · rw [if_neg hcs, List.append_nil]
      have naa : a' ≠ a := by
        rintro rfl
        have := G.inj kv hkv _ hm (by rw [e4, e2])
        rw [e3] at this
        exact hcs (key_inj this).symm
      refine ⟨a', vs', e4, h0', ?_, Tk.paired_mono (fun _ _ z => z.kt (sm.kt.trans kt)) h4⟩
      rw [upd_ne naa]
      exact sm _ _ h3
theorem Grp.first {H0 H H1 : Hp} {d l0 : Addr} {f : Vbbrak.Split → Nat} {l : List Vbbrak.Split} {kvs : List (Key × V)} {s : Vbbrak.Split} {v : V} (G : Grp K H0 H d (Mt.groups f l) kvs) (sm : Same H H1) (hv : Spl K H1 v s) (h0 : H0 l0 = none) (hn : H l0 = none) (hl : H1 l0 = some (.lst []))
    (hk : valV kvs (Sum.inl ((f s : Nat) : Int)) = none) : Grp K H0 (upd (upd H1 d (.dK (putK kvs (Sum.inl ((f s : Nat) : Int)) (.ref l0)))) l0 (.lst [v])) d (Mt.groups f (l ++ [s])) (putK kvs (Sum.inl ((f s : Nat) : Int)) (.ref l0)) := by
  have hnot : f s ∉ Mt.firsts f l := by
    intro hin
    have := val_none_iff.mp hk
    rw [keys_of G.ent] at this
    exact this (List.mem_map.mpr ⟨f s, hin, rfl⟩)
  have hd1 := sm _ _ G.dict
  have ndl : d ≠ l0 := ne_of_none G.dict hn
  have ek : putK kvs (Sum.inl ((f s : Nat) : Int)) (.ref l0) = kvs ++ [((Sum.inl ((f s : Nat) : Int) : Key), V.ref l0)] := putK_new _ hk
  rw [ek]
  have kt1 := kt_mut (o := .dK (kvs ++ [((Sum.inl ((f s : Nat) : Int) : Key), V.ref l0)])) hd1 True.intro
  have hl' : (upd H1 d (.dK (kvs ++ [((Sum.inl ((f s : Nat) : Int) : Key), V.ref l0)]))) l0 = some (.lst []) := by rw [upd_ne ndl.symm]; exact hl
  have kt2 := kt_mut (o := .lst [v]) hl' True.intro
  have ef : Mt.firsts f (l ++ [s]) = Mt.firsts f l ++ [f s] := by rw [Mt.firsts_snoc, if_neg hnot]
  refine ⟨by rw [upd_ne ndl, upd_same], G.new, ?_, ?_⟩
  · show Paired _ _ ((Mt.firsts f (l ++ [s])).map fun c => (c, Vbbrak.with_ f (l ++ [s]) c))
    rw [ef, List.map_append]
    refine paired_app ?_ (.cons ⟨rfl, l0, [v], rfl, h0, upd_same, ?_⟩ .nil)
    · refine paired_map_right (h := fun c => (c, Vbbrak.with_ f l c)) G.ent fun kv hkv c hc hE => ?_
      obtain ⟨e3, a', vs', e4, h0', h3, h4⟩ := hE
      have hcs : ¬ f s = c := fun e => hnot (e ▸ hc)
      refine ⟨e3, ?_⟩
      rw [Mt.with_snoc, if_neg hcs, List.append_nil]
      refine ⟨a', vs', e4, h0', ?_, Tk.paired_mono (fun _ _ z => z.kt (sm.kt.trans (kt1.trans kt2))) h4⟩
      rw [upd_ne (ne_of_none h3 hn), upd_ne (ne_of h3 G.dict (by intro z; cases z))]
      exact sm _ _ h3
    · show Paired _ [v] (Vbbrak.with_ f (l ++ [s]) (f s))
      rw [Mt.with_snoc, Mt.with_nil_of f l _ hnot, if_pos rfl]
      exact .cons (hv.kt (kt1.trans kt2)) .nil
  · have old : ∀ kv ∈ kvs, kv.2 ≠ V.ref l0 := fun kv hkv e => by
      obtain ⟨g, _, _, a, vs, e2, _, h1, _⟩ := paired_mem G.ent hkv
      have : V.ref a = V.ref l0 := e2.symm.trans e
      injection this with this
      rw [this, hn] at h1
      cases h1
    intro kv hkv kv' hkv' e
    rcases List.mem_append.mp hkv with h | h <;> rcases List.mem_append.mp hkv' with h' | h'
    · exact G.inj kv h kv' h' e
    · rw [List.mem_singleton.mp h'] at e
      exact absurd e (old kv h)
    · rw [List.mem_singleton.mp h] at e
      exact absurd e.symm (old kv' h')
    · rw [List.mem_singleton.mp h, List.mem_singleton.mp h']
end
end On
set_option maxRecDepth 100000
set_option maxHeartbeats 4000000
namespace On
open PySem PySem.Spec PyProof.Rows L2
section
variable {P : Program} {w : World} {K : PySem.W.Frag} {mg : Str → Option Value} {base : Heap}
def FallS (l : List Vbbrak.Split) : Prop := ∀ s ∈ l, Mt.Fall s.1 ∧ Mt.Fall s.2.1 ∧ s.1.length < 64 ∧ s.2.1.length < 64
theorem pick_behind {K : PySem.W.Frag} {H : Hp} {q : Addr} {s : Vbbrak.Split} {hand : Nat} (hh : hand = 0 ∨ hand = 1) (h : Pr K H q s.1 s.2.1) : ∃ vs v, SqT K H q vs ∧ atI vs (hand : Int) = some v ∧ ∃ a, v = .ref a ∧ Tn K H a (Vbbrak.behind hand s) := by
  obtain ⟨a, b, h0, h1, h2⟩ := h
  rcases hh with rfl | rfl
  · exact ⟨_, .ref a, h0, rfl, a, rfl, h1⟩
  · exact ⟨_, .ref b, h0, rfl, b, rfl, h2⟩
theorem pick_across {K : PySem.W.Frag} {H : Hp} {q : Addr} {s : Vbbrak.Split} {hand : Nat} (hh : hand = 0 ∨ hand = 1) (h : Pr K H q s.1 s.2.1) : ∃ vs v, SqT K H q vs ∧ atI vs (1 - (hand : Int)) = some v ∧ ∃ a, v = .ref a ∧ Tn K H a (Vbbrak.across hand s) := by
  obtain ⟨a, b, h0, h1, h2⟩ := h
  rcases hh with rfl | rfl
  · exact ⟨_, .ref b, h0, rfl, b, rfl, h2⟩
  · exact ⟨_, .ref a, h0, rfl, a, rfl, h1⟩
theorem fall_behind {s : Vbbrak.Split} (hand : Nat) (h1 : Mt.Fall s.1) (h2 : Mt.Fall s.2.1) : Mt.Fall (Vbbrak.behind hand s) := by
  unfold Vbbrak.behind; split <;> assumption
theorem fall_across {s : Vbbrak.Split} (hand : Nat) (h1 : Mt.Fall s.1) (h2 : Mt.Fall s.2.1) : Mt.Fall (Vbbrak.across hand s) := by
  unfold Vbbrak.across; split <;> assumption
theorem firsts_len (f : Vbbrak.Split → Nat) : ∀ l : List Vbbrak.Split, (Mt.firsts f l).length ≤ l.length := by
  refine Mt.snoc_ind (Nat.le_refl _) fun l s ih => ?_
  rw [Mt.firsts_snoc, List.length_append]
  split
  · omega
  · rw [List.length_append]
    show _ + 1 ≤ _ + 1
    omega
def spBy2 (K : PySem.W.Frag) : Sp := fun vs H Q _ => ∃ (a : Addr) (l : List Vbbrak.Split) (hand : Nat) (led : Nat) (c : Bool), vs = [.ref a, iv hand, iv led, cv c] ∧ SpA K H a l ∧ l.length ≤ 1000 ∧ FallS l ∧ (hand = 0 ∨ hand = 1) ∧
  ∀ (d : Addr) (H' : Hp) (kvs : List (Key × V)), Same H H' → Grp K H H' d (Mt.groups (fun s => Vbbrak.second c (Vbbrak.behind hand s) led) l) kvs → Q (.ref d) H'
theorem sc_by_second : FnScope ["splits", "hand", "led", "cover", "groups", "split", "card"] ["splits", "hand", "led", "cover"] (defScope sBy2) := ⟨rfl, rfl, rfl, by decide +kernel, rfl, by decide +kernel, by decide +kernel⟩
theorem ok_by_second {f fC : Addr} {fd fdC : FuncData} (F : Fun K "by_second" "by_second" sBy2 f fd) (T : Names mg) (mC : mg "second_card" = some (.ref fC)) (FC : Fun K "second_card" "second_card" sSec fC fdC) (bC : Binds K fdC ["cards", "led", "cover"] [])
    (GC : FnOk P w K mg base CX0 2 fC fdC ["cards", "led", "cover"] (spSec K)) : FnOk P w K mg base CX0 3 f fd ["splits", "hand", "led", "cover"] (spBy2 K) := by
  refine F.ok sc_by_second (fun vs H Q E h => ?_) (fun cdv A outer s H vs Q E hr h => ?_)
  · obtain ⟨a, l, hand, led, c, rfl, _⟩ := h
    rfl
  · obtain ⟨a, l, hand, led, c, rfl, hS, hl, hF, hh, k⟩ := h
    have nd := sc_by_second.nd
    have e16 : sizeLine = 16777216 := sizeLine_eq
    rcases hS with ⟨vs, h1, h2⟩ | ⟨vs, h1, h2⟩
    · refine ⟨_, pss_cons (ps_set (i := 4) nd rfl (Or.inl rfl) pe_dnewK)
        (pss_cons (ps_for PassesOwn.never rfl (pi_tup (pv 0)) (pg_name (i := 5) nd rfl (Or.inl rfl))
          (pss_cons (ps_set (i := 6) nd rfl (Or.inl rfl) (pe_call GC hr rfl mC FC.kp bC .nil pass0 (pa_cons (pe_ix ix_tup (pe_ix ix_tup (pv 5) pe_int (fun _ _ => rfl)) (pv 1) (fun _ _ => rfl)) (pa_cons (pv 2) (pa_cons (pv 3) pa_nil)))))
          (pss_one (ps_expr (pe_bm PySem.F.plainAttrs_list PySem.F.slot_list_append PySem.F.type_list_append mt_append (pe_bm PySem.F.plainAttrs_dict PySem.F.slot_dict_setdefault PySem.F.type_dict_setdefault mt_setdefault (pv 4) (pa_cons (pv 6) (pa_cons (pe_lst pa_nil) pa_nil))) (pa_cons (pv 5) pa_nil))))))
        (pss_one (ps_ret (pv 4)))), ?_⟩
      intro d hd
      have s1 : Same H (upd H d (.dK [])) := Same.new hd
      refine ⟨_, rfl, a, rfl, ⟨_, by have e := s1; exact e.kt.sq h1⟩, ?_⟩
      refine for_tup (K := K) (a := a) (xs := vs) (fun i σ H' => ∃ (v5 v6 : Option V) (kvs : List (Key × V)), σ = [some (.ref a), some (iv hand), some (iv led), some (cv c), some (.ref d), v5, v6] ∧ Same H H' ∧ Grp K H H' d (Mt.groups (fun s => Vbbrak.second c (Vbbrak.behind hand s) led) (l.take i)) kvs)
        ⟨none, none, [], rfl, s1, upd_same, hd, .nil, fun kv hkv => nomatch hkv⟩ (fun i σ H' _ ⟨_, _, _, _, sm, _⟩ => sm.kt.sq h1) ?_ ?_
      · rintro i x σ H' hx ⟨v5, v6, kvs, rfl, sm, G⟩
        obtain ⟨z, hz, p, q, rfl, g1, g2⟩ := paired_at h2 hx
        have hzm := List.mem_of_getElem? hz
        have hi := (List.getElem?_eq_some_iff.mp hz).1
        obtain ⟨F1, F2, _, _⟩ := hF z hzm
        have hz1 : Spl K H' (.ref p) z := Spl.kt sm.kt ⟨p, q, rfl, g1, g2⟩
        obtain ⟨us, u, q0, q1, pa, rfl, q2⟩ := pick_behind hh (g2.kt sm.kt)
        refine ⟨_, rfl, p, _, _, _, rfl, rfl, sm.kt.sq g1, rfl, _, rfl, q, us, _, _, rfl, rfl, q0, q1, _, rfl, _, rfl, ?_⟩
        refine ⟨pa, _, led, c, rfl, q2, fall_behind hand F1 F2, ?_⟩
        refine ⟨_, rfl, .inr (.inr (.inl ⟨rfl, .inl ⟨kvs, G.dict⟩⟩)), _, rfl, Nat.zero_le _, fun l0 hl0 => ?_⟩
        have s2 : Same H' (upd H' l0 (.lst [])) := Same.new hl0
        have klen : kvs.length ≤ 1000 := by
          rw [paired_len G.ent]
          unfold Mt.groups
          rw [List.length_map]
          exact Nat.le_trans (firsts_len _ _) (by rw [List.length_take]; omega)
        refine ⟨d, kvs, Sum.inl _, .ref l0, rfl, rfl, s2 _ _ G.dict, by omega, fun v' hv' => ?_, fun hnone => ?_⟩
        · obtain ⟨a', ws, rfl, ha0, ha1, hwl, G'⟩ := G.there s2 (hz1.kt s2.kt) hv'
          refine ⟨.inl ⟨rfl, _, SqL.of ha1⟩, _, rfl, a', ws, _, rfl, rfl, ha1, by rw [List.length_take] at hwl; omega, ?_⟩
          refine ⟨_, _, kvs, rfl, fun b o e => ?_, ?_⟩
          · rw [upd_ne (ne_of_none e ha0)]
            exact s2 _ _ (sm _ _ e)
          · rw [take_snoc' hz]
            exact G'
        · have G' := G.first s2 (hz1.kt s2.kt) (sm.free hl0) hl0 upd_same hnone
          have hl1 : ∀ o, (upd (upd H' l0 (.lst [])) d o) l0 = some (.lst []) := fun o => by
            rw [upd_ne (ne_of_none G.dict hl0).symm, upd_same]
          refine ⟨.inl ⟨rfl, _, SqL.of (hl1 _)⟩, _, rfl, l0, [], _, rfl, rfl, hl1 _, by show 0 < sizeLine; omega, ?_⟩
          rw [← take_snoc' hz] at G'
          refine ⟨_, _, _, rfl, fun b o e => ?_, G'⟩
          rw [upd_ne (ne_of_none (sm _ _ e) hl0), upd_ne (ne_of_none e G.new)]
          exact s2 _ _ (sm _ _ e)
      · rintro σ H' ⟨v5, v6, kvs, rfl, sm, G⟩
        rw [paired_len h2, List.take_length] at G
        exact ⟨_, rfl, k d H' kvs sm G⟩
    · refine ⟨_, pss_cons (ps_set (i := 4) nd rfl (Or.inl rfl) pe_dnewK)
        (pss_cons (ps_for PassesOwn.never rfl (pi_list (pv 0)) (pg_name (i := 5) nd rfl (Or.inl rfl))
          (pss_cons (ps_set (i := 6) nd rfl (Or.inl rfl) (pe_call GC hr rfl mC FC.kp bC .nil pass0 (pa_cons (pe_ix ix_tup (pe_ix ix_tup (pv 5) pe_int (fun _ _ => rfl)) (pv 1) (fun _ _ => rfl)) (pa_cons (pv 2) (pa_cons (pv 3) pa_nil)))))
          (pss_one (ps_expr (pe_bm PySem.F.plainAttrs_list PySem.F.slot_list_append PySem.F.type_list_append mt_append (pe_bm PySem.F.plainAttrs_dict PySem.F.slot_dict_setdefault PySem.F.type_dict_setdefault mt_setdefault (pv 4) (pa_cons (pv 6) (pa_cons (pe_lst pa_nil) pa_nil))) (pa_cons (pv 5) pa_nil))))))
        (pss_one (ps_ret (pv 4)))), ?_⟩
      intro d hd
      have s1 : Same H (upd H d (.dK [])) := Same.new hd
      refine ⟨_, rfl, a, rfl, ⟨_, by have e := s1; exact e.seq h1⟩, ?_⟩
      refine for_list (K := K) (a := a) (xs := vs) (fun i σ H' => ∃ (v5 v6 : Option V) (kvs : List (Key × V)), σ = [some (.ref a), some (iv hand), some (iv led), some (cv c), some (.ref d), v5, v6] ∧ Same H H' ∧ Grp K H H' d (Mt.groups (fun s => Vbbrak.second c (Vbbrak.behind hand s) led) (l.take i)) kvs)
        ⟨none, none, [], rfl, s1, upd_same, hd, .nil, fun kv hkv => nomatch hkv⟩ (fun i σ H' _ ⟨_, _, _, _, sm, _⟩ => sm.seq h1) ?_ ?_
      · rintro i x σ H' hx ⟨v5, v6, kvs, rfl, sm, G⟩
        obtain ⟨z, hz, p, q, rfl, g1, g2⟩ := paired_at h2 hx
        have hzm := List.mem_of_getElem? hz
        have hi := (List.getElem?_eq_some_iff.mp hz).1
        obtain ⟨F1, F2, _, _⟩ := hF z hzm
        have hz1 : Spl K H' (.ref p) z := Spl.kt sm.kt ⟨p, q, rfl, g1, g2⟩
        obtain ⟨us, u, q0, q1, pa, rfl, q2⟩ := pick_behind hh (g2.kt sm.kt)
        refine ⟨_, rfl, p, _, _, _, rfl, rfl, sm.kt.sq g1, rfl, _, rfl, q, us, _, _, rfl, rfl, q0, q1, _, rfl, _, rfl, ?_⟩
        refine ⟨pa, _, led, c, rfl, q2, fall_behind hand F1 F2, ?_⟩
        refine ⟨_, rfl, .inr (.inr (.inl ⟨rfl, .inl ⟨kvs, G.dict⟩⟩)), _, rfl, Nat.zero_le _, fun l0 hl0 => ?_⟩
        have s2 : Same H' (upd H' l0 (.lst [])) := Same.new hl0
        have klen : kvs.length ≤ 1000 := by
          rw [paired_len G.ent]
          unfold Mt.groups
          rw [List.length_map]
          exact Nat.le_trans (firsts_len _ _) (by rw [List.length_take]; omega)
        refine ⟨d, kvs, Sum.inl _, .ref l0, rfl, rfl, s2 _ _ G.dict, by omega, fun v' hv' => ?_, fun hnone => ?_⟩
        · obtain ⟨a', ws, rfl, ha0, ha1, hwl, G'⟩ := G.there s2 (hz1.kt s2.kt) hv'
          refine ⟨.inl ⟨rfl, _, SqL.of ha1⟩, _, rfl, a', ws, _, rfl, rfl, ha1, by rw [List.length_take] at hwl; omega, ?_⟩
          refine ⟨_, _, kvs, rfl, fun b o e => ?_, ?_⟩
          · rw [upd_ne (ne_of_none e ha0)]
            exact s2 _ _ (sm _ _ e)
          · rw [take_snoc' hz]
            exact G'
        · have G' := G.first s2 (hz1.kt s2.kt) (sm.free hl0) hl0 upd_same hnone
          have hl1 : ∀ o, (upd (upd H' l0 (.lst [])) d o) l0 = some (.lst []) := fun o => by
            rw [upd_ne (ne_of_none G.dict hl0).symm, upd_same]
          refine ⟨.inl ⟨rfl, _, SqL.of (hl1 _)⟩, _, rfl, l0, [], _, rfl, rfl, hl1 _, by show 0 < sizeLine; omega, ?_⟩
          rw [← take_snoc' hz] at G'
          refine ⟨_, _, _, rfl, fun b o e => ?_, G'⟩
          rw [upd_ne (ne_of_none (sm _ _ e) hl0), upd_ne (ne_of_none e G.new)]
          exact s2 _ _ (sm _ _ e)
      · rintro σ H' ⟨v5, v6, kvs, rfl, sm, G⟩
        rw [paired_len h2, List.take_length] at G
        exact ⟨_, rfl, k d H' kvs sm G⟩
def spBy4 (K : PySem.W.Frag) : Sp := fun vs H Q _ => ∃ (a : Addr) (l : List Vbbrak.Split) (hand : Nat) (o y : Nat), vs = [.ref a, iv hand, iv o, iv y] ∧ SpA K H a l ∧ l.length ≤ 1000 ∧ FallS l ∧ (hand = 0 ∨ hand = 1) ∧
  ∀ (d : Addr) (H' : Hp) (kvs : List (Key × V)), Same H H' → Grp K H H' d (Mt.groups (fun s => lastAt (Vbbrak.across hand s) o y) l) kvs → Q (.ref d) H'
theorem sc_by_last : FnScope ["splits", "hand", "ours", "partner", "groups", "split", "card"] ["splits", "hand", "ours", "partner"] (defScope sBy4) := ⟨rfl, rfl, rfl, by decide +kernel, rfl, by decide +kernel, by decide +kernel⟩
theorem ok_by_last {f fC : Addr} {fd fdC : FuncData} (F : Fun K "by_last" "by_last" sBy4 f fd) (T : Names mg) (mC : mg "last_card" = some (.ref fC)) (FC : Fun K "last_card" "last_card" sLas fC fdC) (bC : Binds K fdC ["cards", "ours", "partner"] [])
    (GC : FnOk P w K mg base CX0 2 fC fdC ["cards", "ours", "partner"] (spLas K)) : FnOk P w K mg base CX0 3 f fd ["splits", "hand", "ours", "partner"] (spBy4 K) := by
  refine F.ok sc_by_last (fun vs H Q E h => ?_) (fun cdv A outer s H vs Q E hr h => ?_)
  · obtain ⟨a, l, hand, o, y, rfl, _⟩ := h
    rfl
  · obtain ⟨a, l, hand, o, y, rfl, hS, hl, hF, hh, k⟩ := h
    have nd := sc_by_last.nd
    have e16 : sizeLine = 16777216 := sizeLine_eq
    rcases hS with ⟨vs, h1, h2⟩ | ⟨vs, h1, h2⟩
    · refine ⟨_, pss_cons (ps_set (i := 4) nd rfl (Or.inl rfl) pe_dnewK)
        (pss_cons (ps_for PassesOwn.never rfl (pi_tup (pv 0)) (pg_name (i := 5) nd rfl (Or.inl rfl))
          (pss_cons (ps_set (i := 6) nd rfl (Or.inl rfl) (pe_call GC hr rfl mC FC.kp bC .nil pass0 (pa_cons (pe_ix ix_tup (pe_ix ix_tup (pv 5) pe_int (fun _ _ => rfl)) (pe_op op_sub pe_int (pv 1)) (fun _ _ => rfl)) (pa_cons (pv 2) (pa_cons (pv 3) pa_nil)))))
          (pss_one (ps_expr (pe_bm PySem.F.plainAttrs_list PySem.F.slot_list_append PySem.F.type_list_append mt_append (pe_bm PySem.F.plainAttrs_dict PySem.F.slot_dict_setdefault PySem.F.type_dict_setdefault mt_setdefault (pv 4) (pa_cons (pv 6) (pa_cons (pe_lst pa_nil) pa_nil))) (pa_cons (pv 5) pa_nil))))))
        (pss_one (ps_ret (pv 4)))), ?_⟩
      intro d hd
      have s1 : Same H (upd H d (.dK [])) := Same.new hd
      refine ⟨_, rfl, a, rfl, ⟨_, by have e := s1; exact e.kt.sq h1⟩, ?_⟩
      refine for_tup (K := K) (a := a) (xs := vs) (fun i σ H' => ∃ (v5 v6 : Option V) (kvs : List (Key × V)), σ = [some (.ref a), some (iv hand), some (iv o), some (iv y), some (.ref d), v5, v6] ∧ Same H H' ∧ Grp K H H' d (Mt.groups (fun s => lastAt (Vbbrak.across hand s) o y) (l.take i)) kvs)
        ⟨none, none, [], rfl, s1, upd_same, hd, .nil, fun kv hkv => nomatch hkv⟩ (fun i σ H' _ ⟨_, _, _, _, sm, _⟩ => sm.kt.sq h1) ?_ ?_
      · rintro i x σ H' hx ⟨v5, v6, kvs, rfl, sm, G⟩
        obtain ⟨z, hz, p, q, rfl, g1, g2⟩ := paired_at h2 hx
        have hzm := List.mem_of_getElem? hz
        have hi := (List.getElem?_eq_some_iff.mp hz).1
        obtain ⟨F1, F2, _, _⟩ := hF z hzm
        have hz1 : Spl K H' (.ref p) z := Spl.kt sm.kt ⟨p, q, rfl, g1, g2⟩
        obtain ⟨us, u, q0, q1, pa, rfl, q2⟩ := pick_across hh (g2.kt sm.kt)
        refine ⟨_, rfl, p, _, _, _, rfl, rfl, sm.kt.sq g1, rfl, _, rfl, _, _, rfl, rfl, q, us, _, _, rfl, rfl, q0, q1, _, rfl, _, rfl, ?_⟩
        refine ⟨pa, _, o, y, rfl, q2, fall_across hand F1 F2, ?_⟩
        refine ⟨_, rfl, .inr (.inr (.inl ⟨rfl, .inl ⟨kvs, G.dict⟩⟩)), _, rfl, Nat.zero_le _, fun l0 hl0 => ?_⟩
        have s2 : Same H' (upd H' l0 (.lst [])) := Same.new hl0
        have klen : kvs.length ≤ 1000 := by
          rw [paired_len G.ent]
          unfold Mt.groups
          rw [List.length_map]
          exact Nat.le_trans (firsts_len _ _) (by rw [List.length_take]; omega)
        refine ⟨d, kvs, Sum.inl _, .ref l0, rfl, rfl, s2 _ _ G.dict, by omega, fun v' hv' => ?_, fun hnone => ?_⟩
        · obtain ⟨a', ws, rfl, ha0, ha1, hwl, G'⟩ := G.there s2 (hz1.kt s2.kt) hv'
          refine ⟨.inl ⟨rfl, _, SqL.of ha1⟩, _, rfl, a', ws, _, rfl, rfl, ha1, by rw [List.length_take] at hwl; omega, ?_⟩
          refine ⟨_, _, kvs, rfl, fun b o e => ?_, ?_⟩
          · rw [upd_ne (ne_of_none e ha0)]
            exact s2 _ _ (sm _ _ e)
          · rw [take_snoc' hz]
            exact G'
        · have G' := G.first s2 (hz1.kt s2.kt) (sm.free hl0) hl0 upd_same hnone
          have hl1 : ∀ o, (upd (upd H' l0 (.lst [])) d o) l0 = some (.lst []) := fun o => by
            rw [upd_ne (ne_of_none G.dict hl0).symm, upd_same]
          refine ⟨.inl ⟨rfl, _, SqL.of (hl1 _)⟩, _, rfl, l0, [], _, rfl, rfl, hl1 _, by show 0 < sizeLine; omega, ?_⟩
          rw [← take_snoc' hz] at G'
          refine ⟨_, _, _, rfl, fun b o e => ?_, G'⟩
          rw [upd_ne (ne_of_none (sm _ _ e) hl0), upd_ne (ne_of_none e G.new)]
          exact s2 _ _ (sm _ _ e)
      · rintro σ H' ⟨v5, v6, kvs, rfl, sm, G⟩
        rw [paired_len h2, List.take_length] at G
        exact ⟨_, rfl, k d H' kvs sm G⟩
    · refine ⟨_, pss_cons (ps_set (i := 4) nd rfl (Or.inl rfl) pe_dnewK)
        (pss_cons (ps_for PassesOwn.never rfl (pi_list (pv 0)) (pg_name (i := 5) nd rfl (Or.inl rfl))
          (pss_cons (ps_set (i := 6) nd rfl (Or.inl rfl) (pe_call GC hr rfl mC FC.kp bC .nil pass0 (pa_cons (pe_ix ix_tup (pe_ix ix_tup (pv 5) pe_int (fun _ _ => rfl)) (pe_op op_sub pe_int (pv 1)) (fun _ _ => rfl)) (pa_cons (pv 2) (pa_cons (pv 3) pa_nil)))))
          (pss_one (ps_expr (pe_bm PySem.F.plainAttrs_list PySem.F.slot_list_append PySem.F.type_list_append mt_append (pe_bm PySem.F.plainAttrs_dict PySem.F.slot_dict_setdefault PySem.F.type_dict_setdefault mt_setdefault (pv 4) (pa_cons (pv 6) (pa_cons (pe_lst pa_nil) pa_nil))) (pa_cons (pv 5) pa_nil))))))
        (pss_one (ps_ret (pv 4)))), ?_⟩
      intro d hd
      have s1 : Same H (upd H d (.dK [])) := Same.new hd
      refine ⟨_, rfl, a, rfl, ⟨_, by have e := s1; exact e.seq h1⟩, ?_⟩
      refine for_list (K := K) (a := a) (xs := vs) (fun i σ H' => ∃ (v5 v6 : Option V) (kvs : List (Key × V)), σ = [some (.ref a), some (iv hand), some (iv o), some (iv y), some (.ref d), v5, v6] ∧ Same H H' ∧ Grp K H H' d (Mt.groups (fun s => lastAt (Vbbrak.across hand s) o y) (l.take i)) kvs)
        ⟨none, none, [], rfl, s1, upd_same, hd, .nil, fun kv hkv => nomatch hkv⟩ (fun i σ H' _ ⟨_, _, _, _, sm, _⟩ => sm.seq h1) ?_ ?_
      · rintro i x σ H' hx ⟨v5, v6, kvs, rfl, sm, G⟩
        obtain ⟨z, hz, p, q, rfl, g1, g2⟩ := paired_at h2 hx
        have hzm := List.mem_of_getElem? hz
        have hi := (List.getElem?_eq_some_iff.mp hz).1
        obtain ⟨F1, F2, _, _⟩ := hF z hzm
        have hz1 : Spl K H' (.ref p) z := Spl.kt sm.kt ⟨p, q, rfl, g1, g2⟩
        obtain ⟨us, u, q0, q1, pa, rfl, q2⟩ := pick_across hh (g2.kt sm.kt)
        refine ⟨_, rfl, p, _, _, _, rfl, rfl, sm.kt.sq g1, rfl, _, rfl, _, _, rfl, rfl, q, us, _, _, rfl, rfl, q0, q1, _, rfl, _, rfl, ?_⟩
        refine ⟨pa, _, o, y, rfl, q2, fall_across hand F1 F2, ?_⟩
        refine ⟨_, rfl, .inr (.inr (.inl ⟨rfl, .inl ⟨kvs, G.dict⟩⟩)), _, rfl, Nat.zero_le _, fun l0 hl0 => ?_⟩
        have s2 : Same H' (upd H' l0 (.lst [])) := Same.new hl0
        have klen : kvs.length ≤ 1000 := by
          rw [paired_len G.ent]
          unfold Mt.groups
          rw [List.length_map]
          exact Nat.le_trans (firsts_len _ _) (by rw [List.length_take]; omega)
        refine ⟨d, kvs, Sum.inl _, .ref l0, rfl, rfl, s2 _ _ G.dict, by omega, fun v' hv' => ?_, fun hnone => ?_⟩
        · obtain ⟨a', ws, rfl, ha0, ha1, hwl, G'⟩ := G.there s2 (hz1.kt s2.kt) hv'
          refine ⟨.inl ⟨rfl, _, SqL.of ha1⟩, _, rfl, a', ws, _, rfl, rfl, ha1, by rw [List.length_take] at hwl; omega, ?_⟩
          refine ⟨_, _, kvs, rfl, fun b o e => ?_, ?_⟩
          · rw [upd_ne (ne_of_none e ha0)]
            exact s2 _ _ (sm _ _ e)
          · rw [take_snoc' hz]
            exact G'
        · have G' := G.first s2 (hz1.kt s2.kt) (sm.free hl0) hl0 upd_same hnone
          have hl1 : ∀ o, (upd (upd H' l0 (.lst [])) d o) l0 = some (.lst []) := fun o => by
            rw [upd_ne (ne_of_none G.dict hl0).symm, upd_same]
          refine ⟨.inl ⟨rfl, _, SqL.of (hl1 _)⟩, _, rfl, l0, [], _, rfl, rfl, hl1 _, by show 0 < sizeLine; omega, ?_⟩
          rw [← take_snoc' hz] at G'
          refine ⟨_, _, _, rfl, fun b o e => ?_, G'⟩
          rw [upd_ne (ne_of_none (sm _ _ e) hl0), upd_ne (ne_of_none e G.new)]
          exact s2 _ _ (sm _ _ e)
      · rintro σ H' ⟨v5, v6, kvs, rfl, sm, G⟩
        rw [paired_len h2, List.take_length] at G
        exact ⟨_, rfl, k d H' kvs sm G⟩
end
end On
set_option maxRecDepth 100000
set_option maxHeartbeats 4000000
namespace L2
open PySem PySem.Spec PyProof.Rows
theorem for_items {d : Addr} {o : Obj} {kvs : List (Key × V)} {g : TG} {tb : TS} {D : Ends} {σ : St} {H : Hp} (Pv : Nat → St → Hp → Prop) (h0 : Pv 0 σ H) (hl : ∀ i σ H, Pv i σ H → H d = some (.frz o (.dK kvs)))
    (hs : ∀ i k v σ H T, kvs[i]? = some (k, v) → Pv i σ H → H T = none → g (.ref T) σ (upd H T (.tup [kV k, v])) fun σ2 H2 => tb { D with nx := Pv (i + 1), ct := Pv (i + 1), bk := D.nx } σ2 H2) (hd : ∀ σ H, Pv kvs.length σ H → D.nx σ H) :
    ∃ W : Nat → Nat → St → Hp → Prop, (∃ m, W 0 m σ H) ∧ ∀ i m σ H, W i m σ H →
      ((Iti d o kvs).stop i H ∧ D.nx σ H) ∨ ((Iti d o kvs).go i H ∧ ∃ N : St → Hp → Prop, (∀ σ' H', N σ' H' → ∃ m', m' < m ∧ W (i + 1) m' σ' H') ∧ ∀ x H', (Iti d o kvs).yld i H x H' → g x σ H' fun σ2 H2 => tb { D with nx := N, ct := N, bk := D.nx } σ2 H2) := by
  refine ⟨fun i m σ H => m = kvs.length - i ∧ i ≤ kvs.length ∧ Pv i σ H, ⟨kvs.length, by simp, Nat.zero_le _, h0⟩, ?_⟩
  rintro i m σ H ⟨rfl, hi, p⟩
  by_cases hlt : i < kvs.length
  · refine .inr ⟨⟨hl i σ H p, hlt⟩, Pv (i + 1), fun σ' H' p' => ⟨kvs.length - (i + 1), by omega, rfl, hlt, p'⟩, ?_⟩
    rintro x H' ⟨T, k, v, hk, rfl, hT, rfl⟩
    exact hs i k v σ H T hk p hT
  · have e : i = kvs.length := by omega
    subst e
    exact .inl ⟨⟨hl _ σ H p, Nat.le_refl _⟩, hd σ H p⟩
end L2
namespace On
open PySem PySem.Spec PyProof.Rows L2
abbrev sThi : Stmt := top 16
abbrev sWon : Stmt := top 17
abbrev sNee : Stmt := top 18
abbrev cSea : Stmt := top 25
abbrev sSInit : Stmt := inClass cSea 0
abbrev sAtL : Stmt := inClass cSea 1
abbrev sBest : Stmt := inClass cSea 2
abbrev sAfL : Stmt := inClass cSea 3
abbrev sAf2 : Stmt := inClass cSea 4
abbrev sAf3 : Stmt := inClass cSea 5
section
variable {P : Program} {w : World} {K : PySem.W.Frag} {mg : Str → Option Value} {base : Heap}
theorem pick_hand {K : PySem.W.Frag} {H : Hp} {q : Addr} {a b : List Nat} {hand : Nat} (hh : hand = 0 ∨ hand = 1) (h : Pr K H q a b) : ∃ vs v, SqT K H q vs ∧ atI vs (hand : Int) = some v ∧ ∃ r, v = .ref r ∧ Tn K H r (Vbbrak.handOf hand a b) := by
  obtain ⟨r, s, h0, h1, h2⟩ := h
  rcases hh with rfl | rfl
  · exact ⟨_, .ref r, h0, rfl, r, rfl, h1⟩
  · exact ⟨_, .ref s, h0, rfl, s, rfl, h2⟩
theorem pick_mate {K : PySem.W.Frag} {H : Hp} {q : Addr} {a b : List Nat} {hand : Nat} (hh : hand = 0 ∨ hand = 1) (h : Pr K H q a b) : ∃ vs v, SqT K H q vs ∧ atI vs (1 - (hand : Int)) = some v ∧ ∃ r, v = .ref r ∧ Tn K H r (Vbbrak.handOf (1 - hand) a b) := by
  obtain ⟨r, s, h0, h1, h2⟩ := h
  rcases hh with rfl | rfl
  · exact ⟨_, .ref s, h0, rfl, s, rfl, h2⟩
  · exact ⟨_, .ref r, h0, rfl, r, rfl, h1⟩
def spThi (K : PySem.W.Frag) : Sp := fun vs H Q _ => ∃ (hp : Addr) (hand : Nat) (a b : List Nat), vs = [.ref hp, iv hand] ∧ Pr K H hp a b ∧ (hand = 0 ∨ hand = 1) ∧
  ∀ (r : Addr) (H' : Hp), Same H H' → Tn K H' r (Vbbrak.choices (Vbbrak.handOf (1 - hand) a b)) → Q (.ref r) H'
theorem scThi : FnScope ["hands", "leader", "cards"] ["hands", "leader"] (defScope sThi) := ⟨rfl, rfl, rfl, by decide +kernel, rfl, by decide +kernel, by decide +kernel⟩
theorem ok_thi {f : Addr} {fd : FuncData} (F : Fun K "thirds_of" "thirds_of" sThi f fd) (T : Names mg) : FnOk P w K mg base CX0 1 f fd ["hands", "leader"] (spThi K) := by
  refine F.ok scThi (fun vs H Q E h => ?_) (fun cdv A outer s H vs Q E hr h => ?_)
  · obtain ⟨hp, hand, a, b, rfl, _⟩ := h
    rfl
  · obtain ⟨hp, hand, a, b, rfl, hP, hh, k⟩ := h
    refine ⟨_, pss_cons (ps_set (i := 2) scThi.nd rfl (Or.inl rfl) (pe_ix ix_tup (pv 0) (pe_op op_sub pe_int (pv 1)) (fun _ _ => rfl)))
      (pss_cons (ps_if (pt_cmpR op_eq (pe_callB call_len_seq (by rfl) T.len PySem.boot_len (pa_cons (pv 2) pa_nil)) pe_int (nomark _)) (pss_one (ps_ret (pe_tup (pa_cons pe_int pa_nil)))) pss_nil)
      (pss_one (ps_ret (pv 2)))), ?_⟩
    obtain ⟨us, u, q0, q1, r, rfl, q2⟩ := pick_mate hh hP
    refine ⟨_, rfl, _, rfl, _, _, rfl, rfl, hp, us, _, _, rfl, rfl, q0, q1, ?_⟩
    refine ⟨_, rfl, r, _, rfl, .inr q2, rfl, _, rfl, ?_⟩
    refine ite2 (fun h => ?_) (fun h => ?_)
    · have e : Vbbrak.handOf (1 - hand) a b = [] := by
        have := of_decide_eq_true h
        simpa using this
      refine ⟨by show 1 ≤ sizeLine; decide, fun p hp' => k p _ (Same.new hp') ?_⟩
      rw [e]
      exact SqT.of upd_same
    · have hn : Vbbrak.handOf (1 - hand) a b ≠ [] := by
        intro e
        rw [e] at h
        exact h rfl
      refine ⟨_, rfl, k r H (Same.refl H) ?_⟩
      have e : Vbbrak.choices (Vbbrak.handOf (1 - hand) a b) = Vbbrak.handOf (1 - hand) a b := by
        cases e2 : Vbbrak.handOf (1 - hand) a b with
        | nil => exact absurd e2 hn
        | cons _ _ => rfl
      rw [e]
      exact q2
theorem boot_max5 : bootBuiltins "max" = some (.builtin "max") := by decide +kernel
theorem max_iv (i j : Nat) : V.int (if (j : Int) > (i : Int) then (j : Int) else (i : Int)) = iv (max i j) := by
  show V.int _ = V.int _
  congr 1
  by_cases h : (j : Int) > (i : Int)
  · rw [if_pos h]; omega
  · rw [if_neg h]; omega
def spWon : Sp := fun vs H Q _ => ∃ (x y z t : Nat), vs = [iv x, iv y, iv z, iv t] ∧ Q (iv (Vbbrak.ours x y z t)) H
theorem scWon : FnScope ["led", "second", "third", "last"] ["led", "second", "third", "last"] (defScope sWon) := ⟨rfl, rfl, rfl, by decide +kernel, rfl, by decide +kernel, by decide +kernel⟩
theorem ok_won {f : Addr} {fd : FuncData} (F : Fun K "tricks_won" "tricks_won" sWon f fd) (T : Names mg) : FnOk P w K mg base CX0 1 f fd ["led", "second", "third", "last"] spWon := by
  refine F.ok scWon (fun vs H Q E h => ?_) (fun cdv A outer s H vs Q E hr h => ?_)
  · obtain ⟨x, y, z, t, rfl, _⟩ := h
    rfl
  · obtain ⟨x, y, z, t, rfl, k⟩ := h
    refine ⟨_, pss_cons (ps_if (pt_cmpR op_gt (pe_callB (call_max2 rfl) (by rfl) T.max boot_max5 (pa_cons (pv 0) (pa_cons (pv 2) pa_nil))) (pe_callB (call_max2 rfl) (by rfl) T.max boot_max5 (pa_cons (pv 1) (pa_cons (pv 3) pa_nil))) (nomark _)) (pss_one (ps_ret pe_int)) pss_nil) (pss_one (ps_ret pe_int)), ?_⟩
    refine ⟨_, rfl, _, rfl, _, _, rfl, ?_⟩
    rw [max_iv]
    refine ⟨_, rfl, _, rfl, _, _, rfl, ?_⟩
    rw [max_iv]
    refine ⟨_, _, rfl, rfl, _, rfl, ?_⟩
    unfold Vbbrak.ours at k
    refine ite2 (fun h => ?_) (fun h => ?_)
    · have h1 : max y t < max x z := by have := of_decide_eq_true h; omega
      rw [if_pos h1] at k
      exact k
    · have h1 : ¬ max y t < max x z := fun q => h (decide_eq_true (by show ((max y t : Nat) : Int) < ((max x z : Nat) : Int); omega))
      rw [if_neg h1] at k
      exact k
def spNee : Sp := fun vs H Q _ => ∃ (need o : Nat), vs = [iv need, iv o] ∧ Q (iv (need - o)) H
theorem scNee : FnScope ["need", "won"] ["need", "won"] (defScope sNee) := ⟨rfl, rfl, rfl, by decide +kernel, rfl, by decide +kernel, by decide +kernel⟩
theorem ok_nee {f : Addr} {fd : FuncData} (F : Fun K "need_after" "need_after" sNee f fd) (T : Names mg) : FnOk P w K mg base CX0 1 f fd ["need", "won"] spNee := by
  refine F.ok scNee (fun vs H Q E h => ?_) (fun cdv A outer s H vs Q E hr h => ?_)
  · obtain ⟨need, o, rfl, _⟩ := h
    rfl
  · obtain ⟨need, o, rfl, k⟩ := h
    refine ⟨_, pss_one (ps_ret (pe_callB (call_max2 rfl) (by rfl) T.max boot_max5 (pa_cons (pe_op op_sub (pv 0) (pv 1)) (pa_cons pe_int pa_nil)))), ?_⟩
    refine ⟨_, rfl, _, rfl, _, _, rfl, rfl, _, _, rfl, ?_⟩
    have e : V.int (if (0 : Int) > (need : Int) - (o : Int) then 0 else (need : Int) - (o : Int)) = iv (need - o) := by
      show V.int _ = V.int _
      congr 1
      by_cases h : (0 : Int) > (need : Int) - (o : Int)
      · rw [if_pos h]; omega
      · rw [if_neg h]; omega
    rw [e]
    exact k
def trL (l : List Nat) : Tk.Tr := .t (l.map fun n : Nat => Tk.Tr.i (n : Int))
def trP (a b : List Nat) : Tk.Tr := .t [trL a, trL b]
def trS (s : Vbbrak.Split) : Tk.Tr := .t [.i ((s.2.2 : Nat) : Int), trP s.1 s.2.1]
def trKey (need : Nat) (a b : List Nat) (l : List Vbbrak.Split) : Tk.Tr := .t [.i (need : Int), trP a b, .t (l.map trS)]
theorem map_inj {α β : Type} {g : α → β} (hg : ∀ x y, g x = g y → x = y) : ∀ {l m : List α}, l.map g = m.map g → l = m
  | [], [], _ => rfl
  | [], _ :: _, h => by simp at h
  | _ :: _, [], h => by simp at h
  | a :: l, b :: m, h => by
    rw [List.map_cons, List.map_cons] at h
    injection h with h1 h2
    rw [hg _ _ h1, map_inj hg h2]
theorem trL_inj {l m : List Nat} (h : trL l = trL m) : l = m := by
  injection h with h
  exact map_inj (fun x y e => by injection e with e; omega) h
theorem trP_inj {a b a' b' : List Nat} (h : trP a b = trP a' b') : a = a' ∧ b = b' := by
  injection h with h
  injection h with h1 h
  injection h with h2 _
  exact ⟨trL_inj h1, trL_inj h2⟩
theorem trS_inj {s t : Vbbrak.Split} (h : trS s = trS t) : s = t := by
  injection h with h
  injection h with h1 h
  injection h with h2 _
  injection h1 with h1
  obtain ⟨e1, e2⟩ := trP_inj h2
  have e3 : s.2.2 = t.2.2 := by omega
  exact Prod.ext e1 (Prod.ext e2 e3)
theorem trKey_inj {need need' : Nat} {a b a' b' : List Nat} {l l' : List Vbbrak.Split} (h : trKey need a b l = trKey need' a' b' l') : need = need' ∧ a = a' ∧ b = b' ∧ l = l' := by
  injection h with h
  injection h with h1 h
  injection h with h2 h
  injection h with h3 _
  injection h1 with h1
  injection h3 with h3
  obtain ⟨e1, e2⟩ := trP_inj h2
  exact ⟨by omega, e1, e2, map_inj (fun x y e => trS_inj e) h3⟩
theorem trV_L {H : Hp} {r : Addr} {l : List Nat} (n : Nat) (h : Tn K H r l) : TrV K H (n + 1) (trL l) (.ref r) := by
  refine ⟨r, _, rfl, h, ?_⟩
  clear h
  induction l with
  | nil => exact .nil
  | cons a l ih => exact .cons (trV_i.mpr rfl) ih
theorem trV_P {H : Hp} {r : Addr} {a b : List Nat} (n : Nat) (h : Pr K H r a b) : TrV K H (n + 2) (trP a b) (.ref r) := by
  obtain ⟨x, y, h0, h1, h2⟩ := h
  exact ⟨r, _, rfl, h0, .cons (trV_L n h1) (.cons (trV_L n h2) .nil)⟩
theorem trV_S {H : Hp} {v : V} {s : Vbbrak.Split} (n : Nat) (h : Spl K H v s) : TrV K H (n + 3) (trS s) v := by
  obtain ⟨p, q, rfl, h1, h2⟩ := h
  exact ⟨p, _, rfl, h1, .cons (trV_i.mpr rfl) (.cons (trV_P n h2) .nil)⟩
theorem trV_Ss {H : Hp} (n : Nat) : ∀ {vs : List V} {l : List Vbbrak.Split}, Paired (Spl K H) vs l → Paired (TrV K H (n + 3)) (l.map trS) vs
  | _, _, .nil => .nil
  | _, _, .cons h t => .cons (trV_S n h) (trV_Ss n t)
theorem trV_key {H : Hp} {pos hp sp : Addr} {need : Nat} {a b : List Nat} {l : List Vbbrak.Split} (h0 : H pos = some (.tup [iv need, .ref hp, .ref sp])) (h1 : Pr K H hp a b) (h2 : SpT K H sp l) : TrV K H 8 (trKey need a b l) (.ref pos) := by
  obtain ⟨vs, g1, g2⟩ := h2
  exact ⟨pos, _, rfl, SqT.of h0, .cons (trV_i.mpr rfl) (.cons (trV_P 5 h1) (.cons ⟨sp, _, rfl, g1, trV_Ss 3 g2⟩ .nil))⟩
def sf (c : Bool) (d : Addr) : List (Str × V) := putF "known" (.ref d) (putF "cover" (cv c) [])
theorem sf_ne : ¬ (("cover" : Str) = "known") := by decide +kernel
theorem sf_cover (c : Bool) (d : Addr) : (sf c d).lookup ("cover" : Str) = some (cv c) := by
  unfold sf
  rw [lookup_putF, if_neg sf_ne, lookup_putF, if_pos rfl]
theorem sf_known (c : Bool) (d : Addr) : (sf c d).lookup ("known" : Str) = some (.ref d) := by
  unfold sf
  rw [lookup_putF, if_pos rfl]
theorem sf_no (c : Bool) (d : Addr) {m : Str} (h1 : ¬ m = "known") (h2 : ¬ m = "cover") : (sf c d).lookup m = none := by
  unfold sf
  rw [lookup_putF, if_neg h1, lookup_putF, if_neg h2]
  rfl
structure SrAt (P : Program) (w : World) (K : PySem.W.Frag) (C : Addr) (H : Hp) (p d : Addr) (c : Bool) (kvs : List (Tk.Tr × Int)) : Prop where
  ob : ∃ dx, H p = some (.ins C dx (sf c d))
  dn : DN P w K H d kvs
  good : ∀ e ∈ kvs, ∃ need a b l, e.1 = trKey need a b l ∧ e.2 = ((Mt.bst c a b l need : Nat) : Int)
theorem DN.mut {H : Hp} {d : Addr} {kvs : List (Tk.Tr × Int)} (h : DN P w K H d kvs) : ∃ u, H d = some u ∧ Mut (some u) := by
  obtain ⟨_, _, xs, e, _⟩ := h
  exact ⟨_, e, True.intro⟩
theorem DN.same {H H' : Hp} {d : Addr} {kvs : List (Tk.Tr × Int)} (s : Same H H') (h : DN P w K H d kvs) : DN P w K H' d kvs := by
  obtain ⟨h1, h2, xs, e, r⟩ := h
  exact ⟨h1, h2, xs, s _ _ e, Tk.paired_mono (fun p q ⟨e1, e2, e3⟩ => ⟨e1, e2, TrV.mono (fun a xs h => s.kt.sq h) 8 _ _ e3⟩) r⟩
theorem SrAt.same {C : Addr} {H H' : Hp} {p d : Addr} {c : Bool} {kvs : List (Tk.Tr × Int)} (s : Same H H') (h : SrAt P w K C H p d c kvs) : SrAt P w K C H' p d c kvs := by
  obtain ⟨⟨dx, h1⟩, h2, h3⟩ := h
  exact ⟨⟨dx, s _ _ h1⟩, DN.same s h2, h3⟩
theorem SrAt.kt {C : Addr} {H H' : Hp} {p d : Addr} {c : Bool} {kvs : List (Tk.Tr × Int)} (h : SrAt P w K C H p d c kvs) (b : But d H H') : KT H H' := by
  obtain ⟨u, hu, mu⟩ := DN.mut h.dn
  exact b.kt hu mu
theorem SrAt.val {C : Addr} {H : Hp} {p d : Addr} {c : Bool} {kvs : List (Tk.Tr × Int)} (h : SrAt P w K C H p d c kvs) {need : Nat} {a b : List Nat} {l : List Vbbrak.Split} {v : Int} (e : valN kvs (trKey need a b l) = some v) : v = ((Mt.bst c a b l need : Nat) : Int) := by
  obtain ⟨need', a', b', l', e1, e2⟩ := h.good _ (valN_mem e)
  obtain ⟨rfl, rfl, rfl, rfl⟩ := trKey_inj e1
  exact e2
structure TxS (K : PySem.W.Frag) (mg : Str → Option Value) (C : Addr) : Prop where
  cl : Cls K C
  nC : NoAttr K C "cover"
  nK : NoAttr K C "known"
def spSInit (P : Program) (w : World) (K : PySem.W.Frag) (C : Addr) : Sp := fun vs H Q _ => ∃ (p dx : Addr) (c : Bool), vs = [.ref p, cv c] ∧ H p = some (.ins C dx []) ∧
  ∀ (d : Addr) (H' : Hp), H d = none → SrAt P w K C H' p d c [] → But p H H' → Q .non H'
theorem scSI : FnScope ["self", "cover"] ["self", "cover"] (defScope sSInit) := ⟨rfl, rfl, rfl, by decide +kernel, rfl, by decide +kernel, by decide +kernel⟩
theorem ok_sinit {f C : Addr} {fd : FuncData} (F : Fun K "__init__" "Search.__init__" sSInit f fd) (T : TxS K mg C) : FnOk P w K mg base CX0 1 f fd ["self", "cover"] (spSInit P w K C) := by
  refine F.ok scSI (fun vs H Q E h => ?_) (fun cdv A outer s H vs Q E hr h => ?_)
  · obtain ⟨p, dx, c, rfl, _⟩ := h
    rfl
  · obtain ⟨p, dx, c, rfl, hp, k⟩ := h
    refine ⟨_, pss_cons (ps_fld (pv 0) (pv 1) rfl) (pss_one (ps_fld (pv 0) pe_dnewN rfl)), ?_⟩
    refine ⟨_, rfl, _, rfl, p, C, dx, [], rfl, hp, T.cl, T.nC, (by show 0 < 1000; decide), ?_⟩
    intro d hd hDN
    have npd : p ≠ d := ne_of_none upd_same hd
    refine ⟨_, rfl, p, C, dx, _, rfl, by rw [upd_ne npd, upd_same], T.cl, T.nK, (by show 1 < 1000; decide), ?_⟩
    have hd0 : H d = none := by rw [upd_ne npd.symm] at hd; exact hd
    refine k d _ hd0 ⟨⟨dx, upd_same⟩, ?_, fun e he => nomatch he⟩ (fun b o e hb => ?_)
    · obtain ⟨g1, g2, xs, g3, g4⟩ := hDN
      refine ⟨g1, g2, xs, by rw [upd_ne npd.symm]; exact g3, ?_⟩
      cases xs with
      | nil => exact .nil
      | cons _ _ => cases g4
    · rw [upd_ne hb, upd_ne (ne_of_none (by rw [upd_ne hb]; exact e) hd), upd_ne hb]
      exact e
end
end On
set_option maxRecDepth 100000
set_option maxHeartbeats 4000000
namespace Mt
open Vbbrak
theorem firsts_congr {f f' : Split → Nat} : ∀ (l : List Split), (∀ s ∈ l, f s = f' s) → firsts f l = firsts f' l := by
  refine snoc_ind (fun _ => rfl) fun l s ih h => ?_
  rw [firsts_snoc, firsts_snoc, ih (fun t ht => h t (by simp [ht])), h s (by simp)]
theorem with_congr {f f' : Split → Nat} {l : List Split} (h : ∀ s ∈ l, f s = f' s) (c : Nat) : with_ f l c = with_ f' l c := by
  unfold with_
  exact List.filter_congr fun s hs => by rw [h s hs]
theorem groups_congr {f f' : Split → Nat} {l : List Split} (h : ∀ s ∈ l, f s = f' s) : groups f l = groups f' l := by
  unfold groups
  rw [firsts_congr l h]
  exact List.map_congr_left fun c _ => by rw [with_congr h]
def B : Nat → Nat
  | 0 => 0
  | n + 1 => 1 + 2 * (n + 1) * ((n + 1) * B n)
theorem sum_groups_len (f : Split → Nat) (l : List Split) : sum ((groups f l).map fun g => g.2.length) = l.length := by
  unfold groups
  rw [List.map_map]
  exact sum_len_with f l (firsts f l) (nodup_firsts f l) fun s hs => (mem_firsts f l).mpr ⟨s, hs, rfl⟩
theorem sum_take_le : ∀ (l : List Nat) (i : Nat), sum (l.take i) ≤ sum l
  | [], i => by simp
  | a :: l, 0 => by simp [sum]
  | a :: l, i + 1 => by
    rw [List.take_succ_cons, sum_cons, sum_cons]
    have := sum_take_le l i
    omega
theorem sum_snoc' (l : List Nat) (a : Nat) : sum (l ++ [a]) = sum l + a := by
  rw [sum_append]
  show sum l + (a + 0) = _
  omega
theorem greatest_snoc : ∀ (l : List Nat) (a : Nat), greatest (l ++ [a]) = max (greatest l) a
  | [], a => by
    show max a 0 = max 0 a
    omega
  | b :: l, a => by
    show max b (greatest (l ++ [a])) = max (max b (greatest l)) a
    rw [greatest_snoc l a]
    omega
theorem greatest_append : ∀ (l m : List Nat), greatest (l ++ m) = max (greatest l) (greatest m)
  | [], m => by
    show greatest m = max 0 (greatest m)
    omega
  | b :: l, m => by
    show max b (greatest (l ++ m)) = max (max b (greatest l)) (greatest m)
    rw [greatest_append l m]
    omega
end Mt
namespace On
open PySem PySem.Spec PyProof.Rows L2
section
variable {P : Program} {w : World} {K : PySem.W.Frag} {mg : Str → Option Value} {base : Heap}
theorem iv_add (m n : Nat) : iv (m + n) = V.int ((m : Int) + (n : Int)) := congrArg V.int (Int.natCast_add m n)
structure Pos (a b : List Nat) (l : List Vbbrak.Split) : Prop where
  ne : l ≠ []
  len : l.length ≤ 1000
  fall : FallS l
  la : a.length < 64
  lb : b.length < 64
theorem FallS.sub {l m : List Vbbrak.Split} (h : FallS l) (hs : ∀ s ∈ m, s ∈ l) : FallS m := fun s hm => h s (hs s hm)
theorem FallS.gone {l : List Vbbrak.Split} (h : FallS l) (y t : Nat) : FallS (l.map fun s => Vbbrak.gone s y t) := by
  intro s hs
  obtain ⟨z, hz, rfl⟩ := List.mem_map.mp hs
  obtain ⟨h1, h2, h3, h4⟩ := h z hz
  refine ⟨(h1.filter _).filter _, (h2.filter _).filter _, ?_, ?_⟩
  · exact Nat.lt_of_le_of_lt (Nat.le_trans (Mt.without_le _ _) (Mt.without_le _ _)) h3
  · exact Nat.lt_of_le_of_lt (Nat.le_trans (Mt.without_le _ _) (Mt.without_le _ _)) h4
def spAt (P : Program) (w : World) (K : PySem.W.Frag) (C : Addr) (n : Nat) : Sp := fun vs H Q _ => ∃ (self d : Addr) (c : Bool) (kvs : List (Tk.Tr × Int)) (need : Nat) (hp sp : Addr) (a b : List Nat) (l : List Vbbrak.Split),
  vs = [.ref self, iv need, .ref hp, .ref sp] ∧ SrAt P w K C H self d c kvs ∧ Pr K H hp a b ∧ SpT K H sp l ∧ Pos a b l ∧ Vbbrak.tricksLeft a b ≤ n ∧ kvs.length + Mt.B n * l.length < sizeLine ∧
  ∀ H' kvs', But d H H' → SrAt P w K C H' self d c kvs' → kvs'.length ≤ kvs.length + Mt.B n * l.length → Q (iv (Mt.bst c a b l need)) H'
def spAf3 (P : Program) (w : World) (K : PySem.W.Frag) (C : Addr) (n : Nat) : Sp := fun vs H Q _ => ∃ (self d : Addr) (c : Bool) (kvs : List (Tk.Tr × Int)) (need : Nat) (hp sp : Addr) (a b : List Nat) (l : List Vbbrak.Split) (hand x y z : Nat),
  vs = [.ref self, iv need, .ref hp, .ref sp, iv hand, iv x, iv y, iv z] ∧ SrAt P w K C H self d c kvs ∧ Pr K H hp a b ∧ SpA K H sp l ∧ Pos a b l ∧ Vbbrak.tricksLeft a b ≤ n + 1 ∧ (hand = 0 ∨ hand = 1) ∧ x ∈ Vbbrak.handOf hand a b ∧ z ∈ Vbbrak.choices (Vbbrak.handOf (1 - hand) a b) ∧ kvs.length + Mt.B n * l.length < sizeLine ∧
  ∀ H' kvs', But d H H' → SrAt P w K C H' self d c kvs' → kvs'.length ≤ kvs.length + Mt.B n * l.length → Q (iv (Mt.gThird (Mt.bst c) c a b l need hand x y z)) H'
theorem scAf3 : FnScope ["self", "need", "hands", "splits", "leader", "led", "second", "third", "left", "odds", "last", "group", "still"] ["self", "need", "hands", "splits", "leader", "led", "second", "third"] (defScope sAf3) := ⟨rfl, rfl, rfl, by decide +kernel, rfl, by decide +kernel, by decide +kernel⟩
structure TxF (P : Program) (w : World) (K : PySem.W.Frag) (mg : Str → Option Value) (base : Heap) : Prop where
  n : Names mg
  wo : ∃ f fd, mg "without" = some (.ref f) ∧ Fun K "without" "without" sWo f fd ∧ Binds K fd ["pair", "one", "other"] [] ∧ FnOk P w K mg base CX0 1 f fd ["pair", "one", "other"] (spWo K)
  by4 : ∃ f fd, mg "by_last" = some (.ref f) ∧ Fun K "by_last" "by_last" sBy4 f fd ∧ Binds K fd ["splits", "hand", "ours", "partner"] [] ∧ FnOk P w K mg base CX0 3 f fd ["splits", "hand", "ours", "partner"] (spBy4 K)
  by2 : ∃ f fd, mg "by_second" = some (.ref f) ∧ Fun K "by_second" "by_second" sBy2 f fd ∧ Binds K fd ["splits", "hand", "led", "cover"] [] ∧ FnOk P w K mg base CX0 3 f fd ["splits", "hand", "led", "cover"] (spBy2 K)
  won : ∃ f fd, mg "tricks_won" = some (.ref f) ∧ Fun K "tricks_won" "tricks_won" sWon f fd ∧ Binds K fd ["led", "second", "third", "last"] [] ∧ FnOk P w K mg base CX0 1 f fd ["led", "second", "third", "last"] spWon
  nee : ∃ f fd, mg "need_after" = some (.ref f) ∧ Fun K "need_after" "need_after" sNee f fd ∧ Binds K fd ["need", "won"] [] ∧ FnOk P w K mg base CX0 1 f fd ["need", "won"] spNee
  aft : ∃ f fd, mg "after_trick" = some (.ref f) ∧ Fun K "after_trick" "after_trick" sAft f fd ∧ Binds K fd ["splits", "second", "last"] [] ∧ FnOk P w K mg base CX0 2 f fd ["splits", "second", "last"] (spAft K)
  thi : ∃ f fd, mg "thirds_of" = some (.ref f) ∧ Fun K "thirds_of" "thirds_of" sThi f fd ∧ Binds K fd ["hands", "leader"] [] ∧ FnOk P w K mg base CX0 1 f fd ["hands", "leader"] (spThi K)
  way : ∃ f fd, mg "ways_of" = some (.ref f) ∧ Fun K "ways_of" "ways_of" sWay f fd ∧ Binds K fd ["splits"] [] ∧ FnOk P w K mg base CX0 1 f fd ["splits"] (spWay K)
def val3 (c : Bool) (a b : List Nat) (need x y z : Nat) (g : Nat × List Vbbrak.Split) : Nat := Mt.bst c (Mt.leftA a x z) (Mt.leftA b x z) (g.2.map fun s => Vbbrak.gone s y g.1) (need - Vbbrak.ours x y z g.1)
theorem ok_af3 {f fA C : Addr} {fd fdA : FuncData} {n : Nat} (F : Fun K "after_third" "Search.after_third" sAf3 f fd) (T : TxF P w K mg base) (S : TxS K mg C) (mA : Meth K C "at_lead" fA) (bA : Binds K fdA ["self", "need", "hands", "splits"] [])
    (GA : FnOk P w K mg base CX0 (5 * n + 3) fA fdA ["self", "need", "hands", "splits"] (spAt P w K C n)) :
    FnOk P w K mg base CX0 (5 * n + 4) f fd ["self", "need", "hands", "splits", "leader", "led", "second", "third"] (spAf3 P w K C n) := by
  obtain ⟨fW, fdW, mW, FW, bW, GW⟩ := T.wo
  obtain ⟨f4, fd4, m4, F4, b4, G4⟩ := T.by4
  obtain ⟨fN, fdN, mN, FN, bN, GN⟩ := T.nee
  obtain ⟨fO, fdO, mO, FO, bO, GO⟩ := T.won
  obtain ⟨fT, fdT, mT, FT, bT, GT⟩ := T.aft
  refine F.ok scAf3 (fun vs H Q E h => ?_) (fun cdv A outer s H vs Q E hr h => ?_)
  · obtain ⟨self, d, c, kvs, need, hp, sp, a, b, l, hand, x, y, z, rfl, _⟩ := h
    rfl
  · obtain ⟨self, d, c, kvs, need, hp, sp, a, b, l, hand, x, y, z, rfl, hS, hP, hL, hO, htl, hh, hx, hz, hbud, k⟩ := h
    have nd := scAf3.nd
    have r1 : Room 1 _ := hr.mono (by omega)
    have r2 : Room 2 _ := hr.mono (by omega)
    have r3 : Room 3 _ := hr.mono (by omega)
    have e16 : sizeLine = 16777216 := sizeLine_eq
    refine ⟨_, pss_cons (ps_set (i := 8) nd rfl (Or.inl rfl) (pe_call GW r1 rfl mW FW.kp bW .nil pass0 (pa_cons (pv 2) (pa_cons (pv 5) (pa_cons (pv 7) pa_nil)))))
      (pss_cons (ps_set (i := 9) nd rfl (Or.inl rfl) pe_int)
      (pss_cons (ps_for PassesOwn.never rfl (pi_items (pe_frz (pe_call G4 r3 rfl m4 F4.kp b4 .nil pass0 (pa_cons (pv 3) (pa_cons (pv 4) (pa_cons (pe_callB (call_max2 rfl) (by rfl) T.n.max boot_max5 (pa_cons (pv 5) (pa_cons (pv 7) pa_nil))) (pa_cons (pv 6) pa_nil))))))) (pg_tup (n := 2) rfl (pgs_cons (pg_name (i := 10) nd rfl (Or.inl rfl)) (pgs_cons (pg_name (i := 11) nd rfl (Or.inl rfl)) pgs_nil)))
        (pss_cons (ps_set (i := 12) nd rfl (Or.inl rfl) (pe_call GN r1 rfl mN FN.kp bN .nil pass0 (pa_cons (pv 1) (pa_cons (pe_call GO r1 rfl mO FO.kp bO .nil pass0 (pa_cons (pv 5) (pa_cons (pv 6) (pa_cons (pv 7) (pa_cons (pv 10) pa_nil))))) pa_nil))))
        (pss_one (ps_aug (i := 9) nd rfl (Or.inl rfl) (pe_meth (pv 0) S.cl mA GA hr bA .nil pass0 (pa_cons (pv 12) (pa_cons (pv 8) (pa_cons (pe_call GT r2 rfl mT FT.kp bT .nil pass0 (pa_cons (pv 11) (pa_cons (pv 6) (pa_cons (pv 10) pa_nil)))) pa_nil)))) ip_add))))
      (pss_one (ps_ret (pv 9))))), ?_⟩
    -- left, odds
    refine ⟨_, rfl, _, rfl, _, rfl, hp, x, z, a, b, rfl, hP, hO.la, hO.lb, fun lf H1 s1 hlf => ?_⟩
    -- by_last
    refine ⟨_, rfl, _, rfl, _, rfl, _, rfl, _, _, rfl, _, rfl, sp, l, hand, max x z, y, congrArg (fun v => [V.ref sp, iv hand, v, iv y]) (max_iv x z), hL.same s1, hO.len, hO.fall, hh, fun gd H2 gkv s2 G => ?_⟩
    have eg : Mt.groups (fun s => lastAt (Vbbrak.across hand s) (max x z) y) l = Mt.groups (fun s => Vbbrak.last (Vbbrak.across hand s) x y z) l :=
      Mt.groups_congr fun s hs => (lastAt_eq (fall_across hand (hO.fall s hs).1 (hO.fall s hs).2.1) x y z).symm
    rw [eg] at G
    refine ⟨gd, _, rfl, G.dict, True.intro, fun od => ⟨gd, od, gkv, rfl, upd_same, ?_⟩⟩
    have s12 : Same H H2 := s1.trans s2
    have s3 : Same H (upd H2 gd (.frz od (.dK gkv))) := fun b o e => by rw [upd_ne (ne_of_none (s1 _ _ e) G.new)]; exact s12 _ _ e
    have s13 : Same H1 (upd H2 gd (.frz od (.dK gkv))) := fun b o e => by rw [upd_ne (ne_of_none e G.new)]; exact s2 _ _ e
    have hlf2 : Pr K (upd H2 gd (.frz od (.dK gkv))) lf (Mt.leftA a x z) (Mt.leftA b x z) := hlf.kt s13.kt
    have hS3 : SrAt P w K C (upd H2 gd (.frz od (.dK gkv))) self d c kvs := hS.same s3
    have ndg : d ≠ gd := by
      obtain ⟨u, hu, _⟩ := DN.mut hS.dn
      exact ne_of_none (s1 _ _ hu) G.new
    have hgl : gkv.length = (Mt.groups (fun s => Vbbrak.last (Vbbrak.across hand s) x y z) l).length := paired_len G.ent
    refine for_items (d := gd) (o := od) (kvs := gkv) (fun i σ H' => ∃ (v11 v12 v13 : Option V) (kv' : List (Tk.Tr × Int)), σ = [some (.ref self), some (iv need), some (.ref hp), some (.ref sp), some (iv hand), some (iv x), some (iv y), some (iv z), some (.ref lf),
        some (iv (Vbbrak.sum (((Mt.groups (fun s => Vbbrak.last (Vbbrak.across hand s) x y z) l).take i).map (val3 c a b need x y z)))), v11, v12, v13] ∧ But d (upd H2 gd (.frz od (.dK gkv))) H' ∧ SrAt P w K C H' self d c kv' ∧
        kv'.length ≤ kvs.length + Mt.B n * Vbbrak.sum (((Mt.groups (fun s => Vbbrak.last (Vbbrak.across hand s) x y z) l).take i).map fun g => g.2.length))
      ⟨none, none, none, kvs, rfl, But.refl _ _, hS3, Nat.le_add_right _ _⟩ (fun i σ H' ⟨_, _, _, _, _, b, _⟩ => b _ _ upd_same (Ne.symm ndg)) ?_ ?_
    · rintro i kk vv σ H' Tt hi ⟨v11, v12, v13, kv', rfl, bt, St, hlen⟩ hTt
      obtain ⟨g, hg, ek, ga, us, rfl, _, g2, g3⟩ := paired_at G.ent hi
      have ek' : kk = Sum.inl (g.1 : Int) := ek
      subst ek'
      have hgm := List.mem_of_getElem? hg
      obtain ⟨t, ht, rfl⟩ := List.mem_map.mp hgm
      have sT : Same H' (upd H' Tt (.tup [iv t, .ref ga])) := Same.new hTt
      have ktA : KT (upd H2 gd (.frz od (.dK gkv))) (upd H' Tt (.tup [iv t, .ref ga])) := (hS3.kt bt).trans sT.kt
      have nga : ga ≠ gd := ne_of g2 G.dict (by intro q; cases q)
      have nad : ga ≠ d := by
        obtain ⟨u, hu, mu⟩ := DN.mut hS.dn
        rintro rfl
        have := (s12 _ _ hu).symm.trans g2
        obtain ⟨_, _, xs, e, _⟩ := hS.dn
        rw [e] at hu
        cases hu
        cases this
      have kt2 : KT H2 (upd H2 gd (.frz od (.dK gkv))) := kt_mut G.dict True.intro
      have hga : SpL K (upd H' Tt (.tup [iv t, .ref ga])) ga (Vbbrak.with_ (fun s => Vbbrak.last (Vbbrak.across hand s) x y z) l t) :=
        ⟨us, SqL.of (sT _ _ (bt _ _ (by rw [upd_ne nga]; exact g2) nad)), Tk.paired_mono (fun _ _ q => q.kt (kt2.trans ktA)) g3⟩
      have hsub : ∀ s ∈ Vbbrak.with_ (fun s => Vbbrak.last (Vbbrak.across hand s) x y z) l t, s ∈ l := fun s hs => (List.mem_filter.mp hs).1
      have hFg := hO.fall.sub hsub
      have hlg : (Vbbrak.with_ (fun s => Vbbrak.last (Vbbrak.across hand s) x y z) l t).length ≤ l.length := List.length_filter_le _ _
      -- last, group
      refine ⟨Tt, _, rfl, SqT.of upd_same, rfl, _, _, rfl, _, _, rfl, rfl, ?_⟩
      -- still
      refine ⟨_, rfl, _, rfl, _, rfl, _, rfl, _, rfl, x, y, z, t, rfl, need, Vbbrak.ours x y z t, rfl, ?_⟩
      -- odds +=
      have St2 := St.same sT
      obtain ⟨dx, hob⟩ := St2.ob
      refine ⟨_, rfl, _, rfl, self, dx, _, rfl, hob, sf_no _ _ (by decide +kernel) (by decide +kernel), _, rfl, _, rfl, _, rfl, _, rfl, _, rfl, ?_⟩
      refine ⟨ga, _, y, t, rfl, hga, by have := hO.len; omega, fun s hs => ⟨(hFg s hs).2.2.1, (hFg s hs).2.2.2⟩, fun r Hr sr hr' => ?_⟩
      have hS_i : Vbbrak.sum (((Mt.groups (fun s => Vbbrak.last (Vbbrak.across hand s) x y z) l).take (i + 1)).map fun g => g.2.length) = Vbbrak.sum (((Mt.groups (fun s => Vbbrak.last (Vbbrak.across hand s) x y z) l).take i).map fun g => g.2.length) + (Vbbrak.with_ (fun s => Vbbrak.last (Vbbrak.across hand s) x y z) l t).length := by
        rw [take_snoc' hg, List.map_append]
        exact Mt.sum_snoc' _ _
      have hS_le : Vbbrak.sum (((Mt.groups (fun s => Vbbrak.last (Vbbrak.across hand s) x y z) l).take (i + 1)).map fun g => g.2.length) ≤ l.length := by
        rw [List.map_take, ← Mt.sum_groups_len (fun s => Vbbrak.last (Vbbrak.across hand s) x y z) l]
        exact Mt.sum_take_le _ _
      have hmul : Mt.B n * Vbbrak.sum (((Mt.groups (fun s => Vbbrak.last (Vbbrak.across hand s) x y z) l).take (i + 1)).map fun g => g.2.length) = Mt.B n * Vbbrak.sum (((Mt.groups (fun s => Vbbrak.last (Vbbrak.across hand s) x y z) l).take i).map fun g => g.2.length) + Mt.B n * (Vbbrak.with_ (fun s => Vbbrak.last (Vbbrak.across hand s) x y z) l t).length := by
        rw [hS_i, Nat.mul_add]
      have hmul2 := Nat.mul_le_mul_left (Mt.B n) hS_le
      have hlm : ((Vbbrak.with_ (fun s => Vbbrak.last (Vbbrak.across hand s) x y z) l t).map fun s => Vbbrak.gone s y t).length = (Vbbrak.with_ (fun s => Vbbrak.last (Vbbrak.across hand s) x y z) l t).length := List.length_map _
      have hpos : Pos (Mt.leftA a x z) (Mt.leftA b x z) ((Vbbrak.with_ (fun s => Vbbrak.last (Vbbrak.across hand s) x y z) l t).map fun s => Vbbrak.gone s y t) := by
        refine ⟨fun e => ?_, by have := hO.len; omega, hFg.gone y t, ?_, ?_⟩
        · exact Mt.with_ne_nil _ _ _ ht (List.map_eq_nil_iff.mp e)
        · exact Nat.lt_of_le_of_lt (Nat.le_trans (Mt.without_le _ _) (Mt.without_le _ _)) hO.la
        · exact Nat.lt_of_le_of_lt (Nat.le_trans (Mt.without_le _ _) (Mt.without_le _ _)) hO.lb
      refine ⟨self, d, c, kv', need - Vbbrak.ours x y z t, lf, r, Mt.leftA a x z, Mt.leftA b x z, _, rfl, St2.same sr, hlf2.kt (ktA.trans sr.kt), hr', hpos, ?_, ?_, fun H5 kv5 b5 S5 len5 => ?_⟩
      · have := Mt.left_lt hx hh hz
        omega
      · rw [hlm]; omega
      · refine ⟨_, _, rfl, rfl, ?_⟩
        refine ⟨some (iv t), some (.ref ga), some (iv (need - Vbbrak.ours x y z t)), kv5, ?_, fun b' o e nb => b5 b' o (sr _ _ (sT _ _ (bt b' o e nb))) nb, S5, ?_⟩
        · rw [take_snoc' hg, List.map_append, List.map_cons, List.map_nil, Mt.sum_snoc', iv_add]
          rfl
        · rw [hlm] at len5
          omega
    · rintro σ H' ⟨v11, v12, v13, kv', rfl, bt, St, hlen⟩
      rw [hgl, List.take_length, Mt.sum_groups_len] at hlen
      refine ⟨_, rfl, ?_⟩
      rw [hgl, List.take_length]
      have e : Vbbrak.sum ((Mt.groups (fun s => Vbbrak.last (Vbbrak.across hand s) x y z) l).map (val3 c a b need x y z)) = Mt.gThird (Mt.bst c) c a b l need hand x y z := by
        unfold Mt.gThird Mt.groups
        rw [Mt.sum_seen, List.map_map]
        rfl
      rw [e]
      exact k H' kv' (fun b' o e' nb => bt b' o (s3 _ _ e') nb) St hlen
end
end On
set_option maxRecDepth 100000
set_option maxHeartbeats 4000000
namespace On
open PySem PySem.Spec PyProof.Rows L2
section
variable {P : Program} {w : World} {K : PySem.W.Frag} {mg : Str → Option Value} {base : Heap}
def spAf2 (P : Program) (w : World) (K : PySem.W.Frag) (C : Addr) (n : Nat) : Sp := fun vs H Q _ => ∃ (self d : Addr) (c : Bool) (kvs : List (Tk.Tr × Int)) (need : Nat) (hp sp : Addr) (a b : List Nat) (l : List Vbbrak.Split) (hand x y : Nat),
  vs = [.ref self, iv need, .ref hp, .ref sp, iv hand, iv x, iv y] ∧ SrAt P w K C H self d c kvs ∧ Pr K H hp a b ∧ SpA K H sp l ∧ (SpA K H sp l → ∀ H', But d H H' → SpA K H' sp l) ∧ Pos a b l ∧ Vbbrak.tricksLeft a b ≤ n + 1 ∧ (hand = 0 ∨ hand = 1) ∧ x ∈ Vbbrak.handOf hand a b ∧ kvs.length + (n + 1) * Mt.B n * l.length < sizeLine ∧
  ∀ H' kvs', But d H H' → SrAt P w K C H' self d c kvs' → kvs'.length ≤ kvs.length + (n + 1) * Mt.B n * l.length → Q (iv (Mt.gSecond (Mt.bst c) c a b l need hand x y)) H'
theorem scAf2 : FnScope ["self", "need", "hands", "splits", "leader", "led", "second", "best", "third"] ["self", "need", "hands", "splits", "leader", "led", "second"] (defScope sAf2) := ⟨rfl, rfl, rfl, by decide +kernel, rfl, by decide +kernel, by decide +kernel⟩
theorem choices_len {a b : List Nat} {hand n : Nat} (h : Vbbrak.tricksLeft a b ≤ n + 1) : (Vbbrak.choices (Vbbrak.handOf (1 - hand) a b)).length ≤ n + 1 := by
  unfold Vbbrak.tricksLeft at h
  have : (Vbbrak.handOf (1 - hand) a b).length ≤ n + 1 := by
    unfold Vbbrak.handOf
    split <;> omega
  cases e : Vbbrak.handOf (1 - hand) a b with
  | nil => show 1 ≤ n + 1; omega
  | cons c r => rw [e] at this; exact this
theorem ok_af2 {f f3 C : Addr} {fd fd3 : FuncData} {n : Nat} (F : Fun K "after_second" "Search.after_second" sAf2 f fd) (T : TxF P w K mg base) (S : TxS K mg C) (m3 : Meth K C "after_third" f3) (b3 : Binds K fd3 ["self", "need", "hands", "splits", "leader", "led", "second", "third"] [])
    (G3 : FnOk P w K mg base CX0 (5 * n + 4) f3 fd3 ["self", "need", "hands", "splits", "leader", "led", "second", "third"] (spAf3 P w K C n)) :
    FnOk P w K mg base CX0 (5 * n + 5) f fd ["self", "need", "hands", "splits", "leader", "led", "second"] (spAf2 P w K C n) := by
  obtain ⟨fT, fdT, mT, FT, bT, GT⟩ := T.thi
  refine F.ok scAf2 (fun vs H Q E h => ?_) (fun cdv A outer s H vs Q E hr h => ?_)
  · obtain ⟨self, d, c, kvs, need, hp, sp, a, b, l, hand, x, y, rfl, _⟩ := h
    rfl
  · obtain ⟨self, d, c, kvs, need, hp, sp, a, b, l, hand, x, y, rfl, hS, hP, hL, hLst, hO, htl, hh, hx, hbud, k⟩ := h
    have nd := scAf2.nd
    have r1 : Room 1 _ := hr.mono (by omega)
    refine ⟨_, pss_cons (ps_set (i := 7) nd rfl (Or.inl rfl) pe_int)
      (pss_cons (ps_for PassesOwn.never rfl (pi_tup (pe_call GT r1 rfl mT FT.kp bT .nil pass0 (pa_cons (pv 2) (pa_cons (pv 4) pa_nil)))) (pg_name (i := 8) nd rfl (Or.inl rfl))
        (pss_one (ps_set (i := 7) nd rfl (Or.inl rfl) (pe_callB (call_max2 rfl) (by rfl) T.n.max boot_max5 (pa_cons (pv 7) (pa_cons (pe_meth (pv 0) S.cl m3 G3 hr b3 .nil pass0 (pa_cons (pv 1) (pa_cons (pv 2) (pa_cons (pv 3) (pa_cons (pv 4) (pa_cons (pv 5) (pa_cons (pv 6) (pa_cons (pv 8) pa_nil)))))))) pa_nil))))))
      (pss_one (ps_ret (pv 7)))), ?_⟩
    refine ⟨_, rfl, _, rfl, hp, hand, a, b, rfl, hP, hh, fun th H1 s1 hth => ⟨th, rfl, ⟨_, hth⟩, ?_⟩⟩
    have hcl := choices_len (hand := hand) htl
    have hc2 : (n + 1) * Mt.B n * l.length = (n + 1) * (Mt.B n * l.length) := Nat.mul_assoc _ _ _
    have hS1 := hS.same s1
    refine for_tup (K := K) (a := th) (xs := (Vbbrak.choices (Vbbrak.handOf (1 - hand) a b)).map iv) (fun i σ H' => ∃ (v8 : Option V) (kv' : List (Tk.Tr × Int)), σ = [some (.ref self), some (iv need), some (.ref hp), some (.ref sp), some (iv hand), some (iv x), some (iv y),
        some (iv (Vbbrak.greatest (((Vbbrak.choices (Vbbrak.handOf (1 - hand) a b)).take i).map fun z => Mt.gThird (Mt.bst c) c a b l need hand x y z))), v8] ∧ But d H1 H' ∧ SrAt P w K C H' self d c kv' ∧ kv'.length ≤ kvs.length + i * (Mt.B n * l.length))
      ⟨none, kvs, rfl, But.refl _ _, hS1, Nat.le_add_right _ _⟩ (fun i σ H' _ ⟨_, _, _, b, _⟩ => (hS1.kt b).sq hth) ?_ ?_
    · rintro i v σ H' hi ⟨v8, kv', rfl, bt, St, hlen⟩
      obtain ⟨z, hz, rfl⟩ := get_map hi
      have hzm := List.mem_of_getElem? hz
      have hil := (List.getElem?_eq_some_iff.mp hz).1
      obtain ⟨dx, hob⟩ := St.ob
      have btH : But d H H' := fun b' o e nb => bt b' o (s1 _ _ e) nb
      have hmul : (i + 1) * (Mt.B n * l.length) = i * (Mt.B n * l.length) + Mt.B n * l.length := Nat.succ_mul _ _
      have hmul2 : (i + 1) * (Mt.B n * l.length) ≤ (n + 1) * (Mt.B n * l.length) := Nat.mul_le_mul_right _ (by omega)
      refine ⟨_, rfl, _, rfl, self, dx, _, rfl, hob, sf_no _ _ (by decide +kernel) (by decide +kernel), _, rfl, _, rfl, _, rfl, _, rfl, _, rfl, _, rfl, _, rfl, ?_⟩
      refine ⟨self, d, c, kv', need, hp, sp, a, b, l, hand, x, y, z, rfl, St, hP.kt (hS.kt btH), hLst hL H' btH, hO, htl, hh, hx, hzm, by omega, fun H5 kv5 b5 S5 len5 => ?_⟩
      refine ⟨_, _, rfl, ?_⟩
      rw [max_iv]
      refine ⟨some (iv z), kv5, ?_, bt.trans b5, S5, by omega⟩
      rw [take_snoc' hz, List.map_append, List.map_cons, List.map_nil, Mt.greatest_snoc]
      rfl
    · rintro σ H' ⟨v8, kv', rfl, bt, St, hlen⟩
      rw [List.length_map] at hlen
      refine ⟨_, rfl, ?_⟩
      rw [List.length_map, List.take_length]
      refine k H' kv' (fun b' o e nb => bt b' o (s1 _ _ e) nb) St ?_
      have := Nat.mul_le_mul_right (Mt.B n * l.length) hcl
      omega
def spAfL (P : Program) (w : World) (K : PySem.W.Frag) (C : Addr) (n : Nat) : Sp := fun vs H Q _ => ∃ (self d : Addr) (c : Bool) (kvs : List (Tk.Tr × Int)) (need : Nat) (hp sp : Addr) (a b : List Nat) (l : List Vbbrak.Split) (hand x : Nat),
  vs = [.ref self, iv need, .ref hp, .ref sp, iv hand, iv x] ∧ SrAt P w K C H self d c kvs ∧ Pr K H hp a b ∧ SpT K H sp l ∧ Pos a b l ∧ Vbbrak.tricksLeft a b ≤ n + 1 ∧ (hand = 0 ∨ hand = 1) ∧ x ∈ Vbbrak.handOf hand a b ∧ kvs.length + (n + 1) * Mt.B n * l.length < sizeLine ∧
  ∀ H' kvs', But d H H' → SrAt P w K C H' self d c kvs' → kvs'.length ≤ kvs.length + (n + 1) * Mt.B n * l.length → Q (iv (Mt.gLead (Mt.bst c) c a b l need hand x)) H'
def val2 (c : Bool) (a b : List Nat) (need hand x : Nat) (g : Nat × List Vbbrak.Split) : Nat := Mt.gSecond (Mt.bst c) c a b g.2 need hand x g.1
theorem scAfL : FnScope ["self", "need", "hands", "splits", "leader", "led", "odds", "second", "group"] ["self", "need", "hands", "splits", "leader", "led"] (defScope sAfL) := ⟨rfl, rfl, rfl, by decide +kernel, rfl, by decide +kernel, by decide +kernel⟩
theorem ok_afl {f f2 C : Addr} {fd fd2 : FuncData} {n : Nat} (F : Fun K "after_lead" "Search.after_lead" sAfL f fd) (T : TxF P w K mg base) (S : TxS K mg C) (m2 : Meth K C "after_second" f2) (b2 : Binds K fd2 ["self", "need", "hands", "splits", "leader", "led", "second"] [])
    (G2 : FnOk P w K mg base CX0 (5 * n + 5) f2 fd2 ["self", "need", "hands", "splits", "leader", "led", "second"] (spAf2 P w K C n)) :
    FnOk P w K mg base CX0 (5 * n + 6) f fd ["self", "need", "hands", "splits", "leader", "led"] (spAfL P w K C n) := by
  obtain ⟨fB, fdB, mB, FB, bB, GB⟩ := T.by2
  refine F.ok scAfL (fun vs H Q E h => ?_) (fun cdv A outer s H vs Q E hr h => ?_)
  · obtain ⟨self, d, c, kvs, need, hp, sp, a, b, l, hand, x, rfl, _⟩ := h
    rfl
  · obtain ⟨self, d, c, kvs, need, hp, sp, a, b, l, hand, x, rfl, hS, hP, hL, hO, htl, hh, hx, hbud, k⟩ := h
    have nd := scAfL.nd
    have r3 : Room 3 _ := hr.mono (by omega)
    refine ⟨_, pss_cons (ps_set (i := 6) nd rfl (Or.inl rfl) pe_int)
      (pss_cons (ps_for PassesOwn.never rfl (pi_items (pe_frz (pe_call GB r3 rfl mB FB.kp bB .nil pass0 (pa_cons (pv 3) (pa_cons (pv 4) (pa_cons (pv 5) (pa_cons (pe_fld (pv 0) rfl) pa_nil))))))) (pg_tup (n := 2) rfl (pgs_cons (pg_name (i := 7) nd rfl (Or.inl rfl)) (pgs_cons (pg_name (i := 8) nd rfl (Or.inl rfl)) pgs_nil)))
        (pss_one (ps_aug (i := 6) nd rfl (Or.inl rfl) (pe_meth (pv 0) S.cl m2 G2 hr b2 .nil pass0 (pa_cons (pv 1) (pa_cons (pv 2) (pa_cons (pv 8) (pa_cons (pv 4) (pa_cons (pv 5) (pa_cons (pv 7) pa_nil))))))) ip_add)))
      (pss_one (ps_ret (pv 6)))), ?_⟩
    obtain ⟨dx0, hob0⟩ := hS.ob
    refine ⟨_, rfl, _, rfl, _, rfl, _, rfl, self, C, dx0, _, _, rfl, hob0, S.cl, S.nC, sf_cover _ _, ?_⟩
    refine ⟨sp, l, hand, x, c, rfl, .inl hL, hO.len, hO.fall, hh, fun gd H2 gkv s2 G => ?_⟩
    refine ⟨gd, _, rfl, G.dict, True.intro, fun od => ⟨gd, od, gkv, rfl, upd_same, ?_⟩⟩
    have s3 : Same H (upd H2 gd (.frz od (.dK gkv))) := fun b o e => by rw [upd_ne (ne_of_none e G.new)]; exact s2 _ _ e
    have hS3 : SrAt P w K C (upd H2 gd (.frz od (.dK gkv))) self d c kvs := hS.same s3
    have ndg : d ≠ gd := by
      obtain ⟨u, hu, _⟩ := DN.mut hS.dn
      exact ne_of_none hu G.new
    have hgl : gkv.length = (Mt.groups (fun s => Vbbrak.second c (Vbbrak.behind hand s) x) l).length := paired_len G.ent
    refine for_items (d := gd) (o := od) (kvs := gkv) (fun i σ H' => ∃ (v7 v8 : Option V) (kv' : List (Tk.Tr × Int)), σ = [some (.ref self), some (iv need), some (.ref hp), some (.ref sp), some (iv hand), some (iv x),
        some (iv (Vbbrak.sum (((Mt.groups (fun s => Vbbrak.second c (Vbbrak.behind hand s) x) l).take i).map (val2 c a b need hand x)))), v7, v8] ∧ But d (upd H2 gd (.frz od (.dK gkv))) H' ∧ SrAt P w K C H' self d c kv' ∧
        kv'.length ≤ kvs.length + (n + 1) * Mt.B n * Vbbrak.sum (((Mt.groups (fun s => Vbbrak.second c (Vbbrak.behind hand s) x) l).take i).map fun g => g.2.length))
      ⟨none, none, kvs, rfl, But.refl _ _, hS3, Nat.le_add_right _ _⟩ (fun i σ H' ⟨_, _, _, _, b, _⟩ => b _ _ upd_same (Ne.symm ndg)) ?_ ?_
    · rintro i kk vv σ H' Tt hi ⟨v7, v8, kv', rfl, bt, St, hlen⟩ hTt
      obtain ⟨g, hg, ek, ga, us, rfl, ga0, g2, g3⟩ := paired_at G.ent hi
      have ek' : kk = Sum.inl (g.1 : Int) := ek
      subst ek'
      have hgm := List.mem_of_getElem? hg
      obtain ⟨y, hy, rfl⟩ := List.mem_map.mp hgm
      have sT : Same H' (upd H' Tt (.tup [iv y, .ref ga])) := Same.new hTt
      have ktA : KT (upd H2 gd (.frz od (.dK gkv))) (upd H' Tt (.tup [iv y, .ref ga])) := (hS3.kt bt).trans sT.kt
      have nga : ga ≠ gd := ne_of g2 G.dict (by intro q; cases q)
      have nad : ga ≠ d := by
        obtain ⟨u, hu, mu⟩ := DN.mut hS.dn
        rintro rfl
        rw [hu] at ga0
        cases ga0
      have kt2 : KT H2 (upd H2 gd (.frz od (.dK gkv))) := kt_mut G.dict True.intro
      have hgaH : (upd H' Tt (.tup [iv y, .ref ga])) ga = some (.lst us) := sT _ _ (bt _ _ (by rw [upd_ne nga]; exact g2) nad)
      have hga : SpL K (upd H' Tt (.tup [iv y, .ref ga])) ga (Vbbrak.with_ (fun s => Vbbrak.second c (Vbbrak.behind hand s) x) l y) :=
        ⟨us, SqL.of hgaH, Tk.paired_mono (fun _ _ q => q.kt (kt2.trans ktA)) g3⟩
      have hsub : ∀ s ∈ Vbbrak.with_ (fun s => Vbbrak.second c (Vbbrak.behind hand s) x) l y, s ∈ l := fun s hs => (List.mem_filter.mp hs).1
      have hFg := hO.fall.sub hsub
      have hlg : (Vbbrak.with_ (fun s => Vbbrak.second c (Vbbrak.behind hand s) x) l y).length ≤ l.length := List.length_filter_le _ _
      refine ⟨Tt, _, rfl, SqT.of upd_same, rfl, _, _, rfl, _, _, rfl, rfl, ?_⟩
      have St2 := St.same sT
      obtain ⟨dx, hob⟩ := St2.ob
      refine ⟨_, rfl, _, rfl, self, dx, _, rfl, hob, sf_no _ _ (by decide +kernel) (by decide +kernel), _, rfl, _, rfl, _, rfl, _, rfl, _, rfl, _, rfl, ?_⟩
      have hS_i : Vbbrak.sum (((Mt.groups (fun s => Vbbrak.second c (Vbbrak.behind hand s) x) l).take (i + 1)).map fun g => g.2.length) = Vbbrak.sum (((Mt.groups (fun s => Vbbrak.second c (Vbbrak.behind hand s) x) l).take i).map fun g => g.2.length) + (Vbbrak.with_ (fun s => Vbbrak.second c (Vbbrak.behind hand s) x) l y).length := by
        rw [take_snoc' hg, List.map_append]
        exact Mt.sum_snoc' _ _
      have hS_le : Vbbrak.sum (((Mt.groups (fun s => Vbbrak.second c (Vbbrak.behind hand s) x) l).take (i + 1)).map fun g => g.2.length) ≤ l.length := by
        rw [List.map_take, ← Mt.sum_groups_len (fun s => Vbbrak.second c (Vbbrak.behind hand s) x) l]
        exact Mt.sum_take_le _ _
      have hmul : (n + 1) * Mt.B n * Vbbrak.sum (((Mt.groups (fun s => Vbbrak.second c (Vbbrak.behind hand s) x) l).take (i + 1)).map fun g => g.2.length) = (n + 1) * Mt.B n * Vbbrak.sum (((Mt.groups (fun s => Vbbrak.second c (Vbbrak.behind hand s) x) l).take i).map fun g => g.2.length) + (n + 1) * Mt.B n * (Vbbrak.with_ (fun s => Vbbrak.second c (Vbbrak.behind hand s) x) l y).length := by
        rw [hS_i, Nat.mul_add]
      have hmul2 := Nat.mul_le_mul_left ((n + 1) * Mt.B n) hS_le
      have hpos : Pos a b (Vbbrak.with_ (fun s => Vbbrak.second c (Vbbrak.behind hand s) x) l y) := ⟨Mt.with_ne_nil _ _ _ hy, by have := hO.len; omega, hFg, hO.la, hO.lb⟩
      refine ⟨self, d, c, kv', need, hp, ga, a, b, _, hand, x, y, rfl, St2, hP.kt (s3.kt.trans ktA), .inr hga, fun _ H' bH => ?_, hpos, htl, hh, hx, by omega, fun H5 kv5 b5 S5 len5 => ?_⟩
      · exact .inr ⟨us, SqL.of (bH _ _ hgaH nad), Tk.paired_mono (fun _ _ q => q.kt ((kt2.trans ktA).trans (St2.kt bH))) g3⟩
      · refine ⟨_, _, rfl, rfl, ?_⟩
        refine ⟨some (iv y), some (.ref ga), kv5, ?_, fun b' o e nb => b5 b' o (sT _ _ (bt b' o e nb)) nb, S5, by omega⟩
        rw [take_snoc' hg, List.map_append, List.map_cons, List.map_nil, Mt.sum_snoc', iv_add]
        rfl
    · rintro σ H' ⟨v7, v8, kv', rfl, bt, St, hlen⟩
      rw [hgl, List.take_length, Mt.sum_groups_len] at hlen
      refine ⟨_, rfl, ?_⟩
      rw [hgl, List.take_length]
      have e : Vbbrak.sum ((Mt.groups (fun s => Vbbrak.second c (Vbbrak.behind hand s) x) l).map (val2 c a b need hand x)) = Mt.gLead (Mt.bst c) c a b l need hand x := by
        unfold Mt.gLead Mt.groups
        rw [Mt.sum_seen, List.map_map]
        rfl
      rw [e]
      exact k H' kv' (fun b' o e' nb => bt b' o (s3 _ _ e') nb) St hlen
end
end On
set_option maxRecDepth 100000
set_option maxHeartbeats 4000000
namespace On
open PySem PySem.Spec PyProof.Rows L2
section
variable {P : Program} {w : World} {K : PySem.W.Frag} {mg : Str → Option Value} {base : Heap}
def cB (n : Nat) : Nat := 2 * (n + 1) * ((n + 1) * Mt.B n)
def spBest (P : Program) (w : World) (K : PySem.W.Frag) (C : Addr) (n : Nat) : Sp := fun vs H Q _ => ∃ (self d : Addr) (c : Bool) (kvs : List (Tk.Tr × Int)) (need : Nat) (hp sp : Addr) (a b : List Nat) (l : List Vbbrak.Split),
  vs = [.ref self, iv need, .ref hp, .ref sp] ∧ SrAt P w K C H self d c kvs ∧ Pr K H hp a b ∧ SpT K H sp l ∧ Pos a b l ∧ Vbbrak.tricksLeft a b ≤ n + 1 ∧ kvs.length + cB n * l.length < sizeLine ∧
  ∀ H' kvs', But d H H' → SrAt P w K C H' self d c kvs' → kvs'.length ≤ kvs.length + cB n * l.length → Q (iv (Vbbrak.greatest ((Vbbrak.leads a b).map fun e => Mt.gLead (Mt.bst c) c a b l need e.1 e.2))) H'
theorem scBest : FnScope ["self", "need", "hands", "splits", "best", "leader", "led"] ["self", "need", "hands", "splits"] (defScope sBest) := ⟨rfl, rfl, rfl, by decide +kernel, rfl, by decide +kernel, by decide +kernel⟩
def ldsTo (a b : List Nat) (i : Nat) : List (Nat × Nat) := match i with
  | 0 => []
  | 1 => a.map fun c => (0, c)
  | _ => Vbbrak.leads a b
theorem ldsTo_next {a b : List Nat} {i : Nat} (hi : i = 0 ∨ i = 1) : ldsTo a b (i + 1) = ldsTo a b i ++ (Vbbrak.handOf i a b).map fun c => (i, c) := by
  rcases hi with rfl | rfl
  · rfl
  · rfl
theorem ldsTo_len {a b : List Nat} {i n : Nat} (hi : i = 0 ∨ i = 1) (h : Vbbrak.tricksLeft a b ≤ n + 1) : (ldsTo a b i).length ≤ i * (n + 1) ∧ (Vbbrak.handOf i a b).length ≤ n + 1 := by
  unfold Vbbrak.tricksLeft at h
  rcases hi with rfl | rfl
  · refine ⟨Nat.zero_le _, ?_⟩
    show a.length ≤ n + 1
    omega
  · refine ⟨?_, ?_⟩
    · show (a.map fun c => ((0 : Nat), c)).length ≤ 1 * (n + 1)
      rw [List.length_map]; omega
    · show b.length ≤ n + 1
      omega
theorem grt_step {α β : Type} (g : β → Nat) (h : α → β) (L : List β) {xs : List α} {j : Nat} {x : α} (hx : xs[j]? = some x) : Vbbrak.greatest ((L ++ (xs.take (j + 1)).map h).map g) = max (Vbbrak.greatest ((L ++ (xs.take j).map h).map g)) (g (h x)) := by
  have e : (L ++ (xs.take (j + 1)).map h).map g = (L ++ (xs.take j).map h).map g ++ [g (h x)] := by rw [take_snoc' hx]; simp
  rw [e, Mt.greatest_snoc]
theorem ok_best {f fL C : Addr} {fd fdL : FuncData} {n : Nat} (F : Fun K "best_lead" "Search.best_lead" sBest f fd) (T : TxF P w K mg base) (S : TxS K mg C) (mL : Meth K C "after_lead" fL) (bL : Binds K fdL ["self", "need", "hands", "splits", "leader", "led"] [])
    (GL : FnOk P w K mg base CX0 (5 * n + 6) fL fdL ["self", "need", "hands", "splits", "leader", "led"] (spAfL P w K C n)) :
    FnOk P w K mg base CX0 (5 * n + 7) f fd ["self", "need", "hands", "splits"] (spBest P w K C n) := by
  refine F.ok scBest (fun vs H Q E h => ?_) (fun cdv A outer s H vs Q E hr h => ?_)
  · obtain ⟨self, d, c, kvs, need, hp, sp, a, b, l, rfl, _⟩ := h
    rfl
  · obtain ⟨self, d, c, kvs, need, hp, sp, a, b, l, rfl, hS, hP, hL, hO, htl, hbud, k⟩ := h
    have nd := scBest.nd
    refine ⟨_, pss_cons (ps_set (i := 4) nd rfl (Or.inl rfl) pe_int)
      (pss_cons (ps_for PassesOwn.never rfl (pi_tup (pe_tup (pa_cons pe_int (pa_cons pe_int pa_nil)))) (pg_name (i := 5) nd rfl (Or.inl rfl))
        (pss_one (ps_for PassesOwn.never rfl (pi_tup (pe_ix ix_tup (pv 2) (pv 5) (fun _ _ => rfl))) (pg_name (i := 6) nd rfl (Or.inl rfl))
          (pss_one (ps_set (i := 4) nd rfl (Or.inl rfl) (pe_callB (call_max2 rfl) (by rfl) T.n.max boot_max5 (pa_cons (pv 4) (pa_cons (pe_meth (pv 0) S.cl mL GL hr bL .nil pass0 (pa_cons (pv 1) (pa_cons (pv 2) (pa_cons (pv 3) (pa_cons (pv 5) (pa_cons (pv 6) pa_nil)))))) pa_nil))))))))
      (pss_one (ps_ret (pv 4)))), ?_⟩
    refine ⟨by show 2 ≤ sizeLine; decide, fun tp htp => ⟨tp, rfl, ⟨_, SqT.of upd_same⟩, ?_⟩⟩
    have s1 : Same H (upd H tp (.tup [.int 0, .int 1])) := Same.new htp
    have hS1 := hS.same s1
    have c1 : ∀ m, m * ((n + 1) * Mt.B n * l.length) = m * ((n + 1) * Mt.B n) * l.length := fun m => (Nat.mul_assoc _ _ _).symm
    have hcb : cB n * l.length = 2 * (n + 1) * ((n + 1) * Mt.B n * l.length) := by unfold cB; exact (c1 _).symm
    refine for_tup (K := K) (a := tp) (xs := [.int 0, .int 1]) (fun i σ H' => ∃ (v5 v6 : Option V) (kv' : List (Tk.Tr × Int)), σ = [some (.ref self), some (iv need), some (.ref hp), some (.ref sp),
        some (iv (Vbbrak.greatest ((ldsTo a b i).map fun e => Mt.gLead (Mt.bst c) c a b l need e.1 e.2))), v5, v6] ∧ But d (upd H tp (.tup [.int 0, .int 1])) H' ∧ SrAt P w K C H' self d c kv' ∧ kv'.length ≤ kvs.length + i * (n + 1) * ((n + 1) * Mt.B n * l.length))
      ⟨none, none, kvs, rfl, But.refl _ _, hS1, Nat.le_add_right _ _⟩ (fun i σ H' _ ⟨_, _, _, _, b, _⟩ => (hS1.kt b).sq (SqT.of upd_same)) ?_ ?_
    · rintro i v σ H' hi ⟨v5, v6, kv', rfl, bt, St, hlen⟩
      obtain ⟨hi2, ev⟩ : (i = 0 ∨ i = 1) ∧ v = iv i := by
        match i, hi with
        | 0, hi => exact ⟨.inl rfl, (Option.some.inj hi).symm⟩
        | 1, hi => exact ⟨.inr rfl, (Option.some.inj hi).symm⟩
        | i + 2, hi => simp at hi
      subst ev
      have btH : But d H H' := fun b' o e nb => bt b' o (s1 _ _ e) nb
      obtain ⟨us, u, q0, q1, r, rfl, q2⟩ := pick_hand hi2 (hP.kt (hS.kt btH))
      obtain ⟨hl1, hl2⟩ := ldsTo_len hi2 htl
      refine ⟨_, rfl, _, rfl, hp, us, _, _, rfl, rfl, q0, q1, r, rfl, ⟨_, q2⟩, ?_⟩
      refine for_tup (K := K) (a := r) (xs := (Vbbrak.handOf i a b).map iv) (fun j σ H2 => ∃ (v6 : Option V) (kv2 : List (Tk.Tr × Int)), σ = [some (.ref self), some (iv need), some (.ref hp), some (.ref sp),
          some (iv (Vbbrak.greatest ((ldsTo a b i ++ ((Vbbrak.handOf i a b).take j).map fun c => (i, c)).map fun e => Mt.gLead (Mt.bst c) c a b l need e.1 e.2))), some (iv i), v6] ∧ But d H' H2 ∧ SrAt P w K C H2 self d c kv2 ∧ kv2.length ≤ kvs.length + (i * (n + 1) + j) * ((n + 1) * Mt.B n * l.length))
        ⟨v6, kv', by rw [List.take_zero, List.map_nil, List.append_nil]; rfl, But.refl _ _, St, by rw [Nat.add_zero]; exact hlen⟩ (fun j σ H2 _ ⟨_, _, _, b, _⟩ => (St.kt b).sq q2) ?_ ?_
      · rintro j v σ H2 hj ⟨w6, kv2, rfl, bt2, St2, hlen2⟩
        obtain ⟨x, hx, rfl⟩ := get_map hj
        have hxm := List.mem_of_getElem? hx
        have hjl := (List.getElem?_eq_some_iff.mp hx).1
        obtain ⟨dx, hob⟩ := St2.ob
        have btH2 : But d H H2 := btH.trans bt2
        have hm1 : (i * (n + 1) + (j + 1)) * ((n + 1) * Mt.B n * l.length) = (i * (n + 1) + j) * ((n + 1) * Mt.B n * l.length) + (n + 1) * Mt.B n * l.length := by rw [← Nat.add_assoc]; exact Nat.succ_mul _ _
        have hm2 : i * (n + 1) + (j + 1) ≤ 2 * (n + 1) := by
          rcases hi2 with rfl | rfl
          · omega
          · omega
        have hm3 := Nat.mul_le_mul_right ((n + 1) * Mt.B n * l.length) hm2
        refine ⟨_, rfl, _, rfl, self, dx, _, rfl, hob, sf_no _ _ (by decide +kernel) (by decide +kernel), _, rfl, _, rfl, _, rfl, _, rfl, _, rfl, ?_⟩
        refine ⟨self, d, c, kv2, need, hp, sp, a, b, l, i, x, rfl, St2, hP.kt (hS.kt btH2), hL.kt (hS.kt btH2), hO, htl, hi2, hxm, by omega, fun H5 kv5 b5 S5 len5 => ?_⟩
        refine ⟨_, _, rfl, ?_⟩
        rw [max_iv]
        refine ⟨some (iv x), kv5, ?_, bt2.trans b5, S5, by omega⟩
        rw [grt_step (fun e : Nat × Nat => Mt.gLead (Mt.bst c) c a b l need e.1 e.2) (fun c => (i, c)) (ldsTo a b i) hx]
        rfl
      · rintro σ H2 ⟨w6, kv2, rfl, bt2, St2, hlen2⟩
        rw [List.length_map] at hlen2
        refine ⟨some (iv i), w6, kv2, ?_, bt.trans bt2, St2, ?_⟩
        · rw [List.length_map, List.take_length, ldsTo_next hi2]
        · have : i * (n + 1) + (Vbbrak.handOf i a b).length ≤ (i + 1) * (n + 1) := by
            rw [Nat.succ_mul]; omega
          have := Nat.mul_le_mul_right ((n + 1) * Mt.B n * l.length) this
          omega
    · rintro σ H' ⟨v5, v6, kv', rfl, bt, St, hlen⟩
      refine ⟨_, rfl, ?_⟩
      exact k H' kv' (fun b' o e nb => bt b' o (s1 _ _ e) nb) St (by rw [hcb]; exact hlen)
theorem scAtL : FnScope ["self", "need", "hands", "splits", "position"] ["self", "need", "hands", "splits"] (defScope sAtL) := ⟨rfl, rfl, rfl, by decide +kernel, rfl, by decide +kernel, by decide +kernel⟩
theorem ok_at0 {f C : Addr} {fd : FuncData} (F : Fun K "at_lead" "Search.at_lead" sAtL f fd) (T : TxF P w K mg base) : FnOk P w K mg base CX0 3 f fd ["self", "need", "hands", "splits"] (spAt P w K C 0) := by
  obtain ⟨fW, fdW, mW, FW, bW, GW⟩ := T.way
  refine F.ok scAtL (fun vs H Q E h => ?_) (fun cdv A outer s H vs Q E hr h => ?_)
  · obtain ⟨self, d, c, kvs, need, hp, sp, a, b, l, rfl, _⟩ := h
    rfl
  · obtain ⟨self, d, c, kvs, need, hp, sp, a, b, l, rfl, hS, hP, hL, hO, htl, hbud, k⟩ := h
    have nd := scAtL.nd
    have r1 : Room 1 _ := hr.mono (by omega)
    have hlen := T.n.len
    refine ⟨_, pss_cons (ps_if (pt_cmpR op_eq (pv 1) pe_int (nomark _)) (pss_one (ps_ret (pe_call GW r1 rfl mW FW.kp bW .nil pass0 (pa_cons (pv 3) pa_nil)))) pss_nil)
      (pss_cons (ps_if (pt_cmpR op_gt (pv 1) (pe_callB (call_max2 rfl) (by rfl) T.n.max boot_max5 (pa_cons (pe_callB call_len_seq (by rfl) hlen PySem.boot_len (pa_cons (pe_ix ix_tup (pv 2) pe_int (fun _ _ => rfl)) pa_nil)) (pa_cons (pe_callB call_len_seq (by rfl) hlen PySem.boot_len (pa_cons (pe_ix ix_tup (pv 2) pe_int (fun _ _ => rfl)) pa_nil)) pa_nil))) (nomark _)) (pss_one (ps_ret pe_int)) pss_nil)
      pss_never), ?_⟩
    obtain ⟨ra, rb, h0, h1, h2⟩ := hP
    refine ⟨_, rfl, rfl, _, rfl, ?_⟩
    refine ite2 (fun h => ?_) (fun h => ?_)
    · have e : need = 0 := by
        have := of_decide_eq_true h
        injection this with this
        omega
      subst e
      refine ⟨_, rfl, sp, l, rfl, .inl hL, hO.len, fun H' sH => ?_⟩
      rw [← Mt.bst_zero c a b l]
      exact k H' kvs (fun b' o e _ => sH _ _ e) (hS.same sH) (Nat.le_add_right _ _)
    · have hn : need ≠ 0 := fun e => h (decide_eq_true (by rw [e]; rfl))
      refine ⟨_, rfl, _, rfl, hp, _, _, _, rfl, rfl, h0, rfl, ra, _, rfl, .inr h1, _, rfl, hp, _, _, _, rfl, rfl, h0, rfl, rb, _, rfl, .inr h2, _, _, rfl, ?_⟩
      rw [max_iv]
      refine ⟨_, _, rfl, rfl, _, rfl, ?_⟩
      have htl' : max a.length b.length = 0 := by unfold Vbbrak.tricksLeft at htl; omega
      refine ite2 (fun h => ?_) (fun h => ?_)
      · have e : Mt.bst c a b l need = 0 := Mt.bst_big c 0 a b l need htl (by unfold Vbbrak.tricksLeft; omega)
        rw [e] at k
        exact k H kvs (But.refl _ _) hS (Nat.le_add_right _ _)
      · refine absurd (decide_eq_true ?_) h
        rw [List.length_map, List.length_map]
        show ((max a.length b.length : Nat) : Int) < (need : Int)
        omega
theorem ok_atn {f fB C : Addr} {fd fdB : FuncData} {n : Nat} (F : Fun K "at_lead" "Search.at_lead" sAtL f fd) (T : TxF P w K mg base) (S : TxS K mg C) (mB : Meth K C "best_lead" fB) (bB : Binds K fdB ["self", "need", "hands", "splits"] [])
    (GB : FnOk P w K mg base CX0 (5 * n + 7) fB fdB ["self", "need", "hands", "splits"] (spBest P w K C n)) : FnOk P w K mg base CX0 (5 * n + 8) f fd ["self", "need", "hands", "splits"] (spAt P w K C (n + 1)) := by
  obtain ⟨fW, fdW, mW, FW, bW, GW⟩ := T.way
  refine F.ok scAtL (fun vs H Q E h => ?_) (fun cdv A outer s H vs Q E hr h => ?_)
  · obtain ⟨self, d, c, kvs, need, hp, sp, a, b, l, rfl, _⟩ := h
    rfl
  · obtain ⟨self, d, c, kvs, need, hp, sp, a, b, l, rfl, hS, hP, hL, hO, htl, hbud, k⟩ := h
    have nd := scAtL.nd
    have r1 : Room 1 _ := hr.mono (by omega)
    have hlen := T.n.len
    have hu : (cxOf CX0 P w K mg base ["self", "need", "hands", "splits", "position"] "Search.at_lead" (defScope sAtL) f cdv A outer s H E).nox.A.units + 16 < cLine := by
      have := hr.un
      show (A.deeper _).units + 16 < cLine
      omega
    refine ⟨_, pss_cons (ps_if (pt_cmpR op_eq (pv 1) pe_int (nomark _)) (pss_one (ps_ret (pe_call GW r1 rfl mW FW.kp bW .nil pass0 (pa_cons (pv 3) pa_nil)))) pss_nil)
      (pss_cons (ps_if (pt_cmpR op_gt (pv 1) (pe_callB (call_max2 rfl) (by rfl) T.n.max boot_max5 (pa_cons (pe_callB call_len_seq (by rfl) hlen PySem.boot_len (pa_cons (pe_ix ix_tup (pv 2) pe_int (fun _ _ => rfl)) pa_nil)) (pa_cons (pe_callB call_len_seq (by rfl) hlen PySem.boot_len (pa_cons (pe_ix ix_tup (pv 2) pe_int (fun _ _ => rfl)) pa_nil)) pa_nil))) (nomark _)) (pss_one (ps_ret pe_int)) pss_nil)
      (pss_cons (ps_set (i := 4) nd rfl (Or.inl rfl) (pe_tup (pa_cons (pv 1) (pa_cons (pv 2) (pa_cons (pv 3) pa_nil)))))
      (pss_cons (ps_if (pt_cmp (pc_nnotin hu (pv 4) (pe_fld (pv 0) rfl))) (pss_one (ps_nput hu (pe_fld (pv 0) rfl) (pv 4) (pe_meth (pv 0) S.cl mB GB hr bB .nil pass0 (pa_cons (pv 1) (pa_cons (pv 2) (pa_cons (pv 3) pa_nil)))) rfl)) pss_nil)
      (pss_one (ps_ret (pe_nget hu (pe_fld (pv 0) rfl) (pv 4) (fun _ _ => rfl))))))), ?_⟩
    obtain ⟨ra, rb, h0, h1, h2⟩ := id hP
    refine ⟨_, rfl, rfl, _, rfl, ?_⟩
    refine ite2 (fun h => ?_) (fun h => ?_)
    · have e : need = 0 := by
        have := of_decide_eq_true h
        injection this with this
        omega
      subst e
      refine ⟨_, rfl, sp, l, rfl, .inl hL, hO.len, fun H' sH => ?_⟩
      rw [← Mt.bst_zero c a b l]
      exact k H' kvs (fun b' o e _ => sH _ _ e) (hS.same sH) (Nat.le_add_right _ _)
    · have hn : need ≠ 0 := fun e => h (decide_eq_true (by rw [e]; rfl))
      refine ⟨_, rfl, _, rfl, hp, _, _, _, rfl, rfl, h0, rfl, ra, _, rfl, .inr h1, _, rfl, hp, _, _, _, rfl, rfl, h0, rfl, rb, _, rfl, .inr h2, _, _, rfl, ?_⟩
      rw [max_iv]
      refine ⟨_, _, rfl, rfl, _, rfl, ?_⟩
      refine ite2 (fun h => ?_) (fun h => ?_)
      · have hlt : max a.length b.length < need := by
          have := of_decide_eq_true h
          rw [List.length_map, List.length_map] at this
          omega
        have e : Mt.bst c a b l need = 0 := Mt.bst_big c _ a b l need (Nat.le_refl _) (by unfold Vbbrak.tricksLeft; omega)
        rw [e] at k
        exact k H kvs (But.refl _ _) hS (Nat.le_add_right _ _)
      · refine ⟨_, rfl, _, rfl, _, rfl, by show 3 ≤ sizeLine; decide, fun pos hpos => ?_⟩
        have s1 : Same H (upd H pos (.tup [iv need, .ref hp, .ref sp])) := Same.new hpos
        have hS1 := hS.same s1
        obtain ⟨dx, hob⟩ := hS1.ob
        have hkey : TrV K (upd H pos (.tup [iv need, .ref hp, .ref sp])) 8 (trKey need a b l) (.ref pos) := trV_key upd_same (hP.kt s1.kt) (hL.kt s1.kt)
        have fin : ∀ (H' : Hp) (kv' : List (Tk.Tr × Int)) (v : Int), But d H H' → KT (upd H pos (.tup [iv need, .ref hp, .ref sp])) H' → SrAt P w K C H' self d c kv' → kv'.length ≤ kvs.length + Mt.B (n + 1) * l.length → valN kv' (trKey need a b l) = some v →
            tRet (tNGet P w K (tFld K (tVar 0) "known") (tVar 4)) { nx := fun _ H' => Q .non H', rt := Q } [some (.ref self), some (iv need), some (.ref hp), some (.ref sp), some (.ref pos)] H' := by
          intro H' kv' v b1 kt S' hl hv
          obtain ⟨dx', hob'⟩ := S'.ob
          refine ⟨_, rfl, self, C, dx', _, _, rfl, hob', S.cl, S.nK, sf_known _ _, _, rfl, d, kv', trKey need a b l, pos, v, rfl, rfl, S'.dn, TrV.mono (fun _ _ q => kt.sq q) 8 _ _ hkey, hv, ?_⟩
          have ev := S'.val hv
          rw [ev]
          exact k H' kv' b1 S' hl
        refine ⟨_, rfl, _, rfl, self, C, dx, _, _, rfl, hob, S.cl, S.nK, sf_known _ _, d, kvs, trKey need a b l, pos, rfl, rfl, hS1.dn, hkey, _, rfl, ?_⟩
        have hBn : Mt.B (n + 1) * l.length = l.length + cB n * l.length := by
          show (1 + 2 * (n + 1) * ((n + 1) * Mt.B n)) * l.length = _
          rw [Nat.add_mul, Nat.one_mul]
          rfl
        have hl1 : 1 ≤ l.length := by
          have := hO.ne
          cases l with
          | nil => exact absurd rfl this
          | cons _ _ => exact Nat.succ_le_succ (Nat.zero_le _)
        cases hv : valN kvs (trKey need a b l) with
        | some v =>
          refine iteF ?_
          exact fin _ kvs v (fun b' o e _ => s1 _ _ e) (KT.refl _) hS1 (Nat.le_add_right _ _) hv
        | none =>
          refine iteT ?_
          refine ⟨_, rfl, self, dx, _, rfl, hob, sf_no _ _ (by decide +kernel) (by decide +kernel), _, rfl, _, rfl, _, rfl, ?_⟩
          refine ⟨self, d, c, kvs, need, hp, sp, a, b, l, rfl, hS1, hP.kt s1.kt, hL.kt s1.kt, hO, htl, by omega, fun H' kv' b1 S' hlen' => ?_⟩
          obtain ⟨dx', hob'⟩ := S'.ob
          have kt1 := hS1.kt b1
          have hkey' : TrV K H' 8 (trKey need a b l) (.ref pos) := TrV.mono (fun _ _ q => kt1.sq q) 8 _ _ hkey
          refine ⟨_, rfl, self, C, dx', _, _, rfl, hob', S.cl, S.nK, sf_known _ _, _, rfl, d, kv', trKey need a b l, pos, _, rfl, rfl, rfl, S'.dn, by omega, hkey', fun o hDN => ?_⟩
          rw [← Mt.bst_eq c a b l need hn] at hDN
          have hpl := putN_length kv' (trKey need a b l) ((Mt.bst c a b l need : Nat) : Int)
          obtain ⟨u, hu', mu⟩ := DN.mut S'.dn
          have nsd : self ≠ d := by
            rintro rfl
            rw [hob'] at hu'
            cases hu'
            obtain ⟨_, _, xs, e, _⟩ := S'.dn
            rw [hob'] at e
            cases e
          refine fin _ (putN kv' (trKey need a b l) ((Mt.bst c a b l need : Nat) : Int)) _ (fun b' o' e nb => ?_) (kt1.trans (kt_mut hu' mu)) ⟨⟨dx', by rw [upd_ne nsd]; exact hob'⟩, hDN, fun e he => ?_⟩ (by omega) (valN_putN _ _ _)
          · rw [upd_ne nb]
            exact b1 b' o' (s1 _ _ e) nb
          · rcases mem_putN he with rfl | he
            · exact ⟨need, a, b, l, rfl, rfl⟩
            · exact S'.good e he
end
end On
set_option maxRecDepth 100000
set_option maxHeartbeats 4000000
namespace L2
open PySem PySem.Spec PyProof.Rows
theorem putF_zip {f : Str} {v : V} : ∀ {ns : List Str} {vs : List V} {i : Nat}, ns.Nodup → ns[i]? = some f → vs.length = ns.length → putF f v (ns.zip vs) = ns.zip (vs.set i v)
  | [], _, _, _, h, _ => by simp at h
  | _ :: _, [], _, _, _, h => by simp at h
  | n :: ns, u :: vs, 0, _, h, _ => by
    have e : n = f := by simpa using h
    show (if n = f then (n, v) :: ns.zip vs else (n, u) :: putF f v (ns.zip vs)) = (n, v) :: ns.zip vs
    rw [if_pos e]
  | n :: ns, u :: vs, i + 1, hn, h, hl => by
    have hn' := List.nodup_cons.mp hn
    have h' : ns[i]? = some f := by simpa using h
    have e : ¬ n = f := fun e => hn'.1 (e ▸ List.mem_of_getElem? h')
    show (if n = f then (n, v) :: ns.zip vs else (n, u) :: putF f v (ns.zip vs)) = (n, u) :: ns.zip (vs.set i v)
    rw [if_neg e, putF_zip hn'.2 h' (by simpa using hl)]
theorem look_zip {f : Str} {v : V} : ∀ {ns : List Str} {vs : List V} {i : Nat}, ns.Nodup → ns[i]? = some f → vs[i]? = some v → (ns.zip vs).lookup f = some v
  | [], _, _, _, h, _ => by simp at h
  | _ :: _, [], _, _, _, h => by simp at h
  | n :: ns, u :: vs, 0, _, h, hv => by
    have e : n = f := by simpa using h
    have e2 : u = v := by simpa using hv
    subst e e2
    simp [List.lookup]
  | n :: ns, u :: vs, i + 1, hn, h, hv => by
    have hn' := List.nodup_cons.mp hn
    have h' : ns[i]? = some f := by simpa using h
    have e : (f == n) = false := beq_eq_false_iff_ne.mpr fun e => hn'.1 (e ▸ List.mem_of_getElem? h')
    show List.lookup f ((n, u) :: ns.zip vs) = some v
    rw [List.lookup, e]
    exact look_zip hn'.2 h' (by simpa using hv)
theorem look_none {f : Str} : ∀ {ns : List Str} {vs : List V}, f ∉ ns → (ns.zip vs).lookup f = none
  | [], _, _ => rfl
  | _ :: _, [], _ => rfl
  | n :: ns, u :: vs, h => by
    have e : (f == n) = false := beq_eq_false_iff_ne.mpr fun e => h (by simp [e])
    show List.lookup f ((n, u) :: ns.zip vs) = none
    rw [List.lookup, e]
    exact look_none fun h' => h (by simp [h'])
theorem zip_len {ns : List Str} {vs : List V} (h : vs.length = ns.length) : (ns.zip vs).length = ns.length := by rw [List.length_zip]; omega
end L2
namespace On
open PySem PySem.Spec PyProof.Rows L2
section
variable {P : Program} {w : World} {K : PySem.W.Frag} {mg : Str → Option Value} {base : Heap}
structure TxM (K : PySem.W.Frag) (C : Addr) (fA fB fL f2 f3 : Addr) (dA dB dL d2 d3 : FuncData) : Prop where
  FA : Fun K "at_lead" "Search.at_lead" sAtL fA dA
  FB : Fun K "best_lead" "Search.best_lead" sBest fB dB
  FL : Fun K "after_lead" "Search.after_lead" sAfL fL dL
  F2 : Fun K "after_second" "Search.after_second" sAf2 f2 d2
  F3 : Fun K "after_third" "Search.after_third" sAf3 f3 d3
  mA : Meth K C "at_lead" fA
  mB : Meth K C "best_lead" fB
  mL : Meth K C "after_lead" fL
  m2 : Meth K C "after_second" f2
  m3 : Meth K C "after_third" f3
theorem TxM.bA {C fA fB fL f2 f3 : Addr} {dA dB dL d2 d3 : FuncData} (M : TxM K C fA fB fL f2 f3 dA dB dL d2 d3) : Binds K dA ["self", "need", "hands", "splits"] [] := M.FA.binds fun _ _ _ _ _ _ us hl => match us, hl with | [_, _, _, _], _ => rfl
theorem TxM.bB {C fA fB fL f2 f3 : Addr} {dA dB dL d2 d3 : FuncData} (M : TxM K C fA fB fL f2 f3 dA dB dL d2 d3) : Binds K dB ["self", "need", "hands", "splits"] [] := M.FB.binds fun _ _ _ _ _ _ us hl => match us, hl with | [_, _, _, _], _ => rfl
theorem TxM.bL {C fA fB fL f2 f3 : Addr} {dA dB dL d2 d3 : FuncData} (M : TxM K C fA fB fL f2 f3 dA dB dL d2 d3) : Binds K dL ["self", "need", "hands", "splits", "leader", "led"] [] := M.FL.binds fun _ _ _ _ _ _ us hl => match us, hl with | [_, _, _, _, _, _], _ => rfl
theorem TxM.b2 {C fA fB fL f2 f3 : Addr} {dA dB dL d2 d3 : FuncData} (M : TxM K C fA fB fL f2 f3 dA dB dL d2 d3) : Binds K d2 ["self", "need", "hands", "splits", "leader", "led", "second"] [] := M.F2.binds fun _ _ _ _ _ _ us hl => match us, hl with | [_, _, _, _, _, _, _], _ => rfl
theorem TxM.b3 {C fA fB fL f2 f3 : Addr} {dA dB dL d2 d3 : FuncData} (M : TxM K C fA fB fL f2 f3 dA dB dL d2 d3) : Binds K d3 ["self", "need", "hands", "splits", "leader", "led", "second", "third"] [] := M.F3.binds fun _ _ _ _ _ _ us hl => match us, hl with | [_, _, _, _, _, _, _, _], _ => rfl
theorem search_at {C fA fB fL f2 f3 : Addr} {dA dB dL d2 d3 : FuncData} (M : TxM K C fA fB fL f2 f3 dA dB dL d2 d3) (T : TxF P w K mg base) (S : TxS K mg C) : ∀ n, FnOk P w K mg base CX0 (5 * n + 3) fA dA ["self", "need", "hands", "splits"] (spAt P w K C n)
  | 0 => ok_at0 M.FA T
  | n + 1 => by
    have G3 := ok_af3 M.F3 T S M.mA M.bA (search_at M T S n)
    have G2 := ok_af2 M.F2 T S M.m3 M.b3 G3
    have GL := ok_afl M.FL T S M.m2 M.b2 G2
    have GB := ok_best M.FB T S M.mL M.bL GL
    exact ok_atn M.FA T S M.mB M.bB GB
theorem search_3 {C fA fB fL f2 f3 : Addr} {dA dB dL d2 d3 : FuncData} (M : TxM K C fA fB fL f2 f3 dA dB dL d2 d3) (T : TxF P w K mg base) (S : TxS K mg C) (n : Nat) : FnOk P w K mg base CX0 (5 * n + 4) f3 d3 ["self", "need", "hands", "splits", "leader", "led", "second", "third"] (spAf3 P w K C n) :=
  ok_af3 M.F3 T S M.mA M.bA (search_at M T S n)
theorem search_2 {C fA fB fL f2 f3 : Addr} {dA dB dL d2 d3 : FuncData} (M : TxM K C fA fB fL f2 f3 dA dB dL d2 d3) (T : TxF P w K mg base) (S : TxS K mg C) (n : Nat) : FnOk P w K mg base CX0 (5 * n + 5) f2 d2 ["self", "need", "hands", "splits", "leader", "led", "second"] (spAf2 P w K C n) :=
  ok_af2 M.F2 T S M.m3 M.b3 (search_3 M T S n)
theorem search_L {C fA fB fL f2 f3 : Addr} {dA dB dL d2 d3 : FuncData} (M : TxM K C fA fB fL f2 f3 dA dB dL d2 d3) (T : TxF P w K mg base) (S : TxS K mg C) (n : Nat) : FnOk P w K mg base CX0 (5 * n + 6) fL dL ["self", "need", "hands", "splits", "leader", "led"] (spAfL P w K C n) :=
  ok_afl M.FL T S M.m2 M.b2 (search_2 M T S n)
end
end On
set_option maxRecDepth 100000
set_option maxHeartbeats 4000000
namespace On
open PySem PySem.Spec PyProof.Rows L2
abbrev sRow : Stmt := top 45
abbrev sIsS : Stmt := top 46
abbrev sIsP : Stmt := top 47
abbrev sPla : Stmt := top 48
abbrev sRef : Stmt := top 49
abbrev sTG : Stmt := top 50
abbrev sTH : Stmt := top 51
def Cst (mg : Str → Option Value) (x : Str) (i : Int) : Prop := ∃ t, mg x = some (.int i t)
structure Consts (mg : Str → Option Value) : Prop where
  ace : Cst mg "ACE" 13
  mneed : Cst mg "MOST_NEED" 4
  mcards : Cst mg "MOST_CARDS" 13
  mhand : Cst mg "MOST_IN_HAND" 4
  mours : Cst mg "MOST_OURS" 7
  mmiss : Cst mg "MOST_MISSING" 5
  twice : Cst mg "TOLD_TWICE" (-3)
  tours : Cst mg "TOO_MANY_OURS" (-4)
  tmiss : Cst mg "TOO_MANY_MISSING" (-5)
  out : Cst mg "OUT_OF_RANGE" (-1)
  notnow : Cst mg "NOT_NOW" (-2)
  nosuch : Cst mg "NO_SUCH_CARD" (-6)
  turn0 : Cst mg "NO_TURN" 0
  turn1 : Cst mg "LEAD_TURN" 1
  turn2 : Cst mg "SECOND_TURN" 2
  turn3 : Cst mg "THIRD_TURN" 3
  turn4 : Cst mg "LAST_TURN" 4
  msteps : Cst mg "MOST_STEPS" 4
  step : Cst mg "STEP" 3
section
variable {P : Program} {w : World} {K : PySem.W.Frag} {mg : Str → Option Value} {base : Heap}
theorem boot_all5 : bootBuiltins "all" = some (.builtin "all") := by decide +kernel
theorem boot_list5 : bootBuiltins "list" = some (.type "list") := by decide +kernel
def spRow (K : PySem.W.Frag) : Sp := fun vs H Q _ => ∃ (a : Addr) (ns : List Int) (most : Nat), vs = [.ref a, iv most] ∧ SqL K H a (ns.map V.int) ∧ ns.length ≤ 1000 ∧ ∀ H', Same H H' → Q (.bl (Vbbrak.isCards ns most)) H'
theorem scRow : FnScope ["row", "most", "card"] ["row", "most"] (defScope sRow) := ⟨rfl, rfl, rfl, by decide +kernel, rfl, by decide +kernel, by decide +kernel⟩
def in13 : V → V
  | .int z => .bl (Vbbrak.within z 1 13)
  | v => v
theorem ok_row {f : Addr} {fd : FuncData} (F : Fun K "is_row" "is_row" sRow f fd) (T : Names mg) (Cs : Consts mg) : FnOk P w K mg base CX0 1 f fd ["row", "most"] (spRow K) := by
  refine F.ok scRow (fun vs H Q E h => ?_) (fun cdv A outer s H vs Q E hr h => ?_)
  · obtain ⟨a, ns, most, rfl, _⟩ := h
    rfl
  · obtain ⟨a, ns, most, rfl, hL, hl, k⟩ := h
    obtain ⟨ta, ha⟩ := Cs.ace
    refine ⟨_, pss_one (ps_ret (pe_and (pe_cmpR op_le (pe_callB call_len_seq (by rfl) T.len PySem.boot_len (pa_cons (pv 0) pa_nil)) (pv 1) (nomark _)) (pe_one (pe_callB (cr_all rfl) (by rfl) T.all boot_all5 (pa_cons (pe_lc (own := [("card", 2)]) rfl scRow.nd (pi_list (pv 0)) (blkOk_by (show blkC ["row", "most", "card"] (defScope sRow) _ [("card", 2)] = true by decide +kernel))
        (fun _ _ _ _ _ => pg_name (i := 2) scRow.nd rfl (Or.inl rfl)) (fun _ _ _ _ _ => pts_nil) (fun _ _ _ _ _ => pe_chain (r := rI0 fun i j => .bl (decide (i ≤ j))) (r' := rI0 fun i j => .bl (decide (i ≤ j))) op_le op_le pe_int (pv 2) (pe_glob (v := .int 13) (by rfl) ha ⟨ta, rfl⟩))) pa_nil))))), ?_⟩
    refine ⟨_, rfl, a, _, rfl, .inl hL, _, rfl, _, _, rfl, rfl, _, rfl, ?_⟩
    refine ite2 (fun h => ?_) (fun h => ?_)
    · have h1 : ns.length ≤ most := by
        have := of_decide_eq_true h
        rw [List.length_map] at this
        omega
      refine ⟨_, rfl, a, rfl, ⟨_, hL⟩, fun D hD => lc_mapL (ys := (ns.map fun z => Vbbrak.within z 1 13).map V.bl) hL hD (by rw [List.length_map]; exact small1000' hl) (by simp) (fun i x y hx hy H' R hS hR => ?_) ?_⟩
      · obtain ⟨z, hz, rfl⟩ := get_map hx
        obtain ⟨b, hb, rfl⟩ := get_map hy
        obtain ⟨z', hz', rfl⟩ := get_map hb
        have : z' = z := Option.some.inj (hz'.symm.trans hz)
        subst this
        refine ⟨rfl, _, rfl, _, _, rfl, rfl, _, rfl, ?_⟩
        unfold Vbbrak.within at hR
        by_cases h1 : (1 : Int) ≤ z'
        · rw [decide_eq_true h1] at hR ⊢
          exact iteT ⟨_, _, rfl, rfl, hR⟩
        · rw [decide_eq_false h1] at hR ⊢
          exact iteF hR
      · refine ⟨D, _, rfl, SqL.of upd_same, ?_⟩
        have e : (ns.map fun z => Vbbrak.within z 1 13).all id = ns.all fun z => Vbbrak.within z 1 13 := by rw [List.all_map]; rfl
        have := k _ (Same.new (o := .lst ((ns.map fun z => Vbbrak.within z 1 13).map V.bl)) hD)
        unfold Vbbrak.isCards at this
        rw [decide_eq_true h1, Bool.true_and] at this
        rw [e]
        exact this
    · have h1 : ¬ ns.length ≤ most := fun z => h (decide_eq_true (by show ((ns.map V.int).length : Int) ≤ (most : Int); rw [List.length_map]; omega))
      have := k H (Same.refl H)
      unfold Vbbrak.isCards at this
      rw [decide_eq_false h1, Bool.false_and] at this
      exact this
def spTH (K : PySem.W.Frag) : Sp := fun vs H Q _ => ∃ (p : Addr) (a b : List Nat), vs = [.ref p] ∧ Pr K H p a b ∧ a.length < 64 ∧ b.length < 64 ∧
  ∀ (r : Addr) (H' : Hp), Same H H' → H r = none → H' r = some (.lst ((((a.length : Nat) : Int) :: Vbbrak.ints a ++ (((b.length : Nat) : Int) :: Vbbrak.ints b)).map V.int)) → Q (.ref r) H'
theorem scTH : FnScope ["pair"] ["pair"] (defScope sTH) := ⟨rfl, rfl, rfl, by decide +kernel, rfl, by decide +kernel, by decide +kernel⟩
theorem ok_th {f : Addr} {fd : FuncData} (F : Fun K "told_hands" "told_hands" sTH f fd) (T : Names mg) : FnOk P w K mg base CX0 1 f fd ["pair"] (spTH K) := by
  refine F.ok scTH (fun vs H Q E h => ?_) (fun cdv A outer s H vs Q E hr h => ?_)
  · obtain ⟨p, a, b, rfl, _⟩ := h
    rfl
  · obtain ⟨p, a, b, rfl, ⟨ra, rb, h0, h1, h2⟩, la, lb, k⟩ := h
    have hlen := T.len
    have e16 : sizeLine = 16777216 := sizeLine_eq
    refine ⟨_, pss_one (ps_ret (pe_op op_cat (pe_op op_cat (pe_op op_cat
      (pe_lst (pa_cons (pe_callB call_len_seq (by rfl) hlen PySem.boot_len (pa_cons (pe_ix ix_tup (pv 0) pe_int (fun _ _ => rfl)) pa_nil)) pa_nil))
      (pe_callTy call_list_of (by rfl) T.list boot_list5 (pa_cons (pe_ix ix_tup (pv 0) pe_int (fun _ _ => rfl)) pa_nil)))
      (pe_lst (pa_cons (pe_callB call_len_seq (by rfl) hlen PySem.boot_len (pa_cons (pe_ix ix_tup (pv 0) pe_int (fun _ _ => rfl)) pa_nil)) pa_nil)))
      (pe_callTy call_list_of (by rfl) T.list boot_list5 (pa_cons (pe_ix ix_tup (pv 0) pe_int (fun _ _ => rfl)) pa_nil)))), ?_⟩
    refine ⟨_, rfl, p, _, _, _, rfl, rfl, h0, rfl, ra, _, rfl, .inr h1, by show 1 ≤ sizeLine; omega, fun l1 n1 => ?_⟩
    have s1 := Same.new (o := .lst [V.int ((a.map iv).length : Int)]) n1
    refine ⟨_, rfl, p, _, _, _, rfl, rfl, s1.kt.sq h0, rfl, ra, _, rfl, .inr (s1.kt.sq h1), fun l2 n2 => ?_⟩
    have s2 := s1.trans (Same.new (o := .lst (a.map iv)) n2)
    refine ⟨l1, l2, _, _, rfl, rfl, Same.new n2 _ _ upd_same, upd_same, by show 1 + (a.map iv).length ≤ sizeLine; rw [List.length_map]; omega, fun l3 n3 => ?_⟩
    have s3 := s2.trans (Same.new (o := .lst ([V.int ((a.map iv).length : Int)] ++ a.map iv)) n3)
    refine ⟨_, rfl, p, _, _, _, rfl, rfl, s3.kt.sq h0, rfl, rb, _, rfl, .inr (s3.kt.sq h2), by show 1 ≤ sizeLine; omega, fun l4 n4 => ?_⟩
    have s4 := s3.trans (Same.new (o := .lst [V.int ((b.map iv).length : Int)]) n4)
    refine ⟨l3, l4, _, _, rfl, rfl, Same.new n4 _ _ upd_same, upd_same, by rw [List.length_append, List.length_map]; show (1 + a.length) + 1 ≤ sizeLine; omega, fun l5 n5 => ?_⟩
    have s5 := s4.trans (Same.new (o := .lst (([V.int ((a.map iv).length : Int)] ++ a.map iv) ++ [V.int ((b.map iv).length : Int)])) n5)
    refine ⟨_, rfl, p, _, _, _, rfl, rfl, s5.kt.sq h0, rfl, rb, _, rfl, .inr (s5.kt.sq h2), fun l6 n6 => ?_⟩
    have s6 := s5.trans (Same.new (o := .lst (b.map iv)) n6)
    refine ⟨l5, l6, _, _, rfl, rfl, Same.new n6 _ _ upd_same, upd_same, by rw [List.length_append, List.length_append, List.length_map, List.length_map]; show (1 + a.length) + 1 + b.length ≤ sizeLine; omega, fun l7 n7 => ?_⟩
    refine k l7 _ (s6.trans (Same.new n7)) (s6.free n7) ?_
    rw [upd_same]
    congr 2
    rw [List.length_map, List.length_map]
    show _ = V.int _ :: (Vbbrak.ints a ++ (_ :: Vbbrak.ints b)).map V.int
    rw [List.map_append, List.map_cons]
    have ei : ∀ l : List Nat, (Vbbrak.ints l).map V.int = l.map iv := fun l => by unfold Vbbrak.ints; rw [List.map_map]; rfl
    rw [ei, ei]
    simp
def spTG (K : PySem.W.Frag) : Sp := fun vs H Q _ => ∃ (d : Addr) (H0 : Hp) (f : Vbbrak.Split → Nat) (l : List Vbbrak.Split) (kvs : List (Key × V)), vs = [.ref d] ∧ Grp K H0 H d (Mt.groups f l) kvs ∧ l.length < 64 ∧
  ∀ (r : Addr) (H' : Hp), Same H H' → H r = none → H' r = some (.lst ((Vbbrak.told ((Vbbrak.seen f l).map fun y => (y, Vbbrak.weight (Vbbrak.with_ f l y)))).map V.int)) → Q (.ref r) H'
theorem scTG : FnScope ["groups", "told", "card"] ["groups"] (defScope sTG) := ⟨rfl, rfl, rfl, by decide +kernel, rfl, by decide +kernel, by decide +kernel⟩
theorem told_snoc (l : List (Nat × Nat)) (p : Nat × Nat) : Vbbrak.told (l ++ [p]) = Vbbrak.told l ++ [((p.1 : Nat) : Int), ((p.2 : Nat) : Int)] := by
  unfold Vbbrak.told
  rw [List.flatMap_append]
  rfl
theorem told_len (l : List (Nat × Nat)) : (Vbbrak.told l).length = 2 * l.length := by
  induction l with
  | nil => rfl
  | cons a l ih =>
    show (_ :: _ :: Vbbrak.told l).length = _
    simp only [List.length_cons, ih]
    omega
theorem ok_tg {f fF fW : Addr} {fd fdF fdW : FuncData} (F : Fun K "told_groups" "told_groups" sTG f fd) (T : Names mg) (mF : mg "falling" = some (.ref fF)) (FF : Fun K "falling" "falling" sFal fF fdF) (bF : Binds K fdF ["cards"] [])
    (mW : mg "ways_of" = some (.ref fW)) (FW : Fun K "ways_of" "ways_of" sWay fW fdW) (bW : Binds K fdW ["splits"] []) : FnOk P w K mg base CX0 2 f fd ["groups"] (spTG K) := by
  have GF : FnOk P w K mg base CX0 1 fF fdF ["cards"] (spFal K) := ok_fal FF T
  have GW : FnOk P w K mg base CX0 1 fW fdW ["splits"] (spWay K) := ok_way FW T
  refine F.ok scTG (fun vs H Q E h => ?_) (fun cdv A outer s H vs Q E hr h => ?_)
  · obtain ⟨d, H0, f', l, kvs, rfl, _⟩ := h
    rfl
  · obtain ⟨d, H0, g, l, kvs, rfl, G, h64, k⟩ := h
    have nd := scTG.nd
    have e16 : sizeLine = 16777216 := sizeLine_eq
    have hu : (cxOf CX0 P w K mg base ["groups", "told", "card"] "told_groups" (defScope sTG) f cdv A outer s H E).nox.A.units + 1 < cLine := by
      have := hr.un
      show (A.deeper _).units + 1 < cLine
      omega
    refine ⟨_, pss_cons (ps_set (i := 1) nd rfl (Or.inl rfl) (pe_lst pa_nil))
      (pss_cons (ps_for PassesOwn.never rfl (pi_tup (pe_call GF hr rfl mF FF.kp bF .nil pass0 (pa_cons (pv 0) pa_nil))) (pg_name (i := 2) nd rfl (Or.inl rfl))
        (pss_cons (ps_expr (pe_bm PySem.F.plainAttrs_list PySem.F.slot_list_append PySem.F.type_list_append mt_append (pv 1) (pa_cons (pv 2) pa_nil)))
        (pss_one (ps_expr (pe_bm PySem.F.plainAttrs_list PySem.F.slot_list_append PySem.F.type_list_append mt_append (pv 1) (pa_cons (pe_call GW hr rfl mW FW.kp bW .nil pass0 (pa_cons (pe_dget hu (pv 0) (pv 2) (fun _ _ => rfl)) pa_nil)) pa_nil))))))
      (pss_one (ps_ret (pv 1)))), ?_⟩
    have hkeys := keys_of G.ent
    have hfl : (Mt.firsts g l).length < 64 := Nat.lt_of_le_of_lt (firsts_len g l) h64
    refine ⟨Nat.zero_le _, fun tl htl => ?_⟩
    have s1 : Same H (upd H tl (.lst [])) := Same.new htl
    have ntd : tl ≠ d := (ne_of_none G.dict htl).symm
    refine ⟨_, rfl, d, Mt.firsts g l, rfl, .inr ⟨kvs, .inl (s1 _ _ G.dict), hkeys⟩, Mt.nodup_firsts g l, hfl, fun tf Hf sf htf => ⟨tf, rfl, ⟨_, SqT.of htf⟩, ?_⟩⟩
    rw [Mt.falling_firsts] at htf
    have htlf : Hf tl = some (.lst []) := sf _ _ upd_same
    have hsl : (Vbbrak.seen g l).length < 64 := by
      rw [← (Mt.firsts_perm g l).length_eq]; exact hfl
    refine for_tup (K := K) (a := tf) (xs := (Vbbrak.seen g l).map iv) (fun i σ H' => ∃ v2 : Option V, σ = [some (.ref d), some (.ref tl), v2] ∧ But tl Hf H' ∧ H' tl = some (.lst ((Vbbrak.told (((Vbbrak.seen g l).take i).map fun y => (y, Vbbrak.weight (Vbbrak.with_ g l y)))).map V.int)))
      ⟨none, rfl, But.refl _ _, htlf⟩ (fun i σ H' _ ⟨_, _, b, _⟩ => (b.kt htlf True.intro).sq (SqT.of htf)) ?_ ?_
    · rintro i v σ H' hi ⟨v2, rfl, bt, ht⟩
      obtain ⟨y, hy, rfl⟩ := get_map hi
      have hym := List.mem_of_getElem? hy
      have hil := (List.getElem?_eq_some_iff.mp hy).1
      have hin : y ∈ Mt.firsts g l := (Mt.firsts_perm g l).mem_iff.mpr hym
      have tlen : ((Vbbrak.told (((Vbbrak.seen g l).take i).map fun y => (y, Vbbrak.weight (Vbbrak.with_ g l y)))).map V.int).length ≤ 200 := by
        rw [List.length_map, told_len, List.length_map, List.length_take]; omega
      refine ⟨_, rfl, .inl ⟨rfl, _, SqL.of ht⟩, _, rfl, tl, _, _, rfl, rfl, ht, by omega, ?_⟩
      have b2 : But tl Hf (upd H' tl (.lst ((Vbbrak.told (((Vbbrak.seen g l).take i).map fun y => (y, Vbbrak.weight (Vbbrak.with_ g l y)))).map V.int ++ [iv y]))) := bt.upd
      have hdict := b2 _ _ (sf _ _ (s1 _ _ G.dict)) ntd.symm
      -- groups[card]
      obtain ⟨v', hv'⟩ : ∃ v', valV kvs (Sum.inl (y : Int)) = some v' := by
        cases e : valV kvs (Sum.inl (y : Int)) with
        | some v' => exact ⟨v', rfl⟩
        | none =>
          have := val_none_iff.mp e
          rw [hkeys] at this
          exact absurd (List.mem_map.mpr ⟨y, hin, rfl⟩) this
      obtain ⟨gg, hgg, ek, ga, us, e2, _, g2, g3⟩ := paired_mem G.ent (val_mem hv')
      obtain ⟨y', hy', rfl⟩ := List.mem_map.mp hgg
      have eyy : y' = y := (key_inj ek).symm
      subst eyy
      have e2' : v' = .ref ga := e2
      subst e2'
      have nga : ga ≠ tl := ne_of_none g2 htl
      have ktG : KT H (upd H' tl (.lst ((Vbbrak.told (((Vbbrak.seen g l).take i).map fun y => (y, Vbbrak.weight (Vbbrak.with_ g l y)))).map V.int ++ [iv y']))) := (s1.trans sf).kt.trans (b2.kt htlf True.intro)
      have hsp : SpL K (upd H' tl (.lst ((Vbbrak.told (((Vbbrak.seen g l).take i).map fun y => (y, Vbbrak.weight (Vbbrak.with_ g l y)))).map V.int ++ [iv y']))) ga (Vbbrak.with_ g l y') :=
        ⟨us, SqL.of (b2 _ _ (sf _ _ (s1 _ _ g2)) nga), Tk.paired_mono (fun _ _ q => q.kt ktG) g3⟩
      have hwl : (Vbbrak.with_ g l y').length ≤ l.length := List.length_filter_le _ _
      refine ⟨_, rfl, .inl ⟨rfl, _, SqL.of upd_same⟩, _, rfl, _, rfl, d, _, rfl, .inl ⟨kvs, Sum.inl (y' : Int), .inl hdict, rfl, hv'.symm⟩, ?_⟩
      refine ⟨ga, _, rfl, .inr hsp, by omega, fun H5 s5 => ?_⟩
      refine ⟨tl, _, _, rfl, rfl, s5 _ _ upd_same, by rw [List.length_append]; show _ + 1 < sizeLine; omega, ?_⟩
      refine ⟨some (iv y'), rfl, (b2.same s5).upd, ?_⟩
      rw [upd_same, take_snoc' hy, List.map_append, List.map_cons, List.map_nil, told_snoc, List.map_append, List.append_assoc]
      rfl
    · rintro σ H' ⟨v2, rfl, bt, ht⟩
      rw [List.length_map, List.take_length] at ht
      refine ⟨_, rfl, k tl H' (fun b o e => bt b o (sf _ _ (s1 _ _ e)) (ne_of_none e htl)) htl ht⟩
end
end On
set_option maxRecDepth 100000
set_option maxHeartbeats 4000000
namespace On
open PySem PySem.Spec PyProof.Rows L2
section
variable {P : Program} {w : World} {K : PySem.W.Frag} {mg : Str → Option Value} {base : Heap}
theorem chain_var {σ : L2.St} {H : Hp} {Q : Bool → Hp → Prop} {i : Nat} {z lo hi : Int} (hσ : σ[i]? = some (some (.int z))) (h : Q (Vbbrak.within z lo hi) H) :
    tTest (tChain (rI0 fun i j => .bl (decide (i ≤ j))) (rI0 fun i j => .bl (decide (i ≤ j))) (tC (.int lo)) (tVar i) (tC (.int hi))) σ H Q := by
  refine ⟨_, hσ, _, _, rfl, rfl, _, rfl, ?_⟩
  unfold Vbbrak.within at h
  by_cases h1 : lo ≤ z
  · rw [decide_eq_true h1] at h ⊢
    exact iteT ⟨_, _, rfl, rfl, _, rfl, h⟩
  · rw [decide_eq_false h1] at h ⊢
    exact iteF ⟨_, rfl, h⟩
structure Rows3 (K : PySem.W.Frag) (H : Hp) (r : Addr) (a b m : List Int) : Prop where
  at_ : ∃ ra rb rm, H r = some (.lst [.ref ra, .ref rb, .ref rm]) ∧ H ra = some (.lst (a.map V.int)) ∧ H rb = some (.lst (b.map V.int)) ∧ H rm = some (.lst (m.map V.int))
theorem Rows3.same {H H' : Hp} (s : Same H H') {r : Addr} {a b m : List Int} (h : Rows3 K H r a b m) : Rows3 K H' r a b m := by
  obtain ⟨ra, rb, rm, h0, h1, h2, h3⟩ := h.at_
  exact ⟨ra, rb, rm, s _ _ h0, s _ _ h1, s _ _ h2, s _ _ h3⟩
def okSuit (n c p q : Int) (a b m : List Int) : Bool := Vbbrak.within n 0 4 && (Vbbrak.within c 0 1 && (Vbbrak.within p 0 13 && (Vbbrak.within q 0 13 && (Vbbrak.isCards a 4 && (Vbbrak.isCards b 4 && Vbbrak.isCards m 5)))))
def spIsS (K : PySem.W.Frag) : Sp := fun vs H Q _ => ∃ (n c p q : Int) (r : Addr) (a b m : List Int), vs = [.int n, .int c, .int p, .int q, .ref r] ∧ Rows3 K H r a b m ∧ a.length ≤ 1000 ∧ b.length ≤ 1000 ∧ m.length ≤ 1000 ∧ ∀ H', Same H H' → Q (.bl (okSuit n c p q a b m)) H'
theorem scIsS : FnScope ["need", "cover", "p", "q", "rows"] ["need", "cover", "p", "q", "rows"] (defScope sIsS) := ⟨rfl, rfl, rfl, by decide +kernel, rfl, by decide +kernel, by decide +kernel⟩
theorem ok_iss {f fR : Addr} {fd fdR : FuncData} (F : Fun K "is_suit" "is_suit" sIsS f fd) (T : Names mg) (Cs : Consts mg) (mR : mg "is_row" = some (.ref fR)) (FR : Fun K "is_row" "is_row" sRow fR fdR) (bR : Binds K fdR ["row", "most"] []) :
    FnOk P w K mg base CX0 2 f fd ["need", "cover", "p", "q", "rows"] (spIsS K) := by
  have GR : FnOk P w K mg base CX0 1 fR fdR ["row", "most"] (spRow K) := ok_row FR T Cs
  refine F.ok scIsS (fun vs H Q E h => ?_) (fun cdv A outer s H vs Q E hr h => ?_)
  · obtain ⟨n, c, p, q, r, a, b, m, rfl, _⟩ := h
    rfl
  · obtain ⟨n, c, p, q, r, a, b, m, rfl, hR, la, lb, lm, k⟩ := h
    obtain ⟨t1, c1⟩ := Cs.mneed
    obtain ⟨t2, c2⟩ := Cs.mcards
    obtain ⟨t3, c3⟩ := Cs.mhand
    obtain ⟨t4, c4⟩ := Cs.mmiss
    refine ⟨_, pss_cons (ps_if (pt_not (pw_and (pt_chain op_le op_le pe_int (pv 0) (pe_glob (v := .int 4) (by rfl) c1 ⟨t1, rfl⟩)) (pw_and1 (pt_chain op_le op_le pe_int (pv 1) pe_int))).pt) (pss_one (ps_ret pe_bl)) pss_nil)
      (pss_cons (ps_if (pt_not (pw_and (pt_chain op_le op_le pe_int (pv 2) (pe_glob (v := .int 13) (by rfl) c2 ⟨t2, rfl⟩)) (pw_and1 (pt_chain op_le op_le pe_int (pv 3) (pe_glob (v := .int 13) (by rfl) c2 ⟨t2, rfl⟩)))).pt) (pss_one (ps_ret pe_bl)) pss_nil)
      (pss_one (ps_ret (pe_and (pe_call GR hr rfl mR FR.kp bR .nil pass0 (pa_cons (pe_ix ix_list (pv 4) pe_int (fun _ _ => rfl)) (pa_cons (pe_glob (v := .int 4) (by rfl) c3 ⟨t3, rfl⟩) pa_nil)))
        (pe_and (pe_call GR hr rfl mR FR.kp bR .nil pass0 (pa_cons (pe_ix ix_list (pv 4) pe_int (fun _ _ => rfl)) (pa_cons (pe_glob (v := .int 4) (by rfl) c3 ⟨t3, rfl⟩) pa_nil)))
        (pe_one (pe_call GR hr rfl mR FR.kp bR .nil pass0 (pa_cons (pe_ix ix_list (pv 4) pe_int (fun _ _ => rfl)) (pa_cons (pe_glob (v := .int 5) (by rfl) c4 ⟨t4, rfl⟩) pa_nil))))))))), ?_⟩
    unfold okSuit at k
    refine chain_var rfl ?_
    cases e1 : Vbbrak.within n 0 4 with
    | false =>
      rw [e1, Bool.false_and] at k
      exact iteF (iteT (k H (Same.refl H)))
    | true =>
      refine iteT (chain_var rfl ?_)
      rw [e1, Bool.true_and] at k
      cases e2 : Vbbrak.within c 0 1 with
      | false =>
        rw [e2, Bool.false_and] at k
        exact iteT (k H (Same.refl H))
      | true =>
        refine iteF ?_
        rw [e2, Bool.true_and] at k
        refine chain_var rfl ?_
        cases e3 : Vbbrak.within p 0 13 with
        | false =>
          rw [e3, Bool.false_and] at k
          exact iteF (iteT (k H (Same.refl H)))
        | true =>
          refine iteT (chain_var rfl ?_)
          rw [e3, Bool.true_and] at k
          cases e4 : Vbbrak.within q 0 13 with
          | false =>
            rw [e4, Bool.false_and] at k
            exact iteT (k H (Same.refl H))
          | true =>
            refine iteF ?_
            rw [e4, Bool.true_and] at k
            obtain ⟨ra, rb, rm, h0, h1, h2, h3⟩ := hR.at_
            refine ⟨_, rfl, r, _, _, _, rfl, rfl, SqL.of h0, rfl, ra, a, 4, rfl, SqL.of h1, la, fun H1 s1 => ⟨_, rfl, ?_⟩⟩
            cases e5 : Vbbrak.isCards a 4 with
            | false =>
              rw [e5, Bool.false_and] at k
              exact iteF (k H1 s1)
            | true =>
              refine iteT ?_
              rw [e5, Bool.true_and] at k
              refine ⟨_, rfl, r, _, _, _, rfl, rfl, SqL.of (s1 _ _ h0), rfl, rb, b, 4, rfl, SqL.of (s1 _ _ h2), lb, fun H2 s2 => ⟨_, rfl, ?_⟩⟩
              cases e6 : Vbbrak.isCards b 4 with
              | false =>
                rw [e6, Bool.false_and] at k
                exact iteF (k H2 (s1.trans s2))
              | true =>
                refine iteT ?_
                rw [e6, Bool.true_and] at k
                have s12 := s1.trans s2
                exact ⟨_, rfl, r, _, _, _, rfl, rfl, SqL.of (s12 _ _ h0), rfl, rm, m, 5, rfl, SqL.of (s12 _ _ h3), lm, fun H3 s3 => k H3 (s12.trans s3)⟩
theorem dedup_snoc (ns : List Int) (z : Int) : dedup (ns ++ [z]) = if (dedup ns).any (· == z) then dedup ns else dedup ns ++ [z] := by
  unfold dedup
  rw [List.foldl_append]
  rfl
theorem dedup_nodup : ∀ ns : List Int, ns.Nodup → dedup ns = ns := by
  refine Mt.snoc_ind (fun _ => rfl) fun l z ih h => ?_
  have h' := List.nodup_append.mp h
  rw [dedup_snoc, ih h'.1]
  have : (l.any (· == z)) = false := by
    rw [List.any_eq_false]
    intro x hx e
    have e : x = z := by simpa using e
    exact h'.2.2 x hx z (by simp) e
  rw [this]
  rfl
theorem dedup_le : ∀ ns : List Int, (dedup ns).length ≤ ns.length := by
  refine Mt.snoc_ind (Nat.le_refl _) fun l z ih => ?_
  rw [dedup_snoc, List.length_append]
  split
  · omega
  · rw [List.length_append]; show _ + 1 ≤ _ + 1; omega
theorem mem_dedup : ∀ (ns : List Int) (x : Int), x ∈ ns → x ∈ dedup ns := by
  refine Mt.snoc_ind (fun x hx => nomatch hx) fun l z ih x hx => ?_
  rw [dedup_snoc]
  rcases List.mem_append.mp hx with h | h
  · split
    · exact ih x h
    · exact List.mem_append_left _ (ih x h)
  · have e : x = z := by simpa using h
    subst e
    split
    · rename_i h1
      obtain ⟨y, hy, e⟩ := List.any_eq_true.mp h1
      have e : y = x := by simpa using e
      exact e ▸ hy
    · exact List.mem_append_right _ (by simp)
theorem dedup_lt : ∀ ns : List Int, ¬ ns.Nodup → (dedup ns).length < ns.length := by
  refine Mt.snoc_ind (fun h => absurd List.nodup_nil h) fun l z ih h => ?_
  rw [dedup_snoc, List.length_append]
  by_cases hl : l.Nodup
  · have hz : z ∈ l := by
      refine Classical.byContradiction fun hz => h (List.nodup_append.mpr ⟨hl, by simp, fun a ha b hb => ?_⟩)
      have e : b = z := by simpa using hb
      subst e
      rintro rfl
      exact hz ha
    have : (dedup l).any (· == z) = true := List.any_eq_true.mpr ⟨z, mem_dedup l z hz, by simp⟩
    rw [if_pos this]
    have := dedup_le l
    show _ < _ + 1
    omega
  · have := ih hl
    split
    · show _ < _ + 1; omega
    · rw [List.length_append]; show _ + 1 < _ + 1; omega
def refOf (p q : Int) (a b m : List Int) : Int := if ¬ (a ++ (b ++ m)).Nodup then -3 else if 7 < a.length + b.length then -4 else if p + q < (m.length : Int) then -5 else 0
def spRef (K : PySem.W.Frag) : Sp := fun vs H Q _ => ∃ (p q : Int) (r : Addr) (a b m : List Int), vs = [.int p, .int q, .ref r] ∧ Rows3 K H r a b m ∧ a.length ≤ 15 ∧ b.length ≤ 15 ∧ m.length ≤ 15 ∧ ∀ H', Same H H' → Q (.int (refOf p q a b m)) H'
theorem scRef : FnScope ["p", "q", "rows", "cards"] ["p", "q", "rows"] (defScope sRef) := ⟨rfl, rfl, rfl, by decide +kernel, rfl, by decide +kernel, by decide +kernel⟩
theorem ok_ref {f : Addr} {fd : FuncData} (F : Fun K "suit_refusal" "suit_refusal" sRef f fd) (T : Names mg) (Cs : Consts mg) : FnOk P w K mg base CX0 1 f fd ["p", "q", "rows"] (spRef K) := by
  refine F.ok scRef (fun vs H Q E h => ?_) (fun cdv A outer s H vs Q E hr h => ?_)
  · obtain ⟨p, q, r, a, b, m, rfl, _⟩ := h
    rfl
  · obtain ⟨p, q, r, a, b, m, rfl, hR, la, lb, lm, k⟩ := h
    obtain ⟨t1, c1⟩ := Cs.twice
    obtain ⟨t2, c2⟩ := Cs.mours
    obtain ⟨t3, c3⟩ := Cs.tours
    obtain ⟨t4, c4⟩ := Cs.tmiss
    have hlen := T.len
    have e16 : sizeLine = 16777216 := sizeLine_eq
    refine ⟨_, pss_cons (ps_set (i := 3) scRef.nd rfl (Or.inl rfl) (pe_op op_cat (pe_op op_cat (pe_ix ix_list (pv 2) pe_int (fun _ _ => rfl)) (pe_ix ix_list (pv 2) pe_int (fun _ _ => rfl))) (pe_ix ix_list (pv 2) pe_int (fun _ _ => rfl))))
      (pss_cons (ps_if (pt_cmpR op_ne (pe_callB call_lenS (by rfl) hlen PySem.boot_len (pa_cons (pe_callTy (call_setL rfl) (by rfl) T.set boot_set5 (pa_cons (pv 3) pa_nil)) pa_nil)) (pe_callB call_len_seq (by rfl) hlen PySem.boot_len (pa_cons (pv 3) pa_nil)) (nomark _)) (pss_one (ps_ret (pe_glob (v := .int (-3)) (by rfl) c1 ⟨t1, rfl⟩))) pss_nil)
      (pss_cons (ps_if (pt_cmpR op_gt (pe_op op_add (pe_callB call_len_seq (by rfl) hlen PySem.boot_len (pa_cons (pe_ix ix_list (pv 2) pe_int (fun _ _ => rfl)) pa_nil)) (pe_callB call_len_seq (by rfl) hlen PySem.boot_len (pa_cons (pe_ix ix_list (pv 2) pe_int (fun _ _ => rfl)) pa_nil))) (pe_glob (v := .int 7) (by rfl) c2 ⟨t2, rfl⟩) (nomark _)) (pss_one (ps_ret (pe_glob (v := .int (-4)) (by rfl) c3 ⟨t3, rfl⟩))) pss_nil)
      (pss_cons (ps_if (pt_cmpR op_gt (pe_callB call_len_seq (by rfl) hlen PySem.boot_len (pa_cons (pe_ix ix_list (pv 2) pe_int (fun _ _ => rfl)) pa_nil)) (pe_op op_add (pv 0) (pv 1)) (nomark _)) (pss_one (ps_ret (pe_glob (v := .int (-5)) (by rfl) c4 ⟨t4, rfl⟩))) pss_nil)
      (pss_one (ps_ret pe_int))))), ?_⟩
    obtain ⟨ra, rb, rm, h0, h1, h2, h3⟩ := hR.at_
    refine ⟨_, rfl, r, _, _, _, rfl, rfl, SqL.of h0, rfl, _, rfl, r, _, _, _, rfl, rfl, SqL.of h0, rfl, ra, rb, _, _, rfl, rfl, h1, h2, by rw [List.length_map, List.length_map]; omega, fun l1 n1 => ?_⟩
    have s1 := Same.new (o := .lst (a.map V.int ++ b.map V.int)) n1
    refine ⟨_, rfl, r, _, _, _, rfl, rfl, SqL.of (s1 _ _ h0), rfl, l1, rm, _, _, rfl, rfl, upd_same, s1 _ _ h3, by rw [List.length_append, List.length_map, List.length_map, List.length_map]; omega, fun l2 n2 => ?_⟩
    have s2 := s1.trans (Same.new (o := .lst ((a.map V.int ++ b.map V.int) ++ m.map V.int)) n2)
    have hcs : SqL K (upd (upd H l1 (.lst (a.map V.int ++ b.map V.int))) l2 (.lst ((a.map V.int ++ b.map V.int) ++ m.map V.int))) l2 ((a ++ (b ++ m)).map V.int) := SqL.of (by rw [upd_same, List.map_append, List.map_append, List.append_assoc])
    have htl : (a ++ (b ++ m)).length = a.length + (b.length + m.length) := by rw [List.length_append, List.length_append]
    have dle := dedup_le (a ++ (b ++ m))
    refine ⟨_, rfl, l2, _, rfl, hcs, by omega, fun sp S nsp => ?_⟩
    have s3 := s2.trans (Same.new (o := .set S (dedup (a ++ (b ++ m))).length) nsp)
    refine ⟨sp, S, _, rfl, upd_same, by omega, _, rfl, l2, _, rfl, .inl ((Same.new nsp).seq hcs), ?_⟩
    refine ⟨rfl, _, rfl, ?_⟩
    unfold refOf at k
    by_cases hnd : (a ++ (b ++ m)).Nodup
    · rw [if_neg (fun z => z hnd)] at k
      have e0 : V.int ((dedup (a ++ (b ++ m))).length : Int) = V.int (((a ++ (b ++ m)).map V.int).length : Int) := by rw [dedup_nodup _ hnd, List.length_map]
      rw [decide_eq_true e0]
      refine iteF ?_
      refine ⟨_, rfl, r, _, _, _, rfl, rfl, SqL.of (s3 _ _ h0), rfl, ra, _, rfl, .inl (SqL.of (s3 _ _ h1)), _, rfl, r, _, _, _, rfl, rfl, SqL.of (s3 _ _ h0), rfl, rb, _, rfl, .inl (SqL.of (s3 _ _ h2)), _, _, rfl, rfl, _, _, rfl, rfl, _, rfl, ?_⟩
      by_cases h7 : 7 < a.length + b.length
      · rw [if_pos h7] at k
        refine ite2 (fun _ => k _ s3) (fun h => absurd (decide_eq_true ?_) h)
        show (7 : Int) < ((a.map V.int).length : Int) + ((b.map V.int).length : Int)
        rw [List.length_map, List.length_map]; omega
      · rw [if_neg h7] at k
        refine ite2 (fun h => ?_) (fun h => ?_)
        · have := of_decide_eq_true h
          rw [List.length_map, List.length_map] at this
          omega
        · refine ⟨_, rfl, r, _, _, _, rfl, rfl, SqL.of (s3 _ _ h0), rfl, rm, _, rfl, .inl (SqL.of (s3 _ _ h3)), _, rfl, _, rfl, _, _, rfl, rfl, _, _, rfl, rfl, _, rfl, ?_⟩
          by_cases hpq : p + q < (m.length : Int)
          · rw [if_pos hpq] at k
            refine ite2 (fun _ => k _ s3) (fun h => absurd (decide_eq_true ?_) h)
            show p + q < ((m.map V.int).length : Int)
            rw [List.length_map]; exact hpq
          · rw [if_neg hpq] at k
            refine ite2 (fun h => ?_) (fun h => k _ s3)
            have := of_decide_eq_true h
            rw [List.length_map] at this
            exact absurd this hpq
    · rw [if_pos hnd] at k
      have hlt := dedup_lt _ hnd
      have e0 : ¬ V.int ((dedup (a ++ (b ++ m))).length : Int) = V.int (((a ++ (b ++ m)).map V.int).length : Int) := by
        intro e
        injection e with e
        rw [List.length_map] at e
        omega
      rw [decide_eq_false e0]
      exact iteT (k _ s3)
end
end On
set_option maxRecDepth 100000
set_option maxHeartbeats 4000000
namespace On
open PySem PySem.Spec PyProof.Rows L2
theorem ifEq {i j : Int} {A B : Prop} (h1 : i = j → A) (h2 : i ≠ j → B) : if decide (V.int i = V.int j) = true then A else B := by
  refine ite2 (fun h => h1 ?_) (fun h => h2 fun e => h (decide_eq_true (by rw [e])))
  have := of_decide_eq_true h
  injection this
theorem ifNe {i j : Int} {A B : Prop} (h1 : i ≠ j → A) (h2 : i = j → B) : if (!decide (V.int i = V.int j)) = true then A else B := by
  by_cases e : i = j
  · rw [decide_eq_true (by rw [e]), Bool.not_true]
    exact iteF (h2 e)
  · rw [decide_eq_false (fun q => e (by injection q)), Bool.not_false]
    exact iteT (h1 e)
theorem inV_iv (x : Nat) (cs : List Nat) : inV (iv x) (cs.map iv) = cs.contains x := by
  induction cs with
  | nil => rfl
  | cons c cs ih =>
    show (((c : Int) == (x : Int)) || inV (iv x) (cs.map iv)) = (x == c || cs.contains x)
    rw [ih]
    congr 1
    rw [Bool.eq_iff_iff, beq_iff_eq, beq_iff_eq]
    omega
theorem flat_iv (cs : List Nat) : (cs.map iv).all flatV = true := by
  rw [List.all_eq_true]
  intro v hv
  obtain ⟨c, _, rfl⟩ := List.mem_map.mp hv
  rfl
theorem contains_iff {x : Nat} {cs : List Nat} : cs.contains x = true ↔ x ∈ cs := by simp
theorem rg3 {k : Nat} (h : k ≤ 4) : RgC 0 ((3 * k : Nat) : Int) 3 k := by
  match k, h with
  | 0, _ => exact ⟨by decide, by decide, by decide, by decide⟩
  | 1, _ => exact ⟨by decide, by decide, by decide, by decide⟩
  | 2, _ => exact ⟨by decide, by decide, by decide, by decide⟩
  | 3, _ => exact ⟨by decide, by decide, by decide, by decide⟩
  | 4, _ => exact ⟨by decide, by decide, by decide, by decide⟩
section
variable {P : Program} {w : World} {K : PySem.W.Frag} {mg : Str → Option Value} {base : Heap}
def spIsP : Sp := fun vs H Q _ => ∃ (z : Int), vs = [.int z] ∧ Q (.bl (Vbbrak.within z 0 13)) H
theorem scIsP : FnScope ["card"] ["card"] (defScope sIsP) := ⟨rfl, rfl, rfl, by decide +kernel, rfl, by decide +kernel, by decide +kernel⟩
theorem ok_isp {f : Addr} {fd : FuncData} (F : Fun K "is_played" "is_played" sIsP f fd) (Cs : Consts mg) : FnOk P w K mg base CX0 1 f fd ["card"] spIsP := by
  refine F.ok scIsP (fun vs H Q E h => ?_) (fun cdv A outer s H vs Q E hr h => ?_)
  · obtain ⟨z, rfl, _⟩ := h
    rfl
  · obtain ⟨z, rfl, k⟩ := h
    obtain ⟨ta, ha⟩ := Cs.ace
    refine ⟨_, pss_one (ps_ret (pe_chain (r := rI0 fun i j => .bl (decide (i ≤ j))) (r' := rI0 fun i j => .bl (decide (i ≤ j))) op_le op_le pe_int (pv 0) (pe_glob (v := .int 13) (by rfl) ha ⟨ta, rfl⟩))), ?_⟩
    refine ⟨_, rfl, _, _, rfl, rfl, _, rfl, ?_⟩
    unfold Vbbrak.within at k
    by_cases h1 : (0 : Int) ≤ z
    · rw [decide_eq_true h1] at k ⊢
      exact iteT ⟨_, _, rfl, rfl, k⟩
    · rw [decide_eq_false h1] at k ⊢
      exact iteF k
def spPla (K : PySem.W.Frag) : Sp := fun vs H Q _ => ∃ (r : Addr) (l : List Int), vs = [.ref r] ∧ SqL K H r (l.map V.int) ∧ l.length ≤ 1000 ∧ Q (.bl (Vbbrak.isLine l)) H
theorem scPla : FnScope ["row", "at"] ["row"] (defScope sPla) := ⟨rfl, rfl, rfl, by decide +kernel, rfl, by decide +kernel, by decide +kernel⟩
theorem at_int {l : List Int} {z : Int} {j : Nat} {i : Int} (h : l[j]? = some z) (e : i = (j : Int)) : atI (l.map V.int) i = some (V.int z) := by
  subst e
  exact at_of (j := j) rfl (by rw [List.getElem?_map, h]; rfl)
theorem three_at {l : List Int} {k i : Nat} (hl : l.length = 3 * k) (hi : i < k) : ∃ a b c, l[3 * i]? = some a ∧ l[3 * i + 1]? = some b ∧ l[3 * i + 2]? = some c ∧ Mt.okTri (l.drop (3 * i)) = (Vbbrak.within a 0 1 && (Vbbrak.within b 0 13 && (Vbbrak.within c 0 13 && Mt.okTri (l.drop (3 * (i + 1)))))) := by
  have hlen : (l.drop (3 * i)).length = 3 * k - 3 * i := by rw [List.length_drop, hl]
  have g0 : (l.drop (3 * i))[0]? = l[3 * i]? := by rw [List.getElem?_drop]; rfl
  have g1 : (l.drop (3 * i))[1]? = l[3 * i + 1]? := by rw [List.getElem?_drop]
  have g2 : (l.drop (3 * i))[2]? = l[3 * i + 2]? := by rw [List.getElem?_drop]
  have g3 : l.drop (3 * (i + 1)) = (l.drop (3 * i)).drop 3 := by rw [List.drop_drop]; congr 1
  match hd : l.drop (3 * i), hlen with
  | [], h => simp at h; omega
  | [_], h => simp at h; omega
  | [_, _], h => simp at h; omega
  | a :: b :: c :: r, h =>
    rw [hd] at g0 g1 g2 g3
    refine ⟨a, b, c, g0.symm, g1.symm, g2.symm, ?_⟩
    rw [g3]
    rfl
theorem ok_pla {f fP : Addr} {fd fdP : FuncData} (F : Fun K "is_plan" "is_plan" sPla f fd) (T : Names mg) (Cs : Consts mg) (mP : mg "is_played" = some (.ref fP)) (FP : Fun K "is_played" "is_played" sIsP fP fdP) (bP : Binds K fdP ["card"] []) :
    FnOk P w K mg base CX0 2 f fd ["row"] (spPla K) := by
  have GP : FnOk P w K mg base CX0 1 fP fdP ["card"] spIsP := ok_isp FP Cs
  refine F.ok scPla (fun vs H Q E h => ?_) (fun cdv A outer s H vs Q E hr h => ?_)
  · obtain ⟨r, l, rfl, _⟩ := h
    rfl
  · obtain ⟨r, l, rfl, hL, hl, k⟩ := h
    obtain ⟨t1, c1⟩ := Cs.step
    obtain ⟨t2, c2⟩ := Cs.msteps
    have nd := scPla.nd
    have hlen := T.len
    refine ⟨_, pss_cons (ps_if (pw_or (pt_cmpR op_ne (pe_op op_mod (pe_callB call_len_seq (by rfl) hlen PySem.boot_len (pa_cons (pv 0) pa_nil)) (pe_glob (v := .int 3) (by rfl) c1 ⟨t1, rfl⟩)) pe_int (nomark _)) (pw_or1 (pt_cmpR op_gt (pe_callB call_len_seq (by rfl) hlen PySem.boot_len (pa_cons (pv 0) pa_nil)) (pe_op op_mul (pe_glob (v := .int 3) (by rfl) c1 ⟨t1, rfl⟩) (pe_glob (v := .int 4) (by rfl) c2 ⟨t2, rfl⟩)) (nomark _)))).pt (pss_one (ps_ret pe_bl)) pss_nil)
      (pss_cons (ps_for PassesOwn.never rfl (pi_range3 rfl T.range (pa_cons pe_int (pa_cons (pe_callB call_len_seq (by rfl) hlen PySem.boot_len (pa_cons (pv 0) pa_nil)) (pa_cons (pe_glob (v := .int 3) (by rfl) c1 ⟨t1, rfl⟩) pa_nil)))) (pg_name (i := 1) nd rfl (Or.inl rfl))
        (pss_one (ps_if (pt_not (pw_and (pt_chain op_le op_le pe_int (pe_ix ix_list (pv 0) (pv 1) (fun _ _ => rfl)) pe_int)
          (pw_and (pt_val (pe_call GP hr (by rfl) mP FP.kp bP .nil pass0 (pa_cons (pe_ix ix_list (pv 0) (pe_op op_add (pv 1) pe_int) (fun _ _ => rfl)) pa_nil)))
          (pw_and1 (pt_val (pe_call GP hr (by rfl) mP FP.kp bP .nil pass0 (pa_cons (pe_ix ix_list (pv 0) (pe_op op_add (pv 1) pe_int) (fun _ _ => rfl)) pa_nil)))))).pt) (pss_one (ps_ret pe_bl)) pss_nil)))
      (pss_one (ps_ret pe_bl))), ?_⟩
    have ell : (l.map V.int).length = l.length := List.length_map _
    refine ⟨_, rfl, r, _, rfl, .inl hL, _, _, rfl, rfl, (by show (0 : Int) < 3; decide), rfl, _, rfl, ?_⟩
    rw [ell]
    refine ifNe (fun h => ?_) (fun h => ?_)
    · refine iteT ?_
      rw [Mt.isLine_no (fun q => h (by omega))] at k
      exact k
    · refine ⟨_, rfl, r, _, rfl, .inl hL, _, _, rfl, rfl, .inl ⟨by decide, by decide⟩, _, _, rfl, rfl, _, rfl, ?_⟩
      rw [ell]
      refine ite2 (fun h2 => ?_) (fun h2 => ?_)
      · have h3 := of_decide_eq_true h2
        rw [Mt.isLine_no (fun q => by omega)] at k
        exact k
      · have h3 : l.length ≤ 12 := by
          refine Nat.le_of_not_lt fun q => h2 (decide_eq_true ?_)
          show (3 * 4 : Int) < (l.length : Int)
          omega
        obtain ⟨n, hn⟩ : ∃ n, l.length = 3 * n := ⟨l.length / 3, by omega⟩
        have hn4 : n ≤ 4 := by omega
        rw [Mt.isLine_of hn hn4] at k
        refine ⟨_, rfl, r, _, rfl, .inl hL, 0, _, 3, n, rfl, ?_, ?_⟩
        · rw [ell, hn]
          exact rg3 hn4
        refine for_rangeC (n := n) (fun i σ H' => ∃ v : Option V, σ = [some (.ref r), v] ∧ H' = H ∧ Mt.okTri l = Mt.okTri (l.drop (3 * i))) ⟨none, rfl, rfl, rfl⟩ ?_ ?_
        · rintro i σ H' hi ⟨v, rfl, rfl, hE⟩
          obtain ⟨a, b, c, ha, hb, hc, e3⟩ := three_at hn hi
          rw [e3] at hE
          refine ⟨_, rfl, _, rfl, r, _, _, _, rfl, rfl, hL, at_int ha (by omega), _, _, rfl, rfl, _, rfl, ?_⟩
          unfold Vbbrak.within at hE
          by_cases h0 : (0 : Int) ≤ a
          · rw [decide_eq_true h0] at hE ⊢
            refine iteT ⟨_, _, rfl, rfl, _, rfl, ?_⟩
            by_cases h1 : a ≤ 1
            · rw [decide_eq_true h1] at hE ⊢
              rw [Bool.true_and, Bool.true_and] at hE
              refine iteT ⟨_, rfl, _, rfl, _, _, rfl, rfl, r, _, _, _, rfl, rfl, hL, at_int hb (by omega), _, rfl, _, rfl, ?_⟩
              cases eb : Vbbrak.within b 0 13 with
              | false =>
                unfold Vbbrak.within at eb
                rw [eb, Bool.false_and] at hE
                exact iteF (iteT (by rw [hE] at k; exact k))
              | true =>
                unfold Vbbrak.within at eb
                rw [eb, Bool.true_and] at hE
                refine iteT ⟨_, rfl, _, rfl, _, _, rfl, rfl, r, _, _, _, rfl, rfl, hL, at_int hc (by omega), _, rfl, _, rfl, ?_⟩
                cases ec : Vbbrak.within c 0 13 with
                | false =>
                  unfold Vbbrak.within at ec
                  rw [ec, Bool.false_and] at hE
                  exact iteT (by rw [hE] at k; exact k)
                | true =>
                  unfold Vbbrak.within at ec
                  rw [ec, Bool.true_and] at hE
                  exact iteF ⟨_, rfl, rfl, hE⟩
            · rw [decide_eq_false h1] at hE ⊢
              exact iteF (iteT (by rw [hE] at k; exact k))
          · rw [decide_eq_false h0] at hE ⊢
            exact iteF ⟨_, rfl, iteF (iteT (by rw [hE] at k; exact k))⟩
        · rintro σ H' ⟨v, rfl, rfl, hE⟩
          have e0 : l.drop (3 * n) = [] := List.drop_eq_nil_of_le (by omega)
          rw [e0] at hE
          rw [hE] at k
          exact k
end
end On
set_option maxRecDepth 100000
set_option maxHeartbeats 4000000
namespace On
open PySem PySem.Spec PyProof.Rows L2
abbrev sSte : Stmt := top 21
abbrev sTos : Stmt := top 22
abbrev sWop : Stmt := top 23
section
variable {P : Program} {w : World} {K : PySem.W.Frag} {mg : Str → Option Value} {base : Heap}
def StV (K : PySem.W.Frag) (H : Hp) (v : V) (m : Nat × Nat × Nat) : Prop := ∃ p, v = .ref p ∧ SqT K H p [iv m.1, iv m.2.1, iv m.2.2]
theorem StV.kt {H H' : Hp} (k : KT H H') {v : V} {m : Nat × Nat × Nat} (h : StV K H v m) : StV K H' v m := let ⟨p, e, h1⟩ := h; ⟨p, e, k.sq h1⟩
def StL (K : PySem.W.Frag) (H : Hp) (a : Addr) (l : List (Nat × Nat × Nat)) : Prop := ∃ vs, H a = some (.lst vs) ∧ Paired (StV K H) vs l
theorem StL.same {H H' : Hp} (k : Same H H') {a : Addr} {l : List (Nat × Nat × Nat)} (h : StL K H a l) : StL K H' a l := let ⟨vs, h1, h2⟩ := h; ⟨vs, k _ _ h1, Tk.paired_mono (fun _ _ z => z.kt k.kt) h2⟩
def spSte (K : PySem.W.Frag) : Sp := fun vs H Q _ => ∃ (r hp : Addr) (rs : List Nat) (n : Nat) (a b : List Nat), vs = [.ref r, .ref hp] ∧ SqL K H r (rs.map iv) ∧ rs.length = 3 * n ∧ n ≤ 4 ∧ (∀ m ∈ Mt.tri rs, m.1 = 0 ∨ m.1 = 1) ∧ Pr K H hp a b ∧ a.length < 64 ∧ b.length < 64 ∧
  ∀ (st : Addr) (H' : Hp), Same H H' → StL K H' st (Mt.planOf (Mt.tri rs) a b) → Q (.ref st) H'
theorem scSte : FnScope ["row", "hands", "steps", "left", "at", "leader", "led", "third"] ["row", "hands"] (defScope sSte) := ⟨rfl, rfl, rfl, by decide +kernel, rfl, by decide +kernel, by decide +kernel⟩
theorem at_nat {l : List Nat} {z : Nat} {j : Nat} {i : Int} (h : l[j]? = some z) (e : i = (j : Int)) : atI (l.map iv) i = some (iv z) := by
  subst e
  exact at_of (j := j) rfl (by rw [List.getElem?_map, h]; rfl)
theorem planOf_cons (m : Nat × Nat × Nat) (r : List (Nat × Nat × Nat)) (a b : List Nat) : Mt.planOf (m :: r) a b = if (Vbbrak.handOf m.1 a b).contains m.2.1 = true ∧ (Vbbrak.choices (Vbbrak.handOf (1 - m.1) a b)).contains m.2.2 = true then m :: Mt.planOf r (Mt.leftA a m.2.1 m.2.2) (Mt.leftA b m.2.1 m.2.2) else [] := rfl
theorem planOf_nil (a b : List Nat) : Mt.planOf [] a b = [] := rfl
theorem ok_ste {f : Addr} {fd : FuncData} (F : Fun K "steps_until_end" "steps_until_end" sSte f fd) (T : TxF P w K mg base) (Cs : Consts mg) : FnOk P w K mg base CX0 2 f fd ["row", "hands"] (spSte K) := by
  obtain ⟨fW, fdW, mW, FW, bW, GW⟩ := T.wo
  obtain ⟨fT, fdT, mT, FT, bT, GT⟩ := T.thi
  refine F.ok scSte (fun vs H Q E h => ?_) (fun cdv A outer s H vs Q E hr h => ?_)
  · obtain ⟨r, hp, rs, n, a, b, rfl, _⟩ := h
    rfl
  · obtain ⟨r, hp, rs, n, a, b, rfl, hR, hn, hn4, hm, hP, la, lb, k⟩ := h
    obtain ⟨t1, c1⟩ := Cs.step
    have nd := scSte.nd
    have hlen := T.n.len
    have e16 : sizeLine = 16777216 := sizeLine_eq
    refine ⟨_, pss_cons (ps_set (i := 2) nd rfl (Or.inl rfl) (pe_lst pa_nil))
      (pss_cons (ps_set (i := 3) nd rfl (Or.inl rfl) (pv 1))
      (pss_cons (ps_for PassesOwn.never rfl (pi_range3 rfl T.n.range (pa_cons pe_int (pa_cons (pe_callB call_len_seq (by rfl) hlen PySem.boot_len (pa_cons (pv 0) pa_nil)) (pa_cons (pe_glob (v := .int 3) (by rfl) c1 ⟨t1, rfl⟩) pa_nil)))) (pg_name (i := 4) nd rfl (Or.inl rfl))
        (pss_cons (ps_set (i := 5) nd rfl (Or.inl rfl) (pe_ix ix_list (pv 0) (pv 4) (fun _ _ => rfl)))
        (pss_cons (ps_set (i := 6) nd rfl (Or.inl rfl) (pe_ix ix_list (pv 0) (pe_op op_add (pv 4) pe_int) (fun _ _ => rfl)))
        (pss_cons (ps_set (i := 7) nd rfl (Or.inl rfl) (pe_ix ix_list (pv 0) (pe_op op_add (pv 4) pe_int) (fun _ _ => rfl)))
        (pss_cons (ps_if (pw_or (pt_cmpR op_notIn_seq (pv 6) (pe_ix ix_tup (pv 3) (pv 5) (fun _ _ => rfl)) (by rfl)) (pw_or1 (pt_cmpR op_notIn_seq (pv 7) (pe_call GT hr (by rfl) mT FT.kp bT .nil pass0 (pa_cons (pv 3) (pa_cons (pv 5) pa_nil))) (by rfl)))).pt (pss_one (ps_ret (pv 2))) pss_nil)
        (pss_cons (ps_expr (pe_bm PySem.F.plainAttrs_list PySem.F.slot_list_append PySem.F.type_list_append mt_append (pv 2) (pa_cons (pe_tup (pa_cons (pv 5) (pa_cons (pv 6) (pa_cons (pv 7) pa_nil)))) pa_nil)))
        (pss_one (ps_set (i := 3) nd rfl (Or.inl rfl) (pe_call GW hr rfl mW FW.kp bW .nil pass0 (pa_cons (pv 3) (pa_cons (pv 6) (pa_cons (pv 7) pa_nil)))))))))))
      )
      (pss_one (ps_ret (pv 2))))), ?_⟩
    refine ⟨Nat.zero_le _, fun st hst => ⟨_, rfl, ?_⟩⟩
    have s1 : Same H (upd H st (.lst [])) := Same.new hst
    have ell : (rs.map iv).length = rs.length := List.length_map _
    refine ⟨_, rfl, r, _, rfl, .inl (s1.seq hR), 0, _, 3, n, rfl, by rw [ell, hn]; exact rg3 hn4, ?_⟩
    refine for_rangeC (n := n) (fun i σ H' => ∃ (v4 v5 v6 v7 : Option V) (lf : Addr) (la lb : List Nat), σ = [some (.ref r), some (.ref hp), some (.ref st), some (.ref lf), v4, v5, v6, v7] ∧ But st (upd H st (.lst [])) H' ∧ StL K H' st ((Mt.tri rs).take i) ∧ Pr K H' lf la lb ∧ la.length < 64 ∧ lb.length < 64 ∧
        Mt.planOf (Mt.tri rs) a b = (Mt.tri rs).take i ++ Mt.planOf ((Mt.tri rs).drop i) la lb)
      ⟨none, none, none, none, hp, a, b, rfl, But.refl _ _, ⟨[], upd_same, .nil⟩, hP.kt s1.kt, la, lb, rfl⟩ ?_ ?_
    · rintro i σ H' hi ⟨v4, v5, v6, v7, lf, xa, xb, rfl, bt, hS, hL, hxa, hxb, hE⟩
      obtain ⟨ld, x, z, h1, h2, h3, h4⟩ := Mt.tri_at hn hi
      have hdr : (Mt.tri rs).drop i = (ld, x, z) :: (Mt.tri rs).drop (i + 1) := by
        obtain ⟨q1, q2⟩ := List.getElem?_eq_some_iff.mp h4
        rw [← q2, List.getElem_cons_drop]
      have hld : ld = 0 ∨ ld = 1 := hm _ (List.mem_of_getElem? h4)
      have sH : Same H H' := fun b' o e => bt b' o (s1 _ _ e) (ne_of_none e hst)
      have hR' := sH.seq hR
      rw [hdr] at hE
      -- leader, led, third
      refine ⟨_, rfl, _, rfl, r, _, _, _, rfl, rfl, hR', at_nat h1 (by omega), ?_⟩
      refine ⟨_, rfl, _, rfl, _, _, rfl, rfl, r, _, _, _, rfl, rfl, hR', at_nat h2 (by omega), ?_⟩
      refine ⟨_, rfl, _, rfl, _, _, rfl, rfl, r, _, _, _, rfl, rfl, hR', at_nat h3 (by omega), ?_⟩
      obtain ⟨us, u, q0, q1, pa, rfl, q2⟩ := pick_hand hld hL
      refine ⟨_, rfl, _, rfl, _, rfl, lf, us, _, _, rfl, rfl, q0, q1, pa, _, rfl, .inr q2, rfl, flat_iv _, _, rfl, ?_⟩
      rw [inV_iv]
      rw [planOf_cons] at hE
      cases e1 : (Vbbrak.handOf ld xa xb).contains x with
      | false =>
        rw [if_neg (fun q => by rw [e1] at q; exact Bool.false_ne_true q.1), List.append_nil] at hE
        refine iteT (iteT ⟨_, rfl, ?_⟩)
        rw [← hE] at hS
        exact k st H' sH hS
      | true =>
        refine iteF ?_
        refine ⟨_, rfl, _, rfl, _, rfl, lf, ld, xa, xb, rfl, hL, hld, fun tr H2 s2 htr => ?_⟩
        refine ⟨tr, _, rfl, .inr htr, rfl, flat_iv _, _, rfl, ?_⟩
        rw [inV_iv]
        cases e2 : (Vbbrak.choices (Vbbrak.handOf (1 - ld) xa xb)).contains z with
        | false =>
          rw [if_neg (fun q => by rw [e2] at q; exact Bool.false_ne_true q.2), List.append_nil] at hE
          refine iteT ⟨_, rfl, ?_⟩
          rw [← hE] at hS
          exact k st H2 (sH.trans s2) (hS.same s2)
        | true =>
          refine iteF ?_
          rw [if_pos ⟨e1, e2⟩] at hE
          obtain ⟨vs, g1, g2⟩ := hS
          have g1' := s2 _ _ g1
          have hvl : vs.length ≤ i := by rw [paired_len g2, List.length_take]; omega
          refine ⟨_, rfl, .inl ⟨rfl, _, SqL.of g1'⟩, _, rfl, _, rfl, _, rfl, by show 3 ≤ sizeLine; decide, fun tp htp => ?_⟩
          have s3 := s2.trans (Same.new (o := .tup [iv ld, iv x, iv z]) htp)
          refine ⟨st, _, _, rfl, rfl, s3 _ _ g1, by omega, ?_⟩
          have ktU : KT (upd H2 tp (.tup [iv ld, iv x, iv z])) (upd (upd H2 tp (.tup [iv ld, iv x, iv z])) st (.lst (vs ++ [.ref tp]))) := kt_mut (s3 _ _ g1) True.intro
          have kt3 := s3.kt.trans ktU
          refine ⟨_, rfl, _, rfl, _, rfl, lf, x, z, xa, xb, rfl, hL.kt kt3, hxa, hxb, fun nl H5 s5 hnl => ?_⟩
          refine ⟨_, _, _, _, nl, _, _, rfl, ((bt.same s3).upd).same s5, ⟨vs ++ [.ref tp], s5 _ _ upd_same, ?_⟩, hnl, ?_, ?_, ?_⟩
          · rw [take_snoc' h4]
            refine paired_app (Tk.paired_mono (fun _ _ q => q.kt (kt3.trans s5.kt)) g2) (.cons ⟨tp, rfl, (ktU.trans s5.kt).sq (SqT.of upd_same)⟩ .nil)
          · exact Nat.lt_of_le_of_lt (Nat.le_trans (Mt.without_le _ _) (Mt.without_le _ _)) hxa
          · exact Nat.lt_of_le_of_lt (Nat.le_trans (Mt.without_le _ _) (Mt.without_le _ _)) hxb
          · rw [take_snoc' h4, List.append_assoc]
            exact hE
    · rintro σ H' ⟨v4, v5, v6, v7, lf, xa, xb, rfl, bt, hS, hL, hxa, hxb, hE⟩
      have sH : Same H H' := fun b' o e => bt b' o (s1 _ _ e) (ne_of_none e hst)
      have e0 : (Mt.tri rs).drop n = [] := List.drop_eq_nil_of_le (by rw [Mt.tri_len hn]; exact Nat.le_refl _)
      rw [e0, planOf_nil, List.append_nil] at hE
      rw [← hE] at hS
      exact ⟨_, rfl, k st H' sH hS⟩
def spTos (K : PySem.W.Frag) : Sp := fun vs H Q _ => ∃ (st cp : Addr) (l : List (Nat × Nat × Nat)) (c : Bool) (s : Vbbrak.Split), vs = [.ref st, .ref cp, cv c] ∧ StL K H st l ∧ (∀ m ∈ l, m.1 = 0 ∨ m.1 = 1) ∧ Pr K H cp s.1 s.2.1 ∧ Mt.Fall s.1 ∧ Mt.Fall s.2.1 ∧ s.1.length < 64 ∧ s.2.1.length < 64 ∧
  ∀ H', Same H H' → Q (iv (Mt.wonBy c l s)) H'
theorem scTos : FnScope ["steps", "cards", "cover", "won", "left", "leader", "led", "third", "second", "last"] ["steps", "cards", "cover"] (defScope sTos) := ⟨rfl, rfl, rfl, by decide +kernel, rfl, by decide +kernel, by decide +kernel⟩
structure TxP (P : Program) (w : World) (K : PySem.W.Frag) (mg : Str → Option Value) (base : Heap) : Prop where
  sec : ∃ f fd, mg "second_card" = some (.ref f) ∧ Fun K "second_card" "second_card" sSec f fd ∧ Binds K fd ["cards", "led", "cover"] [] ∧ FnOk P w K mg base CX0 2 f fd ["cards", "led", "cover"] (spSec K)
  las : ∃ f fd, mg "last_card" = some (.ref f) ∧ Fun K "last_card" "last_card" sLas f fd ∧ Binds K fd ["cards", "ours", "partner"] [] ∧ FnOk P w K mg base CX0 2 f fd ["cards", "ours", "partner"] (spLas K)
theorem pick_behind' {H : Hp} {q : Addr} {s : Vbbrak.Split} {hand : Nat} (hh : hand = 0 ∨ hand = 1) (h : Pr K H q s.1 s.2.1) : ∃ vs v, SqT K H q vs ∧ atI vs (hand : Int) = some v ∧ ∃ a, v = .ref a ∧ Tn K H a (Vbbrak.behind hand s) := pick_behind hh h
theorem wonBy_nil (c : Bool) (s : Vbbrak.Split) : Mt.wonBy c [] s = 0 := rfl
theorem wonBy_cons (c : Bool) (m : Nat × Nat × Nat) (r : List (Nat × Nat × Nat)) (s : Vbbrak.Split) : Mt.wonBy c (m :: r) s = Vbbrak.ours m.2.1 (Vbbrak.second c (Vbbrak.behind m.1 s) m.2.1) m.2.2 (Vbbrak.last (Vbbrak.across m.1 s) m.2.1 (Vbbrak.second c (Vbbrak.behind m.1 s) m.2.1) m.2.2)
      + Mt.wonBy c r (Vbbrak.gone s (Vbbrak.second c (Vbbrak.behind m.1 s) m.2.1) (Vbbrak.last (Vbbrak.across m.1 s) m.2.1 (Vbbrak.second c (Vbbrak.behind m.1 s) m.2.1) m.2.2)) := rfl
theorem ok_tos {f : Addr} {fd : FuncData} (F : Fun K "tricks_of_steps" "tricks_of_steps" sTos f fd) (T : TxF P w K mg base) (U : TxP P w K mg base) : FnOk P w K mg base CX0 3 f fd ["steps", "cards", "cover"] (spTos K) := by
  obtain ⟨fW, fdW, mW, FW, bW, GW⟩ := T.wo
  obtain ⟨fO, fdO, mO, FO, bO, GO⟩ := T.won
  obtain ⟨fS, fdS, mS, FS, bS, GS⟩ := U.sec
  obtain ⟨fL, fdL, mL, FL, bL, GL⟩ := U.las
  refine F.ok scTos (fun vs H Q E h => ?_) (fun cdv A outer s H vs Q E hr h => ?_)
  · obtain ⟨st, cp, l, c, s, rfl, _⟩ := h
    rfl
  · obtain ⟨st, cp, l, c, w0, rfl, ⟨vs, hst, hps⟩, hm, hP, f1, f2, l1, l2, k⟩ := h
    have nd := scTos.nd
    have r1 : Room 1 _ := hr.mono (by omega)
    refine ⟨_, pss_cons (ps_set (i := 3) nd rfl (Or.inl rfl) pe_int)
      (pss_cons (ps_set (i := 4) nd rfl (Or.inl rfl) (pv 1))
      (pss_cons (ps_for PassesOwn.never rfl (pi_list (pv 0)) (pg_tup (n := 3) rfl (pgs_cons (pg_name (i := 5) nd rfl (Or.inl rfl)) (pgs_cons (pg_name (i := 6) nd rfl (Or.inl rfl)) (pgs_cons (pg_name (i := 7) nd rfl (Or.inl rfl)) pgs_nil))))
        (pss_cons (ps_set (i := 8) nd rfl (Or.inl rfl) (pe_call GS hr rfl mS FS.kp bS .nil pass0 (pa_cons (pe_ix ix_tup (pv 4) (pv 5) (fun _ _ => rfl)) (pa_cons (pv 6) (pa_cons (pv 2) pa_nil)))))
        (pss_cons (ps_set (i := 9) nd rfl (Or.inl rfl) (pe_call GL hr rfl mL FL.kp bL .nil pass0 (pa_cons (pe_ix ix_tup (pv 4) (pe_op op_sub pe_int (pv 5)) (fun _ _ => rfl)) (pa_cons (pe_callB (call_max2 rfl) (by rfl) T.n.max boot_max5 (pa_cons (pv 6) (pa_cons (pv 7) pa_nil))) (pa_cons (pv 8) pa_nil)))))
        (pss_cons (ps_aug (i := 3) nd rfl (Or.inl rfl) (pe_call GO r1 rfl mO FO.kp bO .nil pass0 (pa_cons (pv 6) (pa_cons (pv 8) (pa_cons (pv 7) (pa_cons (pv 9) pa_nil))))) ip_add)
        (pss_one (ps_set (i := 4) nd rfl (Or.inl rfl) (pe_call GW r1 rfl mW FW.kp bW .nil pass0 (pa_cons (pv 4) (pa_cons (pv 8) (pa_cons (pv 9) pa_nil))))))))))
      (pss_one (ps_ret (pv 3))))), ?_⟩
    refine ⟨_, rfl, _, rfl, st, rfl, ⟨_, SqL.of hst⟩, ?_⟩
    refine for_list (K := K) (a := st) (xs := vs) (fun i σ H' => ∃ (v5 v6 v7 v8 v9 : Option V) (lf : Addr) (wn : Nat) (wi : Vbbrak.Split), σ = [some (.ref st), some (.ref cp), some (cv c), some (iv wn), some (.ref lf), v5, v6, v7, v8, v9] ∧ Same H H' ∧ Pr K H' lf wi.1 wi.2.1 ∧
        Mt.Fall wi.1 ∧ Mt.Fall wi.2.1 ∧ wi.1.length < 64 ∧ wi.2.1.length < 64 ∧ Mt.wonBy c l w0 = wn + Mt.wonBy c (l.drop i) wi)
      ⟨none, none, none, none, none, cp, 0, w0, rfl, Same.refl H, hP, f1, f2, l1, l2, by rw [Nat.zero_add]; rfl⟩ (fun i σ H' _ ⟨_, _, _, _, _, _, _, _, _, sm, _⟩ => SqL.of (sm _ _ hst)) ?_ ?_
    · rintro i v σ H' hi ⟨v5, v6, v7, v8, v9, lf, wn, wi, rfl, sm, hL, g1, g2, g3, g4, hE⟩
      obtain ⟨m, hmi, p, rfl, hp⟩ := paired_at hps hi
      have hmm := hm m (List.mem_of_getElem? hmi)
      have hdr : l.drop i = m :: l.drop (i + 1) := by
        obtain ⟨q1, q2⟩ := List.getElem?_eq_some_iff.mp hmi
        rw [← q2, List.getElem_cons_drop]
      rw [hdr, wonBy_cons] at hE
      refine ⟨p, _, rfl, sm.kt.sq hp, rfl, _, _, rfl, _, _, rfl, _, _, rfl, rfl, ?_⟩
      -- second
      obtain ⟨us, u, q0, q1, pa, rfl, q2⟩ := pick_behind hmm hL
      refine ⟨_, rfl, _, rfl, lf, us, _, _, rfl, rfl, q0, q1, _, rfl, _, rfl, pa, _, m.2.1, c, rfl, q2, fall_behind m.1 g1 g2, ?_⟩
      -- last
      obtain ⟨us', u', q0', q1', pb, rfl, q2'⟩ := pick_across hmm hL
      refine ⟨_, rfl, _, rfl, _, _, rfl, rfl, lf, us', _, _, rfl, rfl, q0', q1', _, rfl, _, rfl, _, _, rfl, _, rfl, pb, _, max m.2.1 m.2.2, _, congrArg (fun v => [V.ref pb, v, iv (Vbbrak.second c (Vbbrak.behind m.1 wi) m.2.1)]) (max_iv m.2.1 m.2.2), q2', fall_across m.1 g1 g2, ?_⟩
      rw [← lastAt_eq (fall_across m.1 g1 g2)]
      -- won +=
      refine ⟨_, rfl, _, rfl, _, rfl, _, rfl, _, rfl, m.2.1, _, m.2.2, _, rfl, _, _, rfl, rfl, ?_⟩
      -- left
      refine ⟨_, rfl, _, rfl, _, rfl, lf, _, _, wi.1, wi.2.1, rfl, hL, g3, g4, fun nl H5 s5 hnl => ?_⟩
      refine ⟨some (iv m.1), some (iv m.2.1), some (iv m.2.2), some (iv (Vbbrak.second c (Vbbrak.behind m.1 wi) m.2.1)), some (iv (Vbbrak.last (Vbbrak.across m.1 wi) m.2.1 (Vbbrak.second c (Vbbrak.behind m.1 wi) m.2.1) m.2.2)), nl, wn + Vbbrak.ours m.2.1 (Vbbrak.second c (Vbbrak.behind m.1 wi) m.2.1) m.2.2 (Vbbrak.last (Vbbrak.across m.1 wi) m.2.1 (Vbbrak.second c (Vbbrak.behind m.1 wi) m.2.1) m.2.2), Vbbrak.gone wi (Vbbrak.second c (Vbbrak.behind m.1 wi) m.2.1) (Vbbrak.last (Vbbrak.across m.1 wi) m.2.1 (Vbbrak.second c (Vbbrak.behind m.1 wi) m.2.1) m.2.2), ?_, sm.trans s5, hnl, (g1.filter _).filter _, (g2.filter _).filter _, ?_, ?_, ?_⟩
      · rw [iv_add]
        rfl
      · exact Nat.lt_of_le_of_lt (Nat.le_trans (Mt.without_le _ _) (Mt.without_le _ _)) g3
      · exact Nat.lt_of_le_of_lt (Nat.le_trans (Mt.without_le _ _) (Mt.without_le _ _)) g4
      · rw [hE, Nat.add_assoc]
    · rintro σ H' ⟨v5, v6, v7, v8, v9, lf, wn, wi, rfl, sm, hL, g1, g2, g3, g4, hE⟩
      rw [paired_len hps, List.drop_length, wonBy_nil, Nat.add_zero] at hE
      rw [hE] at k
      exact ⟨_, rfl, k H' sm⟩
def spWop (K : PySem.W.Frag) : Sp := fun vs H Q _ => ∃ (r hp sp : Addr) (rs : List Nat) (n need : Nat) (a b : List Nat) (l : List Vbbrak.Split) (c : Bool), vs = [.ref r, iv need, .ref hp, .ref sp, cv c] ∧ SqL K H r (rs.map iv) ∧ rs.length = 3 * n ∧ n ≤ 4 ∧ (∀ m ∈ Mt.tri rs, m.1 = 0 ∨ m.1 = 1) ∧
  Pr K H hp a b ∧ a.length < 64 ∧ b.length < 64 ∧ SpT K H sp l ∧ l.length ≤ 1000 ∧ FallS l ∧
  ∀ H', Same H H' → Q (iv (Vbbrak.weight (l.filter fun s => decide (need ≤ Vbbrak.played c (Mt.tri rs) a b s)))) H'
theorem scWop : FnScope ["row", "need", "hands", "splits", "cover", "steps", "ways", "cards"] ["row", "need", "hands", "splits", "cover"] (defScope sWop) := ⟨rfl, rfl, rfl, by decide +kernel, rfl, by decide +kernel, by decide +kernel⟩
theorem planOf_sub : ∀ (l : List (Nat × Nat × Nat)) (a b : List Nat), ∀ m ∈ Mt.planOf l a b, m ∈ l
  | [], _, _, m, hm => nomatch hm
  | x :: r, a, b, m, hm => by
    unfold Mt.planOf at hm
    split at hm
    · rcases List.mem_cons.mp hm with rfl | hm
      · simp
      · exact List.mem_cons_of_mem _ (planOf_sub r _ _ m hm)
    · cases hm
theorem ok_wop {f fS fT : Addr} {fd fdS fdT : FuncData} (F : Fun K "ways_of_plan" "ways_of_plan" sWop f fd) (T : TxF P w K mg base) (U : TxP P w K mg base) (Cs : Consts mg)
    (mS : mg "steps_until_end" = some (.ref fS)) (FS : Fun K "steps_until_end" "steps_until_end" sSte fS fdS) (bS : Binds K fdS ["row", "hands"] [])
    (mT : mg "tricks_of_steps" = some (.ref fT)) (FT : Fun K "tricks_of_steps" "tricks_of_steps" sTos fT fdT) (bT : Binds K fdT ["steps", "cards", "cover"] []) :
    FnOk P w K mg base CX0 4 f fd ["row", "need", "hands", "splits", "cover"] (spWop K) := by
  have GS : FnOk P w K mg base CX0 2 fS fdS ["row", "hands"] (spSte K) := ok_ste FS T Cs
  have GT : FnOk P w K mg base CX0 3 fT fdT ["steps", "cards", "cover"] (spTos K) := ok_tos FT T U
  refine F.ok scWop (fun vs H Q E h => ?_) (fun cdv A outer s H vs Q E hr h => ?_)
  · obtain ⟨r, hp, sp, rs, n, need, a, b, l, c, rfl, _⟩ := h
    rfl
  · obtain ⟨r, hp, sp, rs, n, need, a, b, l, c, rfl, hR, hn, hn4, hm, hP, la, lb, hL, hl, hF, k⟩ := h
    have nd := scWop.nd
    have r2 : Room 2 _ := hr.mono (by omega)
    have e16 : sizeLine = 16777216 := sizeLine_eq
    refine ⟨_, pss_cons (ps_set (i := 5) nd rfl (Or.inr rfl) (pe_call GS r2 rfl mS FS.kp bS .nil pass0 (pa_cons (pv 0) (pa_cons (pv 2) pa_nil))))
      (pss_one (ps_ret (pe_callB (cr_sum rfl) (by rfl) T.n.sum boot_sum5 (pa_cons (pe_lc (own := [("ways", 6), ("cards", 7)]) (g := gTup K 2 (gCons (gName 6) (gCons (gName 7) gNil))) rfl nd (pi_tup (pv 3)) (blkOk_by (show blkC ["row", "need", "hands", "splits", "cover", "steps", "ways", "cards"] (defScope sWop) _ [("ways", 6), ("cards", 7)] = true by decide +kernel))
        (fun _ _ _ _ _ => pg_tup (n := 2) rfl (pgs_cons (pg_name (i := 6) nd rfl (Or.inl rfl) (by first | exact .inl rfl | exact .inr rfl)) (pgs_cons (pg_name (i := 7) nd rfl (Or.inl rfl) (by first | exact .inl rfl | exact .inr rfl)) pgs_nil)))
        (fun _ _ _ _ _ => pts_one (pt_cmpR (r := rI0 fun i j => .bl (decide (j ≤ i))) op_ge (pe_call GT hr rfl mT FT.kp bT .nil pass0 (pa_cons (pv 5) (pa_cons (pv 7) (pa_cons (pv 4) pa_nil)))) (pv 1) (nomark _)))
        (fun _ _ _ _ _ => pv 6)) pa_nil)))), ?_⟩
    refine ⟨_, rfl, _, rfl, r, hp, rs, n, a, b, rfl, hR, hn, hn4, hm, hP, la, lb, fun st H1 s1 hst => ?_⟩
    obtain ⟨vs, g1, g2⟩ := hL.kt s1.kt
    have hms : ∀ m ∈ Mt.planOf (Mt.tri rs) a b, m.1 = 0 ∨ m.1 = 1 := fun m hm' => hm m (planOf_sub _ _ _ m hm')
    refine ⟨_, rfl, sp, rfl, ⟨_, g1⟩, fun D hD => lc_tup (xs := vs) (fun i H' => Same H1 H' ∧ H' D = some (.lst ((((l.take i).filter fun s => decide (need ≤ Vbbrak.played c (Mt.tri rs) a b s)).map fun s => iv s.2.2)))) ⟨Same.new hD, upd_same⟩ (fun i H' _ e => e.1.kt.sq g1) (fun i x H' hx e => ?_) (fun H' e => ?_)⟩
    · obtain ⟨sm, hD'⟩ := e
      obtain ⟨z, hz, p, q, rfl, q1, q2⟩ := paired_at g2 hx
      have hzm := List.mem_of_getElem? hz
      have hi := (List.getElem?_eq_some_iff.mp hz).1
      obtain ⟨F1, F2, F3, F4⟩ := hF z hzm
      refine ⟨p, _, rfl, sm.kt.sq q1, rfl, _, _, rfl, _, _, rfl, rfl, ?_⟩
      refine ⟨rfl, _, rfl, _, rfl, _, rfl, st, q, _, c, z, rfl, hst.same sm, hms, q2.kt sm.kt, F1, F2, F3, F4, fun H5 s5 => ?_⟩
      refine ⟨_, rfl, _, _, rfl, rfl, _, rfl, ?_⟩
      rw [← Mt.played_eq]
      have hlen : (((l.take i).filter fun s => decide (need ≤ Vbbrak.played c (Mt.tri rs) a b s)).map fun s => iv s.2.2).length ≤ i := by
        rw [List.length_map]
        exact Nat.le_trans (List.length_filter_le _ _) (by rw [List.length_take]; omega)
      refine ite2 (fun h => ?_) (fun h => ?_)
      · have h1 : need ≤ Vbbrak.played c (Mt.tri rs) a b z := by have := of_decide_eq_true h; omega
        refine ⟨_, rfl, _, s5 _ _ hD', by omega, fun b' o e => ?_, ?_⟩
        · rw [upd_ne (ne_of_none e hD)]
          exact s5 _ _ (sm _ _ e)
        · rw [upd_same, take_snoc' hz, List.filter_append, List.map_append]
          rw [show ([z].filter fun s => decide (need ≤ Vbbrak.played c (Mt.tri rs) a b s)) = [z] by simp [h1]]
          rfl
      · have h1 : ¬ need ≤ Vbbrak.played c (Mt.tri rs) a b z := fun q => h (decide_eq_true (by show (need : Int) ≤ ((Vbbrak.played c (Mt.tri rs) a b z : Nat) : Int); omega))
        refine ⟨sm.trans s5, ?_⟩
        rw [take_snoc' hz, List.filter_append]
        rw [show ([z].filter fun s => decide (need ≤ Vbbrak.played c (Mt.tri rs) a b s)) = [] by simp [h1], List.append_nil]
        exact s5 _ _ hD'
    · obtain ⟨sm, hD'⟩ := e
      rw [paired_len g2, List.take_length] at hD'
      refine ⟨D, (l.filter fun s => decide (need ≤ Vbbrak.played c (Mt.tri rs) a b s)).map fun s => ((s.2.2 : Nat) : Int), rfl, SqL.of (by rw [hD', List.map_map]; rfl), ?_⟩
      rw [weight_sum]
      exact k H' (s1.trans sm)
end
end On
set_option maxRecDepth 100000
set_option maxHeartbeats 4000000
namespace L2
open PySem PySem.Spec PyProof.Rows
theorem putF_new {f : Str} {v : V} : ∀ {ns : List Str} {vs : List V}, f ∉ ns → vs.length = ns.length → putF f v (ns.zip vs) = (ns ++ [f]).zip (vs ++ [v])
  | [], [], _, _ => rfl
  | [], _ :: _, _, h => by simp at h
  | _ :: _, [], _, h => by simp at h
  | n :: ns, u :: vs, hn, hl => by
    have e : ¬ n = f := fun e => hn (by simp [e])
    show (if n = f then (n, v) :: ns.zip vs else (n, u) :: putF f v (ns.zip vs)) = (n, u) :: (ns ++ [f]).zip (vs ++ [v])
    rw [if_neg e, putF_new (fun h => hn (by simp [h])) (by simpa using hl)]
theorem putF_len {f : Str} {v : V} : ∀ (fs : List (Str × V)), (putF f v fs).length ≤ fs.length + 1
  | [] => Nat.le_refl _
  | (n, u) :: fs => by
    show (if n = f then (n, v) :: fs else (n, u) :: putF f v fs).length ≤ fs.length + 1 + 1
    split
    · rw [List.length_cons]; omega
    · have := putF_len (f := f) (v := v) fs
      rw [List.length_cons]; omega
theorem upd_comm {H : Hp} {a b : Addr} {o u : HO} (h : a ≠ b) : upd (upd H a o) b u = upd (upd H b u) a o := by
  funext c
  unfold upd
  by_cases h1 : c = b
  · subst h1
    rw [if_pos rfl, if_neg (fun e => h e.symm), if_pos rfl]
  · rw [if_neg h1]
    by_cases h2 : c = a
    · rw [if_pos h2, if_pos h2]
    · rw [if_neg h2, if_neg h2, if_neg h1]
end L2
namespace On
open PySem PySem.Spec PyProof.Rows L2
abbrev cTab : Stmt := top 52
abbrev sTInit : Stmt := inClass cTab 0
abbrev sTSui : Stmt := inClass cTab 1
abbrev sTOil : Stmt := inClass cTab 2
abbrev sTOit : Stmt := inClass cTab 3
abbrev sTNow : Stmt := inClass cTab 4
abbrev sTGr2 : Stmt := inClass cTab 5
abbrev sTGr4 : Stmt := inClass cTab 6
abbrev sTOdd : Stmt := inClass cTab 7
abbrev sTWay : Stmt := inClass cTab 8
abbrev sTHan : Stmt := inClass cTab 9
abbrev sTLds : Stmt := inClass cTab 10
abbrev sTLea : Stmt := inClass cTab 11
abbrev sTSes : Stmt := inClass cTab 12
abbrev sTSec : Stmt := inClass cTab 13
abbrev sTThs : Stmt := inClass cTab 14
abbrev sTThi : Stmt := inClass cTab 15
abbrev sTLas : Stmt := inClass cTab 16
abbrev sTLst : Stmt := inClass cTab 17
abbrev sTBli : Stmt := inClass cTab 18
def tn : List Str := ["turn", "need", "hands", "splits", "search", "leader", "led", "second", "third"]
theorem tn_nd : tn.Nodup := by decide +kernel
theorem few9 {vs : List V} : (tn.zip vs).length < 1000 := by
  rw [List.length_zip]
  have : tn.length = 9 := rfl
  omega
theorem put_turn (v0 v1 v2 v3 v4 v5 v6 v7 v8 v : V) : putF "turn" v (tn.zip [v0, v1, v2, v3, v4, v5, v6, v7, v8]) = tn.zip [v, v1, v2, v3, v4, v5, v6, v7, v8] := putF_zip tn_nd (i := 0) rfl rfl
theorem put_need (v0 v1 v2 v3 v4 v5 v6 v7 v8 v : V) : putF "need" v (tn.zip [v0, v1, v2, v3, v4, v5, v6, v7, v8]) = tn.zip [v0, v, v2, v3, v4, v5, v6, v7, v8] := putF_zip tn_nd (i := 1) rfl rfl
theorem put_hands (v0 v1 v2 v3 v4 v5 v6 v7 v8 v : V) : putF "hands" v (tn.zip [v0, v1, v2, v3, v4, v5, v6, v7, v8]) = tn.zip [v0, v1, v, v3, v4, v5, v6, v7, v8] := putF_zip tn_nd (i := 2) rfl rfl
theorem put_splits (v0 v1 v2 v3 v4 v5 v6 v7 v8 v : V) : putF "splits" v (tn.zip [v0, v1, v2, v3, v4, v5, v6, v7, v8]) = tn.zip [v0, v1, v2, v, v4, v5, v6, v7, v8] := putF_zip tn_nd (i := 3) rfl rfl
theorem put_search (v0 v1 v2 v3 v4 v5 v6 v7 v8 v : V) : putF "search" v (tn.zip [v0, v1, v2, v3, v4, v5, v6, v7, v8]) = tn.zip [v0, v1, v2, v3, v, v5, v6, v7, v8] := putF_zip tn_nd (i := 4) rfl rfl
theorem put_leader (v0 v1 v2 v3 v4 v5 v6 v7 v8 v : V) : putF "leader" v (tn.zip [v0, v1, v2, v3, v4, v5, v6, v7, v8]) = tn.zip [v0, v1, v2, v3, v4, v, v6, v7, v8] := putF_zip tn_nd (i := 5) rfl rfl
theorem put_led (v0 v1 v2 v3 v4 v5 v6 v7 v8 v : V) : putF "led" v (tn.zip [v0, v1, v2, v3, v4, v5, v6, v7, v8]) = tn.zip [v0, v1, v2, v3, v4, v5, v, v7, v8] := putF_zip tn_nd (i := 6) rfl rfl
theorem put_second (v0 v1 v2 v3 v4 v5 v6 v7 v8 v : V) : putF "second" v (tn.zip [v0, v1, v2, v3, v4, v5, v6, v7, v8]) = tn.zip [v0, v1, v2, v3, v4, v5, v6, v, v8] := putF_zip tn_nd (i := 7) rfl rfl
theorem put_third (v0 v1 v2 v3 v4 v5 v6 v7 v8 v : V) : putF "third" v (tn.zip [v0, v1, v2, v3, v4, v5, v6, v7, v8]) = tn.zip [v0, v1, v2, v3, v4, v5, v6, v7, v] := putF_zip tn_nd (i := 8) rfl rfl
theorem tab_new (v0 v1 v2 v3 v4 v5 v6 v7 v8 : V) : (putF "third" v8 (putF "second" v7 (putF "led" v6 (putF "leader" v5 (putF "search" v4 (putF "splits" v3 (putF "hands" v2 (putF "need" v1 (putF "turn" v0 []))))))))) = tn.zip [v0, v1, v2, v3, v4, v5, v6, v7, v8] := by
  rw [show putF "turn" v0 [] = (["turn"] : List Str).zip [v0] from rfl, putF_new (by decide +kernel) rfl, putF_new (by decide +kernel) rfl, putF_new (by decide +kernel) rfl, putF_new (by decide +kernel) rfl, putF_new (by decide +kernel) rfl, putF_new (by decide +kernel) rfl, putF_new (by decide +kernel) rfl, putF_new (by decide +kernel) rfl]
  rfl
def KL (H H' : Hp) : Prop := KT H H' ∧ ∀ b xs, H b = some (.lst xs) → H' b = some (.lst xs)
theorem KL.refl (H : Hp) : KL H H := ⟨KT.refl H, fun _ _ h => h⟩
theorem KL.trans {H H1 H2 : Hp} (a : KL H H1) (b : KL H1 H2) : KL H H2 := ⟨a.1.trans b.1, fun c xs h => b.2 c xs (a.2 c xs h)⟩
theorem _root_.L2.Same.kl {H H' : Hp} (s : Same H H') : KL H H' := ⟨s.kt, fun b xs h => s b _ h⟩
theorem KL.seq {K : PySem.W.Frag} {H H' : Hp} (s : KL H H') {a : Addr} {xs : List V} (h : SqL K H a xs) : SqL K H' a xs := by
  rcases h with (h | ⟨o, h⟩) | h
  · exact .inl (.inl (s.2 _ _ h))
  · exact .inl (.inr ⟨o, s.1.2 _ _ _ h⟩)
  · exact .inr h
theorem KL.ins {H : Hp} {t C dx : Addr} {fs : List (Str × V)} {o : HO} (h : H t = some (.ins C dx fs)) : KL H (upd H t o) := by
  refine ⟨kt_mut h True.intro, fun b xs e => ?_⟩
  rw [upd_ne]
  · exact e
  · rintro rfl
    rw [h] at e
    cases e
section
variable {P : Program} {w : World} {K : PySem.W.Frag} {mg : Str → Option Value} {base : Heap}
theorem _root_.L2.DN.ne_lst {H : Hp} {d a : Addr} {kvs : List (Tk.Tr × Int)} {xs : List V} (h : DN P w K H d kvs) (e : H a = some (.lst xs)) : a ≠ d := by
  rintro rfl
  obtain ⟨_, _, ys, e', _⟩ := h
  rw [e'] at e
  cases e
theorem _root_.L2.DN.ne_ins {H : Hp} {d a C dx : Addr} {kvs : List (Tk.Tr × Int)} {fs : List (Str × V)} (h : DN P w K H d kvs) (e : H a = some (.ins C dx fs)) : a ≠ d := by
  rintro rfl
  obtain ⟨_, _, ys, e', _⟩ := h
  rw [e'] at e
  cases e
theorem But.kl {H H' : Hp} {d : Addr} {kvs : List (Tk.Tr × Int)} (b : But d H H') (h : DN P w K H d kvs) : KL H H' := by
  obtain ⟨u, hu, mu⟩ := DN.mut h
  exact ⟨b.kt hu mu, fun a xs e => b a _ e (h.ne_lst e)⟩
theorem _root_.L2.DN.keep {H H' : Hp} {d : Addr} {kvs : List (Tk.Tr × Int)} (kt : KT H H') (ed : ∀ o, H d = some o → H' d = some o) (h : DN P w K H d kvs) : DN P w K H' d kvs := by
  obtain ⟨h1, h2, xs, e, r⟩ := h
  exact ⟨h1, h2, xs, ed _ e, Tk.paired_mono (fun p q ⟨e1, e2, e3⟩ => ⟨e1, e2, TrV.mono (fun a xs h => kt.sq h) 8 _ _ e3⟩) r⟩
theorem SrAt.keep {C : Addr} {H H' : Hp} {p d : Addr} {c : Bool} {kvs : List (Tk.Tr × Int)} (kt : KT H H') (ep : ∀ o, H p = some o → H' p = some o) (ed : ∀ o, H d = some o → H' d = some o) (h : SrAt P w K C H p d c kvs) : SrAt P w K C H' p d c kvs := by
  obtain ⟨⟨dx, h1⟩, h2, h3⟩ := h
  exact ⟨⟨dx, ep _ h1⟩, h2.keep kt ed, h3⟩
structure TabF (P : Program) (w : World) (K : PySem.W.Frag) (CT CS : Addr) (H : Hp) (t : Addr) (s : Vbbrak.State) (dx hp sp sr d : Addr) (kvs : List (Tk.Tr × Int)) (vl vx vy vz : V) : Prop where
  ob : H t = some (.ins CT dx (tn.zip [iv s.phase, iv s.need, .ref hp, .ref sp, .ref sr, vl, vx, vy, vz]))
  hn : Pr K H hp s.a s.b
  sl : SpT K H sp s.ways
  se : SrAt P w K CS H sr d s.cover kvs
  e2 : 2 ≤ s.phase → vl = iv s.hand ∧ vx = iv s.x
  e3 : 3 ≤ s.phase → vy = iv s.y
  e4 : 4 ≤ s.phase → vz = iv s.z
def Tab (P : Program) (w : World) (K : PySem.W.Frag) (CT CS : Addr) (H : Hp) (t : Addr) (s : Vbbrak.State) (n : Nat) : Prop := ∃ (dx hp sp sr d : Addr) (kvs : List (Tk.Tr × Int)) (vl vx vy vz : V), TabF P w K CT CS H t s dx hp sp sr d kvs vl vx vy vz ∧ kvs.length ≤ 166944 * n
section
variable {CT CS : Addr} {H H' : Hp} {t : Addr} {s : Vbbrak.State} {dx hp sp sr d : Addr} {kvs : List (Tk.Tr × Int)} {vl vx vy vz : V}
theorem TabF.keep (h : TabF P w K CT CS H t s dx hp sp sr d kvs vl vx vy vz) (kt : KT H H') (et : ∀ o, H t = some o → H' t = some o) (es : ∀ o, H sr = some o → H' sr = some o) (ed : ∀ o, H d = some o → H' d = some o) : TabF P w K CT CS H' t s dx hp sp sr d kvs vl vx vy vz :=
  ⟨et _ h.ob, h.hn.kt kt, h.sl.kt kt, h.se.keep kt es ed, h.e2, h.e3, h.e4⟩
theorem TabF.same (h : TabF P w K CT CS H t s dx hp sp sr d kvs vl vx vy vz) (s1 : Same H H') : TabF P w K CT CS H' t s dx hp sp sr d kvs vl vx vy vz := h.keep s1.kt (fun _ => s1 _ _) (fun _ => s1 _ _) (fun _ => s1 _ _)
theorem TabF.but {kvs' : List (Tk.Tr × Int)} (h : TabF P w K CT CS H t s dx hp sp sr d kvs vl vx vy vz) (b : But d H H') (S : SrAt P w K CS H' sr d s.cover kvs') : TabF P w K CT CS H' t s dx hp sp sr d kvs' vl vx vy vz :=
  ⟨b _ _ h.ob (h.se.dn.ne_ins h.ob), h.hn.kt (h.se.kt b), h.sl.kt (h.se.kt b), S, h.e2, h.e3, h.e4⟩
theorem TabF.lst {tl : Addr} {xs : List V} {o : HO} (h : TabF P w K CT CS H t s dx hp sp sr d kvs vl vx vy vz) (e : H tl = some (.lst xs)) : TabF P w K CT CS (upd H tl o) t s dx hp sp sr d kvs vl vx vy vz := by
  have nt : t ≠ tl := ne_of h.ob e (by intro q; cases q)
  obtain ⟨dy, hs⟩ := h.se.ob
  have ns : sr ≠ tl := ne_of hs e (by intro q; cases q)
  have nd : d ≠ tl := (h.se.dn.ne_lst e).symm
  exact h.keep (kt_mut e True.intro) (fun o z => by rw [upd_ne nt]; exact z) (fun o z => by rw [upd_ne ns]; exact z) (fun o z => by rw [upd_ne nd]; exact z)
theorem se_put {c : Bool} {vs : List V} {o : HO} (h : SrAt P w K CS H sr d c kvs) (ht : H t = some (.ins CT dx (tn.zip vs))) (hl : vs.length = 9) : SrAt P w K CS (upd H t o) sr d c kvs := by
  have nd : d ≠ t := (h.dn.ne_ins ht).symm
  have ns : sr ≠ t := by
    rintro rfl
    obtain ⟨dy, hs⟩ := h.ob
    rw [ht] at hs
    injection hs with hs
    injection hs with _ _ hs
    have := congrArg List.length hs
    have e1 := putF_len (f := "known") (v := .ref d) (putF "cover" (cv c) [])
    have e2 := putF_len (f := "cover") (v := cv c) []
    unfold sf at this
    rw [List.length_zip, hl] at this
    have e9 : tn.length = 9 := rfl
    have e0 : ([] : List (Str × V)).length = 0 := rfl
    omega
  exact h.keep (kt_mut ht True.intro) (fun o z => by rw [upd_ne ns]; exact z) (fun o z => by rw [upd_ne nd]; exact z)
theorem TabF.put {s' : Vbbrak.State} {hp' sp' : Addr} {vl' vx' vy' vz' : V} {o : HO} (h : TabF P w K CT CS H t s dx hp sp sr d kvs vl vx vy vz) (eo : o = .ins CT dx (tn.zip [iv s'.phase, iv s'.need, .ref hp', .ref sp', .ref sr, vl', vx', vy', vz'])) (hP : Pr K H hp' s'.a s'.b) (hL : SpT K H sp' s'.ways) (ec : s'.cover = s.cover)
    (e2 : 2 ≤ s'.phase → vl' = iv s'.hand ∧ vx' = iv s'.x) (e3 : 3 ≤ s'.phase → vy' = iv s'.y) (e4 : 4 ≤ s'.phase → vz' = iv s'.z) : TabF P w K CT CS (upd H t o) t s' dx hp' sp' sr d kvs vl' vx' vy' vz' := by
  subst eo
  have kt := kt_mut (o := .ins CT dx (tn.zip [iv s'.phase, iv s'.need, .ref hp', .ref sp', .ref sr, vl', vx', vy', vz'])) h.ob True.intro
  refine ⟨upd_same, hP.kt kt, hL.kt kt, ?_, e2, e3, e4⟩
  rw [ec]
  exact se_put h.se h.ob rfl
end
theorem good_pos {s : Vbbrak.State} (h : Mt.Good s) (hn : s.ways ≠ []) : Pos s.a s.b s.ways := ⟨hn, by have := h.wl; omega, fun z hz => ⟨(h.w5 z hz).1, (h.w5 z hz).2.1, by have := (h.w5 z hz).2.2.1; omega, by have := (h.w5 z hz).2.2.2; omega⟩, by have := h.la; omega, by have := h.lb; omega⟩
theorem good_fall {s : Vbbrak.State} (h : Mt.Good s) : FallS s.ways := fun z hz => ⟨(h.w5 z hz).1, (h.w5 z hz).2.1, by have := (h.w5 z hz).2.2.1; omega, by have := (h.w5 z hz).2.2.2; omega⟩
theorem good_tl {s : Vbbrak.State} (h : Mt.Good s) : Vbbrak.tricksLeft s.a s.b ≤ 4 := by
  have := h.la
  have := h.lb
  unfold Vbbrak.tricksLeft
  omega
theorem B3 : Mt.B 3 = 163 := by decide
theorem B4 : Mt.B 4 = 5217 := by decide
def Has (P : Program) (w : World) (K : PySem.W.Frag) (mg : Str → Option Value) (base : Heap) (name : Str) (k : Nat) (ps : List Str) (sp : Sp) : Prop := ∃ f fd, mg name = some (.ref f) ∧ PySem.W.keepIn K (.ref f) = true ∧ Binds K fd ps [] ∧ FnOk P w K mg base CX0 k f fd ps sp
def HasM (P : Program) (w : World) (K : PySem.W.Frag) (mg : Str → Option Value) (base : Heap) (C : Addr) (name : Str) (k : Nat) (ps : List Str) (sp : Sp) : Prop := ∃ f fd, Meth K C name f ∧ Binds K fd ps [] ∧ FnOk P w K mg base CX0 k f fd ps sp
structure TxT (P : Program) (w : World) (K : PySem.W.Frag) (mg : Str → Option Value) (base : Heap) (CT CS : Addr) : Prop where
  n : Names mg
  cs : Consts mg
  ct : Cls K CT
  no : ∀ f ∈ tn, NoAttr K CT f
  s : TxS K mg CS
  mgS : mg "Search" = some (.ref CS)
  mkS : ∃ fI dI, Mk K CS fI ∧ Binds K dI ["self", "cover"] [] ∧ FnOk P w K mg base CX0 1 fI dI ["self", "cover"] (spSInit P w K CS)
  atl : HasM P w K mg base CS "at_lead" 23 ["self", "need", "hands", "splits"] (spAt P w K CS 4)
  afl : HasM P w K mg base CS "after_lead" 21 ["self", "need", "hands", "splits", "leader", "led"] (spAfL P w K CS 3)
  af2 : HasM P w K mg base CS "after_second" 20 ["self", "need", "hands", "splits", "leader", "led", "second"] (spAf2 P w K CS 3)
  af3 : HasM P w K mg base CS "after_third" 19 ["self", "need", "hands", "splits", "leader", "led", "second", "third"] (spAf3 P w K CS 3)
  by2 : Has P w K mg base "by_second" 3 ["splits", "hand", "led", "cover"] (spBy2 K)
  by4 : Has P w K mg base "by_last" 3 ["splits", "hand", "ours", "partner"] (spBy4 K)
  fal : Has P w K mg base "falling" 1 ["cards"] (spFal K)
  wo : Has P w K mg base "without" 1 ["pair", "one", "other"] (spWo K)
  spl : Has P w K mg base "all_splits" 3 ["p", "q", "missing"] (spSpl K)
  way : Has P w K mg base "ways_of" 1 ["splits"] (spWay K)
  aft : Has P w K mg base "after_trick" 2 ["splits", "second", "last"] (spAft K)
  thi : Has P w K mg base "thirds_of" 1 ["hands", "leader"] (spThi K)
  won : Has P w K mg base "tricks_won" 1 ["led", "second", "third", "last"] spWon
  nee : Has P w K mg base "need_after" 1 ["need", "won"] spNee
  iss : Has P w K mg base "is_suit" 2 ["need", "cover", "p", "q", "rows"] (spIsS K)
  ref : Has P w K mg base "suit_refusal" 1 ["p", "q", "rows"] (spRef K)
  isp : Has P w K mg base "is_played" 1 ["card"] spIsP
  pla : Has P w K mg base "is_plan" 2 ["row"] (spPla K)
  tg : Has P w K mg base "told_groups" 2 ["groups"] (spTG K)
  th : Has P w K mg base "told_hands" 1 ["pair"] (spTH K)
  wop : Has P w K mg base "ways_of_plan" 4 ["row", "need", "hands", "splits", "cover"] (spWop K)
section
variable {CT CS : Addr}
def spTInit (P : Program) (w : World) (K : PySem.W.Frag) (CT CS : Addr) : Sp := fun vs H Q _ => ∃ (t dx : Addr), vs = [.ref t] ∧ H t = some (.ins CT dx []) ∧ ∀ H' : Hp, (∀ b o, H b = some o → b ≠ t → H' b = some o) → Tab P w K CT CS H' t VbbrakNeutral.start 0 → Q .non H'
theorem tinit_end {HA H5 : Hp} {t dx e1 e2 hp sp sr dy d : Addr} {fs2 fs3 fs4 : List (Str × V)} (hA : HA t = some (.ins CT dx fs2)) (h1 : HA e1 = none) (h2 : (upd HA e1 (.tup [])) e2 = none) (h3 : (upd (upd HA e1 (.tup [])) e2 (.tup [])) hp = none)
    (h4 : (upd (upd (upd (upd HA e1 (.tup [])) e2 (.tup [])) hp (.tup [.ref e1, .ref e2])) t (.ins CT dx fs3)) sp = none)
    (nsr : (upd (upd (upd (upd (upd (upd HA e1 (.tup [])) e2 (.tup [])) hp (.tup [.ref e1, .ref e2])) t (.ins CT dx fs3)) sp (.tup [])) t (.ins CT dx fs4)) sr = none)
    (ndy : (upd (upd (upd (upd (upd (upd HA e1 (.tup [])) e2 (.tup [])) hp (.tup [.ref e1, .ref e2])) t (.ins CT dx fs3)) sp (.tup [])) t (.ins CT dx fs4)) dy = none)
    (nd : (upd (upd (upd (upd (upd (upd (upd (upd HA e1 (.tup [])) e2 (.tup [])) hp (.tup [.ref e1, .ref e2])) t (.ins CT dx fs3)) sp (.tup [])) t (.ins CT dx fs4)) dy (.own sr)) sr (.ins CS dy [])) d = none)
    (hS : SrAt P w K CS H5 sr d false []) (b5 : ∀ b o, (upd (upd (upd (upd (upd (upd (upd (upd HA e1 (.tup [])) e2 (.tup [])) hp (.tup [.ref e1, .ref e2])) t (.ins CT dx fs3)) sp (.tup [])) t (.ins CT dx fs4)) dy (.own sr)) sr (.ins CS dy [])) b = some o → b ≠ sr → H5 b = some o) :
    TabF P w K CT CS (upd H5 t (.ins CT dx (tn.zip [.int 0, .int 0, .ref hp, .ref sp, .ref sr, .int 0, .int 0, .int 0, .int 0]))) t VbbrakNeutral.start dx hp sp sr d [] (.int 0) (.int 0) (.int 0) (.int 0) := by
  have s1 := Same.new (o := .tup []) h1
  have s2 := Same.new (o := .tup []) h2
  have s3 := Same.new (o := .tup [.ref e1, .ref e2]) h3
  have hB := s3 _ _ (s2 _ _ (s1 _ _ hA))
  have k3 := kt_mut (o := .ins CT dx fs3) hB True.intro
  have s4 := Same.new (o := .tup []) h4
  have k4 := kt_mut (o := .ins CT dx fs4) (s4 _ _ upd_same) True.intro
  have s5 := Same.made nsr ndy b5
  have ht5 := s5 _ _ upd_same
  have k5 := kt_mut (o := .ins CT dx (tn.zip [.int 0, .int 0, .ref hp, .ref sp, .ref sr, .int 0, .int 0, .int 0, .int 0])) ht5 True.intro
  have nts : sr ≠ t := (ne_of_none upd_same nsr).symm
  have ntd : d ≠ t := by
    refine (ne_of_none (o := .ins CT dx fs4) ?_ nd).symm
    rw [upd_ne nts.symm, upd_ne (ne_of_none upd_same ndy), upd_same]
  have kA := ((k3.trans s4.kt).trans k4).trans (s5.kt.trans k5)
  refine ⟨upd_same, ⟨e1, e2, kA.sq (SqT.of upd_same), kA.sq (SqT.of (s3 _ _ (s2 _ _ upd_same))), kA.sq (SqT.of (s3 _ _ upd_same))⟩, ⟨[], (k4.trans (s5.kt.trans k5)).sq (SqT.of upd_same), .nil⟩, ?_, fun h => absurd h (by show ¬ 2 ≤ 0; omega), fun h => absurd h (by show ¬ 3 ≤ 0; omega), fun h => absurd h (by show ¬ 4 ≤ 0; omega)⟩
  exact hS.keep k5 (fun o z => by rw [upd_ne nts]; exact z) (fun o z => by rw [upd_ne ntd]; exact z)
theorem scTInit : FnScope ["self"] ["self"] (defScope sTInit) := ⟨rfl, rfl, rfl, by decide +kernel, rfl, by decide +kernel, by decide +kernel⟩
theorem ok_tinit {f : Addr} {fd : FuncData} (F : Fun K "__init__" "Table.__init__" sTInit f fd) (T : TxT P w K mg base CT CS) : FnOk P w K mg base CX0 3 f fd ["self"] (spTInit P w K CT CS) := by
  obtain ⟨fI, dI, MI, bI, GI⟩ := T.mkS
  refine F.ok scTInit (fun vs H Q E h => ?_) (fun cdv A outer s H vs Q E hr h => ?_)
  · obtain ⟨t, dx, rfl, _⟩ := h
    rfl
  · obtain ⟨t, dx, rfl, h0, k⟩ := h
    obtain ⟨t0, c0⟩ := T.cs.turn0
    refine ⟨_, pss_cons (ps_fld (pv 0) (pe_glob (v := .int 0) (by rfl) c0 ⟨t0, rfl⟩) rfl)
      (pss_cons (ps_fld (pv 0) pe_int rfl)
      (pss_cons (ps_fld (pv 0) (pe_tup (pa_cons (pe_tup pa_nil) (pa_cons (pe_tup pa_nil) pa_nil))) rfl)
      (pss_cons (ps_fld (pv 0) (pe_tup pa_nil) rfl)
      (pss_cons (ps_fld (pv 0) (pe_make MI GI hr rfl T.mgS bI .nil pass0 (pa_cons pe_int pa_nil)) rfl)
      (pss_cons (ps_fld (pv 0) pe_int rfl)
      (pss_cons (ps_fld (pv 0) pe_int rfl)
      (pss_cons (ps_fld (pv 0) pe_int rfl)
      (pss_one (ps_fld (pv 0) pe_int rfl))))))))), ?_⟩
    have n9 : ∀ {f : Str}, f ∈ tn → NoAttr K CT f := fun {f} h => T.no f h
    -- turn, need
    refine ⟨_, rfl, t, CT, dx, [], rfl, h0, T.ct, n9 (by decide +kernel), (by show 0 < 1000; decide), ?_⟩
    refine ⟨_, rfl, t, CT, dx, _, rfl, upd_same, T.ct, n9 (by decide +kernel), (by show 1 < 1000; decide), ?_⟩
    -- hands
    refine ⟨Nat.zero_le _, fun e1 h1 => ⟨Nat.zero_le _, fun e2 h2 => ⟨by show 2 ≤ sizeLine; decide, fun hp h3 => ?_⟩⟩⟩
    have s3 := ((Same.new (o := .tup []) h1).trans (Same.new (o := .tup []) h2)).trans (Same.new (o := .tup [.ref e1, .ref e2]) h3)
    have l1 := putF_len (f := "need") (v := .int 0) (putF "turn" (.int 0) [])
    have l0 := putF_len (f := "turn") (v := .int 0) []
    have z0 : ([] : List (Str × V)).length = 0 := rfl
    refine ⟨_, rfl, t, CT, dx, _, rfl, s3 _ _ upd_same, T.ct, n9 (by decide +kernel), by omega, ?_⟩
    have l2 := putF_len (f := "hands") (v := .ref hp) (putF "need" (.int 0) (putF "turn" (.int 0) []))
    -- splits
    refine ⟨Nat.zero_le _, fun sp h4 => ?_⟩
    have s4 := Same.new (o := .tup []) h4
    refine ⟨_, rfl, t, CT, dx, _, rfl, s4 _ _ upd_same, T.ct, n9 (by decide +kernel), by omega, ?_⟩
    have l3 := putF_len (f := "splits") (v := .ref sp) (putF "hands" (.ref hp) (putF "need" (.int 0) (putF "turn" (.int 0) [])))
    -- search
    intro sr dy nsr ndy nxy
    refine ⟨sr, dy, false, rfl, upd_same, fun d H5 nd hS b5 => ⟨rfl, ?_⟩⟩
    have s5 := Same.made nsr ndy b5
    refine ⟨_, rfl, t, CT, dx, _, rfl, s5 _ _ upd_same, T.ct, n9 (by decide +kernel), by omega, ?_⟩
    have l4 := putF_len (f := "search") (v := .ref sr) (putF "splits" (.ref sp) (putF "hands" (.ref hp) (putF "need" (.int 0) (putF "turn" (.int 0) []))))
    refine ⟨_, rfl, t, CT, dx, _, rfl, upd_same, T.ct, n9 (by decide +kernel), by omega, ?_⟩
    have l5 := putF_len (f := "leader") (v := .int 0) (putF "search" (.ref sr) (putF "splits" (.ref sp) (putF "hands" (.ref hp) (putF "need" (.int 0) (putF "turn" (.int 0) [])))))
    refine ⟨_, rfl, t, CT, dx, _, rfl, upd_same, T.ct, n9 (by decide +kernel), by omega, ?_⟩
    have l6 := putF_len (f := "led") (v := .int 0) (putF "leader" (.int 0) (putF "search" (.ref sr) (putF "splits" (.ref sp) (putF "hands" (.ref hp) (putF "need" (.int 0) (putF "turn" (.int 0) []))))))
    refine ⟨_, rfl, t, CT, dx, _, rfl, upd_same, T.ct, n9 (by decide +kernel), by omega, ?_⟩
    have l7 := putF_len (f := "second") (v := .int 0) (putF "led" (.int 0) (putF "leader" (.int 0) (putF "search" (.ref sr) (putF "splits" (.ref sp) (putF "hands" (.ref hp) (putF "need" (.int 0) (putF "turn" (.int 0) [])))))))
    refine ⟨_, rfl, t, CT, dx, _, rfl, upd_same, T.ct, n9 (by decide +kernel), by omega, ?_⟩
    rw [tab_new]
    rw [upd_upd, upd_upd, upd_upd, upd_upd]
    refine k _ ?_ ⟨dx, hp, sp, sr, d, [], _, _, _, _, tinit_end upd_same h1 h2 h3 h4 nsr ndy nd hS b5, Nat.zero_le _⟩
    intro b o e nb
    rw [upd_ne nb]
    refine s5 _ _ ?_
    rw [upd_ne nb]
    refine s4 _ _ ?_
    rw [upd_ne nb]
    refine s3 _ _ ?_
    rw [upd_ne nb, upd_ne nb]
    exact e
end
end
end On
set_option maxRecDepth 100000
set_option maxHeartbeats 4000000
namespace On
open PySem PySem.Spec PyProof.Rows L2
theorem odds1 {s : Vbbrak.State} (h : s.phase = 1) : Vbbrak.odds s = Mt.bst s.cover s.a s.b s.ways s.need := by
  unfold Vbbrak.odds
  rw [h]
  rfl
theorem odds2 {s : Vbbrak.State} (h : s.phase = 2) : Vbbrak.odds s = Vbbrak.oddsLead s (s.hand, s.x) := by
  unfold Vbbrak.odds
  rw [h]
  rfl
theorem odds3 {s : Vbbrak.State} (h : s.phase = 3) : Vbbrak.odds s = Mt.gSecond (Mt.bst s.cover) s.cover s.a s.b s.ways s.need s.hand s.x s.y := by
  unfold Vbbrak.odds
  rw [h]
  rfl
theorem odds4 {s : Vbbrak.State} (h : s.phase = 4) : Vbbrak.odds s = Vbbrak.oddsThird s s.z := by
  unfold Vbbrak.odds
  rw [h]
  rfl
section
variable {P : Program} {w : World} {K : PySem.W.Frag} {mg : Str → Option Value} {base : Heap} {CT CS : Addr}
def spOil (P : Program) (w : World) (K : PySem.W.Frag) (CT CS : Addr) : Sp := fun vs H Q _ => ∃ (t : Addr) (s : Vbbrak.State) (dx hp sp sr d : Addr) (kvs : List (Tk.Tr × Int)) (vl vx vy vz : V) (hand x : Nat), vs = [.ref t, iv hand, iv x] ∧ TabF P w K CT CS H t s dx hp sp sr d kvs vl vx vy vz ∧ Mt.Good s ∧ s.ways ≠ [] ∧ (hand = 0 ∨ hand = 1) ∧ x ∈ Vbbrak.handOf hand s.a s.b ∧ kvs.length + 4 * Mt.B 3 * s.ways.length < sizeLine ∧
  ∀ H' kvs', But d H H' → TabF P w K CT CS H' t s dx hp sp sr d kvs' vl vx vy vz → kvs'.length ≤ kvs.length + 4 * Mt.B 3 * s.ways.length → Q (iv (Vbbrak.oddsLead s (hand, x))) H'
theorem scOil : FnScope ["self", "leader", "led"] ["self", "leader", "led"] (defScope sTOil) := ⟨rfl, rfl, rfl, by decide +kernel, rfl, by decide +kernel, by decide +kernel⟩
theorem ok_oil {f : Addr} {fd : FuncData} (F : Fun K "odds_if_led" "Table.odds_if_led" sTOil f fd) (T : TxT P w K mg base CT CS) : FnOk P w K mg base CX0 22 f fd ["self", "leader", "led"] (spOil P w K CT CS) := by
  obtain ⟨fL, dL, mL, bL, GL⟩ := T.afl
  refine F.ok scOil (fun vs H Q E h => ?_) (fun cdv A outer s0 H vs Q E hr h => ?_)
  · obtain ⟨t, s, dx, hp, sp, sr, d, kvs, vl, vx, vy, vz, hand, x, rfl, _⟩ := h
    rfl
  · obtain ⟨t, s, dx, hp, sp, sr, d, kvs, vl, vx, vy, vz, hand, x, rfl, hT, hG, hne, hh, hx, hbud, k⟩ := h
    refine ⟨_, pss_one (ps_ret (pe_meth (pe_fld (pv 0) rfl) T.s.cl mL GL hr bL .nil pass0 (pa_cons (pe_fld (pv 0) rfl) (pa_cons (pe_fld (pv 0) rfl) (pa_cons (pe_fld (pv 0) rfl) (pa_cons (pv 1) (pa_cons (pv 2) pa_nil))))))), ?_⟩
    obtain ⟨dy, hsr⟩ := hT.se.ob
    refine ⟨_, rfl, t, CT, _, _, _, rfl, hT.ob, T.ct, T.no _ (by decide +kernel), look_zip tn_nd (i := 4) rfl rfl, sr, dy, _, rfl, hsr, sf_no _ _ (by decide +kernel) (by decide +kernel), _, rfl, t, CT, _, _, _, rfl, hT.ob, T.ct, T.no _ (by decide +kernel), look_zip tn_nd (i := 1) rfl rfl, _, rfl, t, CT, _, _, _, rfl, hT.ob, T.ct, T.no _ (by decide +kernel), look_zip tn_nd (i := 2) rfl rfl, _, rfl, t, CT, _, _, _, rfl, hT.ob, T.ct, T.no _ (by decide +kernel), look_zip tn_nd (i := 3) rfl rfl, _, rfl, _, rfl, ?_⟩
    exact ⟨sr, d, s.cover, kvs, s.need, hp, sp, s.a, s.b, s.ways, hand, x, rfl, hT.se, hT.hn, hT.sl, good_pos hG hne, good_tl hG, hh, hx, hbud, fun H' kvs' b S len => k H' kvs' (b) (hT.but b S) len⟩
def spOit (P : Program) (w : World) (K : PySem.W.Frag) (CT CS : Addr) : Sp := fun vs H Q _ => ∃ (t : Addr) (s : Vbbrak.State) (dx hp sp sr d : Addr) (kvs : List (Tk.Tr × Int)) (vl vx vy vz : V) (z : Nat), vs = [.ref t, iv z] ∧ TabF P w K CT CS H t s dx hp sp sr d kvs vl vx vy vz ∧ Mt.Good s ∧ s.ways ≠ [] ∧ 3 ≤ s.phase ∧ z ∈ Vbbrak.choices (Vbbrak.mate s) ∧ kvs.length + Mt.B 3 * s.ways.length < sizeLine ∧
  ∀ H' kvs', But d H H' → TabF P w K CT CS H' t s dx hp sp sr d kvs' vl vx vy vz → kvs'.length ≤ kvs.length + Mt.B 3 * s.ways.length → Q (iv (Vbbrak.oddsThird s z)) H'
theorem scOit : FnScope ["self", "third"] ["self", "third"] (defScope sTOit) := ⟨rfl, rfl, rfl, by decide +kernel, rfl, by decide +kernel, by decide +kernel⟩
theorem ok_oit {f : Addr} {fd : FuncData} (F : Fun K "odds_if_third" "Table.odds_if_third" sTOit f fd) (T : TxT P w K mg base CT CS) : FnOk P w K mg base CX0 20 f fd ["self", "third"] (spOit P w K CT CS) := by
  obtain ⟨fL, dL, mL, bL, GL⟩ := T.af3
  refine F.ok scOit (fun vs H Q E h => ?_) (fun cdv A outer s0 H vs Q E hr h => ?_)
  · obtain ⟨t, s, dx, hp, sp, sr, d, kvs, vl, vx, vy, vz, z, rfl, _⟩ := h
    rfl
  · obtain ⟨t, s, dx, hp, sp, sr, d, kvs, vl, vx, vy, vz, z, rfl, hT, hG, hne, h3, hz, hbud, k⟩ := h
    obtain ⟨rfl, rfl⟩ := hT.e2 (by omega)
    obtain rfl := hT.e3 h3
    refine ⟨_, pss_one (ps_ret (pe_meth (pe_fld (pv 0) rfl) T.s.cl mL GL hr bL .nil pass0 (pa_cons (pe_fld (pv 0) rfl) (pa_cons (pe_fld (pv 0) rfl) (pa_cons (pe_fld (pv 0) rfl) (pa_cons (pe_fld (pv 0) rfl) (pa_cons (pe_fld (pv 0) rfl) (pa_cons (pe_fld (pv 0) rfl) (pa_cons (pv 1) pa_nil))))))))), ?_⟩
    obtain ⟨dy, hsr⟩ := hT.se.ob
    refine ⟨_, rfl, t, CT, _, _, _, rfl, hT.ob, T.ct, T.no _ (by decide +kernel), look_zip tn_nd (i := 4) rfl rfl, sr, dy, _, rfl, hsr, sf_no _ _ (by decide +kernel) (by decide +kernel), _, rfl, t, CT, _, _, _, rfl, hT.ob, T.ct, T.no _ (by decide +kernel), look_zip tn_nd (i := 1) rfl rfl, _, rfl, t, CT, _, _, _, rfl, hT.ob, T.ct, T.no _ (by decide +kernel), look_zip tn_nd (i := 2) rfl rfl, _, rfl, t, CT, _, _, _, rfl, hT.ob, T.ct, T.no _ (by decide +kernel), look_zip tn_nd (i := 3) rfl rfl, _, rfl, t, CT, _, _, _, rfl, hT.ob, T.ct, T.no _ (by decide +kernel), look_zip tn_nd (i := 5) rfl rfl, _, rfl, t, CT, _, _, _, rfl, hT.ob, T.ct, T.no _ (by decide +kernel), look_zip tn_nd (i := 6) rfl rfl, _, rfl, t, CT, _, _, _, rfl, hT.ob, T.ct, T.no _ (by decide +kernel), look_zip tn_nd (i := 7) rfl rfl, _, rfl, ?_⟩
    exact ⟨sr, d, s.cover, kvs, s.need, hp, sp, s.a, s.b, s.ways, s.hand, s.x, s.y, z, rfl, hT.se, hT.hn, .inl hT.sl, good_pos hG hne, good_tl hG, hG.hd, hG.hx (by omega), hz, hbud, fun H' kvs' b S len => k H' kvs' b (hT.but b S) len⟩
def spNow (P : Program) (w : World) (K : PySem.W.Frag) (CT CS : Addr) : Sp := fun vs H Q _ => ∃ (t : Addr) (s : Vbbrak.State) (dx hp sp sr d : Addr) (kvs : List (Tk.Tr × Int)) (vl vx vy vz : V), vs = [.ref t] ∧ TabF P w K CT CS H t s dx hp sp sr d kvs vl vx vy vz ∧ Mt.Good s ∧ s.phase ≠ 0 ∧ kvs.length + Mt.B 4 * s.ways.length < sizeLine ∧
  ∀ H' kvs', But d H H' → TabF P w K CT CS H' t s dx hp sp sr d kvs' vl vx vy vz → kvs'.length ≤ kvs.length + Mt.B 4 * s.ways.length → Q (iv (Vbbrak.odds s)) H'
theorem scNow : FnScope ["self"] ["self"] (defScope sTNow) := ⟨rfl, rfl, rfl, by decide +kernel, rfl, by decide +kernel, by decide +kernel⟩
theorem ok_now {f fL f3 : Addr} {fd dL d3 : FuncData} (F : Fun K "odds_now" "Table.odds_now" sTNow f fd) (T : TxT P w K mg base CT CS) (mL : Meth K CT "odds_if_led" fL) (FL : Fun K "odds_if_led" "Table.odds_if_led" sTOil fL dL) (bL : Binds K dL ["self", "leader", "led"] [])
    (m3 : Meth K CT "odds_if_third" f3) (F3 : Fun K "odds_if_third" "Table.odds_if_third" sTOit f3 d3) (b3 : Binds K d3 ["self", "third"] []) : FnOk P w K mg base CX0 24 f fd ["self"] (spNow P w K CT CS) := by
  obtain ⟨fA, dA, mA, bA, GA⟩ := T.atl
  obtain ⟨f2, d2, m2, b2, G2⟩ := T.af2
  have GL := ok_oil FL T
  have G3 := ok_oit F3 T
  refine F.ok scNow (fun vs H Q E h => ?_) (fun cdv A outer s0 H vs Q E hr h => ?_)
  · obtain ⟨t, s, dx, hp, sp, sr, d, kvs, vl, vx, vy, vz, rfl, _⟩ := h
    rfl
  · obtain ⟨t, s, dx, hp, sp, sr, d, kvs, vl, vx, vy, vz, rfl, hT, hG, h0, hbud, k⟩ := h
    obtain ⟨t1, c1⟩ := T.cs.turn1
    obtain ⟨t2, c2⟩ := T.cs.turn2
    obtain ⟨t3, c3⟩ := T.cs.turn3
    have rL : Room 22 _ := hr.mono (by omega)
    have r2 : Room 20 _ := hr.mono (by omega)
    have hne := hG.ws h0
    obtain ⟨dy, hsr⟩ := hT.se.ob
    rw [B4] at hbud
    have b3l : Mt.B 3 = 163 := B3
    refine ⟨_, pss_cons (ps_if (pt_cmpR op_eq (pe_fld (pv 0) rfl) (pe_glob (v := .int (1)) (by rfl) c1 ⟨t1, rfl⟩) (nomark _)) (pss_one (ps_ret (pe_meth (pe_fld (pv 0) rfl) T.s.cl mA GA hr bA .nil pass0 (pa_cons (pe_fld (pv 0) rfl) (pa_cons (pe_fld (pv 0) rfl) (pa_cons (pe_fld (pv 0) rfl) pa_nil)))))) pss_nil)
      (pss_cons (ps_if (pt_cmpR op_eq (pe_fld (pv 0) rfl) (pe_glob (v := .int (2)) (by rfl) c2 ⟨t2, rfl⟩) (nomark _)) (pss_one (ps_ret (pe_meth (pv 0) T.ct mL GL rL bL .nil pass0 (pa_cons (pe_fld (pv 0) rfl) (pa_cons (pe_fld (pv 0) rfl) pa_nil))))) pss_nil)
      (pss_cons (ps_if (pt_cmpR op_eq (pe_fld (pv 0) rfl) (pe_glob (v := .int (3)) (by rfl) c3 ⟨t3, rfl⟩) (nomark _)) (pss_one (ps_ret (pe_meth (pe_fld (pv 0) rfl) T.s.cl m2 G2 r2 b2 .nil pass0 (pa_cons (pe_fld (pv 0) rfl) (pa_cons (pe_fld (pv 0) rfl) (pa_cons (pe_fld (pv 0) rfl) (pa_cons (pe_fld (pv 0) rfl) (pa_cons (pe_fld (pv 0) rfl) (pa_cons (pe_fld (pv 0) rfl) pa_nil))))))))) pss_nil)
      (pss_one (ps_ret (pe_meth (pv 0) T.ct m3 G3 r2 b3 .nil pass0 (pa_cons (pe_fld (pv 0) rfl) pa_nil)))))), ?_⟩
    refine ⟨_, rfl, t, CT, _, _, _, rfl, hT.ob, T.ct, T.no _ (by decide +kernel), look_zip tn_nd (i := 0) rfl rfl, rfl, _, rfl, ifEq (fun h => ?_) (fun h1 => ?_)⟩
    · have hp1 : s.phase = 1 := by omega
      refine ⟨_, rfl, t, CT, _, _, _, rfl, hT.ob, T.ct, T.no _ (by decide +kernel), look_zip tn_nd (i := 4) rfl rfl, sr, dy, _, rfl, hsr, sf_no _ _ (by decide +kernel) (by decide +kernel), _, rfl, t, CT, _, _, _, rfl, hT.ob, T.ct, T.no _ (by decide +kernel), look_zip tn_nd (i := 1) rfl rfl, _, rfl, t, CT, _, _, _, rfl, hT.ob, T.ct, T.no _ (by decide +kernel), look_zip tn_nd (i := 2) rfl rfl, _, rfl, t, CT, _, _, _, rfl, hT.ob, T.ct, T.no _ (by decide +kernel), look_zip tn_nd (i := 3) rfl rfl, ?_⟩
      rw [odds1 hp1] at k
      exact ⟨sr, d, s.cover, kvs, s.need, hp, sp, s.a, s.b, s.ways, rfl, hT.se, hT.hn, hT.sl, good_pos hG hne, good_tl hG, by rw [B4]; exact hbud, fun H' kvs' b S len => k H' kvs' b (hT.but b S) len⟩
    · refine ⟨_, rfl, t, CT, _, _, _, rfl, hT.ob, T.ct, T.no _ (by decide +kernel), look_zip tn_nd (i := 0) rfl rfl, rfl, _, rfl, ifEq (fun h => ?_) (fun h2 => ?_)⟩
      · have hp2 : s.phase = 2 := by omega
        obtain ⟨rfl, rfl⟩ := hT.e2 (by omega)
        rw [odds2 hp2] at k
        refine ⟨_, rfl, t, _, _, rfl, hT.ob, look_none (by decide +kernel), _, rfl, t, CT, _, _, _, rfl, hT.ob, T.ct, T.no _ (by decide +kernel), look_zip tn_nd (i := 5) rfl rfl, _, rfl, t, CT, _, _, _, rfl, hT.ob, T.ct, T.no _ (by decide +kernel), look_zip tn_nd (i := 6) rfl rfl, ?_⟩
        exact ⟨t, s, dx, hp, sp, sr, d, kvs, _, _, vy, vz, s.hand, s.x, rfl, hT, hG, hne, hG.hd, hG.hx (by omega), by rw [b3l]; omega, fun H' kvs' b T' len => k H' kvs' b T' (by rw [b3l] at len; rw [B4]; omega)⟩
      · refine ⟨_, rfl, t, CT, _, _, _, rfl, hT.ob, T.ct, T.no _ (by decide +kernel), look_zip tn_nd (i := 0) rfl rfl, rfl, _, rfl, ifEq (fun h => ?_) (fun h3 => ?_)⟩
        · have hp3 : s.phase = 3 := by omega
          obtain ⟨rfl, rfl⟩ := hT.e2 (by omega)
          obtain rfl := hT.e3 (by omega)
          rw [odds3 hp3] at k
          refine ⟨_, rfl, t, CT, _, _, _, rfl, hT.ob, T.ct, T.no _ (by decide +kernel), look_zip tn_nd (i := 4) rfl rfl, sr, dy, _, rfl, hsr, sf_no _ _ (by decide +kernel) (by decide +kernel), _, rfl, t, CT, _, _, _, rfl, hT.ob, T.ct, T.no _ (by decide +kernel), look_zip tn_nd (i := 1) rfl rfl, _, rfl, t, CT, _, _, _, rfl, hT.ob, T.ct, T.no _ (by decide +kernel), look_zip tn_nd (i := 2) rfl rfl, _, rfl, t, CT, _, _, _, rfl, hT.ob, T.ct, T.no _ (by decide +kernel), look_zip tn_nd (i := 3) rfl rfl, _, rfl, t, CT, _, _, _, rfl, hT.ob, T.ct, T.no _ (by decide +kernel), look_zip tn_nd (i := 5) rfl rfl, _, rfl, t, CT, _, _, _, rfl, hT.ob, T.ct, T.no _ (by decide +kernel), look_zip tn_nd (i := 6) rfl rfl, _, rfl, t, CT, _, _, _, rfl, hT.ob, T.ct, T.no _ (by decide +kernel), look_zip tn_nd (i := 7) rfl rfl, ?_⟩
          exact ⟨sr, d, s.cover, kvs, s.need, hp, sp, s.a, s.b, s.ways, s.hand, s.x, s.y, rfl, hT.se, hT.hn, .inl hT.sl, fun _ H' b => .inl (hT.sl.kt (hT.se.kt b)), good_pos hG hne, good_tl hG, hG.hd, hG.hx (by omega), by rw [b3l]; omega, fun H' kvs' b S len => k H' kvs' b (hT.but b S) (by rw [b3l] at len; rw [B4]; omega)⟩
        · have hp4 : s.phase = 4 := by
            have := hG.ph
            omega
          obtain ⟨rfl, rfl⟩ := hT.e2 (by omega)
          obtain rfl := hT.e3 (by omega)
          obtain rfl := hT.e4 (by omega)
          rw [odds4 hp4] at k
          refine ⟨_, rfl, t, _, _, rfl, hT.ob, look_none (by decide +kernel), _, rfl, t, CT, _, _, _, rfl, hT.ob, T.ct, T.no _ (by decide +kernel), look_zip tn_nd (i := 8) rfl rfl, ?_⟩
          exact ⟨t, s, dx, hp, sp, sr, d, kvs, _, _, _, _, s.z, rfl, hT, hG, hne, by omega, hG.hz (by omega), by rw [b3l]; omega, fun H' kvs' b T' len => k H' kvs' b T' (by rw [b3l] at len; rw [B4]; omega)⟩
def spGr2 (P : Program) (w : World) (K : PySem.W.Frag) (CT CS : Addr) : Sp := fun vs H Q _ => ∃ (t : Addr) (s : Vbbrak.State) (dx hp sp sr d : Addr) (kvs : List (Tk.Tr × Int)) (vl vx vy vz : V), vs = [.ref t] ∧ TabF P w K CT CS H t s dx hp sp sr d kvs vl vx vy vz ∧ Mt.Good s ∧ 2 ≤ s.phase ∧
  ∀ gd H' gkv, Same H H' → Grp K H H' gd (Mt.groups (Vbbrak.secondCard s) s.ways) gkv → Q (.ref gd) H'
theorem scGr2 : FnScope ["self"] ["self"] (defScope sTGr2) := ⟨rfl, rfl, rfl, by decide +kernel, rfl, by decide +kernel, by decide +kernel⟩
theorem ok_gr2 {f : Addr} {fd : FuncData} (F : Fun K "second_groups" "Table.second_groups" sTGr2 f fd) (T : TxT P w K mg base CT CS) : FnOk P w K mg base CX0 4 f fd ["self"] (spGr2 P w K CT CS) := by
  obtain ⟨f2, d2, m2, k2, b2, G2⟩ := T.by2
  refine F.ok scGr2 (fun vs H Q E h => ?_) (fun cdv A outer s0 H vs Q E hr h => ?_)
  · obtain ⟨t, s, dx, hp, sp, sr, d, kvs, vl, vx, vy, vz, rfl, _⟩ := h
    rfl
  · obtain ⟨t, s, dx, hp, sp, sr, d, kvs, vl, vx, vy, vz, rfl, hT, hG, h2, k⟩ := h
    obtain ⟨rfl, rfl⟩ := hT.e2 h2
    obtain ⟨dy, hsr⟩ := hT.se.ob
    refine ⟨_, pss_one (ps_ret (pe_call G2 hr rfl m2 k2 b2 .nil pass0 (pa_cons (pe_fld (pv 0) rfl) (pa_cons (pe_fld (pv 0) rfl) (pa_cons (pe_fld (pv 0) rfl) (pa_cons (pe_fld (pe_fld (pv 0) rfl) rfl) pa_nil)))))), ?_⟩
    refine ⟨_, rfl, t, CT, _, _, _, rfl, hT.ob, T.ct, T.no _ (by decide +kernel), look_zip tn_nd (i := 3) rfl rfl, _, rfl, t, CT, _, _, _, rfl, hT.ob, T.ct, T.no _ (by decide +kernel), look_zip tn_nd (i := 5) rfl rfl, _, rfl, t, CT, _, _, _, rfl, hT.ob, T.ct, T.no _ (by decide +kernel), look_zip tn_nd (i := 6) rfl rfl, _, rfl, t, CT, _, _, _, rfl, hT.ob, T.ct, T.no _ (by decide +kernel), look_zip tn_nd (i := 4) rfl rfl, sr, CS, dy, _, _, rfl, hsr, T.s.cl, T.s.nC, sf_cover _ _, ?_⟩
    exact ⟨sp, s.ways, s.hand, s.x, s.cover, rfl, .inl hT.sl, by have := hG.wl; omega, good_fall hG, hG.hd, fun gd H' gkv s1 G => k gd H' gkv s1 G⟩
def spGr4 (P : Program) (w : World) (K : PySem.W.Frag) (CT CS : Addr) : Sp := fun vs H Q _ => ∃ (t : Addr) (s : Vbbrak.State) (dx hp sp sr d : Addr) (kvs : List (Tk.Tr × Int)) (vl vx vy vz : V), vs = [.ref t] ∧ TabF P w K CT CS H t s dx hp sp sr d kvs vl vx vy vz ∧ Mt.Good s ∧ 4 ≤ s.phase ∧
  ∀ gd H' gkv, Same H H' → Grp K H H' gd (Mt.groups (Vbbrak.lastCard s) s.ways) gkv → Q (.ref gd) H'
theorem scGr4 : FnScope ["self"] ["self"] (defScope sTGr4) := ⟨rfl, rfl, rfl, by decide +kernel, rfl, by decide +kernel, by decide +kernel⟩
theorem ok_gr4 {f : Addr} {fd : FuncData} (F : Fun K "last_groups" "Table.last_groups" sTGr4 f fd) (T : TxT P w K mg base CT CS) : FnOk P w K mg base CX0 4 f fd ["self"] (spGr4 P w K CT CS) := by
  obtain ⟨f2, d2, m2, k2, b2, G2⟩ := T.by4
  refine F.ok scGr4 (fun vs H Q E h => ?_) (fun cdv A outer s0 H vs Q E hr h => ?_)
  · obtain ⟨t, s, dx, hp, sp, sr, d, kvs, vl, vx, vy, vz, rfl, _⟩ := h
    rfl
  · obtain ⟨t, s, dx, hp, sp, sr, d, kvs, vl, vx, vy, vz, rfl, hT, hG, h4, k⟩ := h
    obtain ⟨rfl, rfl⟩ := hT.e2 (by omega)
    obtain rfl := hT.e3 (by omega)
    obtain rfl := hT.e4 (by omega)
    refine ⟨_, pss_one (ps_ret (pe_call G2 hr rfl m2 k2 b2 .nil pass0 (pa_cons (pe_fld (pv 0) rfl) (pa_cons (pe_fld (pv 0) rfl) (pa_cons (pe_callB (call_max2 rfl) (by rfl) T.n.max boot_max5 (pa_cons (pe_fld (pv 0) rfl) (pa_cons (pe_fld (pv 0) rfl) pa_nil))) (pa_cons (pe_fld (pv 0) rfl) pa_nil)))))), ?_⟩
    refine ⟨_, rfl, t, CT, _, _, _, rfl, hT.ob, T.ct, T.no _ (by decide +kernel), look_zip tn_nd (i := 3) rfl rfl, _, rfl, t, CT, _, _, _, rfl, hT.ob, T.ct, T.no _ (by decide +kernel), look_zip tn_nd (i := 5) rfl rfl, _, rfl, t, CT, _, _, _, rfl, hT.ob, T.ct, T.no _ (by decide +kernel), look_zip tn_nd (i := 6) rfl rfl, _, rfl, t, CT, _, _, _, rfl, hT.ob, T.ct, T.no _ (by decide +kernel), look_zip tn_nd (i := 8) rfl rfl, _, _, rfl, _, rfl, t, CT, _, _, _, rfl, hT.ob, T.ct, T.no _ (by decide +kernel), look_zip tn_nd (i := 7) rfl rfl, ?_⟩
    refine ⟨sp, s.ways, s.hand, max s.x s.z, s.y, congrArg (fun v => [V.ref sp, iv s.hand, v, iv s.y]) (max_iv s.x s.z), .inl hT.sl, by have := hG.wl; omega, good_fall hG, hG.hd, fun gd H' gkv s1 G => ?_⟩
    have eg : Mt.groups (fun z => lastAt (Vbbrak.across s.hand z) (max s.x s.z) s.y) s.ways = Mt.groups (Vbbrak.lastCard s) s.ways :=
      Mt.groups_congr fun z hz => (lastAt_eq (fall_across s.hand (good_fall hG z hz).1 (good_fall hG z hz).2.1) s.x s.y s.z).symm
    rw [eg] at G
    exact k gd H' gkv s1 G
end
end On
set_option maxRecDepth 100000
set_option maxHeartbeats 1000000
namespace On
open PySem PySem.Spec PyProof.Rows L2
section
variable {P : Program} {w : World} {K : PySem.W.Frag} {mg : Str → Option Value} {base : Heap} {CT CS : Addr}
def spM0 (P : Program) (w : World) (K : PySem.W.Frag) (CT CS : Addr) (m : Nat) (c : List (List Int)) : Sp := fun vs H Q _ => ∃ (t : Addr) (s : Vbbrak.State) (n : Nat), vs = [.ref t] ∧ Tab P w K CT CS H t s n ∧ Mt.Good s ∧ n + m ≤ 30 ∧
  ∀ r H', KL H H' → Tab P w K CT CS H' t (Vbbrak.stepRows s c).1 (n + m) → H' r = some (.lst ((Vbbrak.stepRows s c).2.map V.int)) → Q (.ref r) H'
theorem hb4 {s : Vbbrak.State} (h : Mt.Good s) : Mt.B 4 * s.ways.length ≤ 166944 := by
  rw [B4]
  have := h.wl
  omega
def spM1 (P : Program) (w : World) (K : PySem.W.Frag) (CT CS : Addr) (p : Int) : Sp := fun vs H Q _ => ∃ (t : Addr) (s : Vbbrak.State) (n : Nat) (z : Int), vs = [.ref t, .int z] ∧ Tab P w K CT CS H t s n ∧ Mt.Good s ∧
  ∀ r H', KL H H' → Tab P w K CT CS H' t (Vbbrak.stepRows s [[p, z]]).1 n → H' r = some (.lst ((Vbbrak.stepRows s [[p, z]]).2.map V.int)) → Q (.ref r) H'
def spM2 (P : Program) (w : World) (K : PySem.W.Frag) (CT CS : Addr) : Sp := fun vs H Q _ => ∃ (t : Addr) (s : Vbbrak.State) (n : Nat) (z1 z2 : Int), vs = [.ref t, .int z1, .int z2] ∧ Tab P w K CT CS H t s n ∧ Mt.Good s ∧
  ∀ r H', KL H H' → Tab P w K CT CS H' t (Vbbrak.stepRows s [[5, z1, z2]]).1 n → H' r = some (.lst ((Vbbrak.stepRows s [[5, z1, z2]]).2.map V.int)) → Q (.ref r) H'
theorem within_nat {z lo hi : Int} (h : Vbbrak.within z lo hi = true) (h0 : 0 ≤ lo) : ∃ n : Nat, z = (n : Int) := by
  unfold Vbbrak.within at h
  rw [Bool.and_eq_true, decide_eq_true_eq, decide_eq_true_eq] at h
  exact ⟨z.toNat, by omega⟩
theorem grp_val {H0 H : Hp} {d : Addr} {f : Vbbrak.Split → Nat} {l : List Vbbrak.Split} {kvs : List (Key × V)} (G : Grp K H0 H d (Mt.groups f l) kvs) (y : Nat) :
    (valV kvs (Sum.inl (y : Int)) = none ∧ Vbbrak.with_ f l y = []) ∨ ∃ ga us, valV kvs (Sum.inl (y : Int)) = some (.ref ga) ∧ H0 ga = none ∧ H ga = some (.lst us) ∧ Paired (Spl K H) us (Vbbrak.with_ f l y) ∧ Vbbrak.with_ f l y ≠ [] := by
  have hkeys := keys_of G.ent
  cases e : valV kvs (Sum.inl (y : Int)) with
  | none =>
    refine .inl ⟨rfl, Mt.with_nil_of f l y fun hm => ?_⟩
    have := val_none_iff.mp e
    rw [hkeys] at this
    exact this (List.mem_map.mpr ⟨y, hm, rfl⟩)
  | some v =>
    obtain ⟨gg, hgg, ek, ga, us, e2, g0, g2, g3⟩ := paired_mem G.ent (val_mem e)
    obtain ⟨y', hy', rfl⟩ := List.mem_map.mp hgg
    have eyy : y' = y := (key_inj ek).symm
    subst eyy
    have e2' : v = .ref ga := e2
    subst e2'
    exact .inr ⟨ga, us, rfl, g0, g2, g3, Mt.with_ne_nil f l y' hy'⟩
theorem flat_le {α : Type} (g : α → List Int) (m : Nat) : ∀ l : List α, (∀ x ∈ l, (g x).length ≤ m) → (l.flatMap g).length ≤ m * l.length
  | [], _ => Nat.zero_le _
  | a :: l, h => by
    rw [List.flatMap_cons, List.length_append, List.length_cons, Nat.mul_succ]
    have := flat_le g m l fun x hx => h x (by simp [hx])
    have := h a (by simp)
    omega
end
end On
set_option maxRecDepth 100000
set_option maxHeartbeats 1000000
namespace On
open PySem PySem.Spec PyProof.Rows L2
section
variable {P : Program} {w : World} {K : PySem.W.Frag} {mg : Str → Option Value} {base : Heap} {CT CS : Addr}
theorem scOdd : FnScope ["self"] ["self"] (defScope sTOdd) := ⟨rfl, rfl, rfl, by decide +kernel, rfl, by decide +kernel, by decide +kernel⟩
theorem ok_odd {f fN : Addr} {fd dN' : FuncData} (F : Fun K "tell_odds" "Table.tell_odds" sTOdd f fd) (T : TxT P w K mg base CT CS) (mN : Meth K CT "odds_now" fN) (bN : Binds K dN' ["self"] []) (GN : FnOk P w K mg base CX0 24 fN dN' ["self"] (spNow P w K CT CS)) :
    FnOk P w K mg base CX0 25 f fd ["self"] (spM0 P w K CT CS 1 [[1]]) := by
  obtain ⟨fW, dW, mW, kW, bW, GW⟩ := T.way
  refine F.ok scOdd (fun vs H Q E h => ?_) (fun cdv A outer s0 H vs Q E hr h => ?_)
  · obtain ⟨t, s, n, rfl, _⟩ := h
    rfl
  · obtain ⟨t, s, n, rfl, ⟨dx, hp, sp, sr, d, kvs, vl, vx, vy, vz, hT, hk⟩, hG, hn, k⟩ := h
    obtain ⟨t0, c0⟩ := T.cs.turn0
    obtain ⟨t9, c9⟩ := T.cs.notnow
    have r1 : Room 1 _ := hr.mono (by omega)
    have e16 : sizeLine = 16777216 := sizeLine_eq
    have hb := hb4 hG
    refine ⟨_, pss_cons (ps_if (pt_cmpR op_eq (pe_fld (pv 0) rfl) (pe_glob (v := .int (0)) (by rfl) c0 ⟨t0, rfl⟩) (nomark _)) (pss_one (ps_ret (pe_lst (pa_cons (pe_glob (v := .int (-2)) (by rfl) c9 ⟨t9, rfl⟩) pa_nil)))) pss_nil)
      (pss_one (ps_ret (pe_lst (pa_cons pe_int (pa_cons (pe_meth0 (pv 0) T.ct mN GN hr bN .nil pass0) (pa_cons (pe_call GW r1 rfl mW kW bW .nil pass0 (pa_cons (pe_fld (pv 0) rfl) pa_nil)) pa_nil)))))), ?_⟩
    rw [Mt.step1] at k
    refine ⟨_, rfl, t, CT, _, _, _, rfl, hT.ob, T.ct, T.no _ (by decide +kernel), look_zip tn_nd (i := 0) rfl rfl, rfl, _, rfl, ifEq (fun h => ?_) (fun h => ?_)⟩
    · have h0 : s.phase = 0 := by omega
      rw [if_pos h0] at k
      exact ⟨by show 1 ≤ sizeLine; omega, fun r hr' => k r _ (Same.new hr').kl ⟨dx, hp, sp, sr, d, kvs, vl, vx, vy, vz, hT.same (Same.new hr'), by omega⟩ upd_same⟩
    · have h0 : s.phase ≠ 0 := fun e => h (by rw [e]; rfl)
      rw [if_neg h0] at k
      refine ⟨_, rfl, t, _, _, rfl, hT.ob, look_none (by decide +kernel), t, s, dx, hp, sp, sr, d, kvs, vl, vx, vy, vz, rfl, hT, hG, h0, by omega, fun H1 kvs' b1 T1 len1 => ?_⟩
      refine ⟨_, rfl, t, CT, _, _, _, rfl, T1.ob, T.ct, T.no _ (by decide +kernel), look_zip tn_nd (i := 3) rfl rfl, sp, s.ways, rfl, .inl T1.sl, by have := hG.wl; omega, fun H2 s2 => ⟨by show 3 ≤ sizeLine; omega, fun r hr' => ?_⟩⟩
      exact k r _ ((b1.kl hT.se.dn).trans (s2.trans (Same.new hr')).kl) ⟨dx, hp, sp, sr, d, kvs', vl, vx, vy, vz, (T1.same s2).same (Same.new hr'), by omega⟩ upd_same
end
end On
set_option maxRecDepth 100000
set_option maxHeartbeats 1000000
namespace On
open PySem PySem.Spec PyProof.Rows L2
section
variable {P : Program} {w : World} {K : PySem.W.Frag} {mg : Str → Option Value} {base : Heap} {CT CS : Addr}
def wayW (z : Vbbrak.Split) : List Int := Int.ofNat z.2.2 :: (Int.ofNat z.1.length :: Vbbrak.ints z.1 ++ (Int.ofNat z.2.1.length :: Vbbrak.ints z.2.1))
theorem wayW_len {s : Vbbrak.State} (h : Mt.Good s) : ∀ z ∈ s.ways, (wayW z).length ≤ 13 := by
  intro z hz
  obtain ⟨_, _, h1, h2⟩ := h.w5 z hz
  unfold wayW Vbbrak.ints
  simp only [List.length_cons, List.length_append, List.length_map]
  omega
theorem way_push (F : List Int) (z : Vbbrak.Split) : (0 :: F).map V.int ++ [iv z.2.2] ++ (((z.1.length : Nat) : Int) :: Vbbrak.ints z.1 ++ (((z.2.1.length : Nat) : Int) :: Vbbrak.ints z.2.1)).map V.int = (0 :: (F ++ wayW z)).map V.int := by
  unfold wayW
  simp only [List.map_cons, List.map_append, List.cons_append, List.append_assoc, List.nil_append]
  rfl
theorem scWays : FnScope ["self", "told", "ways", "cards"] ["self"] (defScope sTWay) := ⟨rfl, rfl, rfl, by decide +kernel, rfl, by decide +kernel, by decide +kernel⟩
theorem ok_ways {f : Addr} {fd : FuncData} (F : Fun K "tell_ways" "Table.tell_ways" sTWay f fd) (T : TxT P w K mg base CT CS) : FnOk P w K mg base CX0 2 f fd ["self"] (spM0 P w K CT CS 0 [[2]]) := by
  obtain ⟨fH, dH, mH, kH, bH, GH⟩ := T.th
  refine F.ok scWays (fun vs H Q E h => ?_) (fun cdv A outer s0 H vs Q E hr h => ?_)
  · obtain ⟨t, s, n, rfl, _⟩ := h
    rfl
  · obtain ⟨t, s, n, rfl, ⟨dx, hp, sp, sr, d, kvs, vl, vx, vy, vz, hT, hk⟩, hG, hn, k⟩ := h
    obtain ⟨t0, c0⟩ := T.cs.turn0
    obtain ⟨t9, c9⟩ := T.cs.notnow
    have nd := scWays.nd
    have e16 : sizeLine = 16777216 := sizeLine_eq
    refine ⟨_, pss_cons (ps_if (pt_cmpR op_eq (pe_fld (pv 0) rfl) (pe_glob (v := .int (0)) (by rfl) c0 ⟨t0, rfl⟩) (nomark _)) (pss_one (ps_ret (pe_lst (pa_cons (pe_glob (v := .int (-2)) (by rfl) c9 ⟨t9, rfl⟩) pa_nil)))) pss_nil)
      (pss_cons (ps_set (i := 1) nd rfl (Or.inl rfl) (pe_lst (pa_cons pe_int pa_nil)))
      (pss_cons (ps_for PassesOwn.never rfl (pi_tup (pe_fld (pv 0) rfl)) (pg_tup (n := 2) rfl (pgs_cons (pg_name (i := 2) nd rfl (Or.inl rfl)) (pgs_cons (pg_name (i := 3) nd rfl (Or.inl rfl)) pgs_nil)))
        (pss_cons (ps_expr (pe_bm PySem.F.plainAttrs_list PySem.F.slot_list_append PySem.F.type_list_append mt_append (pv 1) (pa_cons (pv 2) pa_nil)))
        (pss_one (ps_expr (pe_bm PySem.F.plainAttrs_list PySem.F.slot_list_extend PySem.F.type_list_extend mt_extend (pv 1) (pa_cons (pe_call GH hr rfl mH kH bH .nil pass0 (pa_cons (pv 3) pa_nil)) pa_nil))))))
      (pss_one (ps_ret (pv 1))))), ?_⟩
    rw [Mt.step2] at k
    unfold Vbbrak.step at k
    dsimp only at k
    refine ⟨_, rfl, t, CT, _, _, _, rfl, hT.ob, T.ct, T.no _ (by decide +kernel), look_zip tn_nd (i := 0) rfl rfl, rfl, _, rfl, ifEq (fun h => ?_) (fun h => ?_)⟩
    · have h0 : s.phase = 0 := by omega
      rw [if_pos h0] at k
      exact ⟨by show 1 ≤ sizeLine; omega, fun r hr' => k r _ (Same.new hr').kl ⟨dx, hp, sp, sr, d, kvs, vl, vx, vy, vz, hT.same (Same.new hr'), by omega⟩ upd_same⟩
    · have h0 : s.phase ≠ 0 := fun e => h (by rw [e]; rfl)
      rw [if_neg h0] at k
      refine ⟨by show 1 ≤ sizeLine; omega, fun tl htl => ?_⟩
      have s1 : Same H (upd H tl (.lst [.int 0])) := Same.new htl
      have T1 := hT.same s1
      obtain ⟨vs, g1, g2⟩ := T1.sl
      refine ⟨_, rfl, t, CT, _, _, _, rfl, T1.ob, T.ct, T.no _ (by decide +kernel), look_zip tn_nd (i := 3) rfl rfl, sp, rfl, ⟨_, g1⟩, ?_⟩
      refine for_tup (K := K) (a := sp) (xs := vs) (fun i σ H' => ∃ v2 v3 : Option V, σ = [some (.ref t), some (.ref tl), v2, v3] ∧ But tl (upd H tl (.lst [.int 0])) H' ∧ H' tl = some (.lst ((0 :: (s.ways.take i).flatMap wayW).map V.int)))
        ⟨none, none, rfl, But.refl _ _, upd_same⟩ (fun i σ H' _ ⟨_, _, _, b, _⟩ => (b.kt upd_same True.intro).sq g1) ?_ ?_
      · rintro i v σ H' hi ⟨v2, v3, rfl, bt, ht⟩
        obtain ⟨z, hz, p, q, rfl, q1, q2⟩ := paired_at g2 hi
        have hzm := List.mem_of_getElem? hz
        have hil := (List.getElem?_eq_some_iff.mp hz).1
        have hwl := hG.wl
        obtain ⟨_, _, w1, w2⟩ := hG.w5 z hzm
        have kt1 := bt.kt upd_same True.intro
        have hlen : ((0 :: (s.ways.take i).flatMap wayW).map V.int).length ≤ 1000 := by
          rw [List.length_map, List.length_cons]
          have := flat_le wayW 13 (s.ways.take i) fun x hx => wayW_len hG x (List.mem_of_mem_take hx)
          rw [List.length_take] at this
          omega
        refine ⟨p, _, rfl, kt1.sq q1, rfl, _, _, rfl, _, _, rfl, rfl, ?_⟩
        refine ⟨_, rfl, .inl ⟨rfl, _, SqL.of ht⟩, _, rfl, tl, _, _, rfl, rfl, ht, by omega, ?_⟩
        have kt2 := kt_mut (o := .lst ((0 :: (s.ways.take i).flatMap wayW).map V.int ++ [iv z.2.2])) ht True.intro
        refine ⟨_, rfl, .inl ⟨rfl, _, SqL.of upd_same⟩, _, rfl, q, z.1, z.2.1, rfl, q2.kt (kt1.trans kt2), by omega, by omega, fun r H5 s5 hrn hr5 => ?_⟩
        refine ⟨tl, r, _, _, rfl, rfl, s5 _ _ upd_same, hr5, ?_, ?_⟩
        · unfold Vbbrak.ints
          simp only [List.length_cons, List.length_append, List.length_map, List.length_nil] at hlen ⊢
          omega
        · refine ⟨_, _, rfl, (bt.upd.same s5).upd, ?_⟩
          rw [upd_same, take_snoc' hz, List.flatMap_append, show [z].flatMap wayW = wayW z by simp, ← way_push]
      · rintro σ H' ⟨v2, v3, rfl, bt, ht⟩
        rw [paired_len g2, List.take_length] at ht
        refine ⟨_, rfl, ?_⟩
        have sH : Same H H' := fun b o e => bt b o (s1 _ _ e) (ne_of_none e htl)
        exact k tl H' sH.kl ⟨dx, hp, sp, sr, d, kvs, vl, vx, vy, vz, hT.same sH, by omega⟩ ht
end
end On
set_option maxRecDepth 100000
set_option maxHeartbeats 1000000
namespace On
open PySem PySem.Spec PyProof.Rows L2
section
variable {P : Program} {w : World} {K : PySem.W.Frag} {mg : Str → Option Value} {base : Heap} {CT CS : Addr}
theorem scHan : FnScope ["self"] ["self"] (defScope sTHan) := ⟨rfl, rfl, rfl, by decide +kernel, rfl, by decide +kernel, by decide +kernel⟩
theorem ok_han {f : Addr} {fd : FuncData} (F : Fun K "tell_hands" "Table.tell_hands" sTHan f fd) (T : TxT P w K mg base CT CS) : FnOk P w K mg base CX0 2 f fd ["self"] (spM0 P w K CT CS 0 [[3]]) := by
  obtain ⟨fH, dH, mH, kH, bH, GH⟩ := T.th
  refine F.ok scHan (fun vs H Q E h => ?_) (fun cdv A outer s0 H vs Q E hr h => ?_)
  · obtain ⟨t, s, n, rfl, _⟩ := h
    rfl
  · obtain ⟨t, s, n, rfl, ⟨dx, hp, sp, sr, d, kvs, vl, vx, vy, vz, hT, hk⟩, hG, hn, k⟩ := h
    obtain ⟨t0, c0⟩ := T.cs.turn0
    obtain ⟨t9, c9⟩ := T.cs.notnow
    have e16 : sizeLine = 16777216 := sizeLine_eq
    refine ⟨_, pss_cons (ps_if (pt_cmpR op_eq (pe_fld (pv 0) rfl) (pe_glob (v := .int (0)) (by rfl) c0 ⟨t0, rfl⟩) (nomark _)) (pss_one (ps_ret (pe_lst (pa_cons (pe_glob (v := .int (-2)) (by rfl) c9 ⟨t9, rfl⟩) pa_nil)))) pss_nil)
      (pss_one (ps_ret (pe_op op_cat (pe_lst (pa_cons pe_int (pa_cons (pe_fld (pv 0) rfl) (pa_cons (pe_fld (pv 0) rfl) pa_nil)))) (pe_call GH hr rfl mH kH bH .nil pass0 (pa_cons (pe_fld (pv 0) rfl) pa_nil))))), ?_⟩
    rw [Mt.step3] at k
    unfold Vbbrak.step at k
    dsimp only at k
    refine ⟨_, rfl, t, CT, _, _, _, rfl, hT.ob, T.ct, T.no _ (by decide +kernel), look_zip tn_nd (i := 0) rfl rfl, rfl, _, rfl, ifEq (fun h => ?_) (fun h => ?_)⟩
    · have h0 : s.phase = 0 := by omega
      rw [if_pos h0] at k
      exact ⟨by show 1 ≤ sizeLine; omega, fun r hr' => k r _ (Same.new hr').kl ⟨dx, hp, sp, sr, d, kvs, vl, vx, vy, vz, hT.same (Same.new hr'), by omega⟩ upd_same⟩
    · have h0 : s.phase ≠ 0 := fun e => h (by rw [e]; rfl)
      rw [if_neg h0] at k
      have la := hG.la
      have lb := hG.lb
      refine ⟨_, rfl, t, CT, _, _, _, rfl, hT.ob, T.ct, T.no _ (by decide +kernel), look_zip tn_nd (i := 0) rfl rfl, _, rfl, t, CT, _, _, _, rfl, hT.ob, T.ct, T.no _ (by decide +kernel), look_zip tn_nd (i := 1) rfl rfl, by show 3 ≤ sizeLine; omega, fun l1 n1 => ?_⟩
      have s1 : Same H (upd H l1 (.lst [.int 0, iv s.phase, iv s.need])) := Same.new n1
      have T1 := hT.same s1
      refine ⟨_, rfl, t, CT, _, _, _, rfl, T1.ob, T.ct, T.no _ (by decide +kernel), look_zip tn_nd (i := 2) rfl rfl, hp, s.a, s.b, rfl, T1.hn, by omega, by omega, fun r H2 s2 hrn hr2 => ?_⟩
      refine ⟨l1, r, _, _, rfl, rfl, s2 _ _ upd_same, hr2, ?_, fun l3 n3 => ?_⟩
      · rw [List.length_map]
        unfold Vbbrak.ints
        show 3 + _ ≤ sizeLine
        simp only [List.length_cons, List.length_append, List.length_map]
        omega
      · have s3 := (s1.trans s2).trans (Same.new (o := .lst ([.int 0, iv s.phase, iv s.need] ++ ((((s.a.length : Nat) : Int) :: Vbbrak.ints s.a ++ (((s.b.length : Nat) : Int) :: Vbbrak.ints s.b)).map V.int))) n3)
        exact k l3 _ s3.kl ⟨dx, hp, sp, sr, d, kvs, vl, vx, vy, vz, hT.same s3, by omega⟩ upd_same
end
end On
set_option maxRecDepth 100000
set_option maxHeartbeats 1000000
namespace On
open PySem PySem.Spec PyProof.Rows L2
section
variable {P : Program} {w : World} {K : PySem.W.Frag} {mg : Str → Option Value} {base : Heap} {CT CS : Addr}
def ldW (s : Vbbrak.State) (e : Nat × Nat) : List Int := [Int.ofNat e.1, Int.ofNat e.2, Int.ofNat (Vbbrak.oddsLead s e)]
theorem two_at {i : Nat} {v : V} (hi : ([.int 0, .int 1] : List V)[i]? = some v) : (i = 0 ∨ i = 1) ∧ v = iv i := by
  match i, hi with
  | 0, hi => exact ⟨.inl rfl, (Option.some.inj hi).symm⟩
  | 1, hi => exact ⟨.inr rfl, (Option.some.inj hi).symm⟩
  | i + 2, hi => simp at hi
theorem lds_len {s : Vbbrak.State} (h : Mt.Good s) : ∀ i, (ldsTo s.a s.b i).length ≤ 8
  | 0 => Nat.zero_le _
  | 1 => by
    have := h.la
    show (s.a.map fun c => ((0 : Nat), c)).length ≤ 8
    rw [List.length_map]; omega
  | i + 2 => by
    have := h.la
    have := h.lb
    show (Vbbrak.leads s.a s.b).length ≤ 8
    unfold Vbbrak.leads
    rw [List.length_append, List.length_map, List.length_map]; omega
theorem lds_push (s : Vbbrak.State) (L : List (Nat × Nat)) (xs : List Nat) (i j x : Nat) (hx : xs[j]? = some x) : (0 :: (L ++ (xs.take j).map fun c => (i, c)).flatMap (ldW s)).map V.int ++ [iv i, iv x, iv (Vbbrak.oddsLead s (i, x))] = (0 :: (L ++ (xs.take (j + 1)).map fun c => (i, c)).flatMap (ldW s)).map V.int := by
  rw [take_snoc' hx, List.map_append, ← List.append_assoc]
  generalize L ++ (xs.take j).map (fun c => (i, c)) = M
  rw [List.flatMap_append]
  simp only [List.map_cons, List.map_append, List.cons_append, List.map_nil, List.flatMap_cons, List.flatMap_nil, List.append_nil]
  rfl
theorem scLds : FnScope ["self", "told", "leader", "led"] ["self"] (defScope sTLds) := ⟨rfl, rfl, rfl, by decide +kernel, rfl, by decide +kernel, by decide +kernel⟩
theorem ok_lds {f fL : Addr} {fd dL : FuncData} (F : Fun K "tell_leads" "Table.tell_leads" sTLds f fd) (T : TxT P w K mg base CT CS) (mL : Meth K CT "odds_if_led" fL) (FL : Fun K "odds_if_led" "Table.odds_if_led" sTOil fL dL) (bL : Binds K dL ["self", "leader", "led"] []) :
    FnOk P w K mg base CX0 23 f fd ["self"] (spM0 P w K CT CS 1 [[4]]) := by
  have GL := ok_oil FL T
  refine F.ok scLds (fun vs H Q E h => ?_) (fun cdv A outer s0 H vs Q E hr h => ?_)
  · obtain ⟨t, s, n, rfl, _⟩ := h
    rfl
  · obtain ⟨t, s, n, rfl, ⟨dx, hp, sp, sr, d, kvs, vl, vx, vy, vz, hT, hk⟩, hG, hn, k⟩ := h
    obtain ⟨t1, c1⟩ := T.cs.turn1
    obtain ⟨t9, c9⟩ := T.cs.notnow
    have nd := scLds.nd
    have e16 : sizeLine = 16777216 := sizeLine_eq
    have la := hG.la
    have lb := hG.lb
    have wl := hG.wl
    have b3l : Mt.B 3 = 163 := B3
    refine ⟨_, pss_cons (ps_if (pt_cmpR op_ne (pe_fld (pv 0) rfl) (pe_glob (v := .int (1)) (by rfl) c1 ⟨t1, rfl⟩) (nomark _)) (pss_one (ps_ret (pe_lst (pa_cons (pe_glob (v := .int (-2)) (by rfl) c9 ⟨t9, rfl⟩) pa_nil)))) pss_nil)
      (pss_cons (ps_set (i := 1) nd rfl (Or.inl rfl) (pe_lst (pa_cons pe_int pa_nil)))
      (pss_cons (ps_for PassesOwn.never rfl (pi_tup (pe_tup (pa_cons pe_int (pa_cons pe_int pa_nil)))) (pg_name (i := 2) nd rfl (Or.inl rfl))
        (pss_one (ps_for PassesOwn.never rfl (pi_tup (pe_ix ix_tup (pe_fld (pv 0) rfl) (pv 2) (fun _ _ => rfl))) (pg_name (i := 3) nd rfl (Or.inl rfl))
          (pss_one (ps_expr (pe_bm PySem.F.plainAttrs_list PySem.F.slot_list_extend PySem.F.type_list_extend mt_extend (pv 1) (pa_cons (pe_lst (pa_cons (pv 2) (pa_cons (pv 3) (pa_cons (pe_meth (pv 0) T.ct mL GL hr bL .nil pass0 (pa_cons (pv 2) (pa_cons (pv 3) pa_nil))) pa_nil)))) pa_nil)))))))
      (pss_one (ps_ret (pv 1))))), ?_⟩
    rw [Mt.step4] at k
    unfold Vbbrak.step Vbbrak.inPhase at k
    dsimp only at k
    refine ⟨_, rfl, t, CT, _, _, _, rfl, hT.ob, T.ct, T.no _ (by decide +kernel), look_zip tn_nd (i := 0) rfl rfl, rfl, _, rfl, ifNe (fun h => ?_) (fun h => ?_)⟩
    · have h0 : ¬ s.phase = 1 := fun e => h (by rw [e]; rfl)
      rw [if_neg h0] at k
      exact ⟨by show 1 ≤ sizeLine; omega, fun r hr' => k r _ (Same.new hr').kl ⟨dx, hp, sp, sr, d, kvs, vl, vx, vy, vz, hT.same (Same.new hr'), by omega⟩ upd_same⟩
    · have h0 : s.phase = 1 := by omega
      rw [if_pos h0] at k
      have hne := hG.ws (by omega)
      refine ⟨by show 1 ≤ sizeLine; omega, fun tl htl => ⟨by show 2 ≤ sizeLine; omega, fun tp htp => ⟨tp, rfl, ⟨_, SqT.of upd_same⟩, ?_⟩⟩⟩
      have s1 : Same H (upd (upd H tl (.lst [.int 0])) tp (.tup [.int 0, .int 1])) := (Same.new htl).trans (Same.new htp)
      have T1 := hT.same s1
      have htl1 : (upd (upd H tl (.lst [.int 0])) tp (.tup [.int 0, .int 1])) tl = some (.lst [.int 0]) := Same.new htp _ _ upd_same
      have htp1 : (upd (upd H tl (.lst [.int 0])) tp (.tup [.int 0, .int 1])) tp = some (.tup [.int 0, .int 1]) := upd_same
      generalize upd (upd H tl (.lst [.int 0])) tp (.tup [.int 0, .int 1]) = H1 at s1 T1 htl1 htp1 ⊢
      have htlo := lds_len hG
      refine for_tup (K := K) (a := tp) (xs := [.int 0, .int 1]) (fun i σ H' => ∃ (v2 v3 : Option V) (kvs' : List (Tk.Tr × Int)), σ = [some (.ref t), some (.ref tl), v2, v3] ∧ KL H H' ∧ H' tp = some (.tup [.int 0, .int 1]) ∧ H' tl = some (.lst ((0 :: (ldsTo s.a s.b i).flatMap (ldW s)).map V.int)) ∧ TabF P w K CT CS H' t s dx hp sp sr d kvs' vl vx vy vz ∧
          kvs'.length ≤ kvs.length + (ldsTo s.a s.b i).length * 20864)
        ⟨none, none, kvs, rfl, s1.kl, htp1, htl1, T1, Nat.le_add_right _ _⟩ (fun i σ H' _ ⟨_, _, _, _, _, e, _⟩ => SqT.of e) ?_ ?_
      · rintro i v σ H' hi ⟨v2, v3, kv1, rfl, kl1, htp', htl', T', hl1⟩
        obtain ⟨hi2, ev⟩ := two_at hi
        subst ev
        obtain ⟨us, u, q0, q1, r, rfl, q2⟩ := pick_hand hi2 T'.hn
        have hnx := ldsTo_next (a := s.a) (b := s.b) hi2
        have hln := htlo (i + 1)
        rw [hnx, List.length_append, List.length_map] at hln
        refine ⟨_, rfl, t, CT, _, _, _, rfl, T'.ob, T.ct, T.no _ (by decide +kernel), look_zip tn_nd (i := 2) rfl rfl, _, rfl, hp, us, _, _, rfl, rfl, q0, q1, r, rfl, ⟨_, q2⟩, ?_⟩
        refine for_tup (K := K) (a := r) (xs := (Vbbrak.handOf i s.a s.b).map iv) (fun j σ H2 => ∃ (v3 : Option V) (kvs' : List (Tk.Tr × Int)), σ = [some (.ref t), some (.ref tl), some (iv i), v3] ∧ KL H H2 ∧ H2 tp = some (.tup [.int 0, .int 1]) ∧ Tn K H2 r (Vbbrak.handOf i s.a s.b) ∧
            H2 tl = some (.lst ((0 :: (ldsTo s.a s.b i ++ ((Vbbrak.handOf i s.a s.b).take j).map fun c => (i, c)).flatMap (ldW s)).map V.int)) ∧ TabF P w K CT CS H2 t s dx hp sp sr d kvs' vl vx vy vz ∧ kvs'.length ≤ kvs.length + ((ldsTo s.a s.b i).length + j) * 20864)
          ⟨v3, kv1, rfl, kl1, htp', q2, by rw [List.take_zero, List.map_nil, List.append_nil]; exact htl', T', hl1⟩ (fun j σ H2 _ ⟨_, _, _, _, _, e, _⟩ => e) ?_ ?_
        · rintro j v σ H2 hj ⟨w3, kv2, rfl, kl2, htp2, hq2, htl2, T2, hl2⟩
          obtain ⟨x, hx, rfl⟩ := get_map hj
          have hxm := List.mem_of_getElem? hx
          have hjl := (List.getElem?_eq_some_iff.mp hx).1
          have hlen : ((0 :: (ldsTo s.a s.b i ++ ((Vbbrak.handOf i s.a s.b).take j).map fun c => (i, c)).flatMap (ldW s)).map V.int).length ≤ 1000 := by
            rw [List.length_map, List.length_cons]
            have := flat_le (ldW s) 3 (ldsTo s.a s.b i ++ ((Vbbrak.handOf i s.a s.b).take j).map fun c => (i, c)) fun x _ => Nat.le_refl _
            rw [List.length_append, List.length_map, List.length_take] at this
            omega
          refine ⟨_, rfl, .inl ⟨rfl, _, SqL.of htl2⟩, _, rfl, _, rfl, _, rfl, t, _, _, rfl, T2.ob, look_none (by decide +kernel), _, rfl, _, rfl, ?_⟩
          refine ⟨t, s, dx, hp, sp, sr, d, kv2, vl, vx, vy, vz, i, x, rfl, T2, hG, hne, hi2, hxm, by rw [b3l]; omega, fun H5 kv5 b5 T5 len5 => ?_⟩
          refine ⟨by show 3 ≤ sizeLine; omega, fun l3 n3 => ?_⟩
          have htl5 : H5 tl = _ := b5 _ _ htl2 (T2.se.dn.ne_lst htl2)
          have s6 := Same.new (o := .lst [iv i, iv x, iv (Vbbrak.oddsLead s (i, x))]) n3
          refine ⟨tl, l3, _, _, rfl, rfl, s6 _ _ htl5, upd_same, by show _ + 3 ≤ sizeLine; omega, ?_⟩
          have klb := b5.kl T2.se.dn
          have T6 := (T5.same s6).lst (o := .lst ((0 :: (ldsTo s.a s.b i ++ ((Vbbrak.handOf i s.a s.b).take j).map fun c => (i, c)).flatMap (ldW s)).map V.int ++ [iv i, iv x, iv (Vbbrak.oddsLead s (i, x))])) (s6 _ _ htl5)
          have kt6 := kt_mut (o := .lst ((0 :: (ldsTo s.a s.b i ++ ((Vbbrak.handOf i s.a s.b).take j).map fun c => (i, c)).flatMap (ldW s)).map V.int ++ [iv i, iv x, iv (Vbbrak.oddsLead s (i, x))])) (s6 _ _ htl5) True.intro
          have ktA := klb.1.trans (s6.kt.trans kt6)
          rw [b3l] at len5
          refine ⟨some (iv x), kv5, rfl, ⟨kl2.1.trans ktA, fun b xs e => ?_⟩, ktA.1 _ _ htp2, ktA.sq hq2, ?_, T6, by omega⟩
          · rw [upd_ne (ne_of_none e htl)]
            exact s6 _ _ (klb.2 _ _ (kl2.2 _ _ e))
          · rw [upd_same, lds_push s _ _ i j x hx]
        · rintro σ H2 ⟨w3, kv2, rfl, kl2, htp2, hq2, htl2, T2, hl2⟩
          rw [List.length_map] at hl2
          rw [List.length_map, List.take_length, ← hnx] at htl2
          exact ⟨_, w3, kv2, rfl, kl2, htp2, htl2, T2, by rw [hnx, List.length_append, List.length_map]; exact hl2⟩
      · rintro σ H' ⟨v2, v3, kv1, rfl, kl1, htp', htl', T', hl1⟩
        have h8 := htlo 2
        exact ⟨_, rfl, k tl H' kl1 ⟨dx, hp, sp, sr, d, kv1, vl, vx, vy, vz, T', by have : (ldsTo s.a s.b ([V.int 0, V.int 1] : List V).length).length ≤ 8 := h8; omega⟩ htl'⟩
end
end On
set_option maxRecDepth 100000
set_option maxHeartbeats 1000000
namespace On
open PySem PySem.Spec PyProof.Rows L2
section
variable {P : Program} {w : World} {K : PySem.W.Frag} {mg : Str → Option Value} {base : Heap} {CT CS : Addr}
def thW (s : Vbbrak.State) (z : Nat) : List Int := [Int.ofNat z, Int.ofNat (Vbbrak.oddsThird s z)]
theorem told_map (l : List Nat) (g : Nat → Nat) : Vbbrak.told (l.map fun z => (z, g z)) = l.flatMap fun z => [Int.ofNat z, Int.ofNat (g z)] := by
  unfold Vbbrak.told
  rw [List.flatMap_map]
theorem ths_push (s : Vbbrak.State) (xs : List Nat) (j x : Nat) (hx : xs[j]? = some x) : (0 :: (xs.take j).flatMap (thW s)).map V.int ++ [iv x, iv (Vbbrak.oddsThird s x)] = (0 :: (xs.take (j + 1)).flatMap (thW s)).map V.int := by
  rw [take_snoc' hx, List.flatMap_append]
  simp only [List.map_cons, List.map_append, List.cons_append, List.flatMap_cons, List.flatMap_nil, List.append_nil]
  rfl
theorem scThs : FnScope ["self", "told", "third"] ["self"] (defScope sTThs) := ⟨rfl, rfl, rfl, by decide +kernel, rfl, by decide +kernel, by decide +kernel⟩
theorem mate_len {s : Vbbrak.State} (h : Mt.Good s) : (Vbbrak.choices (Vbbrak.mate s)).length ≤ 4 := by
  unfold Vbbrak.mate
  exact choices_len (good_tl h)
theorem ok_ths {f fL : Addr} {fd dL : FuncData} (F : Fun K "tell_thirds" "Table.tell_thirds" sTThs f fd) (T : TxT P w K mg base CT CS) (mL : Meth K CT "odds_if_third" fL) (FL : Fun K "odds_if_third" "Table.odds_if_third" sTOit fL dL) (bL : Binds K dL ["self", "third"] []) :
    FnOk P w K mg base CX0 21 f fd ["self"] (spM0 P w K CT CS 1 [[8]]) := by
  have GL := ok_oit FL T
  obtain ⟨fT, dT, mT, kT, bT, GT⟩ := T.thi
  refine F.ok scThs (fun vs H Q E h => ?_) (fun cdv A outer s0 H vs Q E hr h => ?_)
  · obtain ⟨t, s, n, rfl, _⟩ := h
    rfl
  · obtain ⟨t, s, n, rfl, ⟨dx, hp, sp, sr, d, kvs, vl, vx, vy, vz, hT, hk⟩, hG, hn, k⟩ := h
    obtain ⟨t1, c1⟩ := T.cs.turn3
    obtain ⟨t9, c9⟩ := T.cs.notnow
    have nd := scThs.nd
    have r1 : Room 1 _ := hr.mono (by omega)
    have e16 : sizeLine = 16777216 := sizeLine_eq
    have wl := hG.wl
    have b3l : Mt.B 3 = 163 := B3
    have hcl := mate_len hG
    refine ⟨_, pss_cons (ps_if (pt_cmpR op_ne (pe_fld (pv 0) rfl) (pe_glob (v := .int (3)) (by rfl) c1 ⟨t1, rfl⟩) (nomark _)) (pss_one (ps_ret (pe_lst (pa_cons (pe_glob (v := .int (-2)) (by rfl) c9 ⟨t9, rfl⟩) pa_nil)))) pss_nil)
      (pss_cons (ps_set (i := 1) nd rfl (Or.inl rfl) (pe_lst (pa_cons pe_int pa_nil)))
      (pss_cons (ps_for PassesOwn.never rfl (pi_tup (pe_call GT r1 rfl mT kT bT .nil pass0 (pa_cons (pe_fld (pv 0) rfl) (pa_cons (pe_fld (pv 0) rfl) pa_nil)))) (pg_name (i := 2) nd rfl (Or.inl rfl))
        (pss_one (ps_expr (pe_bm PySem.F.plainAttrs_list PySem.F.slot_list_extend PySem.F.type_list_extend mt_extend (pv 1) (pa_cons (pe_lst (pa_cons (pv 2) (pa_cons (pe_meth (pv 0) T.ct mL GL hr bL .nil pass0 (pa_cons (pv 2) pa_nil)) pa_nil))) pa_nil)))))
      (pss_one (ps_ret (pv 1))))), ?_⟩
    rw [Mt.step8] at k
    unfold Vbbrak.step Vbbrak.inPhase at k
    dsimp only at k
    refine ⟨_, rfl, t, CT, _, _, _, rfl, hT.ob, T.ct, T.no _ (by decide +kernel), look_zip tn_nd (i := 0) rfl rfl, rfl, _, rfl, ifNe (fun h => ?_) (fun h => ?_)⟩
    · have h0 : ¬ s.phase = 3 := fun e => h (by rw [e]; rfl)
      rw [if_neg h0] at k
      exact ⟨by show 1 ≤ sizeLine; omega, fun r hr' => k r _ (Same.new hr').kl ⟨dx, hp, sp, sr, d, kvs, vl, vx, vy, vz, hT.same (Same.new hr'), by omega⟩ upd_same⟩
    · have h0 : s.phase = 3 := by omega
      rw [if_pos h0] at k
      obtain ⟨rfl, rfl⟩ := hT.e2 (by omega)
      have hne := hG.ws (by omega)
      refine ⟨by show 1 ≤ sizeLine; omega, fun tl htl => ?_⟩
      have s0 : Same H (upd H tl (.lst [.int 0])) := Same.new htl
      have T0 := hT.same s0
      refine ⟨_, rfl, t, CT, _, _, _, rfl, T0.ob, T.ct, T.no _ (by decide +kernel), look_zip tn_nd (i := 2) rfl rfl, _, rfl, t, CT, _, _, _, rfl, T0.ob, T.ct, T.no _ (by decide +kernel), look_zip tn_nd (i := 5) rfl rfl, hp, s.hand, s.a, s.b, rfl, T0.hn, hG.hd, fun th H1 s1 hth => ⟨th, rfl, ⟨_, hth⟩, ?_⟩⟩
      have T1 := T0.same s1
      have htl1 := s1 _ _ (upd_same (H := H) (a := tl) (o := .lst [.int 0]))
      refine for_tup (K := K) (a := th) (xs := (Vbbrak.choices (Vbbrak.mate s)).map iv) (fun j σ H2 => ∃ (v2 : Option V) (kvs' : List (Tk.Tr × Int)), σ = [some (.ref t), some (.ref tl), v2] ∧ KL H H2 ∧ Tn K H2 th (Vbbrak.choices (Vbbrak.mate s)) ∧
          H2 tl = some (.lst ((0 :: ((Vbbrak.choices (Vbbrak.mate s)).take j).flatMap (thW s)).map V.int)) ∧ TabF P w K CT CS H2 t s dx hp sp sr d kvs' (iv s.hand) (iv s.x) vy vz ∧ kvs'.length ≤ kvs.length + j * 5216)
        ⟨none, kvs, rfl, (s0.trans s1).kl, hth, htl1, T1, Nat.le_add_right _ _⟩ (fun j σ H2 _ ⟨_, _, _, _, e, _⟩ => e) ?_ ?_
      · rintro j v σ H2 hj ⟨w2, kv2, rfl, kl2, hq2, htl2, T2, hl2⟩
        obtain ⟨x, hx, rfl⟩ := get_map hj
        have hxm := List.mem_of_getElem? hx
        have hjl := (List.getElem?_eq_some_iff.mp hx).1
        have hlen : ((0 :: ((Vbbrak.choices (Vbbrak.mate s)).take j).flatMap (thW s)).map V.int).length ≤ 1000 := by
          rw [List.length_map, List.length_cons]
          have := flat_le (thW s) 2 ((Vbbrak.choices (Vbbrak.mate s)).take j) fun x _ => Nat.le_refl _
          rw [List.length_take] at this
          omega
        refine ⟨_, rfl, .inl ⟨rfl, _, SqL.of htl2⟩, _, rfl, _, rfl, t, _, _, rfl, T2.ob, look_none (by decide +kernel), _, rfl, ?_⟩
        refine ⟨t, s, dx, hp, sp, sr, d, kv2, _, _, vy, vz, x, rfl, T2, hG, hne, by omega, hxm, by rw [b3l]; omega, fun H5 kv5 b5 T5 len5 => ?_⟩
        refine ⟨by show 2 ≤ sizeLine; omega, fun l3 n3 => ?_⟩
        have htl5 : H5 tl = _ := b5 _ _ htl2 (T2.se.dn.ne_lst htl2)
        have s6 := Same.new (o := .lst [iv x, iv (Vbbrak.oddsThird s x)]) n3
        refine ⟨tl, l3, _, _, rfl, rfl, s6 _ _ htl5, upd_same, by show _ + 2 ≤ sizeLine; omega, ?_⟩
        have klb := b5.kl T2.se.dn
        have T6 := (T5.same s6).lst (o := .lst ((0 :: ((Vbbrak.choices (Vbbrak.mate s)).take j).flatMap (thW s)).map V.int ++ [iv x, iv (Vbbrak.oddsThird s x)])) (s6 _ _ htl5)
        have kt6 := kt_mut (o := .lst ((0 :: ((Vbbrak.choices (Vbbrak.mate s)).take j).flatMap (thW s)).map V.int ++ [iv x, iv (Vbbrak.oddsThird s x)])) (s6 _ _ htl5) True.intro
        have ktA := klb.1.trans (s6.kt.trans kt6)
        rw [b3l] at len5
        refine ⟨some (iv x), kv5, rfl, ⟨kl2.1.trans ktA, fun b xs e => ?_⟩, ktA.sq hq2, ?_, T6, by omega⟩
        · rw [upd_ne (ne_of_none e htl)]
          exact s6 _ _ (klb.2 _ _ (kl2.2 _ _ e))
        · rw [upd_same, ths_push s _ j x hx]
      · rintro σ H2 ⟨w2, kv2, rfl, kl2, hq2, htl2, T2, hl2⟩
        rw [List.length_map, List.take_length] at htl2
        rw [List.length_map] at hl2
        rw [told_map] at k
        exact ⟨_, rfl, k tl H2 kl2 ⟨dx, hp, sp, sr, d, kv2, _, _, vy, vz, T2, by omega⟩ htl2⟩
end
end On
set_option maxRecDepth 100000
set_option maxHeartbeats 1000000
namespace On
open PySem PySem.Spec PyProof.Rows L2
section
variable {P : Program} {w : World} {K : PySem.W.Frag} {mg : Str → Option Value} {base : Heap} {CT CS : Addr}
theorem scLea : FnScope ["self", "leader", "led"] ["self", "leader", "led"] (defScope sTLea) := ⟨rfl, rfl, rfl, by decide +kernel, rfl, by decide +kernel, by decide +kernel⟩
theorem ok_lea {f : Addr} {fd : FuncData} (F : Fun K "lead_card" "Table.lead_card" sTLea f fd) (T : TxT P w K mg base CT CS) : FnOk P w K mg base CX0 1 f fd ["self", "leader", "led"] (spM2 P w K CT CS) := by
  refine F.ok scLea (fun vs H Q E h => ?_) (fun cdv A outer s0 H vs Q E hr h => ?_)
  · obtain ⟨t, s, n, z1, z2, rfl, _⟩ := h
    rfl
  · obtain ⟨t, s, n, z1, z2, rfl, ⟨dx, hp, sp, sr, d, kvs, vl, vx, vy, vz, hT, hk⟩, hG, k⟩ := h
    obtain ⟨t1, c1⟩ := T.cs.turn1
    obtain ⟨t2, c2⟩ := T.cs.turn2
    obtain ⟨t6, c6⟩ := T.cs.nosuch
    obtain ⟨t7, c7⟩ := T.cs.ace
    obtain ⟨t8, c8⟩ := T.cs.out
    obtain ⟨t9, c9⟩ := T.cs.notnow
    have o1 : 1 ≤ sizeLine := by decide
    refine ⟨_, pss_cons (ps_if (pt_not (pw_and (pt_chain op_le op_le pe_int (pv 1) pe_int) (pw_and1 (pt_chain op_le op_le pe_int (pv 2) (pe_glob (v := .int (13)) (by rfl) c7 ⟨t7, rfl⟩)))).pt) (pss_one (ps_ret (pe_lst (pa_cons (pe_glob (v := .int (-1)) (by rfl) c8 ⟨t8, rfl⟩) pa_nil)))) pss_nil)
      (pss_cons (ps_if (pt_cmpR op_ne (pe_fld (pv 0) rfl) (pe_glob (v := .int (1)) (by rfl) c1 ⟨t1, rfl⟩) (nomark _)) (pss_one (ps_ret (pe_lst (pa_cons (pe_glob (v := .int (-2)) (by rfl) c9 ⟨t9, rfl⟩) pa_nil)))) pss_nil)
      (pss_cons (ps_if (pt_cmpR op_notIn_seq (pv 2) (pe_ix ix_tup (pe_fld (pv 0) rfl) (pv 1) (fun _ _ => rfl)) (by rfl)) (pss_one (ps_ret (pe_lst (pa_cons (pe_glob (v := .int (-6)) (by rfl) c6 ⟨t6, rfl⟩) pa_nil)))) pss_nil)
      (pss_cons (ps_fld (pv 0) (pe_glob (v := .int (2)) (by rfl) c2 ⟨t2, rfl⟩) rfl)
      (pss_cons (ps_fld (pv 0) (pv 1) rfl)
      (pss_cons (ps_fld (pv 0) (pv 2) rfl)
      (pss_one (ps_ret (pe_lst (pa_cons pe_int pa_nil))))))))), ?_⟩
    rw [Mt.step5] at k
    have bad : ∀ (r : Addr) (hr' : H r = none), (Vbbrak.within z1 0 1 && Vbbrak.within z2 1 13) = false → Q (.ref r) (upd H r (.lst [.int (-1)])) := fun r hr' e => by
      rw [if_neg (by rw [e]; exact Bool.false_ne_true)] at k
      exact k r _ (Same.new hr').kl ⟨dx, hp, sp, sr, d, kvs, vl, vx, vy, vz, hT.same (Same.new hr'), hk⟩ upd_same
    refine chain_var rfl ?_
    cases e1 : Vbbrak.within z1 0 1 with
    | false => exact iteF (iteT ⟨o1, fun r hr' => bad r hr' (by rw [e1]; rfl)⟩)
    | true =>
      refine iteT (chain_var rfl ?_)
      cases e2 : Vbbrak.within z2 1 13 with
      | false => exact iteT ⟨o1, fun r hr' => bad r hr' (by rw [e1, e2]; rfl)⟩
      | true =>
        refine iteF ?_
        clear bad
        rw [if_pos (by rw [e1, e2]; rfl)] at k
        unfold Vbbrak.step Vbbrak.inPhase at k
        dsimp only at k
        obtain ⟨hand, rfl⟩ := within_nat e1 (by decide)
        obtain ⟨x, rfl⟩ := within_nat e2 (by decide)
        rw [Int.toNat_natCast, Int.toNat_natCast] at k
        have hh : hand = 0 ∨ hand = 1 := by
          unfold Vbbrak.within at e1
          rw [Bool.and_eq_true, decide_eq_true_eq, decide_eq_true_eq] at e1
          omega
        refine ⟨_, rfl, t, CT, _, _, _, rfl, hT.ob, T.ct, T.no _ (by decide +kernel), look_zip tn_nd (i := 0) rfl rfl, rfl, _, rfl, ifNe (fun h => ?_) (fun h => ?_)⟩
        · rw [if_neg (fun e => h (by rw [e]; rfl))] at k
          exact ⟨o1, fun r hr' => k r _ (Same.new hr').kl ⟨dx, hp, sp, sr, d, kvs, vl, vx, vy, vz, hT.same (Same.new hr'), hk⟩ upd_same⟩
        · rw [if_pos (by omega)] at k
          obtain ⟨us, u, q0, q1, pa, rfl, q2⟩ := pick_hand hh hT.hn
          refine ⟨_, rfl, _, rfl, t, CT, _, _, _, rfl, hT.ob, T.ct, T.no _ (by decide +kernel), look_zip tn_nd (i := 2) rfl rfl, _, rfl, hp, us, _, _, rfl, rfl, q0, q1, pa, _, rfl, .inr q2, rfl, flat_iv _, _, rfl, ?_⟩
          rw [inV_iv]
          cases e3 : (Vbbrak.handOf hand s.a s.b).contains x with
          | false =>
            rw [if_pos e3] at k
            exact iteT ⟨o1, fun r hr' => k r _ (Same.new hr').kl ⟨dx, hp, sp, sr, d, kvs, vl, vx, vy, vz, hT.same (Same.new hr'), hk⟩ upd_same⟩
          | true =>
            rw [if_neg (by rw [e3]; exact fun q => Bool.noConfusion q)] at k
            refine iteF ?_
            refine ⟨_, rfl, t, CT, _, _, rfl, hT.ob, T.ct, T.no _ (by decide +kernel), few9, ?_⟩
            rw [put_turn]
            refine ⟨_, rfl, _, rfl, t, CT, _, _, rfl, upd_same, T.ct, T.no _ (by decide +kernel), few9, ?_⟩
            rw [put_leader, upd_upd]
            refine ⟨_, rfl, _, rfl, t, CT, _, _, rfl, upd_same, T.ct, T.no _ (by decide +kernel), few9, ?_⟩
            rw [put_led, upd_upd]
            refine ⟨o1, fun r hr' => ?_⟩
            have T1 := hT.put (s' := { s with phase := 2, hand := hand, x := x }) (o := .ins CT dx (tn.zip [.int 2, iv s.need, .ref hp, .ref sp, .ref sr, iv hand, iv x, vy, vz])) rfl hT.hn hT.sl rfl (fun _ => ⟨rfl, rfl⟩) (fun h => absurd h (by show ¬ 3 ≤ 2; omega)) (fun h => absurd h (by show ¬ 4 ≤ 2; omega))
            exact k r _ ((KL.ins hT.ob).trans (Same.new hr').kl) ⟨_, _, _, _, _, _, _, _, _, _, T1.same (Same.new hr'), hk⟩ upd_same
end
end On
set_option maxRecDepth 100000
set_option maxHeartbeats 1000000
namespace On
open PySem PySem.Spec PyProof.Rows L2
section
variable {P : Program} {w : World} {K : PySem.W.Frag} {mg : Str → Option Value} {base : Heap} {CT CS : Addr}
theorem scSes : FnScope ["self"] ["self"] (defScope sTSes) := ⟨rfl, rfl, rfl, by decide +kernel, rfl, by decide +kernel, by decide +kernel⟩
theorem ok_ses {f fG : Addr} {fd dG : FuncData} (F : Fun K "tell_seconds" "Table.tell_seconds" sTSes f fd) (T : TxT P w K mg base CT CS) (mG : Meth K CT "second_groups" fG) (FG : Fun K "second_groups" "Table.second_groups" sTGr2 fG dG) (bG : Binds K dG ["self"] []) :
    FnOk P w K mg base CX0 5 f fd ["self"] (spM0 P w K CT CS 0 [[6]]) := by
  have GG := ok_gr2 FG T
  obtain ⟨fH, dH, mH, kH, bH, GH⟩ := T.tg
  refine F.ok scSes (fun vs H Q E h => ?_) (fun cdv A outer s0 H vs Q E hr h => ?_)
  · obtain ⟨t, s, n, rfl, _⟩ := h
    rfl
  · obtain ⟨t, s, n, rfl, ⟨dx, hp, sp, sr, d, kvs, vl, vx, vy, vz, hT, hk⟩, hG, hn, k⟩ := h
    obtain ⟨t1, c1⟩ := T.cs.turn2
    obtain ⟨t9, c9⟩ := T.cs.notnow
    have r2 : Room 2 _ := hr.mono (by omega)
    have e16 : sizeLine = 16777216 := sizeLine_eq
    have wl := hG.wl
    have o1 : 1 ≤ sizeLine := by decide
    refine ⟨_, pss_cons (ps_if (pt_cmpR op_ne (pe_fld (pv 0) rfl) (pe_glob (v := .int (2)) (by rfl) c1 ⟨t1, rfl⟩) (nomark _)) (pss_one (ps_ret (pe_lst (pa_cons (pe_glob (v := .int (-2)) (by rfl) c9 ⟨t9, rfl⟩) pa_nil)))) pss_nil)
      (pss_one (ps_ret (pe_op op_cat (pe_lst (pa_cons pe_int pa_nil)) (pe_call GH r2 rfl mH kH bH .nil pass0 (pa_cons (pe_meth0 (pv 0) T.ct mG GG hr bG .nil pass0) pa_nil))))), ?_⟩
    rw [Mt.step6] at k
    unfold Vbbrak.step Vbbrak.inPhase at k
    dsimp only at k
    refine ⟨_, rfl, t, CT, _, _, _, rfl, hT.ob, T.ct, T.no _ (by decide +kernel), look_zip tn_nd (i := 0) rfl rfl, rfl, _, rfl, ifNe (fun h => ?_) (fun h => ?_)⟩
    · rw [if_neg (fun e => h (by rw [e]; rfl))] at k
      exact ⟨o1, fun r hr' => k r _ (Same.new hr').kl ⟨dx, hp, sp, sr, d, kvs, vl, vx, vy, vz, hT.same (Same.new hr'), by omega⟩ upd_same⟩
    · rw [if_pos (by omega)] at k
      refine ⟨o1, fun l1 n1 => ?_⟩
      have s1 : Same H (upd H l1 (.lst [.int 0])) := Same.new n1
      have T1 := hT.same s1
      refine ⟨_, rfl, t, _, _, rfl, T1.ob, look_none (by decide +kernel), t, s, dx, hp, sp, sr, d, kvs, vl, vx, vy, vz, rfl, T1, hG, by omega, fun gd H2 gkv s2 G => ?_⟩
      refine ⟨gd, _, Vbbrak.secondCard s, s.ways, gkv, rfl, G, by omega, fun r H3 s3 hrn hr3 => ?_⟩
      refine ⟨l1, r, _, _, rfl, rfl, s3 _ _ (s2 _ _ upd_same), hr3, ?_, fun l3 n3 => ?_⟩
      · rw [List.length_map, told_len, List.length_map]
        have h1 := firsts_len (Vbbrak.secondCard s) s.ways
        rw [(Mt.firsts_perm (Vbbrak.secondCard s) s.ways).length_eq] at h1
        show 1 + _ ≤ sizeLine
        omega
      · have s4 := ((s1.trans s2).trans s3).trans (Same.new (o := .lst ([.int 0] ++ (Vbbrak.told ((Vbbrak.seen (Vbbrak.secondCard s) s.ways).map fun y => (y, Vbbrak.weight (Vbbrak.with_ (Vbbrak.secondCard s) s.ways y)))).map V.int)) n3)
        exact k l3 _ s4.kl ⟨dx, hp, sp, sr, d, kvs, vl, vx, vy, vz, hT.same s4, by omega⟩ upd_same
theorem scLas4 : FnScope ["self"] ["self"] (defScope sTLas) := ⟨rfl, rfl, rfl, by decide +kernel, rfl, by decide +kernel, by decide +kernel⟩
theorem ok_las4 {f fG : Addr} {fd dG : FuncData} (F : Fun K "tell_lasts" "Table.tell_lasts" sTLas f fd) (T : TxT P w K mg base CT CS) (mG : Meth K CT "last_groups" fG) (FG : Fun K "last_groups" "Table.last_groups" sTGr4 fG dG) (bG : Binds K dG ["self"] []) :
    FnOk P w K mg base CX0 5 f fd ["self"] (spM0 P w K CT CS 0 [[10]]) := by
  have GG := ok_gr4 FG T
  obtain ⟨fH, dH, mH, kH, bH, GH⟩ := T.tg
  refine F.ok scLas4 (fun vs H Q E h => ?_) (fun cdv A outer s0 H vs Q E hr h => ?_)
  · obtain ⟨t, s, n, rfl, _⟩ := h
    rfl
  · obtain ⟨t, s, n, rfl, ⟨dx, hp, sp, sr, d, kvs, vl, vx, vy, vz, hT, hk⟩, hG, hn, k⟩ := h
    obtain ⟨t1, c1⟩ := T.cs.turn4
    obtain ⟨t9, c9⟩ := T.cs.notnow
    have r2 : Room 2 _ := hr.mono (by omega)
    have e16 : sizeLine = 16777216 := sizeLine_eq
    have wl := hG.wl
    have o1 : 1 ≤ sizeLine := by decide
    refine ⟨_, pss_cons (ps_if (pt_cmpR op_ne (pe_fld (pv 0) rfl) (pe_glob (v := .int (4)) (by rfl) c1 ⟨t1, rfl⟩) (nomark _)) (pss_one (ps_ret (pe_lst (pa_cons (pe_glob (v := .int (-2)) (by rfl) c9 ⟨t9, rfl⟩) pa_nil)))) pss_nil)
      (pss_one (ps_ret (pe_op op_cat (pe_lst (pa_cons pe_int pa_nil)) (pe_call GH r2 rfl mH kH bH .nil pass0 (pa_cons (pe_meth0 (pv 0) T.ct mG GG hr bG .nil pass0) pa_nil))))), ?_⟩
    rw [Mt.step10] at k
    unfold Vbbrak.step Vbbrak.inPhase at k
    dsimp only at k
    refine ⟨_, rfl, t, CT, _, _, _, rfl, hT.ob, T.ct, T.no _ (by decide +kernel), look_zip tn_nd (i := 0) rfl rfl, rfl, _, rfl, ifNe (fun h => ?_) (fun h => ?_)⟩
    · rw [if_neg (fun e => h (by rw [e]; rfl))] at k
      exact ⟨o1, fun r hr' => k r _ (Same.new hr').kl ⟨dx, hp, sp, sr, d, kvs, vl, vx, vy, vz, hT.same (Same.new hr'), by omega⟩ upd_same⟩
    · rw [if_pos (by omega)] at k
      refine ⟨o1, fun l1 n1 => ?_⟩
      have s1 : Same H (upd H l1 (.lst [.int 0])) := Same.new n1
      have T1 := hT.same s1
      refine ⟨_, rfl, t, _, _, rfl, T1.ob, look_none (by decide +kernel), t, s, dx, hp, sp, sr, d, kvs, vl, vx, vy, vz, rfl, T1, hG, by omega, fun gd H2 gkv s2 G => ?_⟩
      refine ⟨gd, _, Vbbrak.lastCard s, s.ways, gkv, rfl, G, by omega, fun r H3 s3 hrn hr3 => ?_⟩
      refine ⟨l1, r, _, _, rfl, rfl, s3 _ _ (s2 _ _ upd_same), hr3, ?_, fun l3 n3 => ?_⟩
      · rw [List.length_map, told_len, List.length_map]
        have h1 := firsts_len (Vbbrak.lastCard s) s.ways
        rw [(Mt.firsts_perm (Vbbrak.lastCard s) s.ways).length_eq] at h1
        show 1 + _ ≤ sizeLine
        omega
      · have s4 := ((s1.trans s2).trans s3).trans (Same.new (o := .lst ([.int 0] ++ (Vbbrak.told ((Vbbrak.seen (Vbbrak.lastCard s) s.ways).map fun y => (y, Vbbrak.weight (Vbbrak.with_ (Vbbrak.lastCard s) s.ways y)))).map V.int)) n3)
        exact k l3 _ s4.kl ⟨dx, hp, sp, sr, d, kvs, vl, vx, vy, vz, hT.same s4, by omega⟩ upd_same
end
end On
set_option maxRecDepth 100000
set_option maxHeartbeats 1000000
namespace On
open PySem PySem.Spec PyProof.Rows L2
section
variable {P : Program} {w : World} {K : PySem.W.Frag} {mg : Str → Option Value} {base : Heap} {CT CS : Addr}
theorem scSec7 : FnScope ["self", "card", "groups"] ["self", "card"] (defScope sTSec) := ⟨rfl, rfl, rfl, by decide +kernel, rfl, by decide +kernel, by decide +kernel⟩
theorem ok_sec7 {f fG : Addr} {fd dG : FuncData} (F : Fun K "play_second" "Table.play_second" sTSec f fd) (T : TxT P w K mg base CT CS) (mG : Meth K CT "second_groups" fG) (FG : Fun K "second_groups" "Table.second_groups" sTGr2 fG dG) (bG : Binds K dG ["self"] []) :
    FnOk P w K mg base CX0 5 f fd ["self", "card"] (spM1 P w K CT CS 7) := by
  have GG := ok_gr2 FG T
  obtain ⟨fP, dP, mP, kP, bP, GP⟩ := T.isp
  refine F.ok scSec7 (fun vs H Q E h => ?_) (fun cdv A outer s0 H vs Q E hr h => ?_)
  · obtain ⟨t, s, n, z, rfl, _⟩ := h
    rfl
  · obtain ⟨t, s, n, z, rfl, ⟨dx, hp, sp, sr, d, kvs, vl, vx, vy, vz, hT, hk⟩, hG, k⟩ := h
    obtain ⟨t1, c1⟩ := T.cs.turn2
    obtain ⟨t3, c3⟩ := T.cs.turn3
    obtain ⟨t6, c6⟩ := T.cs.nosuch
    obtain ⟨t8, c8⟩ := T.cs.out
    obtain ⟨t9, c9⟩ := T.cs.notnow
    have nd := scSec7.nd
    have r1 : Room 1 _ := hr.mono (by omega)
    have o1 : 1 ≤ sizeLine := by decide
    have hu : (cxOf CX0 P w K mg base ["self", "card", "groups"] "Table.play_second" (defScope sTSec) f cdv A outer s0 H E).nox.A.units + 1 < cLine := by
      have := hr.un
      show (A.deeper _).units + 1 < cLine
      omega
    refine ⟨_, pss_cons (ps_if (pt_not (pt_val (pe_call GP r1 (by rfl) mP kP bP .nil pass0 (pa_cons (pv 1) pa_nil)))) (pss_one (ps_ret (pe_lst (pa_cons (pe_glob (v := .int (-1)) (by rfl) c8 ⟨t8, rfl⟩) pa_nil)))) pss_nil)
      (pss_cons (ps_if (pt_cmpR op_ne (pe_fld (pv 0) rfl) (pe_glob (v := .int (2)) (by rfl) c1 ⟨t1, rfl⟩) (nomark _)) (pss_one (ps_ret (pe_lst (pa_cons (pe_glob (v := .int (-2)) (by rfl) c9 ⟨t9, rfl⟩) pa_nil)))) pss_nil)
      (pss_cons (ps_set (i := 2) nd rfl (Or.inl rfl) (pe_meth0 (pv 0) T.ct mG GG hr bG .nil pass0))
      (pss_cons (ps_if (pt_cmp (pc_dnotin hu (pv 1) (pv 2))) (pss_one (ps_ret (pe_lst (pa_cons (pe_glob (v := .int (-6)) (by rfl) c6 ⟨t6, rfl⟩) pa_nil)))) pss_nil)
      (pss_cons (ps_fld (pv 0) (pe_glob (v := .int (3)) (by rfl) c3 ⟨t3, rfl⟩) rfl)
      (pss_cons (ps_fld (pv 0) (pv 1) rfl)
      (pss_cons (ps_fld (pv 0) (pe_callTy call_tuple_of (by rfl) T.n.tuple boot_tuple5 (pa_cons (pe_dget hu (pv 2) (pv 1) (fun _ _ => rfl)) pa_nil)) rfl)
      (pss_one (ps_ret (pe_lst (pa_cons pe_int pa_nil)))))))))), ?_⟩
    rw [Mt.step7] at k
    refine ⟨_, rfl, z, rfl, _, rfl, ?_⟩
    cases e1 : Vbbrak.within z 0 13 with
    | false =>
      rw [if_neg (by rw [e1]; exact Bool.false_ne_true)] at k
      exact iteT ⟨o1, fun r hr' => k r _ (Same.new hr').kl ⟨dx, hp, sp, sr, d, kvs, vl, vx, vy, vz, hT.same (Same.new hr'), hk⟩ upd_same⟩
    | true =>
      refine iteF ?_
      rw [if_pos e1] at k
      unfold Vbbrak.step Vbbrak.inPhase at k
      dsimp only at k
      obtain ⟨y, rfl⟩ := within_nat e1 (by decide)
      rw [Int.toNat_natCast] at k
      refine ⟨_, rfl, t, CT, _, _, _, rfl, hT.ob, T.ct, T.no _ (by decide +kernel), look_zip tn_nd (i := 0) rfl rfl, rfl, _, rfl, ifNe (fun h => ?_) (fun h => ?_)⟩
      · rw [if_neg (fun e => h (by rw [e]; rfl))] at k
        exact ⟨o1, fun r hr' => k r _ (Same.new hr').kl ⟨dx, hp, sp, sr, d, kvs, vl, vx, vy, vz, hT.same (Same.new hr'), hk⟩ upd_same⟩
      · have h2 : s.phase = 2 := by omega
        rw [if_pos h2] at k
        obtain ⟨rfl, rfl⟩ := hT.e2 (by omega)
        refine ⟨_, rfl, t, _, _, rfl, hT.ob, look_none (by decide +kernel), t, s, dx, hp, sp, sr, d, kvs, _, _, vy, vz, rfl, hT, hG, by omega, fun gd H1 gkv s1 G => ?_⟩
        have T1 := hT.same s1
        refine ⟨_, rfl, _, rfl, gd, _, rfl, .inl ⟨gkv, Sum.inl (y : Int), .inl G.dict, rfl, rfl⟩, _, rfl, ?_⟩
        rcases grp_val G y with ⟨ev, ew⟩ | ⟨ga, us, ev, g0, g2, g3, gne⟩
        · rw [ev]
          rw [if_pos ew] at k
          exact iteT ⟨o1, fun r hr' => k r _ (s1.trans (Same.new hr')).kl ⟨_, _, _, _, _, _, _, _, _, _, T1.same (Same.new hr'), hk⟩ upd_same⟩
        · rw [ev]
          rw [if_neg gne] at k
          refine iteF ?_
          refine ⟨_, rfl, t, CT, _, _, rfl, T1.ob, T.ct, T.no _ (by decide +kernel), few9, ?_⟩
          rw [put_turn]
          refine ⟨_, rfl, _, rfl, t, CT, _, _, rfl, upd_same, T.ct, T.no _ (by decide +kernel), few9, ?_⟩
          rw [put_second, upd_upd]
          have ngt : gd ≠ t := ne_of G.dict T1.ob (by intro q; cases q)
          have nat' : ga ≠ t := ne_of g2 T1.ob (by intro q; cases q)
          refine ⟨_, rfl, _, rfl, gd, _, rfl, .inl ⟨gkv, Sum.inl (y : Int), .inl (by rw [upd_ne ngt]; exact G.dict), rfl, ev.symm⟩, ga, us, rfl, .inl ⟨SqL.of (by rw [upd_ne nat']; exact g2), fun tp htp => ?_⟩⟩
          have htt := Same.new (o := .tup us) htp _ _ upd_same
          refine ⟨_, rfl, t, CT, _, _, rfl, htt, T.ct, T.no _ (by decide +kernel), few9, ?_⟩
          rw [put_splits]
          refine ⟨o1, fun r hr' => ?_⟩
          have T2 := hT.same s1
          have nptp : tp ≠ t := (ne_of_none upd_same htp).symm
          have hH1 : H1 tp = none := by rw [upd_ne nptp] at htp; exact htp
          have s3 : Same H1 (upd H1 tp (.tup us)) := Same.new hH1
          have hsp : SpT K (upd H1 tp (.tup us)) tp (Vbbrak.with_ (Vbbrak.secondCard s) s.ways y) := ⟨us, SqT.of upd_same, Tk.paired_mono (fun _ _ q => q.kt s3.kt) g3⟩
          have T3 := (T2.same s3).put (s' := { s with phase := 3, y := y, ways := Vbbrak.with_ (Vbbrak.secondCard s) s.ways y }) (hp' := hp) (sp' := tp) (vl' := iv s.hand) (vx' := iv s.x) (vy' := iv y) (vz' := vz) rfl (T2.same s3).hn hsp rfl (fun _ => ⟨rfl, rfl⟩) (fun _ => rfl) (fun h => absurd h (by show ¬ 4 ≤ 3; omega))
          have eH : upd (upd (upd H1 t (.ins CT dx (tn.zip [.int 3, iv s.need, .ref hp, .ref sp, .ref sr, iv s.hand, iv s.x, iv y, vz]))) tp (.tup us)) t (.ins CT dx (tn.zip [.int 3, iv s.need, .ref hp, .ref tp, .ref sr, iv s.hand, iv s.x, iv y, vz])) = upd (upd H1 tp (.tup us)) t (.ins CT dx (tn.zip [.int 3, iv s.need, .ref hp, .ref tp, .ref sr, iv s.hand, iv s.x, iv y, vz])) := by
            rw [upd_comm nptp.symm, upd_upd]
          have kl3 : KL H1 (upd (upd H1 tp (.tup us)) t (.ins CT dx (tn.zip [.int 3, iv s.need, .ref hp, .ref tp, .ref sr, iv s.hand, iv s.x, iv y, vz]))) := s3.kl.trans (KL.ins (s3 _ _ T1.ob))
          have hr2 : (upd (upd (upd H1 t (.ins CT dx (tn.zip [.int 3, iv s.need, .ref hp, .ref sp, .ref sr, iv s.hand, iv s.x, iv y, vz]))) tp (.tup us)) t (.ins CT dx (tn.zip [.int 3, iv s.need, .ref hp, .ref tp, .ref sr, iv s.hand, iv s.x, iv y, vz]))) r = none := hr'
          rw [eH] at hr2
          have fin := k r (upd (upd (upd H1 tp (.tup us)) t (.ins CT dx (tn.zip [.int 3, iv s.need, .ref hp, .ref tp, .ref sr, iv s.hand, iv s.x, iv y, vz]))) r (.lst [.int 0])) ((s1.kl.trans kl3).trans (Same.new hr2).kl) ⟨_, _, _, _, _, _, _, _, _, _, T3.same (Same.new hr2), hk⟩ upd_same
          rw [← eH] at fin
          exact fin
end
end On
set_option maxRecDepth 100000
set_option maxHeartbeats 1000000
namespace On
open PySem PySem.Spec PyProof.Rows L2
section
variable {P : Program} {w : World} {K : PySem.W.Frag} {mg : Str → Option Value} {base : Heap} {CT CS : Addr}
theorem scThi9 : FnScope ["self", "card"] ["self", "card"] (defScope sTThi) := ⟨rfl, rfl, rfl, by decide +kernel, rfl, by decide +kernel, by decide +kernel⟩
theorem ok_thi9 {f : Addr} {fd : FuncData} (F : Fun K "play_third" "Table.play_third" sTThi f fd) (T : TxT P w K mg base CT CS) : FnOk P w K mg base CX0 2 f fd ["self", "card"] (spM1 P w K CT CS 9) := by
  obtain ⟨fP, dP, mP, kP, bP, GP⟩ := T.isp
  obtain ⟨fT, dT, mT, kT, bT, GT⟩ := T.thi
  refine F.ok scThi9 (fun vs H Q E h => ?_) (fun cdv A outer s0 H vs Q E hr h => ?_)
  · obtain ⟨t, s, n, z, rfl, _⟩ := h
    rfl
  · obtain ⟨t, s, n, z, rfl, ⟨dx, hp, sp, sr, d, kvs, vl, vx, vy, vz, hT, hk⟩, hG, k⟩ := h
    obtain ⟨t1, c1⟩ := T.cs.turn3
    obtain ⟨t4, c4⟩ := T.cs.turn4
    obtain ⟨t6, c6⟩ := T.cs.nosuch
    obtain ⟨t8, c8⟩ := T.cs.out
    obtain ⟨t9, c9⟩ := T.cs.notnow
    have o1 : 1 ≤ sizeLine := by decide
    refine ⟨_, pss_cons (ps_if (pt_not (pt_val (pe_call GP hr (by rfl) mP kP bP .nil pass0 (pa_cons (pv 1) pa_nil)))) (pss_one (ps_ret (pe_lst (pa_cons (pe_glob (v := .int (-1)) (by rfl) c8 ⟨t8, rfl⟩) pa_nil)))) pss_nil)
      (pss_cons (ps_if (pt_cmpR op_ne (pe_fld (pv 0) rfl) (pe_glob (v := .int (3)) (by rfl) c1 ⟨t1, rfl⟩) (nomark _)) (pss_one (ps_ret (pe_lst (pa_cons (pe_glob (v := .int (-2)) (by rfl) c9 ⟨t9, rfl⟩) pa_nil)))) pss_nil)
      (pss_cons (ps_if (pt_cmpR op_notIn_seq (pv 1) (pe_call GT hr rfl mT kT bT .nil pass0 (pa_cons (pe_fld (pv 0) rfl) (pa_cons (pe_fld (pv 0) rfl) pa_nil))) (by rfl)) (pss_one (ps_ret (pe_lst (pa_cons (pe_glob (v := .int (-6)) (by rfl) c6 ⟨t6, rfl⟩) pa_nil)))) pss_nil)
      (pss_cons (ps_fld (pv 0) (pe_glob (v := .int (4)) (by rfl) c4 ⟨t4, rfl⟩) rfl)
      (pss_cons (ps_fld (pv 0) (pv 1) rfl)
      (pss_one (ps_ret (pe_lst (pa_cons pe_int pa_nil)))))))), ?_⟩
    rw [Mt.step9] at k
    refine ⟨_, rfl, z, rfl, _, rfl, ?_⟩
    cases e1 : Vbbrak.within z 0 13 with
    | false =>
      rw [if_neg (by rw [e1]; exact Bool.false_ne_true)] at k
      exact iteT ⟨o1, fun r hr' => k r _ (Same.new hr').kl ⟨dx, hp, sp, sr, d, kvs, vl, vx, vy, vz, hT.same (Same.new hr'), hk⟩ upd_same⟩
    | true =>
      refine iteF ?_
      rw [if_pos e1] at k
      unfold Vbbrak.step Vbbrak.inPhase at k
      dsimp only at k
      obtain ⟨y, rfl⟩ := within_nat e1 (by decide)
      rw [Int.toNat_natCast] at k
      refine ⟨_, rfl, t, CT, _, _, _, rfl, hT.ob, T.ct, T.no _ (by decide +kernel), look_zip tn_nd (i := 0) rfl rfl, rfl, _, rfl, ifNe (fun h => ?_) (fun h => ?_)⟩
      · rw [if_neg (fun e => h (by rw [e]; rfl))] at k
        exact ⟨o1, fun r hr' => k r _ (Same.new hr').kl ⟨dx, hp, sp, sr, d, kvs, vl, vx, vy, vz, hT.same (Same.new hr'), hk⟩ upd_same⟩
      · have h2 : s.phase = 3 := by omega
        rw [if_pos h2] at k
        obtain ⟨rfl, rfl⟩ := hT.e2 (by omega)
        obtain rfl := hT.e3 (by omega)
        refine ⟨_, rfl, _, rfl, t, CT, _, _, _, rfl, hT.ob, T.ct, T.no _ (by decide +kernel), look_zip tn_nd (i := 2) rfl rfl, _, rfl, t, CT, _, _, _, rfl, hT.ob, T.ct, T.no _ (by decide +kernel), look_zip tn_nd (i := 5) rfl rfl, hp, s.hand, s.a, s.b, rfl, hT.hn, hG.hd, fun th H1 s1 hth => ?_⟩
        have T1 := hT.same s1
        refine ⟨th, _, rfl, .inr hth, rfl, flat_iv _, _, rfl, ?_⟩
        rw [inV_iv]
        have em : Vbbrak.choices (Vbbrak.handOf (1 - s.hand) s.a s.b) = Vbbrak.choices (Vbbrak.mate s) := rfl
        rw [em]
        cases e3 : (Vbbrak.choices (Vbbrak.mate s)).contains y with
        | false =>
          rw [if_pos e3] at k
          exact iteT ⟨o1, fun r hr' => k r _ (s1.trans (Same.new hr')).kl ⟨_, _, _, _, _, _, _, _, _, _, T1.same (Same.new hr'), hk⟩ upd_same⟩
        | true =>
          rw [if_neg (by rw [e3]; exact fun q => Bool.noConfusion q)] at k
          refine iteF ?_
          refine ⟨_, rfl, t, CT, _, _, rfl, T1.ob, T.ct, T.no _ (by decide +kernel), few9, ?_⟩
          rw [put_turn]
          refine ⟨_, rfl, _, rfl, t, CT, _, _, rfl, upd_same, T.ct, T.no _ (by decide +kernel), few9, ?_⟩
          rw [put_third, upd_upd]
          refine ⟨o1, fun r hr' => ?_⟩
          have T2 := T1.put (s' := { s with phase := 4, z := y }) (o := .ins CT dx (tn.zip [.int 4, iv s.need, .ref hp, .ref sp, .ref sr, iv s.hand, iv s.x, iv s.y, iv y])) rfl T1.hn T1.sl rfl (fun _ => ⟨rfl, rfl⟩) (fun _ => rfl) (fun _ => rfl)
          exact k r _ ((s1.kl.trans (KL.ins T1.ob)).trans (Same.new hr').kl) ⟨_, _, _, _, _, _, _, _, _, _, T2.same (Same.new hr'), hk⟩ upd_same
end
end On
set_option maxRecDepth 100000
set_option maxHeartbeats 1000000
namespace On
open PySem PySem.Spec PyProof.Rows L2
section
variable {P : Program} {w : World} {K : PySem.W.Frag} {mg : Str → Option Value} {base : Heap} {CT CS : Addr}
theorem scLst : FnScope ["self", "card", "groups", "won"] ["self", "card"] (defScope sTLst) := ⟨rfl, rfl, rfl, by decide +kernel, rfl, by decide +kernel, by decide +kernel⟩
theorem ok_lst {f fG : Addr} {fd dG : FuncData} (F : Fun K "play_last" "Table.play_last" sTLst f fd) (T : TxT P w K mg base CT CS) (mG : Meth K CT "last_groups" fG) (FG : Fun K "last_groups" "Table.last_groups" sTGr4 fG dG) (bG : Binds K dG ["self"] []) :
    FnOk P w K mg base CX0 5 f fd ["self", "card"] (spM1 P w K CT CS 11) := by
  have GG := ok_gr4 FG T
  obtain ⟨fP, dP, mP, kP, bP, GP⟩ := T.isp
  obtain ⟨fO, dO, mO, kO, bO, GO⟩ := T.won
  obtain ⟨fN, dN', mN, kN, bN, GN⟩ := T.nee
  obtain ⟨fW, dW, mW, kW, bW, GW⟩ := T.wo
  obtain ⟨fA, dA, mA, kA, bA, GA⟩ := T.aft
  refine F.ok scLst (fun vs H Q E h => ?_) (fun cdv A outer s0 H vs Q E hr h => ?_)
  · obtain ⟨t, s, n, z, rfl, _⟩ := h
    rfl
  · obtain ⟨t, s, n, z, rfl, ⟨dx, hp, sp, sr, d, kvs, vl, vx, vy, vz, hT, hk⟩, hG, k⟩ := h
    obtain ⟨t1, c1⟩ := T.cs.turn4
    obtain ⟨t3, c3⟩ := T.cs.turn1
    obtain ⟨t6, c6⟩ := T.cs.nosuch
    obtain ⟨t8, c8⟩ := T.cs.out
    obtain ⟨t9, c9⟩ := T.cs.notnow
    have nd := scLst.nd
    have r1 : Room 1 _ := hr.mono (by omega)
    have r2 : Room 2 _ := hr.mono (by omega)
    have o1 : 1 ≤ sizeLine := by decide
    have hu : (cxOf CX0 P w K mg base ["self", "card", "groups", "won"] "Table.play_last" (defScope sTLst) f cdv A outer s0 H E).nox.A.units + 1 < cLine := by
      have := hr.un
      show (A.deeper _).units + 1 < cLine
      omega
    refine ⟨_, pss_cons (ps_if (pt_not (pt_val (pe_call GP r1 (by rfl) mP kP bP .nil pass0 (pa_cons (pv 1) pa_nil)))) (pss_one (ps_ret (pe_lst (pa_cons (pe_glob (v := .int (-1)) (by rfl) c8 ⟨t8, rfl⟩) pa_nil)))) pss_nil)
      (pss_cons (ps_if (pt_cmpR op_ne (pe_fld (pv 0) rfl) (pe_glob (v := .int (4)) (by rfl) c1 ⟨t1, rfl⟩) (nomark _)) (pss_one (ps_ret (pe_lst (pa_cons (pe_glob (v := .int (-2)) (by rfl) c9 ⟨t9, rfl⟩) pa_nil)))) pss_nil)
      (pss_cons (ps_set (i := 2) nd rfl (Or.inl rfl) (pe_meth0 (pv 0) T.ct mG GG hr bG .nil pass0))
      (pss_cons (ps_if (pt_cmp (pc_dnotin hu (pv 1) (pv 2))) (pss_one (ps_ret (pe_lst (pa_cons (pe_glob (v := .int (-6)) (by rfl) c6 ⟨t6, rfl⟩) pa_nil)))) pss_nil)
      (pss_cons (ps_set (i := 3) nd rfl (Or.inl rfl) (pe_call GO r1 rfl mO kO bO .nil pass0 (pa_cons (pe_fld (pv 0) rfl) (pa_cons (pe_fld (pv 0) rfl) (pa_cons (pe_fld (pv 0) rfl) (pa_cons (pv 1) pa_nil))))))
      (pss_cons (ps_fld (pv 0) (pe_glob (v := .int (1)) (by rfl) c3 ⟨t3, rfl⟩) rfl)
      (pss_cons (ps_fld (pv 0) (pe_call GN r1 rfl mN kN bN .nil pass0 (pa_cons (pe_fld (pv 0) rfl) (pa_cons (pv 3) pa_nil))) rfl)
      (pss_cons (ps_fld (pv 0) (pe_call GW r1 rfl mW kW bW .nil pass0 (pa_cons (pe_fld (pv 0) rfl) (pa_cons (pe_fld (pv 0) rfl) (pa_cons (pe_fld (pv 0) rfl) pa_nil)))) rfl)
      (pss_cons (ps_fld (pv 0) (pe_call GA r2 rfl mA kA bA .nil pass0 (pa_cons (pe_dget hu (pv 2) (pv 1) (fun _ _ => rfl)) (pa_cons (pe_fld (pv 0) rfl) (pa_cons (pv 1) pa_nil)))) rfl)
      (pss_one (ps_ret (pe_lst (pa_cons pe_int (pa_cons (pv 3) pa_nil))))))))))))), ?_⟩
    rw [Mt.step11] at k
    refine ⟨_, rfl, z, rfl, _, rfl, ?_⟩
    cases e1 : Vbbrak.within z 0 13 with
    | false =>
      rw [if_neg (by rw [e1]; exact Bool.false_ne_true)] at k
      exact iteT ⟨o1, fun r hr' => k r _ (Same.new hr').kl ⟨dx, hp, sp, sr, d, kvs, vl, vx, vy, vz, hT.same (Same.new hr'), hk⟩ upd_same⟩
    | true =>
      refine iteF ?_
      rw [if_pos e1] at k
      unfold Vbbrak.step Vbbrak.inPhase at k
      dsimp only at k
      obtain ⟨y, rfl⟩ := within_nat e1 (by decide)
      rw [Int.toNat_natCast] at k
      refine ⟨_, rfl, t, CT, _, _, _, rfl, hT.ob, T.ct, T.no _ (by decide +kernel), look_zip tn_nd (i := 0) rfl rfl, rfl, _, rfl, ifNe (fun h => ?_) (fun h => ?_)⟩
      · rw [if_neg (fun e => h (by rw [e]; rfl))] at k
        exact ⟨o1, fun r hr' => k r _ (Same.new hr').kl ⟨dx, hp, sp, sr, d, kvs, vl, vx, vy, vz, hT.same (Same.new hr'), hk⟩ upd_same⟩
      · have h2 : s.phase = 4 := by omega
        rw [if_pos h2] at k
        obtain ⟨rfl, rfl⟩ := hT.e2 (by omega)
        obtain rfl := hT.e3 (by omega)
        obtain rfl := hT.e4 (by omega)
        refine ⟨_, rfl, t, _, _, rfl, hT.ob, look_none (by decide +kernel), t, s, dx, hp, sp, sr, d, kvs, _, _, _, _, rfl, hT, hG, by omega, fun gd H1 gkv s1 G => ?_⟩
        have T1 := hT.same s1
        refine ⟨_, rfl, _, rfl, gd, _, rfl, .inl ⟨gkv, Sum.inl (y : Int), .inl G.dict, rfl, rfl⟩, _, rfl, ?_⟩
        rcases grp_val G y with ⟨ev, ew⟩ | ⟨ga, us, ev, g0, g2, g3, gne⟩
        · rw [ev]
          rw [if_pos ew] at k
          exact iteT ⟨o1, fun r hr' => k r _ (s1.trans (Same.new hr')).kl ⟨_, _, _, _, _, _, _, _, _, _, T1.same (Same.new hr'), hk⟩ upd_same⟩
        · rw [ev]
          rw [if_neg gne] at k
          refine iteF ?_
          have la := hG.la
          have lb := hG.lb
          have wl := hG.wl
          have hwl : (Vbbrak.with_ (Vbbrak.lastCard s) s.ways y).length ≤ s.ways.length := List.length_filter_le _ _
          have ngt : gd ≠ t := ne_of G.dict T1.ob (by intro q; cases q)
          have nat' : ga ≠ t := ne_of g2 T1.ob (by intro q; cases q)
          -- won
          refine ⟨_, rfl, t, CT, _, _, _, rfl, T1.ob, T.ct, T.no _ (by decide +kernel), look_zip tn_nd (i := 6) rfl rfl, _, rfl, t, CT, _, _, _, rfl, T1.ob, T.ct, T.no _ (by decide +kernel), look_zip tn_nd (i := 7) rfl rfl, _, rfl, t, CT, _, _, _, rfl, T1.ob, T.ct, T.no _ (by decide +kernel), look_zip tn_nd (i := 8) rfl rfl, _, rfl, s.x, s.y, s.z, y, rfl, ?_⟩
          -- turn
          refine ⟨_, rfl, t, CT, _, _, rfl, T1.ob, T.ct, T.no _ (by decide +kernel), few9, ?_⟩
          rw [put_turn]
          -- need
          refine ⟨_, rfl, t, CT, _, _, _, rfl, upd_same, T.ct, T.no _ (by decide +kernel), look_zip tn_nd (i := 1) rfl rfl, _, rfl, s.need, Vbbrak.ours s.x s.y s.z y, rfl, _, rfl, t, CT, _, _, rfl, upd_same, T.ct, T.no _ (by decide +kernel), few9, ?_⟩
          rw [put_need, upd_upd]
          have k2 := kt_mut (o := .ins CT dx (tn.zip [.int 1, iv (s.need - Vbbrak.ours s.x s.y s.z y), .ref hp, .ref sp, .ref sr, iv s.hand, iv s.x, iv s.y, iv s.z])) T1.ob True.intro
          have l2 := KL.ins (o := .ins CT dx (tn.zip [.int 1, iv (s.need - Vbbrak.ours s.x s.y s.z y), .ref hp, .ref sp, .ref sr, iv s.hand, iv s.x, iv s.y, iv s.z])) T1.ob
          have se2 := se_put (o := .ins CT dx (tn.zip [.int 1, iv (s.need - Vbbrak.ours s.x s.y s.z y), .ref hp, .ref sp, .ref sr, iv s.hand, iv s.x, iv s.y, iv s.z])) T1.se T1.ob rfl
          have d2 : (upd H1 t (.ins CT dx (tn.zip [.int 1, iv (s.need - Vbbrak.ours s.x s.y s.z y), .ref hp, .ref sp, .ref sr, iv s.hand, iv s.x, iv s.y, iv s.z]))) gd = some (.dK gkv) := by rw [upd_ne ngt]; exact G.dict
          -- hands
          refine ⟨_, rfl, t, CT, _, _, _, rfl, upd_same, T.ct, T.no _ (by decide +kernel), look_zip tn_nd (i := 2) rfl rfl, _, rfl, t, CT, _, _, _, rfl, upd_same, T.ct, T.no _ (by decide +kernel), look_zip tn_nd (i := 6) rfl rfl, _, rfl, t, CT, _, _, _, rfl, upd_same, T.ct, T.no _ (by decide +kernel), look_zip tn_nd (i := 8) rfl rfl, hp, s.x, s.z, s.a, s.b, rfl, T1.hn.kt k2, by omega, by omega, fun nh H3 s3 hnh => ?_⟩
          have ht3 := s3 _ _ upd_same
          refine ⟨_, rfl, t, CT, _, _, rfl, ht3, T.ct, T.no _ (by decide +kernel), few9, ?_⟩
          rw [put_hands]
          have k3 := kt_mut (o := .ins CT dx (tn.zip [.int 1, iv (s.need - Vbbrak.ours s.x s.y s.z y), .ref nh, .ref sp, .ref sr, iv s.hand, iv s.x, iv s.y, iv s.z])) ht3 True.intro
          have l3 := KL.ins (o := .ins CT dx (tn.zip [.int 1, iv (s.need - Vbbrak.ours s.x s.y s.z y), .ref nh, .ref sp, .ref sr, iv s.hand, iv s.x, iv s.y, iv s.z])) ht3
          have se3 := se_put (o := .ins CT dx (tn.zip [.int 1, iv (s.need - Vbbrak.ours s.x s.y s.z y), .ref nh, .ref sp, .ref sr, iv s.hand, iv s.x, iv s.y, iv s.z])) (se2.same s3) ht3 rfl
          have d3 : (upd H3 t (.ins CT dx (tn.zip [.int 1, iv (s.need - Vbbrak.ours s.x s.y s.z y), .ref nh, .ref sp, .ref sr, iv s.hand, iv s.x, iv s.y, iv s.z]))) gd = some (.dK gkv) := by rw [upd_ne ngt]; exact s3 _ _ d2
          have kl13 := l2.trans (s3.kl.trans l3)
          -- splits
          refine ⟨_, rfl, _, rfl, gd, _, rfl, .inl ⟨gkv, Sum.inl (y : Int), .inl d3, rfl, ev.symm⟩, _, rfl, t, CT, _, _, _, rfl, upd_same, T.ct, T.no _ (by decide +kernel), look_zip tn_nd (i := 7) rfl rfl, _, rfl, ?_⟩
          refine ⟨ga, Vbbrak.with_ (Vbbrak.lastCard s) s.ways y, s.y, y, rfl, ⟨us, SqL.of (kl13.2 _ _ g2), Tk.paired_mono (fun _ _ q => q.kt kl13.1) g3⟩, by omega, fun z hz => ?_, fun ns H4 s4 hns => ?_⟩
          · obtain ⟨_, _, z3, z4⟩ := hG.w5 z (List.mem_filter.mp hz).1
            exact ⟨by omega, by omega⟩
          have ht4 := s4 _ _ upd_same
          refine ⟨_, rfl, t, CT, _, _, rfl, ht4, T.ct, T.no _ (by decide +kernel), few9, ?_⟩
          rw [put_splits]
          have k4 := kt_mut (o := .ins CT dx (tn.zip [.int 1, iv (s.need - Vbbrak.ours s.x s.y s.z y), .ref nh, .ref ns, .ref sr, iv s.hand, iv s.x, iv s.y, iv s.z])) ht4 True.intro
          have l4 := KL.ins (o := .ins CT dx (tn.zip [.int 1, iv (s.need - Vbbrak.ours s.x s.y s.z y), .ref nh, .ref ns, .ref sr, iv s.hand, iv s.x, iv s.y, iv s.z])) ht4
          have se4 := se_put (o := .ins CT dx (tn.zip [.int 1, iv (s.need - Vbbrak.ours s.x s.y s.z y), .ref nh, .ref ns, .ref sr, iv s.hand, iv s.x, iv s.y, iv s.z])) (se3.same s4) ht4 rfl
          refine ⟨_, rfl, by show 2 ≤ sizeLine; decide, fun r hr' => ?_⟩
          have TF : TabF P w K CT CS (upd H4 t (.ins CT dx (tn.zip [.int 1, iv (s.need - Vbbrak.ours s.x s.y s.z y), .ref nh, .ref ns, .ref sr, iv s.hand, iv s.x, iv s.y, iv s.z]))) t (Vbbrak.afterTrick s y) dx nh ns sr d kvs (iv s.hand) (iv s.x) (iv s.y) (iv s.z) :=
            ⟨upd_same, hnh.kt (k3.trans (s4.kt.trans k4)), hns.kt k4, se4, fun h => absurd h (by show ¬ 2 ≤ 1; omega), fun h => absurd h (by show ¬ 3 ≤ 1; omega), fun h => absurd h (by show ¬ 4 ≤ 1; omega)⟩
          exact k r _ (((s1.kl.trans kl13).trans (s4.kl.trans l4)).trans (Same.new hr').kl) ⟨_, _, _, _, _, _, _, _, _, _, TF.same (Same.new hr'), hk⟩ upd_same
end
end On
set_option maxRecDepth 100000
set_option maxHeartbeats 1000000
namespace On
open PySem PySem.Spec PyProof.Rows L2
section
variable {P : Program} {w : World} {K : PySem.W.Frag} {mg : Str → Option Value} {base : Heap} {CT CS : Addr}
def spBli (P : Program) (w : World) (K : PySem.W.Frag) (CT CS : Addr) : Sp := fun vs H Q _ => ∃ (t : Addr) (s : Vbbrak.State) (n : Nat) (p : Addr) (l : List Int), vs = [.ref t, .ref p] ∧ SqL K H p (l.map V.int) ∧ l.length ≤ 1000 ∧ Tab P w K CT CS H t s n ∧ Mt.Good s ∧
  ∀ r H', KL H H' → Tab P w K CT CS H' t (Vbbrak.stepRows s [[12], l]).1 n → H' r = some (.lst ((Vbbrak.stepRows s [[12], l]).2.map V.int)) → Q (.ref r) H'
theorem scBli : FnScope ["self", "plan"] ["self", "plan"] (defScope sTBli) := ⟨rfl, rfl, rfl, by decide +kernel, rfl, by decide +kernel, by decide +kernel⟩
theorem line_of {l : List Int} (h : Vbbrak.isLine l = true) : ∃ (n : Nat) (rs : List Nat), n ≤ 4 ∧ rs.length = 3 * n ∧ l = rs.map (fun n : Nat => (n : Int)) ∧ Vbbrak.triplesOf l = Mt.tri rs ∧ ∀ m ∈ Mt.tri rs, m.1 = 0 ∨ m.1 = 1 := by
  by_cases hl : l.length % 3 = 0 ∧ l.length ≤ 12
  · have hn : l.length = 3 * (l.length / 3) := by omega
    rw [Mt.isLine_of hn (by omega)] at h
    obtain ⟨rs, e1, e2, e3⟩ := Mt.line_nats _ l hn h
    refine ⟨l.length / 3, rs, by omega, ?_, e1, e2, e3⟩
    rw [← hn, e1, List.length_map]
  · rw [Mt.isLine_no hl] at h
    cases h
theorem ok_bli {f : Addr} {fd : FuncData} (F : Fun K "tell_blind" "Table.tell_blind" sTBli f fd) (T : TxT P w K mg base CT CS) : FnOk P w K mg base CX0 5 f fd ["self", "plan"] (spBli P w K CT CS) := by
  obtain ⟨fP, dP, mP, kP, bP, GP⟩ := T.pla
  obtain ⟨fW, dW, mW, kW, bW, GW⟩ := T.wop
  refine F.ok scBli (fun vs H Q E h => ?_) (fun cdv A outer s0 H vs Q E hr h => ?_)
  · obtain ⟨t, s, n, p, l, rfl, _⟩ := h
    rfl
  · obtain ⟨t, s, n, p, l, rfl, hL, hl, ⟨dx, hp, sp, sr, d, kvs, vl, vx, vy, vz, hT, hk⟩, hG, k⟩ := h
    obtain ⟨t1, c1⟩ := T.cs.turn1
    obtain ⟨t8, c8⟩ := T.cs.out
    obtain ⟨t9, c9⟩ := T.cs.notnow
    have r2 : Room 2 _ := hr.mono (by omega)
    have o1 : 1 ≤ sizeLine := by decide
    have la := hG.la
    have lb := hG.lb
    have wl := hG.wl
    obtain ⟨dy, hsr⟩ := hT.se.ob
    refine ⟨_, pss_cons (ps_if (pt_not (pt_val (pe_call GP r2 (by rfl) mP kP bP .nil pass0 (pa_cons (pv 1) pa_nil)))) (pss_one (ps_ret (pe_lst (pa_cons (pe_glob (v := .int (-1)) (by rfl) c8 ⟨t8, rfl⟩) pa_nil)))) pss_nil)
      (pss_cons (ps_if (pt_cmpR op_ne (pe_fld (pv 0) rfl) (pe_glob (v := .int (1)) (by rfl) c1 ⟨t1, rfl⟩) (nomark _)) (pss_one (ps_ret (pe_lst (pa_cons (pe_glob (v := .int (-2)) (by rfl) c9 ⟨t9, rfl⟩) pa_nil)))) pss_nil)
      (pss_one (ps_ret (pe_lst (pa_cons pe_int (pa_cons (pe_call GW hr rfl mW kW bW .nil pass0 (pa_cons (pv 1) (pa_cons (pe_fld (pv 0) rfl) (pa_cons (pe_fld (pv 0) rfl) (pa_cons (pe_fld (pv 0) rfl) (pa_cons (pe_fld (pe_fld (pv 0) rfl) rfl) pa_nil)))))) pa_nil)))))), ?_⟩
    rw [Mt.step12] at k
    refine ⟨_, rfl, p, l, rfl, hL, hl, _, rfl, ?_⟩
    cases e1 : Vbbrak.isLine l with
    | false =>
      rw [if_neg (by rw [e1]; exact Bool.false_ne_true)] at k
      exact iteT ⟨o1, fun r hr' => k r _ (Same.new hr').kl ⟨dx, hp, sp, sr, d, kvs, vl, vx, vy, vz, hT.same (Same.new hr'), hk⟩ upd_same⟩
    | true =>
      refine iteF ?_
      rw [if_pos e1] at k
      unfold Vbbrak.step Vbbrak.inPhase at k
      dsimp only at k
      refine ⟨_, rfl, t, CT, _, _, _, rfl, hT.ob, T.ct, T.no _ (by decide +kernel), look_zip tn_nd (i := 0) rfl rfl, rfl, _, rfl, ifNe (fun h => ?_) (fun h => ?_)⟩
      · rw [if_neg (fun e => h (by rw [e]; rfl))] at k
        exact ⟨o1, fun r hr' => k r _ (Same.new hr').kl ⟨dx, hp, sp, sr, d, kvs, vl, vx, vy, vz, hT.same (Same.new hr'), hk⟩ upd_same⟩
      · rw [if_pos (by omega)] at k
        obtain ⟨m, rs, hm4, hrs, el, et, hm⟩ := line_of e1
        rw [et] at k
        have hL' : SqL K H p (rs.map iv) := by
          rw [el, List.map_map] at hL
          exact hL
        refine ⟨_, rfl, _, rfl, t, CT, _, _, _, rfl, hT.ob, T.ct, T.no _ (by decide +kernel), look_zip tn_nd (i := 1) rfl rfl, _, rfl, t, CT, _, _, _, rfl, hT.ob, T.ct, T.no _ (by decide +kernel), look_zip tn_nd (i := 2) rfl rfl, _, rfl, t, CT, _, _, _, rfl, hT.ob, T.ct, T.no _ (by decide +kernel), look_zip tn_nd (i := 3) rfl rfl, _, rfl, t, CT, _, _, _, rfl, hT.ob, T.ct, T.no _ (by decide +kernel), look_zip tn_nd (i := 4) rfl rfl, sr, CS, dy, _, _, rfl, hsr, T.s.cl, T.s.nC, sf_cover _ _, ?_⟩
        refine ⟨p, hp, sp, rs, m, s.need, s.a, s.b, s.ways, s.cover, rfl, hL', hrs, hm4, hm, hT.hn, by omega, by omega, hT.sl, by omega, good_fall hG, fun H1 s1 => ?_⟩
        refine ⟨by show 2 ≤ sizeLine; decide, fun r hr' => ?_⟩
        have s2 := s1.trans (Same.new (o := .lst [.int 0, iv (Vbbrak.weight (s.ways.filter fun z => decide (s.need ≤ Vbbrak.played s.cover (Mt.tri rs) s.a s.b z)))]) hr')
        exact k r _ s2.kl ⟨dx, hp, sp, sr, d, kvs, vl, vx, vy, vz, hT.same s2, hk⟩ upd_same
end
end On
set_option maxRecDepth 100000
set_option maxHeartbeats 1000000
namespace On
open PySem PySem.Spec PyProof.Rows L2
section
variable {P : Program} {w : World} {K : PySem.W.Frag} {mg : Str → Option Value} {base : Heap} {CT CS : Addr}
theorem Rows3.kl {H H' : Hp} (s : KL H H') {r : Addr} {a b m : List Int} (h : Rows3 K H r a b m) : Rows3 K H' r a b m := by
  obtain ⟨ra, rb, rm, h0, h1, h2, h3⟩ := h.at_
  exact ⟨ra, rb, rm, s.2 _ _ h0, s.2 _ _ h1, s.2 _ _ h2, s.2 _ _ h3⟩
def spSui (P : Program) (w : World) (K : PySem.W.Frag) (CT CS : Addr) : Sp := fun vs H Q _ => ∃ (t : Addr) (s : Vbbrak.State) (n : Nat) (z0 z1 z2 z3 : Int) (p : Addr) (a b m : List Int), vs = [.ref t, .int z0, .int z1, .int z2, .int z3, .ref p] ∧ Rows3 K H p a b m ∧ a.length ≤ 1000 ∧ b.length ≤ 1000 ∧ m.length ≤ 1000 ∧ Tab P w K CT CS H t s n ∧ Mt.Good s ∧
  ∀ r H', KL H H' → Tab P w K CT CS H' t (Vbbrak.stepRows s [[0, z0, z1, z2, z3], a, b, m]).1 n → H' r = some (.lst ((Vbbrak.stepRows s [[0, z0, z1, z2, z3], a, b, m]).2.map V.int)) → Q (.ref r) H'
theorem scSui : FnScope ["self", "need", "cover", "p", "q", "rows", "refusal"] ["self", "need", "cover", "p", "q", "rows"] (defScope sTSui) := ⟨rfl, rfl, rfl, by decide +kernel, rfl, by decide +kernel, by decide +kernel⟩
theorem cards_nat {l : List Int} {k : Nat} (h : Vbbrak.isCards l k = true) : ∃ ns : List Nat, l = ns.map (fun n : Nat => (n : Int)) ∧ Vbbrak.nats l = ns ∧ ns.length ≤ k := by
  unfold Vbbrak.isCards at h
  rw [Bool.and_eq_true, decide_eq_true_eq, List.all_eq_true] at h
  have e : l = (Vbbrak.nats l).map (fun n : Nat => (n : Int)) := by
    unfold Vbbrak.nats
    rw [List.map_map]
    have : ∀ l : List Int, (∀ z ∈ l, Vbbrak.within z 1 13 = true) → l = l.map ((fun n : Nat => (n : Int)) ∘ fun z => z.toNat) := by
      intro l
      induction l with
      | nil => intro _; rfl
      | cons z l ih =>
        intro hz
        rw [List.map_cons, ← ih fun y hy => hz y (by simp [hy])]
        congr 1
        have := hz z (by simp)
        unfold Vbbrak.within at this
        rw [Bool.and_eq_true, decide_eq_true_eq, decide_eq_true_eq] at this
        show z = ((z.toNat : Nat) : Int)
        omega
    exact this l h.2
  exact ⟨Vbbrak.nats l, e, rfl, by unfold Vbbrak.nats; rw [List.length_map]; exact h.1⟩
theorem nodup_cast {l : List Nat} : (l.map (fun n : Nat => (n : Int))).Nodup ↔ l.Nodup := by
  constructor
  · intro h
    have := (List.pairwise_map.mp h)
    exact this.imp fun {a b} q e => q (by rw [e])
  · exact fun h => nodup_map_inj (fun x y e => by omega) h
def suitSt (need cov p q : Nat) (a b m : List Nat) : Vbbrak.State := { phase := 1, cover := cov == 1, a := Vbbrak.falling a, b := Vbbrak.falling b, ways := Vbbrak.splits (Vbbrak.falling m) p q, need := need, hand := 0, x := 0, y := 0, z := 0 }
theorem suit_cases (s : Vbbrak.State) (need cov p q : Nat) (a b m : List Nat) :
    (∃ code, refOf (p : Int) (q : Int) (a.map fun n : Nat => (n : Int)) (b.map fun n : Nat => (n : Int)) (m.map fun n : Nat => (n : Int)) = code ∧ code ≠ 0 ∧ Vbbrak.step s (.suit need cov p q a b m) = (s, [code])) ∨
    (refOf (p : Int) (q : Int) (a.map fun n : Nat => (n : Int)) (b.map fun n : Nat => (n : Int)) (m.map fun n : Nat => (n : Int)) = 0 ∧ (a ++ (b ++ m)).Nodup ∧ m.length ≤ p + q ∧
      Vbbrak.step s (.suit need cov p q a b m) = (suitSt need cov p q a b m, [0, Int.ofNat (suitSt need cov p q a b m).ways.length, Int.ofNat (Vbbrak.weight (suitSt need cov p q a b m).ways)])) := by
  unfold refOf Vbbrak.step
  dsimp only
  rw [← List.map_append, ← List.map_append, List.length_map, List.length_map, List.length_map]
  by_cases h1 : (a ++ (b ++ m)).Nodup
  · have hd1 : ¬ Vbbrak.distinct (a ++ (b ++ m)) = false := by
      rw [Mt.distinct_of_nodup h1]
      exact fun q => Bool.noConfusion q
    have hd0 : ¬ ¬ ((a ++ (b ++ m)).map fun n : Nat => (n : Int)).Nodup := fun q => q (nodup_cast.mpr h1)
    rw [if_neg hd0, if_neg hd1]
    by_cases h2 : 7 < a.length + b.length
    · rw [if_pos h2, if_pos h2]
      exact .inl ⟨-4, rfl, by decide, rfl⟩
    · rw [if_neg h2, if_neg h2]
      by_cases h3 : p + q < m.length
      · have h3' : (p : Int) + (q : Int) < (m.length : Int) := by omega
        rw [if_pos h3', if_pos h3]
        exact .inl ⟨-5, rfl, by decide, rfl⟩
      · have h3' : ¬ (p : Int) + (q : Int) < (m.length : Int) := by omega
        rw [if_neg h3', if_neg h3]
        exact .inr ⟨rfl, h1, by omega, rfl⟩
  · have hd : Vbbrak.distinct (a ++ (b ++ m)) = false := by
      cases e : Vbbrak.distinct (a ++ (b ++ m)) with
      | false => rfl
      | true => exact absurd (Mt.nodup_of_distinct e) h1
    have hd0 : ¬ ((a ++ (b ++ m)).map fun n : Nat => (n : Int)).Nodup := fun q => h1 (nodup_cast.mp q)
    rw [if_pos hd0, if_pos hd]
    exact .inl ⟨-3, rfl, by decide, rfl⟩
theorem okS_parts {n c p q : Int} {a b m : List Int} (h : okSuit n c p q a b m = true) : Vbbrak.within n 0 4 = true ∧ Vbbrak.within c 0 1 = true ∧ Vbbrak.within p 0 13 = true ∧ Vbbrak.within q 0 13 = true ∧ Vbbrak.isCards a 4 = true ∧ Vbbrak.isCards b 4 = true ∧ Vbbrak.isCards m 5 = true := by
  unfold okSuit at h
  simp only [Bool.and_eq_true] at h
  exact h
theorem cv_of {c : Nat} (h : Vbbrak.within (c : Int) 0 1 = true) : V.int (c : Int) = cv (c == 1) := by
  unfold Vbbrak.within at h
  rw [Bool.and_eq_true, decide_eq_true_eq, decide_eq_true_eq] at h
  have : c = 0 ∨ c = 1 := by omega
  rcases this with rfl | rfl
  · rfl
  · rfl
theorem le_of_within {c k : Nat} {lo : Int} (h : Vbbrak.within (c : Int) lo (k : Int) = true) : c ≤ k := by
  unfold Vbbrak.within at h
  rw [Bool.and_eq_true, decide_eq_true_eq, decide_eq_true_eq] at h
  omega
theorem ok_sui {f : Addr} {fd : FuncData} (F : Fun K "tell_suit" "Table.tell_suit" sTSui f fd) (T : TxT P w K mg base CT CS) : FnOk P w K mg base CX0 4 f fd ["self", "need", "cover", "p", "q", "rows"] (spSui P w K CT CS) := by
  obtain ⟨fP, dP, mP, kP, bP, GP⟩ := T.iss
  obtain ⟨fR, dR, mR, kR, bR, GR⟩ := T.ref
  obtain ⟨fF, dF, mF, kF, bF, GF⟩ := T.fal
  obtain ⟨fS, dS, mS, kS, bS, GS⟩ := T.spl
  obtain ⟨fW, dW, mW, kW, bW, GW⟩ := T.way
  obtain ⟨fI, dI, MI, bI, GI⟩ := T.mkS
  refine F.ok scSui (fun vs H Q E h => ?_) (fun cdv A outer s0 H vs Q E hr h => ?_)
  · obtain ⟨t, s, n, z0, z1, z2, z3, p, a, b, m, rfl, _⟩ := h
    rfl
  · obtain ⟨t, s, n, z0, z1, z2, z3, p, a, b, m, rfl, hR, la, lb, lm, ⟨dx, hp, sp, sr, d, kvs, vl, vx, vy, vz, hT, hk⟩, hG, k⟩ := h
    obtain ⟨t1, c1⟩ := T.cs.turn1
    obtain ⟨t8, c8⟩ := T.cs.out
    have nd := scSui.nd
    have r1 : Room 1 _ := hr.mono (by omega)
    have r2 : Room 2 _ := hr.mono (by omega)
    have o1 : 1 ≤ sizeLine := by decide
    have hlen := T.n.len
    refine ⟨_, pss_cons (ps_if (pt_not (pt_val (pe_call GP r2 (by rfl) mP kP bP .nil pass0 (pa_cons (pv 1) (pa_cons (pv 2) (pa_cons (pv 3) (pa_cons (pv 4) (pa_cons (pv 5) pa_nil)))))))) (pss_one (ps_ret (pe_lst (pa_cons (pe_glob (v := .int (-1)) (by rfl) c8 ⟨t8, rfl⟩) pa_nil)))) pss_nil)
      (pss_cons (ps_set (i := 6) nd rfl (Or.inl rfl) (pe_call GR r1 rfl mR kR bR .nil pass0 (pa_cons (pv 3) (pa_cons (pv 4) (pa_cons (pv 5) pa_nil)))))
      (pss_cons (ps_if (pt_cmpR op_ne (pv 6) pe_int (nomark _)) (pss_one (ps_ret (pe_lst (pa_cons (pv 6) pa_nil)))) pss_nil)
      (pss_cons (ps_fld (pv 0) (pe_glob (v := .int (1)) (by rfl) c1 ⟨t1, rfl⟩) rfl)
      (pss_cons (ps_fld (pv 0) (pv 1) rfl)
      (pss_cons (ps_fld (pv 0) (pe_tup (pa_cons (pe_call GF r1 rfl mF kF bF .nil pass0 (pa_cons (pe_ix ix_list (pv 5) pe_int (fun _ _ => rfl)) pa_nil)) (pa_cons (pe_call GF r1 rfl mF kF bF .nil pass0 (pa_cons (pe_ix ix_list (pv 5) pe_int (fun _ _ => rfl)) pa_nil)) pa_nil))) rfl)
      (pss_cons (ps_fld (pv 0) (pe_call GS hr rfl mS kS bS .nil pass0 (pa_cons (pv 3) (pa_cons (pv 4) (pa_cons (pe_ix ix_list (pv 5) pe_int (fun _ _ => rfl)) pa_nil)))) rfl)
      (pss_cons (ps_fld (pv 0) (pe_make MI GI r2 rfl T.mgS bI .nil pass0 (pa_cons (pv 2) pa_nil)) rfl)
      (pss_one (ps_ret (pe_lst (pa_cons pe_int (pa_cons (pe_callB call_len_seq (by rfl) hlen PySem.boot_len (pa_cons (pe_fld (pv 0) rfl) pa_nil)) (pa_cons (pe_call GW r1 rfl mW kW bW .nil pass0 (pa_cons (pe_fld (pv 0) rfl) pa_nil)) pa_nil))))))))))))), ?_⟩
    rw [Mt.step0] at k
    have eok : Mt.okSuitS z0 z1 z2 z3 a b m = okSuit z0 z1 z2 z3 a b m := rfl
    rw [eok] at k
    refine ⟨_, rfl, _, rfl, _, rfl, _, rfl, _, rfl, z0, z1, z2, z3, p, a, b, m, rfl, hR, la, lb, lm, fun H1 s1 => ⟨_, rfl, ?_⟩⟩
    cases e1 : okSuit z0 z1 z2 z3 a b m with
    | false =>
      rw [if_neg (by rw [e1]; exact Bool.false_ne_true)] at k
      exact iteT ⟨o1, fun r hr' => k r _ (s1.trans (Same.new hr')).kl ⟨dx, hp, sp, sr, d, kvs, vl, vx, vy, vz, (hT.same s1).same (Same.new hr'), hk⟩ upd_same⟩
    | true =>
      refine iteF ?_
      rw [if_pos e1] at k
      obtain ⟨w0, w1, w2, w3, wa, wb, wm⟩ := okS_parts e1
      obtain ⟨need, rfl⟩ := within_nat w0 (by decide)
      obtain ⟨cov, rfl⟩ := within_nat w1 (by decide)
      obtain ⟨pp, rfl⟩ := within_nat w2 (by decide)
      obtain ⟨qq, rfl⟩ := within_nat w3 (by decide)
      obtain ⟨na, rfl, ea, l4a⟩ := cards_nat wa
      obtain ⟨nb, rfl, eb, l4b⟩ := cards_nat wb
      obtain ⟨nm, rfl, em, l5m⟩ := cards_nat wm
      rw [Int.toNat_natCast, Int.toNat_natCast, Int.toNat_natCast, Int.toNat_natCast, ea, eb, em] at k
      have hp13 : pp ≤ 13 := le_of_within (k := 13) w2
      have hq13 : qq ≤ 13 := le_of_within (k := 13) w3
      refine ⟨_, rfl, _, rfl, _, rfl, (pp : Int), (qq : Int), p, _, _, _, rfl, hR.same s1, by rw [List.length_map]; omega, by rw [List.length_map]; omega, by rw [List.length_map]; omega, fun H2 s2 => ?_⟩
      have s12 := s1.trans s2
      have T2 := hT.same s12
      rcases suit_cases s need cov pp qq na nb nm with ⟨code, ec, en, es⟩ | ⟨ec, hnd, hmq, es⟩
      · rw [ec]
        rw [es] at k
        refine ⟨_, rfl, rfl, _, rfl, ifNe (fun _ => ?_) (fun q => absurd q en)⟩
        exact ⟨_, rfl, o1, fun r hr' => k r _ (s12.trans (Same.new hr')).kl ⟨dx, hp, sp, sr, d, kvs, vl, vx, vy, vz, T2.same (Same.new hr'), hk⟩ upd_same⟩
      · rw [ec]
        rw [es] at k
        refine ⟨_, rfl, rfl, _, rfl, ifNe (fun q => absurd rfl q) (fun _ => ?_)⟩
        have hnd' := List.nodup_append.mp hnd
        have hnd2 := List.nodup_append.mp hnd'.2.1
        -- turn, need
        refine ⟨_, rfl, t, CT, _, _, rfl, T2.ob, T.ct, T.no _ (by decide +kernel), few9, ?_⟩
        rw [put_turn]
        refine ⟨_, rfl, _, rfl, t, CT, _, _, rfl, upd_same, T.ct, T.no _ (by decide +kernel), few9, ?_⟩
        rw [put_need, upd_upd]
        have l2 := KL.ins (o := .ins CT dx (tn.zip [.int 1, iv need, .ref hp, .ref sp, .ref sr, vl, vx, vy, vz])) T2.ob
        have R2 := (hR.kl s12.kl).kl l2
        -- hands
        obtain ⟨ra, rb, rm, h0, h1, h2, h3⟩ := R2.at_
        refine ⟨_, rfl, p, _, _, _, rfl, rfl, SqL.of h0, rfl, ra, na, rfl, .inl (SqL.of (by rw [h1, List.map_map]; rfl)), hnd'.1, by omega, fun fa H3 s3 hfa => ?_⟩
        refine ⟨_, rfl, p, _, _, _, rfl, rfl, SqL.of (s3 _ _ h0), rfl, rb, nb, rfl, .inl (SqL.of (by rw [s3 _ _ h2, List.map_map]; rfl)), hnd2.1, by omega, fun fb H4 s4 hfb => ?_⟩
        refine ⟨by show 2 ≤ sizeLine; decide, fun nh hnh => ?_⟩
        have s34 := (s3.trans s4).trans (Same.new (o := .tup [.ref fa, .ref fb]) hnh)
        have ht4 := s34 _ _ upd_same
        have P4 : Pr K (upd H4 nh (.tup [.ref fa, .ref fb])) nh (Vbbrak.falling na) (Vbbrak.falling nb) := ⟨fa, fb, SqT.of upd_same, SqT.of (Same.new hnh _ _ (s4 _ _ hfa)), SqT.of (Same.new hnh _ _ hfb)⟩
        refine ⟨_, rfl, t, CT, _, _, rfl, ht4, T.ct, T.no _ (by decide +kernel), few9, ?_⟩
        rw [put_hands]
        have l4 := KL.ins (o := .ins CT dx (tn.zip [.int 1, iv need, .ref nh, .ref sp, .ref sr, vl, vx, vy, vz])) ht4
        have kl4 := s34.kl.trans l4
        -- splits
        refine ⟨_, rfl, _, rfl, _, rfl, p, _, _, _, rfl, rfl, SqL.of (kl4.2 _ _ h0), rfl, ?_⟩
        refine ⟨pp, qq, rm, nm, rfl, SqL.of (by rw [kl4.2 _ _ h3, List.map_map]; rfl), hnd2.2.1, by omega, hmq, by omega, by omega, fun ns H5 s5 hns => ?_⟩
        have ht5 := s5 _ _ upd_same
        refine ⟨_, rfl, t, CT, _, _, rfl, ht5, T.ct, T.no _ (by decide +kernel), few9, ?_⟩
        rw [put_splits]
        have l5 := KL.ins (o := .ins CT dx (tn.zip [.int 1, iv need, .ref nh, .ref ns, .ref sr, vl, vx, vy, vz])) ht5
        -- search
        refine ⟨_, rfl, ?_⟩
        intro nr dy nnr ndy nxy
        refine ⟨nr, dy, cov == 1, congrArg (fun v => [V.ref nr, v]) (cv_of w1), upd_same, fun nd' H6 hnd6 hS b6 => ⟨rfl, ?_⟩⟩
        have s6 := Same.made nnr ndy b6
        have ht6 := s6 _ _ upd_same
        refine ⟨_, rfl, t, CT, _, _, rfl, ht6, T.ct, T.no _ (by decide +kernel), few9, ?_⟩
        rw [put_search]
        have l6 := KL.ins (o := .ins CT dx (tn.zip [.int 1, iv need, .ref nh, .ref ns, .ref nr, vl, vx, vy, vz])) ht6
        have se7 := se_put (o := .ins CT dx (tn.zip [.int 1, iv need, .ref nh, .ref ns, .ref nr, vl, vx, vy, vz])) hS ht6 rfl
        have TF : TabF P w K CT CS (upd H6 t (.ins CT dx (tn.zip [.int 1, iv need, .ref nh, .ref ns, .ref nr, vl, vx, vy, vz]))) t (suitSt need cov pp qq na nb nm) dx nh ns nr nd' [] vl vx vy vz :=
          ⟨upd_same, P4.kt ((l4.trans s5.kl).trans (l5.trans (s6.kl.trans l6))).1, hns.kt (l5.trans (s6.kl.trans l6)).1, se7, fun h => absurd h (by show ¬ 2 ≤ 1; omega), fun h => absurd h (by show ¬ 3 ≤ 1; omega), fun h => absurd h (by show ¬ 4 ≤ 1; omega)⟩
        have hwl : (suitSt need cov pp qq na nb nm).ways.length ≤ 32 := by
          have h1 := Mt.splits_length (m := Vbbrak.falling nm) (p := pp) (q := qq)
          have h2 : (Vbbrak.falling nm).length ≤ nm.length := Mt.falling_le
          have h3 : 2 ^ (Vbbrak.falling nm).length ≤ 2 ^ 5 := Nat.pow_le_pow_right (by decide) (by omega)
          exact Nat.le_trans h1 h3
        have klA := (s12.kl.trans l2).trans (kl4.trans (s5.kl.trans (l5.trans (s6.kl.trans l6))))
        obtain ⟨ws, q1, q2⟩ := TF.sl
        refine ⟨_, rfl, t, CT, _, _, _, rfl, TF.ob, T.ct, T.no _ (by decide +kernel), look_zip tn_nd (i := 3) rfl rfl, ns, ws, rfl, .inr q1, _, rfl, t, CT, _, _, _, rfl, TF.ob, T.ct, T.no _ (by decide +kernel), look_zip tn_nd (i := 3) rfl rfl, ns, _, rfl, .inl TF.sl, by omega, fun H8 s8 => ⟨by show 3 ≤ sizeLine; decide, fun r hr' => ?_⟩⟩
        have s9 := s8.trans (Same.new (o := .lst [.int 0, .int (ws.length : Int), iv (Vbbrak.weight (suitSt need cov pp qq na nb nm).ways)]) hr')
        refine k r _ (klA.trans s9.kl) ⟨_, _, _, _, _, [], _, _, _, _, TF.same s9, Nat.zero_le _⟩ ?_
        rw [upd_same, paired_len q2]
        rfl
end
end On
set_option maxRecDepth 100000
set_option maxHeartbeats 1000000
namespace On
open PySem PySem.Spec PyProof.Rows L2
abbrev sRea : Stmt := top 55
abbrev sCaL : Stmt := top 56
abbrev sAns1 : Stmt := top 57
abbrev sAnsS : Stmt := top 58
section
variable {P : Program} {w : World} {K : PySem.W.Frag} {mg : Str → Option Value} {base : Heap} {CT CS : Addr}
def RowE (H0 H : Hp) (rs : Addr) (v : V) (x : List Int) : Prop := ∃ p, v = .ref p ∧ p ≠ rs ∧ H0 p = none ∧ H p = some (.lst (x.map V.int))
def RowsAt (H0 H : Hp) (rs : Addr) (xs : List (List Int)) : Prop := H0 rs = none ∧ ∃ vs, H rs = some (.lst vs) ∧ Paired (RowE H0 H rs) vs xs
theorem RowsAt.kl {H0 H H' : Hp} (k : KL H H') {rs : Addr} {xs : List (List Int)} (h : RowsAt H0 H rs xs) : RowsAt H0 H' rs xs := let ⟨h0, vs, h1, h2⟩ := h; ⟨h0, vs, k.2 _ _ h1, Tk.paired_mono (fun _ _ ⟨p, e, n, f, q⟩ => ⟨p, e, n, f, k.2 _ _ q⟩) h2⟩
theorem RowsAt.put {H0 H : Hp} {tl : Addr} {u o : HO} (k : H0 tl = some u) {rs : Addr} {xs : List (List Int)} (h : RowsAt H0 H rs xs) : RowsAt H0 (upd H tl o) rs xs := let ⟨h0, vs, h1, h2⟩ := h; ⟨h0, vs, by rw [upd_ne (ne_of_none k h0).symm]; exact h1, Tk.paired_mono (fun _ _ ⟨p, e, n, f, q⟩ => ⟨p, e, n, f, by rw [upd_ne (ne_of_none k f).symm]; exact q⟩) h2⟩
theorem cut_at {ns : List Int} {pos : Nat} {n0 : Int} {x rest : List Int} {lo hi : Int} (h : ns.drop pos = n0 :: (x ++ rest)) (hlo : lo = (pos : Int) + 1) (hhi : hi = (pos : Int) + 1 + (x.length : Int)) : cutV (ns.map V.int) (some lo) (some hi) = x.map V.int := by
  have hl : ns.length - pos = 1 + (x.length + rest.length) := by
    have := congrArg List.length h
    rw [List.length_drop, List.length_cons, List.length_append] at this
    omega
  have e1 : lo = ((pos + 1 : Nat) : Int) := by omega
  have e2 : hi = ((pos + 1 + x.length : Nat) : Int) := by omega
  unfold cutV
  rw [e1, e2, HT.sIx_nat, HT.sIx_nat, List.length_map]
  have m1 : min (pos + 1) ns.length = pos + 1 := by omega
  have m2 : min (pos + 1 + x.length) ns.length = pos + 1 + x.length := by omega
  rw [m1, m2]
  have e3 : ns.drop (pos + 1) = x ++ rest := by
    rw [← List.drop_drop, h]
    rfl
  rw [← List.map_drop, e3, List.map_append, show pos + 1 + x.length - (pos + 1) = (x.map V.int).length by rw [List.length_map]; omega, List.take_left]
theorem get_drop {ns : List Int} {pos : Nat} {n0 : Int} {l : List Int} (h : ns.drop pos = n0 :: l) : ns[pos]? = some n0 := by
  have : (ns.drop pos)[0]? = ns[pos]? := by rw [List.getElem?_drop]; rfl
  rw [← this, h]
  rfl
def spRea (K : PySem.W.Frag) : Sp := fun vs H Q _ => ∃ (cl : Addr) (ns : List Int) (start k : Nat) (xs : List (List Int)) (rest : List Int), vs = [.ref cl, iv start, iv k] ∧ SqL K H cl (ns.map V.int) ∧ ns.drop start = Mt.rowsF xs ++ rest ∧ xs.length = k ∧ k ≤ 3 ∧
  ∀ (rs : Addr) (H' : Hp), Same H H' → RowsAt H H' rs xs → Q (.ref rs) H'
theorem scRea : FnScope ["calls", "start", "number", "rows", "at", "step", "end"] ["calls", "start", "number"] (defScope sRea) := ⟨rfl, rfl, rfl, by decide +kernel, rfl, by decide +kernel, by decide +kernel⟩
theorem ok_rea {f : Addr} {fd : FuncData} (F : Fun K "read_rows" "read_rows" sRea f fd) (T : Names mg) : FnOk P w K mg base CX0 1 f fd ["calls", "start", "number"] (spRea K) := by
  refine F.ok scRea (fun vs H Q E h => ?_) (fun cdv A outer s H vs Q E hr h => ?_)
  · obtain ⟨cl, ns, start, k, xs, rest, rfl, _⟩ := h
    rfl
  · obtain ⟨cl, ns, start, n, xs, rest, rfl, hC, hD, hx, h3, k⟩ := h
    have nd := scRea.nd
    have e16 : sizeLine = 16777216 := sizeLine_eq
    refine ⟨_, pss_cons (ps_set (i := 3) nd rfl (Or.inl rfl) (pe_lst pa_nil))
      (pss_cons (ps_set (i := 4) nd rfl (Or.inl rfl) (pv 1))
      (pss_cons (ps_for PassesOwn.never rfl (pi_range1 rfl T.range (pa_cons (pv 2) pa_nil)) (pg_name (i := 5) nd rfl (Or.inl rfl))
        (pss_cons (ps_set (i := 6) nd rfl (Or.inl rfl) (pe_op op_add (pe_op op_add (pv 4) pe_int) (pe_ix ix_list (pv 0) (pv 4) (fun _ _ => rfl))))
        (pss_cons (ps_expr (pe_bm PySem.F.plainAttrs_list PySem.F.slot_list_append PySem.F.type_list_append mt_append (pv 3) (pa_cons (pe_slice sl_list (pv 0) (po_some (pe_op op_add (pv 4) pe_int)) (po_some (pv 6))) pa_nil)))
        (pss_one (ps_set (i := 4) nd rfl (Or.inl rfl) (pv 6))))))
      (pss_one (ps_ret (pv 3))))), ?_⟩
    refine ⟨Nat.zero_le _, fun rs hrs => ⟨_, rfl, ?_⟩⟩
    have s1 : Same H (upd H rs (.lst [])) := Same.new hrs
    refine ⟨_, rfl, (n : Int), rfl, by omega, by omega, for_range (n := n) (fun i σ H' => ∃ (v5 v6 : Option V) (pos : Nat) (vs : List V), σ = [some (.ref cl), some (iv start), some (iv n), some (.ref rs), some (iv pos), v5, v6] ∧ Same H H' ∧ H' rs = some (.lst vs) ∧ Paired (RowE H H' rs) vs (xs.take i) ∧ ns.drop pos = Mt.rowsF (xs.drop i) ++ rest)
      ⟨none, none, start, [], rfl, s1, upd_same, .nil, hD⟩ ?_ ?_⟩
    · rintro i σ H' hi ⟨v5, v6, pos, vs, rfl, sH, hv, hp, hd⟩
      have hi' : i < xs.length := by omega
      have hxi : xs[i]? = some xs[i] := List.getElem?_eq_getElem hi'
      have hdr : xs.drop i = xs[i] :: xs.drop (i + 1) := (List.getElem_cons_drop ..).symm
      have hd2 : ns.drop pos = ((xs[i].length : Nat) : Int) :: (xs[i] ++ (Mt.rowsF (xs.drop (i + 1)) ++ rest)) := by
        rw [hd, hdr]
        unfold Mt.rowsF Mt.rowF
        rw [List.flatMap_cons, List.cons_append, List.cons_append, List.append_assoc]
      have hC' := sH.seq hC
      refine ⟨_, rfl, _, _, rfl, rfl, _, rfl, _, rfl, cl, _, _, _, rfl, rfl, hC', at_int (get_drop hd2) rfl, _, _, rfl, rfl, ?_⟩
      refine ⟨_, rfl, .inl ⟨rfl, _, SqL.of hv⟩, _, rfl, _, rfl, _, _, rfl, rfl, _, rfl, _, rfl, _, rfl, cl, _, rfl, hC', fun p hp' => ?_⟩
      rw [cut_at hd2 rfl rfl]
      have s2 := Same.new (o := .lst (xs[i].map V.int)) hp'
      have nrp : p ≠ rs := (ne_of_none hv hp').symm
      have hvl : vs.length ≤ i := by rw [paired_len hp, List.length_take]; omega
      refine ⟨rs, _, _, rfl, rfl, s2 _ _ hv, by omega, _, rfl, ?_⟩
      refine ⟨some (.int (0 + (i : Int))), some (.int ((pos : Int) + 1 + ((xs[i].length : Nat) : Int))), pos + 1 + xs[i].length, vs ++ [.ref p], ?_, fun b o e => ?_, upd_same, ?_, ?_⟩
      · have e : iv (pos + 1 + xs[i].length) = V.int ((pos : Int) + 1 + ((xs[i].length : Nat) : Int)) := congrArg V.int (by omega)
        rw [e]
        rfl
      · rw [upd_ne (ne_of_none e hrs)]
        exact s2 _ _ (sH _ _ e)
      · rw [take_snoc' hxi]
        refine paired_app (Tk.paired_mono (fun _ _ ⟨q, e, nq, fq, hq⟩ => ⟨q, e, nq, fq, by rw [upd_ne nq]; exact s2 _ _ hq⟩) hp) (.cons ⟨p, rfl, nrp, sH.free hp', by rw [upd_ne nrp, upd_same]⟩ .nil)
      · rw [show pos + 1 + xs[i].length = pos + (1 + xs[i].length) by omega, ← List.drop_drop, hd2, show 1 + xs[i].length = xs[i].length + 1 by omega, List.drop_succ_cons, List.drop_left]
    · rintro σ H' ⟨v5, v6, pos, vs, rfl, sH, hv, hp, hd⟩
      rw [← hx, List.take_length] at hp
      exact ⟨_, rfl, k rs H' sH ⟨hrs, vs, hv, hp⟩⟩
def spCaL (K : PySem.W.Frag) : Sp := fun vs H Q _ => ∃ (H0 : Hp) (pl rs : Addr) (a : List Int) (xs : List (List Int)) (p : Int), vs = [.ref pl, .ref rs] ∧ H pl = some (.lst (a.map V.int)) ∧ RowsAt H0 H rs xs ∧ xs.length ≤ 3 ∧
  ∀ H', Same H H' → Q (iv (Mt.callF ((p :: a) :: xs)).length) H'
theorem scCaL : FnScope ["plain", "rows", "row"] ["plain", "rows"] (defScope sCaL) := ⟨rfl, rfl, rfl, by decide +kernel, rfl, by decide +kernel, by decide +kernel⟩
theorem rowsF_len : ∀ xs : List (List Int), ((Mt.rowsF xs).length : Int) = (xs.length : Int) + (xs.map fun x => ((x.length : Nat) : Int)).sum
  | [] => rfl
  | x :: xs => by
    have ih := rowsF_len xs
    have e : Mt.rowsF (x :: xs) = Mt.rowF x ++ Mt.rowsF xs := rfl
    rw [e, List.length_append, List.map_cons, List.sum_cons, List.length_cons]
    have e2 : (Mt.rowF x).length = x.length + 1 := rfl
    rw [e2]
    omega
theorem ok_cal {f : Addr} {fd : FuncData} (F : Fun K "call_length" "call_length" sCaL f fd) (T : Names mg) : FnOk P w K mg base CX0 1 f fd ["plain", "rows"] (spCaL K) := by
  refine F.ok scCaL (fun vs H Q E h => ?_) (fun cdv A outer s H vs Q E hr h => ?_)
  · obtain ⟨H0, pl, rs, a, xs, p, rfl, _⟩ := h
    rfl
  · obtain ⟨H0, pl, rs, a, xs, p, rfl, hpl, ⟨_, vs, hv, hp⟩, h3, k⟩ := h
    have nd := scCaL.nd
    have hlen := T.len
    have e16 : sizeLine = 16777216 := sizeLine_eq
    refine ⟨_, pss_one (ps_ret (pe_op op_add (pe_op op_add (pe_op op_add pe_int (pe_callB call_len_seq (by rfl) hlen PySem.boot_len (pa_cons (pv 0) pa_nil))) (pe_callB call_len_seq (by rfl) hlen PySem.boot_len (pa_cons (pv 1) pa_nil)))
      (pe_callB (cr_sum rfl) (by rfl) T.sum boot_sum5 (pa_cons (pe_lc (own := [("row", 2)]) rfl nd (pi_list (pv 1)) (blkOk_by (show blkC ["plain", "rows", "row"] (defScope sCaL) _ [("row", 2)] = true by decide +kernel))
        (fun _ _ _ _ _ => pg_name (i := 2) nd rfl (Or.inl rfl)) (fun _ _ _ _ _ => pts_nil) (fun _ _ _ _ _ => pe_callB (r := fun xs H Q => ∃ p ys, xs = [.ref p] ∧ (SqL K H p ys ∨ SqT K H p ys) ∧ Q (.int ys.length) H) call_len_seq (by rfl) hlen PySem.boot_len (pa_cons (pv 2) pa_nil))) pa_nil)))), ?_⟩
    refine ⟨_, rfl, pl, _, rfl, .inl (SqL.of hpl), _, _, rfl, rfl, _, rfl, rs, _, rfl, .inl (SqL.of hv), _, _, rfl, rfl, ?_⟩
    refine ⟨_, rfl, rs, rfl, ⟨_, SqL.of hv⟩, fun D hD => lc_mapL (ys := xs.map fun x => V.int ((x.length : Nat) : Int)) (SqL.of hv) hD (by rw [paired_len hp]; omega) (by rw [List.length_map, paired_len hp]) (fun i x y hx hy H' R hS hR => ?_) ?_⟩
    · obtain ⟨z, hz, q, rfl, nq, _, hq⟩ := paired_at hp hx
      obtain ⟨z', hz', rfl⟩ := get_map hy
      have : z' = z := Option.some.inj (hz'.symm.trans hz)
      subst this
      refine ⟨rfl, _, rfl, q, _, rfl, .inl (SqL.of (hS _ _ hq)), ?_⟩
      rw [List.length_map]
      exact hR
    · refine ⟨D, xs.map fun x => ((x.length : Nat) : Int), rfl, SqL.of (by rw [upd_same, List.map_map]; rfl), _, _, rfl, rfl, ?_⟩
      have := k _ (Same.new (o := .lst (xs.map fun x => V.int ((x.length : Nat) : Int))) hD)
      have e : (((Mt.callF ((p :: a) :: xs)).length : Nat) : Int) = 1 + ((a.map V.int).length : Int) + (vs.length : Int) + (xs.map fun x => ((x.length : Nat) : Int)).sum := by
        have e1 : Mt.callF ((p :: a) :: xs) = (p :: a) ++ Mt.rowsF xs := rfl
        rw [e1, List.length_append, List.length_cons, List.length_map, paired_len hp]
        have := rowsF_len xs
        omega
      have e2 : iv (Mt.callF ((p :: a) :: xs)).length = V.int (1 + ((a.map V.int).length : Int) + (vs.length : Int) + (xs.map fun x => ((x.length : Nat) : Int)).sum) := congrArg V.int e
      rw [e2] at this
      exact this
structure TxA (P : Program) (w : World) (K : PySem.W.Frag) (mg : Str → Option Value) (base : Heap) (CT CS : Addr) : Prop where
  t : TxT P w K mg base CT CS
  mgT : mg "Table" = some (.ref CT)
  mkT : ∃ fI dI, Mk K CT fI ∧ Binds K dI ["self"] [] ∧ FnOk P w K mg base CX0 3 fI dI ["self"] (spTInit P w K CT CS)
  sui : HasM P w K mg base CT "tell_suit" 4 ["self", "need", "cover", "p", "q", "rows"] (spSui P w K CT CS)
  lea : HasM P w K mg base CT "lead_card" 1 ["self", "leader", "led"] (spM2 P w K CT CS)
  bli : HasM P w K mg base CT "tell_blind" 5 ["self", "plan"] (spBli P w K CT CS)
  odd : HasM P w K mg base CT "tell_odds" 25 ["self"] (spM0 P w K CT CS 1 [[1]])
  way : HasM P w K mg base CT "tell_ways" 2 ["self"] (spM0 P w K CT CS 0 [[2]])
  han : HasM P w K mg base CT "tell_hands" 2 ["self"] (spM0 P w K CT CS 0 [[3]])
  lds : HasM P w K mg base CT "tell_leads" 23 ["self"] (spM0 P w K CT CS 1 [[4]])
  ses : HasM P w K mg base CT "tell_seconds" 5 ["self"] (spM0 P w K CT CS 0 [[6]])
  ths : HasM P w K mg base CT "tell_thirds" 21 ["self"] (spM0 P w K CT CS 1 [[8]])
  las : HasM P w K mg base CT "tell_lasts" 5 ["self"] (spM0 P w K CT CS 0 [[10]])
  sec : HasM P w K mg base CT "play_second" 5 ["self", "card"] (spM1 P w K CT CS 7)
  thi : HasM P w K mg base CT "play_third" 2 ["self", "card"] (spM1 P w K CT CS 9)
  lst : HasM P w K mg base CT "play_last" 5 ["self", "card"] (spM1 P w K CT CS 11)
def cost (c : List (List Int)) : Nat := if VbbrakNeutral.searches c = true then 1 else 0
def spAn1 (P : Program) (w : World) (K : PySem.W.Frag) (CT CS : Addr) : Sp := fun vs H Q _ => ∃ (H0 : Hp) (t : Addr) (s : Vbbrak.State) (n : Nat) (p : Int) (pl rs : Addr) (a : List Int) (xs : List (List Int)), vs = [.ref t, .int p, .ref pl, .ref rs] ∧ Tab P w K CT CS H t s n ∧ Mt.Good s ∧ H pl = some (.lst (a.map V.int)) ∧ RowsAt H0 H rs xs ∧
  VbbrakNeutral.asked1 ((p :: a) :: xs) = true ∧ n + cost ((p :: a) :: xs) ≤ 30 ∧
  ∀ r H', KL H H' → Tab P w K CT CS H' t (Vbbrak.stepRows s ((p :: a) :: xs)).1 (n + cost ((p :: a) :: xs)) → H' r = some (.lst ((Vbbrak.stepRows s ((p :: a) :: xs)).2.map V.int)) → Q (.ref r) H'
theorem scAn1 : FnScope ["table", "place", "plain", "rows"] ["table", "place", "plain", "rows"] (defScope sAns1) := ⟨rfl, rfl, rfl, by decide +kernel, rfl, by decide +kernel, by decide +kernel⟩
def Form13 (c : List (List Int)) : Prop :=
  (∃ n v p q r t u, c = [[0, n, v, p, q], r, t, u] ∧ r.length ≤ 100 ∧ t.length ≤ 100 ∧ u.length ≤ 100) ∨ c = [[1]] ∨ c = [[2]] ∨ c = [[3]] ∨ c = [[4]] ∨ (∃ h x, c = [[5, h, x]]) ∨ c = [[6]] ∨ (∃ x, c = [[7, x]]) ∨ c = [[8]] ∨ (∃ x, c = [[9, x]]) ∨ c = [[10]] ∨ (∃ x, c = [[11, x]]) ∨ ∃ r, c = [[12], r] ∧ r.length ≤ 100
theorem form13 {c : List (List Int)} (h : VbbrakNeutral.asked1 c = true) : Form13 c := by
  unfold VbbrakNeutral.asked1 at h
  unfold Form13
  split at h
  · rename_i n v p q r t u
    simp only [Bool.and_eq_true, VbbrakNeutral.row, decide_eq_true_eq] at h
    exact .inl ⟨n, v, p, q, r, t, u, rfl, h.2.2.2.2.1.1, h.2.2.2.2.2.1.1, h.2.2.2.2.2.2.1⟩
  · exact .inr (.inl rfl)
  · exact .inr (.inr (.inl rfl))
  · exact .inr (.inr (.inr (.inl rfl)))
  · exact .inr (.inr (.inr (.inr (.inl rfl))))
  · exact .inr (.inr (.inr (.inr (.inr (.inl ⟨_, _, rfl⟩)))))
  · exact .inr (.inr (.inr (.inr (.inr (.inr (.inl rfl))))))
  · exact .inr (.inr (.inr (.inr (.inr (.inr (.inr (.inl ⟨_, rfl⟩)))))))
  · exact .inr (.inr (.inr (.inr (.inr (.inr (.inr (.inr (.inl rfl))))))))
  · exact .inr (.inr (.inr (.inr (.inr (.inr (.inr (.inr (.inr (.inl ⟨_, rfl⟩)))))))))
  · exact .inr (.inr (.inr (.inr (.inr (.inr (.inr (.inr (.inr (.inr (.inl rfl))))))))))
  · exact .inr (.inr (.inr (.inr (.inr (.inr (.inr (.inr (.inr (.inr (.inr (.inl ⟨_, rfl⟩)))))))))))
  · rename_i r
    simp only [Bool.and_eq_true, VbbrakNeutral.row, decide_eq_true_eq] at h
    exact .inr (.inr (.inr (.inr (.inr (.inr (.inr (.inr (.inr (.inr (.inr (.inr (⟨r, rfl, h.1⟩))))))))))))
  · cases h
theorem ok_an1 {f : Addr} {fd : FuncData} (F : Fun K "answer" "answer" sAns1 f fd) (X : TxA P w K mg base CT CS) : FnOk P w K mg base CX0 26 f fd ["table", "place", "plain", "rows"] (spAn1 P w K CT CS) := by
  have T := X.t
  obtain ⟨f0, d0, m0, b0, G0⟩ := X.sui
  obtain ⟨f5, d5, m5, b5, G5⟩ := X.lea
  obtain ⟨f12, d12, m12, b12, G12⟩ := X.bli
  obtain ⟨f1, d1, m1, b1, G1⟩ := X.odd
  obtain ⟨f2, d2, m2, b2, G2⟩ := X.way
  obtain ⟨f3, d3, m3, b3, G3⟩ := X.han
  obtain ⟨f4, d4, m4, b4, G4⟩ := X.lds
  obtain ⟨f6, d6, m6, b6, G6⟩ := X.ses
  obtain ⟨f8, d8, m8, b8, G8⟩ := X.ths
  obtain ⟨f10, d10, m10, b10, G10⟩ := X.las
  obtain ⟨f7, d7, m7, b7, G7⟩ := X.sec
  obtain ⟨f9, d9, m9, b9, G9⟩ := X.thi
  obtain ⟨f11, d11, m11, b11, G11⟩ := X.lst
  refine F.ok scAn1 (fun vs H Q E h => ?_) (fun cdv A outer s0 H vs Q E hr h => ?_)
  · obtain ⟨H0, t, s, n, p, pl, rs, a, xs, rfl, _⟩ := h
    rfl
  · obtain ⟨H0, t, s, n, p, pl, rs, a, xs, rfl, hTab, hG, hpl, hrs, hask, hn, k⟩ := h
    obtain ⟨dx, hp, sp, sr, d, kvs, vl, vx, vy, vz, hT, hk⟩ := id hTab
    have r0 : Room 4 _ := hr.mono (by omega)
    have r1 : Room 25 _ := hr.mono (by omega)
    have r2 : Room 2 _ := hr.mono (by omega)
    have r3 : Room 2 _ := hr.mono (by omega)
    have r4 : Room 23 _ := hr.mono (by omega)
    have r5 : Room 1 _ := hr.mono (by omega)
    have r6 : Room 5 _ := hr.mono (by omega)
    have r7 : Room 5 _ := hr.mono (by omega)
    have r8 : Room 21 _ := hr.mono (by omega)
    have r9 : Room 2 _ := hr.mono (by omega)
    have r10 : Room 5 _ := hr.mono (by omega)
    have r11 : Room 5 _ := hr.mono (by omega)
    have r12 : Room 5 _ := hr.mono (by omega)
    refine ⟨_, pss_cons (ps_if (pt_cmpR op_eq (pv 1) pe_int (nomark _)) (pss_one (ps_ret (pe_meth (pv 0) T.ct m0 G0 r0 b0 .nil pass0 (pa_cons (pe_ix ix_list (pv 2) pe_int (fun _ _ => rfl)) (pa_cons (pe_ix ix_list (pv 2) pe_int (fun _ _ => rfl)) (pa_cons (pe_ix ix_list (pv 2) pe_int (fun _ _ => rfl)) (pa_cons (pe_ix ix_list (pv 2) pe_int (fun _ _ => rfl)) (pa_cons (pv 3) pa_nil)))))))) pss_nil)
      (pss_cons (ps_if (pt_cmpR op_eq (pv 1) pe_int (nomark _)) (pss_one (ps_ret (pe_meth0 (pv 0) T.ct m1 G1 r1 b1 .nil pass0))) pss_nil)
      (pss_cons (ps_if (pt_cmpR op_eq (pv 1) pe_int (nomark _)) (pss_one (ps_ret (pe_meth0 (pv 0) T.ct m2 G2 r2 b2 .nil pass0))) pss_nil)
      (pss_cons (ps_if (pt_cmpR op_eq (pv 1) pe_int (nomark _)) (pss_one (ps_ret (pe_meth0 (pv 0) T.ct m3 G3 r3 b3 .nil pass0))) pss_nil)
      (pss_cons (ps_if (pt_cmpR op_eq (pv 1) pe_int (nomark _)) (pss_one (ps_ret (pe_meth0 (pv 0) T.ct m4 G4 r4 b4 .nil pass0))) pss_nil)
      (pss_cons (ps_if (pt_cmpR op_eq (pv 1) pe_int (nomark _)) (pss_one (ps_ret (pe_meth (pv 0) T.ct m5 G5 r5 b5 .nil pass0 (pa_cons (pe_ix ix_list (pv 2) pe_int (fun _ _ => rfl)) (pa_cons (pe_ix ix_list (pv 2) pe_int (fun _ _ => rfl)) pa_nil))))) pss_nil)
      (pss_cons (ps_if (pt_cmpR op_eq (pv 1) pe_int (nomark _)) (pss_one (ps_ret (pe_meth0 (pv 0) T.ct m6 G6 r6 b6 .nil pass0))) pss_nil)
      (pss_cons (ps_if (pt_cmpR op_eq (pv 1) pe_int (nomark _)) (pss_one (ps_ret (pe_meth (pv 0) T.ct m7 G7 r7 b7 .nil pass0 (pa_cons (pe_ix ix_list (pv 2) pe_int (fun _ _ => rfl)) pa_nil)))) pss_nil)
      (pss_cons (ps_if (pt_cmpR op_eq (pv 1) pe_int (nomark _)) (pss_one (ps_ret (pe_meth0 (pv 0) T.ct m8 G8 r8 b8 .nil pass0))) pss_nil)
      (pss_cons (ps_if (pt_cmpR op_eq (pv 1) pe_int (nomark _)) (pss_one (ps_ret (pe_meth (pv 0) T.ct m9 G9 r9 b9 .nil pass0 (pa_cons (pe_ix ix_list (pv 2) pe_int (fun _ _ => rfl)) pa_nil)))) pss_nil)
      (pss_cons (ps_if (pt_cmpR op_eq (pv 1) pe_int (nomark _)) (pss_one (ps_ret (pe_meth0 (pv 0) T.ct m10 G10 r10 b10 .nil pass0))) pss_nil)
      (pss_cons (ps_if (pt_cmpR op_eq (pv 1) pe_int (nomark _)) (pss_one (ps_ret (pe_meth (pv 0) T.ct m11 G11 r11 b11 .nil pass0 (pa_cons (pe_ix ix_list (pv 2) pe_int (fun _ _ => rfl)) pa_nil)))) pss_nil)
      (pss_one (ps_ret (pe_meth (pv 0) T.ct m12 G12 r12 b12 .nil pass0 (pa_cons (pe_ix ix_list (pv 3) pe_int (fun _ _ => rfl)) pa_nil))))))))))))))), ?_⟩
    rcases form13 hask with ⟨z0, z1, z2, z3, ya, yb, ym, e, l1, l2, l3⟩ | e | e | e | e | ⟨z0, z1, e⟩ | e | ⟨z0, e⟩ | e | ⟨z0, e⟩ | e | ⟨z0, e⟩ | ⟨ya, e, l1⟩
    · injection e with e1 e2
      injection e1 with e3 e4
      subst e3 e4 e2
      skip
      refine ⟨_, rfl, rfl, _, rfl, ifEq (fun _ => ?_) (fun h => absurd rfl h)⟩
      obtain ⟨_, us, hv, hpq⟩ := id hrs
      cases hpq with
      | cons h1 h2 => cases h2 with
        | cons h2 h3 => cases h3 with
          | cons h3 h4 =>
            cases h4
            obtain ⟨pa, rfl, _, _, ha⟩ := h1
            obtain ⟨pb, rfl, _, _, hb⟩ := h2
            obtain ⟨pm, rfl, _, _, hm⟩ := h3
            refine ⟨_, rfl, t, _, _, rfl, hT.ob, look_none (by decide +kernel), _, rfl, pl, _, _, _, rfl, rfl, SqL.of hpl, rfl, _, rfl, pl, _, _, _, rfl, rfl, SqL.of hpl, rfl, _, rfl, pl, _, _, _, rfl, rfl, SqL.of hpl, rfl, _, rfl, pl, _, _, _, rfl, rfl, SqL.of hpl, rfl, _, rfl, ?_⟩
            exact ⟨t, s, n, z0, z1, z2, z3, rs, ya, yb, ym, rfl, ⟨pa, pb, pm, hv, ha, hb, hm⟩, by omega, by omega, by omega, hTab, hG, k⟩
    · injection e with e1 e2
      injection e1 with e3 e4
      subst e3 e4 e2
      refine ⟨_, rfl, rfl, _, rfl, ifEq (fun h => absurd h (by decide)) (fun _ => ?_)⟩
      refine ⟨_, rfl, rfl, _, rfl, ifEq (fun _ => ?_) (fun h => absurd rfl h)⟩
      exact ⟨_, rfl, t, _, _, rfl, hT.ob, look_none (by decide +kernel), t, s, n, rfl, hTab, hG, hn, k⟩
    · injection e with e1 e2
      injection e1 with e3 e4
      subst e3 e4 e2
      refine ⟨_, rfl, rfl, _, rfl, ifEq (fun h => absurd h (by decide)) (fun _ => ?_)⟩
      refine ⟨_, rfl, rfl, _, rfl, ifEq (fun h => absurd h (by decide)) (fun _ => ?_)⟩
      refine ⟨_, rfl, rfl, _, rfl, ifEq (fun _ => ?_) (fun h => absurd rfl h)⟩
      exact ⟨_, rfl, t, _, _, rfl, hT.ob, look_none (by decide +kernel), t, s, n, rfl, hTab, hG, hn, k⟩
    · injection e with e1 e2
      injection e1 with e3 e4
      subst e3 e4 e2
      refine ⟨_, rfl, rfl, _, rfl, ifEq (fun h => absurd h (by decide)) (fun _ => ?_)⟩
      refine ⟨_, rfl, rfl, _, rfl, ifEq (fun h => absurd h (by decide)) (fun _ => ?_)⟩
      refine ⟨_, rfl, rfl, _, rfl, ifEq (fun h => absurd h (by decide)) (fun _ => ?_)⟩
      refine ⟨_, rfl, rfl, _, rfl, ifEq (fun _ => ?_) (fun h => absurd rfl h)⟩
      exact ⟨_, rfl, t, _, _, rfl, hT.ob, look_none (by decide +kernel), t, s, n, rfl, hTab, hG, hn, k⟩
    · injection e with e1 e2
      injection e1 with e3 e4
      subst e3 e4 e2
      refine ⟨_, rfl, rfl, _, rfl, ifEq (fun h => absurd h (by decide)) (fun _ => ?_)⟩
      refine ⟨_, rfl, rfl, _, rfl, ifEq (fun h => absurd h (by decide)) (fun _ => ?_)⟩
      refine ⟨_, rfl, rfl, _, rfl, ifEq (fun h => absurd h (by decide)) (fun _ => ?_)⟩
      refine ⟨_, rfl, rfl, _, rfl, ifEq (fun h => absurd h (by decide)) (fun _ => ?_)⟩
      refine ⟨_, rfl, rfl, _, rfl, ifEq (fun _ => ?_) (fun h => absurd rfl h)⟩
      exact ⟨_, rfl, t, _, _, rfl, hT.ob, look_none (by decide +kernel), t, s, n, rfl, hTab, hG, hn, k⟩
    · injection e with e1 e2
      injection e1 with e3 e4
      subst e3 e4 e2
      refine ⟨_, rfl, rfl, _, rfl, ifEq (fun h => absurd h (by decide)) (fun _ => ?_)⟩
      refine ⟨_, rfl, rfl, _, rfl, ifEq (fun h => absurd h (by decide)) (fun _ => ?_)⟩
      refine ⟨_, rfl, rfl, _, rfl, ifEq (fun h => absurd h (by decide)) (fun _ => ?_)⟩
      refine ⟨_, rfl, rfl, _, rfl, ifEq (fun h => absurd h (by decide)) (fun _ => ?_)⟩
      refine ⟨_, rfl, rfl, _, rfl, ifEq (fun h => absurd h (by decide)) (fun _ => ?_)⟩
      refine ⟨_, rfl, rfl, _, rfl, ifEq (fun _ => ?_) (fun h => absurd rfl h)⟩
      exact ⟨_, rfl, t, _, _, rfl, hT.ob, look_none (by decide +kernel), _, rfl, pl, _, _, _, rfl, rfl, SqL.of hpl, rfl, _, rfl, pl, _, _, _, rfl, rfl, SqL.of hpl, rfl, t, s, n, z0, z1, rfl, hTab, hG, k⟩
    · injection e with e1 e2
      injection e1 with e3 e4
      subst e3 e4 e2
      refine ⟨_, rfl, rfl, _, rfl, ifEq (fun h => absurd h (by decide)) (fun _ => ?_)⟩
      refine ⟨_, rfl, rfl, _, rfl, ifEq (fun h => absurd h (by decide)) (fun _ => ?_)⟩
      refine ⟨_, rfl, rfl, _, rfl, ifEq (fun h => absurd h (by decide)) (fun _ => ?_)⟩
      refine ⟨_, rfl, rfl, _, rfl, ifEq (fun h => absurd h (by decide)) (fun _ => ?_)⟩
      refine ⟨_, rfl, rfl, _, rfl, ifEq (fun h => absurd h (by decide)) (fun _ => ?_)⟩
      refine ⟨_, rfl, rfl, _, rfl, ifEq (fun h => absurd h (by decide)) (fun _ => ?_)⟩
      refine ⟨_, rfl, rfl, _, rfl, ifEq (fun _ => ?_) (fun h => absurd rfl h)⟩
      exact ⟨_, rfl, t, _, _, rfl, hT.ob, look_none (by decide +kernel), t, s, n, rfl, hTab, hG, hn, k⟩
    · injection e with e1 e2
      injection e1 with e3 e4
      subst e3 e4 e2
      refine ⟨_, rfl, rfl, _, rfl, ifEq (fun h => absurd h (by decide)) (fun _ => ?_)⟩
      refine ⟨_, rfl, rfl, _, rfl, ifEq (fun h => absurd h (by decide)) (fun _ => ?_)⟩
      refine ⟨_, rfl, rfl, _, rfl, ifEq (fun h => absurd h (by decide)) (fun _ => ?_)⟩
      refine ⟨_, rfl, rfl, _, rfl, ifEq (fun h => absurd h (by decide)) (fun _ => ?_)⟩
      refine ⟨_, rfl, rfl, _, rfl, ifEq (fun h => absurd h (by decide)) (fun _ => ?_)⟩
      refine ⟨_, rfl, rfl, _, rfl, ifEq (fun h => absurd h (by decide)) (fun _ => ?_)⟩
      refine ⟨_, rfl, rfl, _, rfl, ifEq (fun h => absurd h (by decide)) (fun _ => ?_)⟩
      refine ⟨_, rfl, rfl, _, rfl, ifEq (fun _ => ?_) (fun h => absurd rfl h)⟩
      exact ⟨_, rfl, t, _, _, rfl, hT.ob, look_none (by decide +kernel), _, rfl, pl, _, _, _, rfl, rfl, SqL.of hpl, rfl, t, s, n, z0, rfl, hTab, hG, k⟩
    · injection e with e1 e2
      injection e1 with e3 e4
      subst e3 e4 e2
      refine ⟨_, rfl, rfl, _, rfl, ifEq (fun h => absurd h (by decide)) (fun _ => ?_)⟩
      refine ⟨_, rfl, rfl, _, rfl, ifEq (fun h => absurd h (by decide)) (fun _ => ?_)⟩
      refine ⟨_, rfl, rfl, _, rfl, ifEq (fun h => absurd h (by decide)) (fun _ => ?_)⟩
      refine ⟨_, rfl, rfl, _, rfl, ifEq (fun h => absurd h (by decide)) (fun _ => ?_)⟩
      refine ⟨_, rfl, rfl, _, rfl, ifEq (fun h => absurd h (by decide)) (fun _ => ?_)⟩
      refine ⟨_, rfl, rfl, _, rfl, ifEq (fun h => absurd h (by decide)) (fun _ => ?_)⟩
      refine ⟨_, rfl, rfl, _, rfl, ifEq (fun h => absurd h (by decide)) (fun _ => ?_)⟩
      refine ⟨_, rfl, rfl, _, rfl, ifEq (fun h => absurd h (by decide)) (fun _ => ?_)⟩
      refine ⟨_, rfl, rfl, _, rfl, ifEq (fun _ => ?_) (fun h => absurd rfl h)⟩
      exact ⟨_, rfl, t, _, _, rfl, hT.ob, look_none (by decide +kernel), t, s, n, rfl, hTab, hG, hn, k⟩
    · injection e with e1 e2
      injection e1 with e3 e4
      subst e3 e4 e2
      refine ⟨_, rfl, rfl, _, rfl, ifEq (fun h => absurd h (by decide)) (fun _ => ?_)⟩
      refine ⟨_, rfl, rfl, _, rfl, ifEq (fun h => absurd h (by decide)) (fun _ => ?_)⟩
      refine ⟨_, rfl, rfl, _, rfl, ifEq (fun h => absurd h (by decide)) (fun _ => ?_)⟩
      refine ⟨_, rfl, rfl, _, rfl, ifEq (fun h => absurd h (by decide)) (fun _ => ?_)⟩
      refine ⟨_, rfl, rfl, _, rfl, ifEq (fun h => absurd h (by decide)) (fun _ => ?_)⟩
      refine ⟨_, rfl, rfl, _, rfl, ifEq (fun h => absurd h (by decide)) (fun _ => ?_)⟩
      refine ⟨_, rfl, rfl, _, rfl, ifEq (fun h => absurd h (by decide)) (fun _ => ?_)⟩
      refine ⟨_, rfl, rfl, _, rfl, ifEq (fun h => absurd h (by decide)) (fun _ => ?_)⟩
      refine ⟨_, rfl, rfl, _, rfl, ifEq (fun h => absurd h (by decide)) (fun _ => ?_)⟩
      refine ⟨_, rfl, rfl, _, rfl, ifEq (fun _ => ?_) (fun h => absurd rfl h)⟩
      exact ⟨_, rfl, t, _, _, rfl, hT.ob, look_none (by decide +kernel), _, rfl, pl, _, _, _, rfl, rfl, SqL.of hpl, rfl, t, s, n, z0, rfl, hTab, hG, k⟩
    · injection e with e1 e2
      injection e1 with e3 e4
      subst e3 e4 e2
      refine ⟨_, rfl, rfl, _, rfl, ifEq (fun h => absurd h (by decide)) (fun _ => ?_)⟩
      refine ⟨_, rfl, rfl, _, rfl, ifEq (fun h => absurd h (by decide)) (fun _ => ?_)⟩
      refine ⟨_, rfl, rfl, _, rfl, ifEq (fun h => absurd h (by decide)) (fun _ => ?_)⟩
      refine ⟨_, rfl, rfl, _, rfl, ifEq (fun h => absurd h (by decide)) (fun _ => ?_)⟩
      refine ⟨_, rfl, rfl, _, rfl, ifEq (fun h => absurd h (by decide)) (fun _ => ?_)⟩
      refine ⟨_, rfl, rfl, _, rfl, ifEq (fun h => absurd h (by decide)) (fun _ => ?_)⟩
      refine ⟨_, rfl, rfl, _, rfl, ifEq (fun h => absurd h (by decide)) (fun _ => ?_)⟩
      refine ⟨_, rfl, rfl, _, rfl, ifEq (fun h => absurd h (by decide)) (fun _ => ?_)⟩
      refine ⟨_, rfl, rfl, _, rfl, ifEq (fun h => absurd h (by decide)) (fun _ => ?_)⟩
      refine ⟨_, rfl, rfl, _, rfl, ifEq (fun h => absurd h (by decide)) (fun _ => ?_)⟩
      refine ⟨_, rfl, rfl, _, rfl, ifEq (fun _ => ?_) (fun h => absurd rfl h)⟩
      exact ⟨_, rfl, t, _, _, rfl, hT.ob, look_none (by decide +kernel), t, s, n, rfl, hTab, hG, hn, k⟩
    · injection e with e1 e2
      injection e1 with e3 e4
      subst e3 e4 e2
      refine ⟨_, rfl, rfl, _, rfl, ifEq (fun h => absurd h (by decide)) (fun _ => ?_)⟩
      refine ⟨_, rfl, rfl, _, rfl, ifEq (fun h => absurd h (by decide)) (fun _ => ?_)⟩
      refine ⟨_, rfl, rfl, _, rfl, ifEq (fun h => absurd h (by decide)) (fun _ => ?_)⟩
      refine ⟨_, rfl, rfl, _, rfl, ifEq (fun h => absurd h (by decide)) (fun _ => ?_)⟩
      refine ⟨_, rfl, rfl, _, rfl, ifEq (fun h => absurd h (by decide)) (fun _ => ?_)⟩
      refine ⟨_, rfl, rfl, _, rfl, ifEq (fun h => absurd h (by decide)) (fun _ => ?_)⟩
      refine ⟨_, rfl, rfl, _, rfl, ifEq (fun h => absurd h (by decide)) (fun _ => ?_)⟩
      refine ⟨_, rfl, rfl, _, rfl, ifEq (fun h => absurd h (by decide)) (fun _ => ?_)⟩
      refine ⟨_, rfl, rfl, _, rfl, ifEq (fun h => absurd h (by decide)) (fun _ => ?_)⟩
      refine ⟨_, rfl, rfl, _, rfl, ifEq (fun h => absurd h (by decide)) (fun _ => ?_)⟩
      refine ⟨_, rfl, rfl, _, rfl, ifEq (fun h => absurd h (by decide)) (fun _ => ?_)⟩
      refine ⟨_, rfl, rfl, _, rfl, ifEq (fun _ => ?_) (fun h => absurd rfl h)⟩
      exact ⟨_, rfl, t, _, _, rfl, hT.ob, look_none (by decide +kernel), _, rfl, pl, _, _, _, rfl, rfl, SqL.of hpl, rfl, t, s, n, z0, rfl, hTab, hG, k⟩
    · injection e with e1 e2
      injection e1 with e3 e4
      subst e3 e4 e2
      refine ⟨_, rfl, rfl, _, rfl, ifEq (fun h => absurd h (by decide)) (fun _ => ?_)⟩
      refine ⟨_, rfl, rfl, _, rfl, ifEq (fun h => absurd h (by decide)) (fun _ => ?_)⟩
      refine ⟨_, rfl, rfl, _, rfl, ifEq (fun h => absurd h (by decide)) (fun _ => ?_)⟩
      refine ⟨_, rfl, rfl, _, rfl, ifEq (fun h => absurd h (by decide)) (fun _ => ?_)⟩
      refine ⟨_, rfl, rfl, _, rfl, ifEq (fun h => absurd h (by decide)) (fun _ => ?_)⟩
      refine ⟨_, rfl, rfl, _, rfl, ifEq (fun h => absurd h (by decide)) (fun _ => ?_)⟩
      refine ⟨_, rfl, rfl, _, rfl, ifEq (fun h => absurd h (by decide)) (fun _ => ?_)⟩
      refine ⟨_, rfl, rfl, _, rfl, ifEq (fun h => absurd h (by decide)) (fun _ => ?_)⟩
      refine ⟨_, rfl, rfl, _, rfl, ifEq (fun h => absurd h (by decide)) (fun _ => ?_)⟩
      refine ⟨_, rfl, rfl, _, rfl, ifEq (fun h => absurd h (by decide)) (fun _ => ?_)⟩
      refine ⟨_, rfl, rfl, _, rfl, ifEq (fun h => absurd h (by decide)) (fun _ => ?_)⟩
      refine ⟨_, rfl, rfl, _, rfl, ifEq (fun h => absurd h (by decide)) (fun _ => ?_)⟩
      obtain ⟨_, us, hv, hpq⟩ := id hrs
      cases hpq with
      | cons h1 h2 =>
        cases h2
        obtain ⟨pa, rfl, _, _, ha⟩ := h1
        exact ⟨_, rfl, t, _, _, rfl, hT.ob, look_none (by decide +kernel), _, rfl, rs, _, _, _, rfl, rfl, SqL.of hv, rfl, t, s, n, pa, ya, rfl, SqL.of ha, by omega, hTab, hG, k⟩
def FormsOk (K : PySem.W.Frag) (mg : Str → Option Value) : Prop := ∃ (aF : Addr) (as : List Addr), mg "FORMS" = some (.ref aF) ∧ (∀ H, SqT K H aF (as.map V.ref)) ∧ ∀ (p : Int) (n k : Nat), PyVbbrak.shape p = some (n, k) → k ≤ 3 ∧ ∃ a, atI (as.map V.ref) p = some (.ref a) ∧ ∀ H, SqT K H a [iv n, iv k]
def spAns (K : PySem.W.Frag) : Sp := fun vs H Q _ => ∃ (a : Addr) (ns : List Int), vs = [.ref a] ∧ SqL K H a (ns.map V.int) ∧ ns.length ≤ 17000 ∧ PyVbbrak.answers_asked ns = true ∧ ∀ (H' : Hp) (p : Addr), H' p = some (.lst ((PyVbbrak.answers ns).map V.int)) → Q (.ref p) H'
theorem scAnsS : FnScope ["calls", "table", "told", "at", "place", "form", "start", "plain", "rows", "numbers"] ["calls"] (defScope sAnsS) := ⟨rfl, rfl, rfl, by decide +kernel, rfl, by decide +kernel, by decide +kernel⟩
def mu (N : Nat) (σ : List (Option V)) : Nat := match σ[3]? with
  | some (some (V.int z)) => N - z.toNat
  | _ => 0
theorem ok_ans {f fR fC fA : Addr} {fd dR dC dA : FuncData} (F : Fun K "answers" "answers" sAnsS f fd) (X : TxA P w K mg base CT CS) (FO : FormsOk K mg) (mR : mg "read_rows" = some (.ref fR)) (FR : Fun K "read_rows" "read_rows" sRea fR dR) (bR : Binds K dR ["calls", "start", "number"] [])
    (mC : mg "call_length" = some (.ref fC)) (FC : Fun K "call_length" "call_length" sCaL fC dC) (bC : Binds K dC ["plain", "rows"] []) (mA : mg "answer" = some (.ref fA)) (FA : Fun K "answer" "answer" sAns1 fA dA) (bA : Binds K dA ["table", "place", "plain", "rows"] []) :
    FnOk P w K mg base CX0 27 f fd ["calls"] (spAns K) := by
  have T := X.t
  have GR := ok_rea (P := P) (w := w) (mg := mg) (base := base) FR T.n
  have GC := ok_cal (P := P) (w := w) (mg := mg) (base := base) FC T.n
  have GA := ok_an1 FA X
  obtain ⟨fI, dI, MI, bI, GI⟩ := X.mkT
  obtain ⟨aF, as, mF, hF, hF2⟩ := FO
  refine F.ok scAnsS (fun vs H Q E h => ?_) (fun cdv A outer s0 H vs Q E hr h => ?_)
  · obtain ⟨a, ns, rfl, _⟩ := h
    rfl
  · obtain ⟨cl, ns, rfl, hC, hN, hask, k⟩ := h
    have nd := scAnsS.nd
    have hlen := T.n.len
    have r1 : Room 1 _ := hr.mono (by omega)
    have r4 : Room (3 + 1) _ := hr.mono (by omega)
    have e16 : sizeLine = 16777216 := sizeLine_eq
    obtain ⟨cs, hA⟩ := Mt.asked_of hask
    refine ⟨_, pss_cons (ps_set (i := 1) nd rfl (Or.inl rfl) (pe_make0 MI GI r4 rfl X.mgT bI .nil pass0))
      (pss_cons (ps_set (i := 2) nd rfl (Or.inl rfl) (pe_lst pa_nil))
      (pss_cons (ps_set (i := 3) nd rfl (Or.inl rfl) pe_int)
      (pss_cons (ps_while PassesOwn.never (pt_cmpR op_lt (pv 3) (pe_callB call_len_seq (by rfl) hlen PySem.boot_len (pa_cons (pv 0) pa_nil)) (nomark _))
        (pss_cons (ps_set (i := 4) nd rfl (Or.inl rfl) (pe_ix ix_list (pv 0) (pv 3) (fun _ _ => rfl)))
        (pss_cons (ps_set (i := 5) nd rfl (Or.inl rfl) (pe_ix ix_tup (pe_glob (v := .ref aF) (by rfl) mF rfl) (pv 4) (fun _ _ => rfl)))
        (pss_cons (ps_set (i := 6) nd rfl (Or.inl rfl) (pe_op op_add (pe_op op_add (pv 3) pe_int) (pe_ix ix_tup (pv 5) pe_int (fun _ _ => rfl))))
        (pss_cons (ps_set (i := 7) nd rfl (Or.inl rfl) (pe_slice sl_list (pv 0) (po_some (pe_op op_add (pv 3) pe_int)) (po_some (pv 6))))
        (pss_cons (ps_set (i := 8) nd rfl (Or.inl rfl) (pe_call GR r1 rfl mR FR.kp bR .nil pass0 (pa_cons (pv 0) (pa_cons (pv 6) (pa_cons (pe_ix ix_tup (pv 5) pe_int (fun _ _ => rfl)) pa_nil)))))
        (pss_cons (ps_set (i := 9) nd rfl (Or.inl rfl) (pe_call GA hr rfl mA FA.kp bA .nil pass0 (pa_cons (pv 1) (pa_cons (pv 4) (pa_cons (pv 7) (pa_cons (pv 8) pa_nil))))))
        (pss_cons (ps_expr (pe_bm PySem.F.plainAttrs_list PySem.F.slot_list_append PySem.F.type_list_append mt_append (pv 2) (pa_cons (pe_callB call_len_seq (by rfl) hlen PySem.boot_len (pa_cons (pv 9) pa_nil)) pa_nil)))
        (pss_cons (ps_expr (pe_bm PySem.F.plainAttrs_list PySem.F.slot_list_extend PySem.F.type_list_extend mt_extend (pv 2) (pa_cons (pv 9) pa_nil)))
        (pss_one (ps_aug (i := 3) nd rfl (Or.inl rfl) (pe_call GC r1 rfl mC FC.kp bC .nil pass0 (pa_cons (pv 7) (pa_cons (pv 8) pa_nil))) ip_add)))))))))))
      (pss_one (ps_ret (pv 2)))))), ?_⟩
    intro t dx nx ndx nxy
    refine ⟨t, dx, rfl, upd_same, fun H1 k1 TT => ⟨rfl, ?_⟩⟩
    have s1 := Same.made nx ndx k1
    refine ⟨Nat.zero_le _, fun tl htl => ?_⟩
    have s2 := s1.trans (Same.new (o := .lst []) htl)
    have hTab0 : Tab P w K CT CS (upd H1 tl (.lst [])) t (Mt.stAt cs 0) (Mt.srch cs 0) := by
      obtain ⟨dx, hp, sp, sr, d, kvs, vl, vx, vy, vz, hT, hk⟩ := TT
      exact ⟨dx, hp, sp, sr, d, kvs, vl, vx, vy, vz, hT.same (Same.new htl), hk⟩
    refine while_by (fun σ H' => ∃ (i : Nat) (v4 v5 v6 v7 v8 v9 : Option V), i ≤ cs.length ∧ σ = [some (.ref cl), some (.ref t), some (.ref tl), some (iv (Mt.posAt cs i)), v4, v5, v6, v7, v8, v9] ∧ KL H H' ∧ H' tl = some (.lst ((Mt.ansAt cs i).map V.int)) ∧ Tab P w K CT CS H' t (Mt.stAt cs i) (Mt.srch cs i)) (fun σ _ => mu ns.length σ)
      ⟨0, none, none, none, none, none, none, Nat.zero_le _, rfl, s2.kl, upd_same, hTab0⟩ ?_ ?_
    · rintro σ H' ⟨i, v4, v5, v6, v7, v8, v9, hi, rfl, kl, htl', hTab⟩
      have hC' := kl.seq hC
      have ell : (ns.map V.int).length = ns.length := List.length_map _
      refine ⟨_, rfl, _, rfl, cl, _, rfl, .inl hC', _, _, rfl, rfl, _, rfl, ?_⟩
      rw [ell]
      by_cases hic : i < cs.length
      · have hci : cs[i]? = some cs[i] := List.getElem?_eq_getElem hic
        have hdrop := Mt.drop_at hA hci
        obtain ⟨hform, _⟩ := Mt.calls_some hA.parsed
        have hfi := hform cs[i] (List.mem_of_getElem? hci)
        have hok := hA.ok
        unfold VbbrakNeutral.asked at hok
        simp only [Bool.and_eq_true, List.all_eq_true] at hok
        have hask1 := hok.1 cs[i] (List.mem_of_getElem? hci)
        obtain ⟨p, m, q, a, xs, ec, hsh, hal, hxl⟩ := hfi.is
        rw [ec] at hdrop hask1
        have hnext := Mt.stAt_next hci
        have hansn := Mt.ansAt_next hci
        have hsr := Mt.srch_next hci
        have hpos := Mt.posAt_next hci
        rw [ec] at hnext hansn hsr hpos
        have hd1 : ns.drop (Mt.posAt cs i) = p :: (a ++ (Mt.rowsF xs ++ (cs.drop (i + 1)).flatMap Mt.callF)) := by
          rw [hdrop]
          show (p :: a ++ Mt.rowsF xs) ++ _ = _
          rw [List.cons_append, List.cons_append, List.append_assoc]
        have hlt : Mt.posAt cs i < ns.length := by
          have := congrArg List.length hd1
          rw [List.length_drop, List.length_cons] at this
          omega
        obtain ⟨hq3, fa, hfa, hfa2⟩ := hF2 p m q hsh
        refine ite2 (fun _ => ?_) (fun h => absurd (decide_eq_true (by show (Mt.posAt cs i : Int) < (ns.length : Int); omega)) h)
        -- place, form, start
        refine ⟨_, rfl, _, rfl, cl, _, _, _, rfl, rfl, hC', at_int (get_drop hd1) rfl, ?_⟩
        refine ⟨_, rfl, aF, _, _, _, rfl, rfl, hF _, hfa, ?_⟩
        refine ⟨_, rfl, _, _, rfl, rfl, _, rfl, fa, _, _, _, rfl, rfl, hfa2 _, rfl, _, _, rfl, rfl, ?_⟩
        -- plain
        refine ⟨_, rfl, _, rfl, _, _, rfl, rfl, _, rfl, _, rfl, _, rfl, cl, _, rfl, hC', fun pl hpl => ?_⟩
        rw [cut_at hd1 rfl (by rw [hal])]
        have s3 := Same.new (o := .lst (a.map V.int)) hpl
        -- rows
        have hd2 : ns.drop (Mt.posAt cs i + 1 + m) = Mt.rowsF xs ++ (cs.drop (i + 1)).flatMap Mt.callF := by
          rw [show Mt.posAt cs i + 1 + m = Mt.posAt cs i + (m + 1) by omega, ← List.drop_drop, hd1, List.drop_succ_cons, ← hal, List.drop_left]
        refine ⟨_, rfl, _, rfl, _, rfl, fa, _, _, _, rfl, rfl, hfa2 _, rfl, ?_⟩
        refine ⟨cl, ns, Mt.posAt cs i + 1 + m, q, xs, _, congrArg (fun v => [V.ref cl, V.int v, iv q]) (by omega), s3.seq hC', hd2, hxl, hq3, fun rs H4 s4 hrs => ?_⟩
        have s34 := s3.trans s4
        have hpl4 := s4 _ _ (upd_same (H := H') (a := pl) (o := .lst (a.map V.int)))
        have hTab4 : Tab P w K CT CS H4 t (Mt.stAt cs i) (Mt.srch cs i) := by
          obtain ⟨dx, hp, sp, sr, d, kvs, vl, vx, vy, vz, hT, hk⟩ := hTab
          exact ⟨dx, hp, sp, sr, d, kvs, vl, vx, vy, vz, hT.same s34, hk⟩
        have hcost : Mt.srch cs (i + 1) = Mt.srch cs i + cost ((p :: a) :: xs) := hsr
        have h30 := Mt.srch_le hA (i + 1)
        -- numbers
        refine ⟨_, rfl, _, rfl, _, rfl, _, rfl, _, t, Mt.stAt cs i, Mt.srch cs i, p, pl, rs, a, xs, rfl, hTab4, Mt.good_at cs i, hpl4, hrs, hask1, by omega, fun r H5 kl5 hTab5 hr5 => ?_⟩
        rw [← hnext, ← hcost] at hTab5
        have htl5 := kl5.2 _ _ (s34 _ _ htl')
        have hsh1 := Mt.ansAt_short hA (i + 1) hic
        rw [hansn, List.length_append, List.length_cons] at hsh1
        -- told.append, told.extend
        refine ⟨_, rfl, .inl ⟨rfl, _, SqL.of htl5⟩, _, rfl, r, _, rfl, .inl (SqL.of hr5), tl, _, _, rfl, rfl, htl5, by rw [List.length_map]; omega, ?_⟩
        have nrt : r ≠ tl := by
          rintro rfl
          rw [hr5] at htl5
          injection htl5 with htl5
          injection htl5 with htl5
          exact Mt.ans_ne hi _ _ (map_inj (fun x y e => by injection e) htl5).symm
        have hTl3 := s3 _ _ htl'
        have hrs5 : RowsAt (upd H' pl (.lst (a.map V.int))) H5 rs xs := hrs.kl kl5
        have npt : pl ≠ tl := (ne_of_none htl' hpl).symm
        have hpl5 := kl5.2 _ _ hpl4
        refine ⟨_, rfl, .inl ⟨rfl, _, SqL.of upd_same⟩, _, rfl, tl, r, _, _, rfl, rfl, upd_same, by rw [upd_ne nrt]; exact hr5, by rw [List.length_append, List.length_map, List.length_map]; show _ + 1 + _ ≤ sizeLine; omega, ?_⟩
        rw [upd_upd]
        -- at += call_length(plain, rows)
        refine ⟨_, rfl, _, rfl, _, rfl, _, pl, rs, a, xs, p, rfl, by rw [upd_ne npt]; exact hpl5, hrs5.put hTl3, by omega, fun H8 s8 => ?_⟩
        refine ⟨_, _, rfl, rfl, ?_⟩
        have hcl : 1 ≤ (Mt.callF ((p :: a) :: xs)).length := by
          show 1 ≤ ((p :: a) ++ Mt.rowsF xs).length
          rw [List.length_append, List.length_cons]
          omega
        have ktT := kt_mut (o := .lst ((Mt.ansAt cs i).map V.int ++ [V.int (((Vbbrak.stepRows (Mt.stAt cs i) ((p :: a) :: xs)).2.map V.int).length : Int)] ++ (Vbbrak.stepRows (Mt.stAt cs i) ((p :: a) :: xs)).2.map V.int)) htl5 True.intro
        refine ⟨⟨i + 1, some (.int p), some (.ref fa), some (.int ((Mt.posAt cs i : Int) + 1 + (m : Int))), some (.ref pl), some (.ref rs), some (.ref r), hic, ?_, ⟨?_, fun b ys e => ?_⟩, ?_, ?_⟩, ?_⟩
        · rw [hpos, iv_add]
          rfl
        · exact (kl.1.trans (s34.kt.trans kl5.1)).trans (ktT.trans s8.kt)
        · refine s8 _ _ ?_
          rw [upd_ne (ne_of_none e (s1.free htl))]
          exact kl5.2 _ _ (s34 _ _ (kl.2 _ _ e))
        · rw [s8 _ _ upd_same, hansn, List.map_append, List.map_cons, List.length_map, List.append_assoc]
          rfl
        · obtain ⟨dx, hp, sp, sr, d, kvs, vl, vx, vy, vz, hT, hk⟩ := hTab5
          exact ⟨dx, hp, sp, sr, d, kvs, vl, vx, vy, vz, (hT.lst htl5).same s8, hk⟩
        · show ns.length - ((Mt.posAt cs i : Int) + ((Mt.callF ((p :: a) :: xs)).length : Int)).toNat < ns.length - ((Mt.posAt cs i : Nat) : Int).toNat
          omega
      · have ei : i = cs.length := by omega
        subst ei
        refine ite2 (fun h => ?_) (fun _ => ⟨_, rfl, k H' tl (by rw [htl', Mt.ansAt_all hA])⟩)
        have := of_decide_eq_true h
        rw [Mt.posAt_all hA] at this
        omega
    · rintro σ H' Q' Q'' hq ⟨v, hv, u, hu, p, ys, e1, hy, i, j, e2, e3, b, e4, q⟩
      exact ⟨v, hv, u, hu, p, ys, e1, hy, i, j, e2, e3, b, e4, hq _ _ q⟩
end
end On
set_option maxRecDepth 100000
set_option maxHeartbeats 4000000
namespace On
open PySem PySem.Spec PyProof.Rows L2
def DefAt (K : PySem.W.Frag) (x : Str) (st : Stmt) : Prop := ∃ f fd, PySem.W.nsIn K mainGlobals x = some (some (.ref f)) ∧ Fun K x x st f fd
theorem DefAt.mk {K : PySem.W.Frag} {x : Str} {st : Stmt} {f : Addr} {oc : Value} {od an : Option Addr} {osl : Array (Option Value)} {kV doc pm cdv ct : Value} (a : PySem.W.nsIn K mainGlobals x = some (some (.ref f))) (l : K.lookup f = some ⟨oc, od, .func (PySem.W.fnOf x x (defArgs st) (defBody st) (defScope st) .none kV doc pm an cdv ct), osl⟩)
    (c : PySem.W.codeIn K cdv x = true) (k : PySem.W.keepIn K (.ref f) = true) : DefAt K x st := ⟨f, _, a, fun_mk l c k⟩
def MetAt (K : PySem.W.Frag) (C : Addr) (x qual : Str) (st : Stmt) : Prop := ∃ f fd, Meth K C x f ∧ Fun K x qual st f fd
theorem MetAt.mk {K : PySem.W.Frag} {C : Addr} {x qual : Str} {st : Stmt} {f : Addr} {oc : Value} {od an : Option Addr} {osl : Array (Option Value)} {kV doc pm cdv ct : Value} (a : PySem.W.findIn K (.ref C) x = some (some (.ref f))) (i : PySem.W.isFn K (.ref f) = true) (l : K.lookup f = some ⟨oc, od, .func (PySem.W.fnOf x qual (defArgs st) (defBody st) (defScope st) .none kV doc pm an cdv ct), osl⟩)
    (c : PySem.W.codeIn K cdv qual = true) (k : PySem.W.keepIn K (.ref f) = true) : MetAt K C x qual st := ⟨f, _, ⟨a, i, k⟩, fun_mk l c k⟩
structure ClsAt (K : PySem.W.Frag) (C : Addr) : Prop where
  cl : Cls K C
  mks : PySem.W.makesIn K C = true
  kp : PySem.W.keepIn K (.ref C) = true
theorem ClsAt.of {K : PySem.W.Frag} {C : Addr} (pg : PySem.W.plainGet K C Str.empty = true) (hd : PySem.W.hasDictIn K C = true) (po : PySem.W.plainOver K C = true) (sa : PySem.W.findIn K (.ref C) "__setattr__" = some (some (.builtin "object.__setattr__"))) (mk : PySem.W.makesIn K C = true) (kc : PySem.W.keepIn K (.ref C) = true) : ClsAt K C := ⟨⟨pg, hd, po, sa⟩, mk, kc⟩
def CstAt (K : PySem.W.Frag) (x : Str) (i : Int) : Prop := ∃ t, PySem.W.nsIn K mainGlobals x = some (some (.int i t))
theorem CstAt.mk {K : PySem.W.Frag} {x : Str} {i : Int} {t : Tok} (a : PySem.W.nsIn K mainGlobals x = some (some (.int i t))) : CstAt K x i := ⟨t, a⟩
def PairAt (K : PySem.W.Frag) (a : Addr) (n k : Nat) : Prop := ∀ H, SqT K H a [iv n, iv k]
theorem PairAt.mk {K : PySem.W.Frag} {a : Addr} {n k m : Nat} {od : Option Addr} {osl : Array (Option Value)} {t u : Tok} (l : K.lookup a = some ⟨.type "tuple", od, .seq #[.int (n : Int) t, .int (k : Int) u] m, osl⟩) : PairAt K a n k := fun H => .inr ⟨_, _, _, l, rfl, rfl, by show 2 ≤ sizeLine; decide, .cons ⟨t, rfl⟩ (.cons ⟨u, rfl⟩ .nil)⟩
def FormAt (K : PySem.W.Frag) : Prop := ∃ aF a0 a1 a2 a3 a4 a5 a6 a7 a8 a9 a10 a11 a12, PySem.W.nsIn K mainGlobals "FORMS" = some (some (.ref aF)) ∧ (∀ H, SqT K H aF [.ref a0, .ref a1, .ref a2, .ref a3, .ref a4, .ref a5, .ref a6, .ref a7, .ref a8, .ref a9, .ref a10, .ref a11, .ref a12]) ∧
  PairAt K a0 4 3 ∧ PairAt K a1 0 0 ∧ PairAt K a2 0 0 ∧ PairAt K a3 0 0 ∧ PairAt K a4 0 0 ∧ PairAt K a5 2 0 ∧ PairAt K a6 0 0 ∧ PairAt K a7 1 0 ∧ PairAt K a8 0 0 ∧ PairAt K a9 1 0 ∧ PairAt K a10 0 0 ∧ PairAt K a11 1 0 ∧ PairAt K a12 0 1
theorem FormAt.mk {K : PySem.W.Frag} {aF a0 a1 a2 a3 a4 a5 a6 a7 a8 a9 a10 a11 a12 : Addr} {m : Nat} {od : Option Addr} {osl : Array (Option Value)} (a : PySem.W.nsIn K mainGlobals "FORMS" = some (some (.ref aF)))
    (l : K.lookup aF = some ⟨.type "tuple", od, .seq #[.ref a0, .ref a1, .ref a2, .ref a3, .ref a4, .ref a5, .ref a6, .ref a7, .ref a8, .ref a9, .ref a10, .ref a11, .ref a12] m, osl⟩)
    (p0 : PairAt K a0 4 3) (p1 : PairAt K a1 0 0) (p2 : PairAt K a2 0 0) (p3 : PairAt K a3 0 0) (p4 : PairAt K a4 0 0) (p5 : PairAt K a5 2 0) (p6 : PairAt K a6 0 0) (p7 : PairAt K a7 1 0) (p8 : PairAt K a8 0 0) (p9 : PairAt K a9 1 0) (p10 : PairAt K a10 0 0) (p11 : PairAt K a11 1 0) (p12 : PairAt K a12 0 1) : FormAt K :=
  ⟨aF, a0, a1, a2, a3, a4, a5, a6, a7, a8, a9, a10, a11, a12, a, fun H => .inr ⟨_, _, _, l, rfl, rfl, by show 13 ≤ sizeLine; decide, .cons rfl (.cons rfl (.cons rfl (.cons rfl (.cons rfl (.cons rfl (.cons rfl (.cons rfl (.cons rfl (.cons rfl (.cons rfl (.cons rfl (.cons rfl .nil))))))))))))⟩, p0, p1, p2, p3, p4, p5, p6, p7, p8, p9, p10, p11, p12⟩
theorem FormAt.ok {K : PySem.W.Frag} {h : Heap} {mg : Str → Option Value} (X : K.In h) (G : h.Ns mainGlobals mg) (F : FormAt K) : FormsOk K mg := by
  obtain ⟨aF, a0, a1, a2, a3, a4, a5, a6, a7, a8, a9, a10, a11, a12, a, l, p0, p1, p2, p3, p4, p5, p6, p7, p8, p9, p10, p11, p12⟩ := F
  refine ⟨aF, [a0, a1, a2, a3, a4, a5, a6, a7, a8, a9, a10, a11, a12], PySem.W.mg_of X G a, l, fun p n k hs => ?_⟩
  unfold PyVbbrak.shape at hs
  by_cases h0 : p = 0
  · subst h0
    have e : (n, k) = (4, 3) := by simpa using hs.symm
    cases e
    exact ⟨by decide, a0, rfl, p0⟩
  rw [if_neg h0] at hs
  by_cases h1 : p = 1
  · subst h1
    have e : (n, k) = (0, 0) := by simpa using hs.symm
    cases e
    exact ⟨by decide, a1, rfl, p1⟩
  rw [if_neg h1] at hs
  by_cases h2 : p = 2
  · subst h2
    have e : (n, k) = (0, 0) := by simpa using hs.symm
    cases e
    exact ⟨by decide, a2, rfl, p2⟩
  rw [if_neg h2] at hs
  by_cases h3 : p = 3
  · subst h3
    have e : (n, k) = (0, 0) := by simpa using hs.symm
    cases e
    exact ⟨by decide, a3, rfl, p3⟩
  rw [if_neg h3] at hs
  by_cases h4 : p = 4
  · subst h4
    have e : (n, k) = (0, 0) := by simpa using hs.symm
    cases e
    exact ⟨by decide, a4, rfl, p4⟩
  rw [if_neg h4] at hs
  by_cases h5 : p = 5
  · subst h5
    have e : (n, k) = (2, 0) := by simpa using hs.symm
    cases e
    exact ⟨by decide, a5, rfl, p5⟩
  rw [if_neg h5] at hs
  by_cases h6 : p = 6
  · subst h6
    have e : (n, k) = (0, 0) := by simpa using hs.symm
    cases e
    exact ⟨by decide, a6, rfl, p6⟩
  rw [if_neg h6] at hs
  by_cases h7 : p = 7
  · subst h7
    have e : (n, k) = (1, 0) := by simpa using hs.symm
    cases e
    exact ⟨by decide, a7, rfl, p7⟩
  rw [if_neg h7] at hs
  by_cases h8 : p = 8
  · subst h8
    have e : (n, k) = (0, 0) := by simpa using hs.symm
    cases e
    exact ⟨by decide, a8, rfl, p8⟩
  rw [if_neg h8] at hs
  by_cases h9 : p = 9
  · subst h9
    have e : (n, k) = (1, 0) := by simpa using hs.symm
    cases e
    exact ⟨by decide, a9, rfl, p9⟩
  rw [if_neg h9] at hs
  by_cases h10 : p = 10
  · subst h10
    have e : (n, k) = (0, 0) := by simpa using hs.symm
    cases e
    exact ⟨by decide, a10, rfl, p10⟩
  rw [if_neg h10] at hs
  by_cases h11 : p = 11
  · subst h11
    have e : (n, k) = (1, 0) := by simpa using hs.symm
    cases e
    exact ⟨by decide, a11, rfl, p11⟩
  rw [if_neg h11] at hs
  by_cases h12 : p = 12
  · subst h12
    have e : (n, k) = (0, 1) := by simpa using hs.symm
    cases e
    exact ⟨by decide, a12, rfl, p12⟩
  rw [if_neg h12] at hs
  cases hs
section
variable {P : Program} {w : World} {K : PySem.W.Frag}
theorem all_mk {h : Heap} {mg : Str → Option Value} {fa CS CT : Addr} (X : K.In h) (G : h.Ns mainGlobals mg) (hfa : mg "answers" = some (.ref fa))
    (aS : PySem.W.nsIn K mainGlobals "Search" = some (some (.ref CS))) (aT : PySem.W.nsIn K mainGlobals "Table" = some (some (.ref CT))) (cS : ClsAt K CS) (cT : ClsAt K CT) (fo : FormAt K)
    (sn_cover : PySem.W.findIn K (.ref CS) "cover" = some none)
    (sn_known : PySem.W.findIn K (.ref CS) "known" = some none)
    (tn_turn : PySem.W.findIn K (.ref CT) "turn" = some none)
    (tn_need : PySem.W.findIn K (.ref CT) "need" = some none)
    (tn_hands : PySem.W.findIn K (.ref CT) "hands" = some none)
    (tn_splits : PySem.W.findIn K (.ref CT) "splits" = some none)
    (tn_search : PySem.W.findIn K (.ref CT) "search" = some none)
    (tn_leader : PySem.W.findIn K (.ref CT) "leader" = some none)
    (tn_led : PySem.W.findIn K (.ref CT) "led" = some none)
    (tn_second : PySem.W.findIn K (.ref CT) "second" = some none)
    (tn_third : PySem.W.findIn K (.ref CT) "third" = some none)
    (bn_reversed : PySem.W.nsIn K mainGlobals "reversed" = some none)
    (bn_len : PySem.W.nsIn K mainGlobals "len" = some none)
    (bn_sorted : PySem.W.nsIn K mainGlobals "sorted" = some none)
    (bn_tuple : PySem.W.nsIn K mainGlobals "tuple" = some none)
    (bn_sum : PySem.W.nsIn K mainGlobals "sum" = some none)
    (bn_range : PySem.W.nsIn K mainGlobals "range" = some none)
    (bn_max : PySem.W.nsIn K mainGlobals "max" = some none)
    (bn_all : PySem.W.nsIn K mainGlobals "all" = some none)
    (bn_set : PySem.W.nsIn K mainGlobals "set" = some none)
    (bn_list : PySem.W.nsIn K mainGlobals "list" = some none)
    (cn_ace : CstAt K "ACE" (13))
    (cn_mneed : CstAt K "MOST_NEED" (4))
    (cn_mcards : CstAt K "MOST_CARDS" (13))
    (cn_mhand : CstAt K "MOST_IN_HAND" (4))
    (cn_mours : CstAt K "MOST_OURS" (7))
    (cn_mmiss : CstAt K "MOST_MISSING" (5))
    (cn_twice : CstAt K "TOLD_TWICE" (-3))
    (cn_tours : CstAt K "TOO_MANY_OURS" (-4))
    (cn_tmiss : CstAt K "TOO_MANY_MISSING" (-5))
    (cn_out : CstAt K "OUT_OF_RANGE" (-1))
    (cn_notnow : CstAt K "NOT_NOW" (-2))
    (cn_nosuch : CstAt K "NO_SUCH_CARD" (-6))
    (cn_turn0 : CstAt K "NO_TURN" (0))
    (cn_turn1 : CstAt K "LEAD_TURN" (1))
    (cn_turn2 : CstAt K "SECOND_TURN" (2))
    (cn_turn3 : CstAt K "THIRD_TURN" (3))
    (cn_turn4 : CstAt K "LAST_TURN" (4))
    (cn_msteps : CstAt K "MOST_STEPS" (4))
    (cn_step : CstAt K "STEP" (3))
    (cn_jack : CstAt K "JACK" (10))
    (d_low : DefAt K "lowest_above" sLow)
    (d_sec : DefAt K "second_card" sSec)
    (d_las : DefAt K "last_card" sLas)
    (d_fal : DefAt K "falling" sFal)
    (d_wo : DefAt K "without" sWo)
    (d_cho : DefAt K "choices" sCho)
    (d_sha : DefAt K "all_shares" sSha)
    (d_spl : DefAt K "all_splits" sSpl)
    (d_way : DefAt K "ways_of" sWay)
    (d_by2 : DefAt K "by_second" sBy2)
    (d_by4 : DefAt K "by_last" sBy4)
    (d_aft : DefAt K "after_trick" sAft)
    (d_thi : DefAt K "thirds_of" sThi)
    (d_won : DefAt K "tricks_won" sWon)
    (d_nee : DefAt K "need_after" sNee)
    (d_ste : DefAt K "steps_until_end" sSte)
    (d_tos : DefAt K "tricks_of_steps" sTos)
    (d_wop : DefAt K "ways_of_plan" sWop)
    (d_row : DefAt K "is_row" sRow)
    (d_iss : DefAt K "is_suit" sIsS)
    (d_isp : DefAt K "is_played" sIsP)
    (d_pla : DefAt K "is_plan" sPla)
    (d_ref : DefAt K "suit_refusal" sRef)
    (d_tg : DefAt K "told_groups" sTG)
    (d_th : DefAt K "told_hands" sTH)
    (d_rea : DefAt K "read_rows" sRea)
    (d_cal : DefAt K "call_length" sCaL)
    (d_an1 : DefAt K "answer" sAns1)
    (d_ans : DefAt K "answers" sAnsS)
    (d_si : MetAt K CS "__init__" "Search.__init__" sSInit)
    (d_sA : MetAt K CS "at_lead" "Search.at_lead" sAtL)
    (d_sB : MetAt K CS "best_lead" "Search.best_lead" sBest)
    (d_sL : MetAt K CS "after_lead" "Search.after_lead" sAfL)
    (d_s2 : MetAt K CS "after_second" "Search.after_second" sAf2)
    (d_s3 : MetAt K CS "after_third" "Search.after_third" sAf3)
    (d_ti : MetAt K CT "__init__" "Table.__init__" sTInit)
    (d_tSui : MetAt K CT "tell_suit" "Table.tell_suit" sTSui)
    (d_tOil : MetAt K CT "odds_if_led" "Table.odds_if_led" sTOil)
    (d_tOit : MetAt K CT "odds_if_third" "Table.odds_if_third" sTOit)
    (d_tNow : MetAt K CT "odds_now" "Table.odds_now" sTNow)
    (d_tGr2 : MetAt K CT "second_groups" "Table.second_groups" sTGr2)
    (d_tGr4 : MetAt K CT "last_groups" "Table.last_groups" sTGr4)
    (d_tOdd : MetAt K CT "tell_odds" "Table.tell_odds" sTOdd)
    (d_tWay : MetAt K CT "tell_ways" "Table.tell_ways" sTWay)
    (d_tHan : MetAt K CT "tell_hands" "Table.tell_hands" sTHan)
    (d_tLds : MetAt K CT "tell_leads" "Table.tell_leads" sTLds)
    (d_tLea : MetAt K CT "lead_card" "Table.lead_card" sTLea)
    (d_tSes : MetAt K CT "tell_seconds" "Table.tell_seconds" sTSes)
    (d_tSec : MetAt K CT "play_second" "Table.play_second" sTSec)
    (d_tThs : MetAt K CT "tell_thirds" "Table.tell_thirds" sTThs)
    (d_tThi : MetAt K CT "play_third" "Table.play_third" sTThi)
    (d_tLas : MetAt K CT "tell_lasts" "Table.tell_lasts" sTLas)
    (d_tLst : MetAt K CT "play_last" "Table.play_last" sTLst)
    (d_tBli : MetAt K CT "tell_blind" "Table.tell_blind" sTBli)
    : ∃ fd : FuncData, (∀ (s : Shared) (us : List Value), us.length = (["calls"] : List Str).length → BindsTo s fd ⟨us, []⟩ ((["calls"] : List Str).zip us)) ∧ ∀ base : Heap, K.In base → base.Ns mainGlobals mg → FnOk P w K mg base CX0 27 fa fd ["calls"] (spAns K) := by
  obtain ⟨f_low, fd_low, a_low, F_low⟩ := d_low
  have m_low := PySem.W.mg_of X G a_low
  have b_low := F_low.binds (ps := ["cards", "floor"]) fun _ _ _ _ _ _ us hl => match us, hl with | [_, _], _ => rfl
  obtain ⟨f_sec, fd_sec, a_sec, F_sec⟩ := d_sec
  have m_sec := PySem.W.mg_of X G a_sec
  have b_sec := F_sec.binds (ps := ["cards", "led", "cover"]) fun _ _ _ _ _ _ us hl => match us, hl with | [_, _, _], _ => rfl
  obtain ⟨f_las, fd_las, a_las, F_las⟩ := d_las
  have m_las := PySem.W.mg_of X G a_las
  have b_las := F_las.binds (ps := ["cards", "ours", "partner"]) fun _ _ _ _ _ _ us hl => match us, hl with | [_, _, _], _ => rfl
  obtain ⟨f_fal, fd_fal, a_fal, F_fal⟩ := d_fal
  have m_fal := PySem.W.mg_of X G a_fal
  have b_fal := F_fal.binds (ps := ["cards"]) fun _ _ _ _ _ _ us hl => match us, hl with | [_], _ => rfl
  obtain ⟨f_wo, fd_wo, a_wo, F_wo⟩ := d_wo
  have m_wo := PySem.W.mg_of X G a_wo
  have b_wo := F_wo.binds (ps := ["pair", "one", "other"]) fun _ _ _ _ _ _ us hl => match us, hl with | [_, _, _], _ => rfl
  obtain ⟨f_cho, fd_cho, a_cho, F_cho⟩ := d_cho
  have m_cho := PySem.W.mg_of X G a_cho
  have b_cho := F_cho.binds (ps := ["things", "taken"]) fun _ _ _ _ _ _ us hl => match us, hl with | [_, _], _ => rfl
  obtain ⟨f_sha, fd_sha, a_sha, F_sha⟩ := d_sha
  have m_sha := PySem.W.mg_of X G a_sha
  have b_sha := F_sha.binds (ps := ["missing"]) fun _ _ _ _ _ _ us hl => match us, hl with | [_], _ => rfl
  obtain ⟨f_spl, fd_spl, a_spl, F_spl⟩ := d_spl
  have m_spl := PySem.W.mg_of X G a_spl
  have b_spl := F_spl.binds (ps := ["p", "q", "missing"]) fun _ _ _ _ _ _ us hl => match us, hl with | [_, _, _], _ => rfl
  obtain ⟨f_way, fd_way, a_way, F_way⟩ := d_way
  have m_way := PySem.W.mg_of X G a_way
  have b_way := F_way.binds (ps := ["splits"]) fun _ _ _ _ _ _ us hl => match us, hl with | [_], _ => rfl
  obtain ⟨f_by2, fd_by2, a_by2, F_by2⟩ := d_by2
  have m_by2 := PySem.W.mg_of X G a_by2
  have b_by2 := F_by2.binds (ps := ["splits", "hand", "led", "cover"]) fun _ _ _ _ _ _ us hl => match us, hl with | [_, _, _, _], _ => rfl
  obtain ⟨f_by4, fd_by4, a_by4, F_by4⟩ := d_by4
  have m_by4 := PySem.W.mg_of X G a_by4
  have b_by4 := F_by4.binds (ps := ["splits", "hand", "ours", "partner"]) fun _ _ _ _ _ _ us hl => match us, hl with | [_, _, _, _], _ => rfl
  obtain ⟨f_aft, fd_aft, a_aft, F_aft⟩ := d_aft
  have m_aft := PySem.W.mg_of X G a_aft
  have b_aft := F_aft.binds (ps := ["splits", "second", "last"]) fun _ _ _ _ _ _ us hl => match us, hl with | [_, _, _], _ => rfl
  obtain ⟨f_thi, fd_thi, a_thi, F_thi⟩ := d_thi
  have m_thi := PySem.W.mg_of X G a_thi
  have b_thi := F_thi.binds (ps := ["hands", "leader"]) fun _ _ _ _ _ _ us hl => match us, hl with | [_, _], _ => rfl
  obtain ⟨f_won, fd_won, a_won, F_won⟩ := d_won
  have m_won := PySem.W.mg_of X G a_won
  have b_won := F_won.binds (ps := ["led", "second", "third", "last"]) fun _ _ _ _ _ _ us hl => match us, hl with | [_, _, _, _], _ => rfl
  obtain ⟨f_nee, fd_nee, a_nee, F_nee⟩ := d_nee
  have m_nee := PySem.W.mg_of X G a_nee
  have b_nee := F_nee.binds (ps := ["need", "won"]) fun _ _ _ _ _ _ us hl => match us, hl with | [_, _], _ => rfl
  obtain ⟨f_ste, fd_ste, a_ste, F_ste⟩ := d_ste
  have m_ste := PySem.W.mg_of X G a_ste
  have b_ste := F_ste.binds (ps := ["row", "hands"]) fun _ _ _ _ _ _ us hl => match us, hl with | [_, _], _ => rfl
  obtain ⟨f_tos, fd_tos, a_tos, F_tos⟩ := d_tos
  have m_tos := PySem.W.mg_of X G a_tos
  have b_tos := F_tos.binds (ps := ["steps", "cards", "cover"]) fun _ _ _ _ _ _ us hl => match us, hl with | [_, _, _], _ => rfl
  obtain ⟨f_wop, fd_wop, a_wop, F_wop⟩ := d_wop
  have m_wop := PySem.W.mg_of X G a_wop
  have b_wop := F_wop.binds (ps := ["row", "need", "hands", "splits", "cover"]) fun _ _ _ _ _ _ us hl => match us, hl with | [_, _, _, _, _], _ => rfl
  obtain ⟨f_row, fd_row, a_row, F_row⟩ := d_row
  have m_row := PySem.W.mg_of X G a_row
  have b_row := F_row.binds (ps := ["row", "most"]) fun _ _ _ _ _ _ us hl => match us, hl with | [_, _], _ => rfl
  obtain ⟨f_iss, fd_iss, a_iss, F_iss⟩ := d_iss
  have m_iss := PySem.W.mg_of X G a_iss
  have b_iss := F_iss.binds (ps := ["need", "cover", "p", "q", "rows"]) fun _ _ _ _ _ _ us hl => match us, hl with | [_, _, _, _, _], _ => rfl
  obtain ⟨f_isp, fd_isp, a_isp, F_isp⟩ := d_isp
  have m_isp := PySem.W.mg_of X G a_isp
  have b_isp := F_isp.binds (ps := ["card"]) fun _ _ _ _ _ _ us hl => match us, hl with | [_], _ => rfl
  obtain ⟨f_pla, fd_pla, a_pla, F_pla⟩ := d_pla
  have m_pla := PySem.W.mg_of X G a_pla
  have b_pla := F_pla.binds (ps := ["row"]) fun _ _ _ _ _ _ us hl => match us, hl with | [_], _ => rfl
  obtain ⟨f_ref, fd_ref, a_ref, F_ref⟩ := d_ref
  have m_ref := PySem.W.mg_of X G a_ref
  have b_ref := F_ref.binds (ps := ["p", "q", "rows"]) fun _ _ _ _ _ _ us hl => match us, hl with | [_, _, _], _ => rfl
  obtain ⟨f_tg, fd_tg, a_tg, F_tg⟩ := d_tg
  have m_tg := PySem.W.mg_of X G a_tg
  have b_tg := F_tg.binds (ps := ["groups"]) fun _ _ _ _ _ _ us hl => match us, hl with | [_], _ => rfl
  obtain ⟨f_th, fd_th, a_th, F_th⟩ := d_th
  have m_th := PySem.W.mg_of X G a_th
  have b_th := F_th.binds (ps := ["pair"]) fun _ _ _ _ _ _ us hl => match us, hl with | [_], _ => rfl
  obtain ⟨f_rea, fd_rea, a_rea, F_rea⟩ := d_rea
  have m_rea := PySem.W.mg_of X G a_rea
  have b_rea := F_rea.binds (ps := ["calls", "start", "number"]) fun _ _ _ _ _ _ us hl => match us, hl with | [_, _, _], _ => rfl
  obtain ⟨f_cal, fd_cal, a_cal, F_cal⟩ := d_cal
  have m_cal := PySem.W.mg_of X G a_cal
  have b_cal := F_cal.binds (ps := ["plain", "rows"]) fun _ _ _ _ _ _ us hl => match us, hl with | [_, _], _ => rfl
  obtain ⟨f_an1, fd_an1, a_an1, F_an1⟩ := d_an1
  have m_an1 := PySem.W.mg_of X G a_an1
  have b_an1 := F_an1.binds (ps := ["table", "place", "plain", "rows"]) fun _ _ _ _ _ _ us hl => match us, hl with | [_, _, _, _], _ => rfl
  obtain ⟨f_ans, fd_ans, a_ans, F_ans⟩ := d_ans
  have m_ans := PySem.W.mg_of X G a_ans
  have b_ans := F_ans.binds (ps := ["calls"]) fun _ _ _ _ _ _ us hl => match us, hl with | [_], _ => rfl
  obtain ⟨f_si, fd_si, m_si, F_si⟩ := d_si
  have b_si := F_si.binds (ps := ["self", "cover"]) fun _ _ _ _ _ _ us hl => match us, hl with | [_, _], _ => rfl
  obtain ⟨f_sA, fd_sA, m_sA, F_sA⟩ := d_sA
  have b_sA := F_sA.binds (ps := ["self", "need", "hands", "splits"]) fun _ _ _ _ _ _ us hl => match us, hl with | [_, _, _, _], _ => rfl
  obtain ⟨f_sB, fd_sB, m_sB, F_sB⟩ := d_sB
  have b_sB := F_sB.binds (ps := ["self", "need", "hands", "splits"]) fun _ _ _ _ _ _ us hl => match us, hl with | [_, _, _, _], _ => rfl
  obtain ⟨f_sL, fd_sL, m_sL, F_sL⟩ := d_sL
  have b_sL := F_sL.binds (ps := ["self", "need", "hands", "splits", "leader", "led"]) fun _ _ _ _ _ _ us hl => match us, hl with | [_, _, _, _, _, _], _ => rfl
  obtain ⟨f_s2, fd_s2, m_s2, F_s2⟩ := d_s2
  have b_s2 := F_s2.binds (ps := ["self", "need", "hands", "splits", "leader", "led", "second"]) fun _ _ _ _ _ _ us hl => match us, hl with | [_, _, _, _, _, _, _], _ => rfl
  obtain ⟨f_s3, fd_s3, m_s3, F_s3⟩ := d_s3
  have b_s3 := F_s3.binds (ps := ["self", "need", "hands", "splits", "leader", "led", "second", "third"]) fun _ _ _ _ _ _ us hl => match us, hl with | [_, _, _, _, _, _, _, _], _ => rfl
  obtain ⟨f_ti, fd_ti, m_ti, F_ti⟩ := d_ti
  have b_ti := F_ti.binds (ps := ["self"]) fun _ _ _ _ _ _ us hl => match us, hl with | [_], _ => rfl
  obtain ⟨f_tSui, fd_tSui, m_tSui, F_tSui⟩ := d_tSui
  have b_tSui := F_tSui.binds (ps := ["self", "need", "cover", "p", "q", "rows"]) fun _ _ _ _ _ _ us hl => match us, hl with | [_, _, _, _, _, _], _ => rfl
  obtain ⟨f_tOil, fd_tOil, m_tOil, F_tOil⟩ := d_tOil
  have b_tOil := F_tOil.binds (ps := ["self", "leader", "led"]) fun _ _ _ _ _ _ us hl => match us, hl with | [_, _, _], _ => rfl
  obtain ⟨f_tOit, fd_tOit, m_tOit, F_tOit⟩ := d_tOit
  have b_tOit := F_tOit.binds (ps := ["self", "third"]) fun _ _ _ _ _ _ us hl => match us, hl with | [_, _], _ => rfl
  obtain ⟨f_tNow, fd_tNow, m_tNow, F_tNow⟩ := d_tNow
  have b_tNow := F_tNow.binds (ps := ["self"]) fun _ _ _ _ _ _ us hl => match us, hl with | [_], _ => rfl
  obtain ⟨f_tGr2, fd_tGr2, m_tGr2, F_tGr2⟩ := d_tGr2
  have b_tGr2 := F_tGr2.binds (ps := ["self"]) fun _ _ _ _ _ _ us hl => match us, hl with | [_], _ => rfl
  obtain ⟨f_tGr4, fd_tGr4, m_tGr4, F_tGr4⟩ := d_tGr4
  have b_tGr4 := F_tGr4.binds (ps := ["self"]) fun _ _ _ _ _ _ us hl => match us, hl with | [_], _ => rfl
  obtain ⟨f_tOdd, fd_tOdd, m_tOdd, F_tOdd⟩ := d_tOdd
  have b_tOdd := F_tOdd.binds (ps := ["self"]) fun _ _ _ _ _ _ us hl => match us, hl with | [_], _ => rfl
  obtain ⟨f_tWay, fd_tWay, m_tWay, F_tWay⟩ := d_tWay
  have b_tWay := F_tWay.binds (ps := ["self"]) fun _ _ _ _ _ _ us hl => match us, hl with | [_], _ => rfl
  obtain ⟨f_tHan, fd_tHan, m_tHan, F_tHan⟩ := d_tHan
  have b_tHan := F_tHan.binds (ps := ["self"]) fun _ _ _ _ _ _ us hl => match us, hl with | [_], _ => rfl
  obtain ⟨f_tLds, fd_tLds, m_tLds, F_tLds⟩ := d_tLds
  have b_tLds := F_tLds.binds (ps := ["self"]) fun _ _ _ _ _ _ us hl => match us, hl with | [_], _ => rfl
  obtain ⟨f_tLea, fd_tLea, m_tLea, F_tLea⟩ := d_tLea
  have b_tLea := F_tLea.binds (ps := ["self", "leader", "led"]) fun _ _ _ _ _ _ us hl => match us, hl with | [_, _, _], _ => rfl
  obtain ⟨f_tSes, fd_tSes, m_tSes, F_tSes⟩ := d_tSes
  have b_tSes := F_tSes.binds (ps := ["self"]) fun _ _ _ _ _ _ us hl => match us, hl with | [_], _ => rfl
  obtain ⟨f_tSec, fd_tSec, m_tSec, F_tSec⟩ := d_tSec
  have b_tSec := F_tSec.binds (ps := ["self", "card"]) fun _ _ _ _ _ _ us hl => match us, hl with | [_, _], _ => rfl
  obtain ⟨f_tThs, fd_tThs, m_tThs, F_tThs⟩ := d_tThs
  have b_tThs := F_tThs.binds (ps := ["self"]) fun _ _ _ _ _ _ us hl => match us, hl with | [_], _ => rfl
  obtain ⟨f_tThi, fd_tThi, m_tThi, F_tThi⟩ := d_tThi
  have b_tThi := F_tThi.binds (ps := ["self", "card"]) fun _ _ _ _ _ _ us hl => match us, hl with | [_, _], _ => rfl
  obtain ⟨f_tLas, fd_tLas, m_tLas, F_tLas⟩ := d_tLas
  have b_tLas := F_tLas.binds (ps := ["self"]) fun _ _ _ _ _ _ us hl => match us, hl with | [_], _ => rfl
  obtain ⟨f_tLst, fd_tLst, m_tLst, F_tLst⟩ := d_tLst
  have b_tLst := F_tLst.binds (ps := ["self", "card"]) fun _ _ _ _ _ _ us hl => match us, hl with | [_, _], _ => rfl
  obtain ⟨f_tBli, fd_tBli, m_tBli, F_tBli⟩ := d_tBli
  have b_tBli := F_tBli.binds (ps := ["self", "plan"]) fun _ _ _ _ _ _ us hl => match us, hl with | [_, _], _ => rfl
  have e := hfa.symm.trans m_ans
  cases e
  have cst : ∀ {x : Str} {i : Int}, CstAt K x i → Cst mg x i := fun ⟨t, a⟩ => ⟨t, PySem.W.mg_of X G a⟩
  have N : Names mg := ⟨PySem.W.mg_none_of X G bn_reversed, PySem.W.mg_none_of X G bn_len, PySem.W.mg_none_of X G bn_sorted, PySem.W.mg_none_of X G bn_tuple, PySem.W.mg_none_of X G bn_sum, PySem.W.mg_none_of X G bn_range, PySem.W.mg_none_of X G bn_max, PySem.W.mg_none_of X G bn_all, PySem.W.mg_none_of X G bn_set, PySem.W.mg_none_of X G bn_list, cst cn_jack⟩
  have Cs : Consts mg := ⟨cst cn_ace, cst cn_mneed, cst cn_mcards, cst cn_mhand, cst cn_mours, cst cn_mmiss, cst cn_twice, cst cn_tours, cst cn_tmiss, cst cn_out, cst cn_notnow, cst cn_nosuch, cst cn_turn0, cst cn_turn1, cst cn_turn2, cst cn_turn3, cst cn_turn4, cst cn_msteps, cst cn_step⟩
  obtain ⟨oc, od, kV, doc, pm, an, cdv, ct, osl, efd, _, _⟩ := F_ans.ex
  refine ⟨fd_ans, fun s us hu => by subst efd; exact match us, hu with | [_], _ => .of_eq rfl, fun base hb1 hb2 => ?_⟩
  have g_sec : FnOk P w K mg base CX0 2 _ _ _ (spSec K) := ok_sec F_sec N m_low F_low b_low
  have g_las : FnOk P w K mg base CX0 2 _ _ _ (spLas K) := ok_las F_las N m_low F_low b_low
  have g_fal : FnOk P w K mg base CX0 1 _ _ _ (spFal K) := ok_fal F_fal N
  have g_wo : FnOk P w K mg base CX0 1 _ _ _ (spWo K) := ok_wo F_wo N
  have g_sha : FnOk P w K mg base CX0 2 _ _ _ (spSha K) := ok_sha F_sha N m_fal F_fal b_fal
  have g_spl : FnOk P w K mg base CX0 3 _ _ _ (spSpl K) := ok_spl F_spl N m_sha F_sha b_sha g_sha m_cho F_cho b_cho
  have g_way : FnOk P w K mg base CX0 1 _ _ _ (spWay K) := ok_way F_way N
  have g_by2 : FnOk P w K mg base CX0 3 _ _ _ (spBy2 K) := ok_by_second F_by2 N m_sec F_sec b_sec g_sec
  have g_by4 : FnOk P w K mg base CX0 3 _ _ _ (spBy4 K) := ok_by_last F_by4 N m_las F_las b_las g_las
  have g_aft : FnOk P w K mg base CX0 2 _ _ _ (spAft K) := ok_aft F_aft N m_wo F_wo b_wo
  have g_thi : FnOk P w K mg base CX0 1 _ _ _ (spThi K) := ok_thi F_thi N
  have g_won : FnOk P w K mg base CX0 1 _ _ _ spWon := ok_won F_won N
  have g_nee : FnOk P w K mg base CX0 1 _ _ _ spNee := ok_nee F_nee N
  have g_iss : FnOk P w K mg base CX0 2 _ _ _ (spIsS K) := ok_iss F_iss N Cs m_row F_row b_row
  have g_isp : FnOk P w K mg base CX0 1 _ _ _ spIsP := ok_isp F_isp Cs
  have g_pla : FnOk P w K mg base CX0 2 _ _ _ (spPla K) := ok_pla F_pla N Cs m_isp F_isp b_isp
  have g_ref : FnOk P w K mg base CX0 1 _ _ _ (spRef K) := ok_ref F_ref N Cs
  have g_tg : FnOk P w K mg base CX0 2 _ _ _ (spTG K) := ok_tg F_tg N m_fal F_fal b_fal m_way F_way b_way
  have g_th : FnOk P w K mg base CX0 1 _ _ _ (spTH K) := ok_th F_th N
  have TX : TxF P w K mg base := ⟨N, ⟨_, _, m_wo, F_wo, b_wo, g_wo⟩, ⟨_, _, m_by4, F_by4, b_by4, g_by4⟩, ⟨_, _, m_by2, F_by2, b_by2, g_by2⟩, ⟨_, _, m_won, F_won, b_won, g_won⟩, ⟨_, _, m_nee, F_nee, b_nee, g_nee⟩, ⟨_, _, m_aft, F_aft, b_aft, g_aft⟩, ⟨_, _, m_thi, F_thi, b_thi, g_thi⟩, ⟨_, _, m_way, F_way, b_way, g_way⟩⟩
  have TPn : TxP P w K mg base := ⟨⟨_, _, m_sec, F_sec, b_sec, g_sec⟩, ⟨_, _, m_las, F_las, b_las, g_las⟩⟩
  have g_wop : FnOk P w K mg base CX0 4 _ _ _ (spWop K) := ok_wop F_wop TX TPn Cs m_ste F_ste b_ste m_tos F_tos b_tos
  have SX : TxS K mg CS := ⟨cS.cl, sn_cover, sn_known⟩
  have M : TxM K CS f_sA f_sB f_sL f_s2 f_s3 fd_sA fd_sB fd_sL fd_s2 fd_s3 := ⟨F_sA, F_sB, F_sL, F_s2, F_s3, m_sA, m_sB, m_sL, m_s2, m_s3⟩
  have no9 : ∀ f ∈ tn, NoAttr K CT f := by
    intro f hf
    unfold tn at hf
    simp only [List.mem_cons, List.not_mem_nil, or_false] at hf
    rcases hf with rfl | rfl | rfl | rfl | rfl | rfl | rfl | rfl | rfl
    · exact tn_turn
    · exact tn_need
    · exact tn_hands
    · exact tn_splits
    · exact tn_search
    · exact tn_leader
    · exact tn_led
    · exact tn_second
    · exact tn_third
  have T : TxT P w K mg base CT CS := ⟨N, Cs, cT.cl, no9, SX, PySem.W.mg_of X G aS, ⟨_, _, ⟨cS.mks, m_si.at_, m_si.fn, cS.kp⟩, b_si, ok_sinit F_si SX⟩,
    ⟨_, _, m_sA, b_sA, search_at M TX SX 4⟩, ⟨_, _, m_sL, b_sL, search_L M TX SX 3⟩, ⟨_, _, m_s2, b_s2, search_2 M TX SX 3⟩, ⟨_, _, m_s3, b_s3, search_3 M TX SX 3⟩,
    ⟨_, _, m_by2, F_by2.kp, b_by2, g_by2⟩, ⟨_, _, m_by4, F_by4.kp, b_by4, g_by4⟩, ⟨_, _, m_fal, F_fal.kp, b_fal, g_fal⟩, ⟨_, _, m_wo, F_wo.kp, b_wo, g_wo⟩, ⟨_, _, m_spl, F_spl.kp, b_spl, g_spl⟩, ⟨_, _, m_way, F_way.kp, b_way, g_way⟩, ⟨_, _, m_aft, F_aft.kp, b_aft, g_aft⟩,
    ⟨_, _, m_thi, F_thi.kp, b_thi, g_thi⟩, ⟨_, _, m_won, F_won.kp, b_won, g_won⟩, ⟨_, _, m_nee, F_nee.kp, b_nee, g_nee⟩, ⟨_, _, m_iss, F_iss.kp, b_iss, g_iss⟩, ⟨_, _, m_ref, F_ref.kp, b_ref, g_ref⟩, ⟨_, _, m_isp, F_isp.kp, b_isp, g_isp⟩, ⟨_, _, m_pla, F_pla.kp, b_pla, g_pla⟩,
    ⟨_, _, m_tg, F_tg.kp, b_tg, g_tg⟩, ⟨_, _, m_th, F_th.kp, b_th, g_th⟩, ⟨_, _, m_wop, F_wop.kp, b_wop, g_wop⟩⟩
  have g_now := ok_now F_tNow T m_tOil F_tOil b_tOil m_tOit F_tOit b_tOit
  have A : TxA P w K mg base CT CS := ⟨T, PySem.W.mg_of X G aT, ⟨_, _, ⟨cT.mks, m_ti.at_, m_ti.fn, cT.kp⟩, b_ti, ok_tinit F_ti T⟩, ⟨_, _, m_tSui, b_tSui, ok_sui F_tSui T⟩, ⟨_, _, m_tLea, b_tLea, ok_lea F_tLea T⟩, ⟨_, _, m_tBli, b_tBli, ok_bli F_tBli T⟩,
    ⟨_, _, m_tOdd, b_tOdd, ok_odd F_tOdd T m_tNow b_tNow g_now⟩, ⟨_, _, m_tWay, b_tWay, ok_ways F_tWay T⟩, ⟨_, _, m_tHan, b_tHan, ok_han F_tHan T⟩, ⟨_, _, m_tLds, b_tLds, ok_lds F_tLds T m_tOil F_tOil b_tOil⟩, ⟨_, _, m_tSes, b_tSes, ok_ses F_tSes T m_tGr2 F_tGr2 b_tGr2⟩, ⟨_, _, m_tThs, b_tThs, ok_ths F_tThs T m_tOit F_tOit b_tOit⟩, ⟨_, _, m_tLas, b_tLas, ok_las4 F_tLas T m_tGr4 F_tGr4 b_tGr4⟩,
    ⟨_, _, m_tSec, b_tSec, ok_sec7 F_tSec T m_tGr2 F_tGr2 b_tGr2⟩, ⟨_, _, m_tThi, b_tThi, ok_thi9 F_tThi T⟩, ⟨_, _, m_tLst, b_tLst, ok_lst F_tLst T m_tGr4 F_tGr4 b_tGr4⟩⟩
  exact ok_ans F_ans A (fo.ok X G) m_rea F_rea b_rea m_cal F_cal b_cal m_an1 F_an1 b_an1
end
end On
namespace PySem.W.Fast
theorem tw4621757895385733 : True := trivial
theorem tw83291187680834080 : True := trivial
theorem tw160611506665969457 : True := trivial
theorem tw223687770655263762 : True := trivial
theorem tw258089816951487115 : True := trivial
theorem tw315044064340115387 : True := trivial
theorem tw325898367107070396 : True := trivial
theorem tw329665567472593122 : True := trivial
theorem tw340979528279917789 : True := trivial
theorem tw404746334882824015 : True := trivial
theorem tw423684434551180357 : True := trivial
theorem tw528765865437012144 : True := trivial
theorem tw535656318656977820 : True := trivial
theorem tw575195900597909759 : True := trivial
theorem tw591375766428246874 : True := trivial
theorem tw632497023177781961 : True := trivial
theorem tw794152330544667808 : True := trivial
theorem tw817202164168610516 : True := trivial
theorem tw860117438484741550 : True := trivial
theorem tw868301113147894490 : True := trivial
theorem tw940245806018048125 : True := trivial
theorem tw955463934653443722 : True := trivial
theorem tw982370509488667513 : True := trivial
theorem tw988436317733484620 : True := trivial
theorem tw1048757297224981307 : True := trivial
theorem tw1138003784784464859 : True := trivial
theorem tw1144246550639359295 : True := trivial
theorem tw1263312393028237933 : True := trivial
theorem tw1374751977965735712 : True := trivial
theorem tw1406760122985403403 : True := trivial
theorem tw1426029536694824224 : True := trivial
theorem tw1509684783201652722 : True := trivial
theorem tw1513400100011238294 : True := trivial
theorem tw1555125775505122681 : True := trivial
theorem tw1556671046054317883 : True := trivial
theorem tw1572425609276304745 : True := trivial
theorem tw1574457175135299884 : True := trivial
theorem tw1595040288893127671 : True := trivial
theorem tw1598661270487989594 : True := trivial
theorem tw1644633087490083482 : True := trivial
theorem tw1655861291537000901 : True := trivial
theorem tw1661122284124081341 : True := trivial
theorem tw1739041028335198483 : True := trivial
theorem tw1766644093190103133 : True := trivial
theorem tw1785607779491102973 : True := trivial
theorem tw1810630870585312812 : True := trivial
theorem tw1857837006366695158 : True := trivial
theorem tw1908406857705181403 : True := trivial
theorem tw1969176385228319140 : True := trivial
theorem tw2007526382724056386 : True := trivial
theorem tw2027793186051014053 : True := trivial
theorem tw2050869481170952547 : True := trivial
theorem tw2099984478164168170 : True := trivial
theorem tw2100948714651720619 : True := trivial
theorem tw2244681403291999700 : True := trivial
theorem tw2269327842601679801 : True := trivial
theorem tw2295438477127002134 : True := trivial
theorem tw2332692729350399893 : True := trivial
theorem tw2432148273739139862 : True := trivial
theorem tw2438760292159677888 : True := trivial
theorem tw2468832628109359953 : True := trivial
theorem tw2526119461255404796 : True := trivial
theorem tw2583857332996870125 : True := trivial
theorem tw2597143225615007367 : True := trivial
theorem tw2606990805938815771 : True := trivial
theorem tw2612199101994796538 : True := trivial
theorem tw2682752682143736263 : True := trivial
theorem tw2699025644127472953 : True := trivial
theorem tw2742408996456196708 : True := trivial
theorem tw2746427418036114113 : True := trivial
theorem tw2819240855576981863 : True := trivial
theorem tw2875442556195799573 : True := trivial
theorem tw2890414230190839222 : True := trivial
theorem tw2944270597680172925 : True := trivial
theorem tw3001638770471738927 : True := trivial
theorem tw3052580070764174906 : True := trivial
theorem tw3098381902539119030 : True := trivial
theorem tw3151757464447889885 : True := trivial
theorem tw3165354217916757707 : True := trivial
theorem tw3175086880222299630 : True := trivial
theorem tw3193681745077616925 : True := trivial
theorem tw3313784261615274450 : True := trivial
theorem tw3315792705468933599 : True := trivial
theorem tw3323355633409311293 : True := trivial
theorem tw3351076621369935969 : True := trivial
theorem tw3375928126225902549 : True := trivial
theorem tw3400341294594684634 : True := trivial
theorem tw3433430118138342345 : True := trivial
theorem tw3440230101221979982 : True := trivial
theorem tw3457378142257246511 : True := trivial
theorem tw3502860697515034655 : True := trivial
theorem tw3549581769779254741 : True := trivial
theorem tw3590898024585470992 : True := trivial
theorem tw3611779187589641644 : True := trivial
theorem tw3652791997903979754 : True := trivial
theorem tw3709548857885560137 : True := trivial
theorem tw3795380980970944201 : True := trivial
theorem tw3849066059149302165 : True := trivial
theorem tw4004805058165172089 : True := trivial
theorem tw4005940170992219055 : True := trivial
theorem tw4013456362446510711 : True := trivial
theorem tw4068844966521757879 : True := trivial
theorem tw4124475713961510303 : True := trivial
theorem tw4153099632848971192 : True := trivial
theorem tw4181449003831595979 : True := trivial
theorem tw4192087864513674624 : True := trivial
theorem tw4224028462627498225 : True := trivial
theorem tw4228244960807800482 : True := trivial
theorem tw4253845804134656234 : True := trivial
theorem tw4267080328026630576 : True := trivial
theorem tw4288632005490420636 : True := trivial
theorem tw4292602078956315814 : True := trivial
theorem tw4330483469680357640 : True := trivial
theorem tw4391313415551345091 : True := trivial
theorem tw4407842719771825785 : True := trivial
theorem tw4438287175132762246 : True := trivial
theorem tw4487468019107895602 : True := trivial
theorem tw4513597798011394660 : True := trivial
theorem tw4527212325638598580 : True := trivial
theorem tw4537968698209749837 : True := trivial
theorem tw4560008796081166807 : True := trivial
theorem tw4601243089021917186 : True := trivial
theorem tw4648345061837983617 : True := trivial
theorem tw4650610830960620820 : True := trivial
theorem tw4671541703805837584 : True := trivial
theorem tw4673057229994515586 : True := trivial
theorem tw4778314050276275062 : True := trivial
theorem tw4789654899001525837 : True := trivial
theorem tw4808070272018218299 : True := trivial
theorem tw4897783724995338989 : True := trivial
theorem tw4901815351498717592 : True := trivial
theorem tw4920402523356072518 : True := trivial
theorem tw4935031522119857114 : True := trivial
theorem tw4965610276875868875 : True := trivial
theorem tw5054369549764030011 : True := trivial
theorem tw5081667769246320493 : True := trivial
theorem tw5095842010803726484 : True := trivial
theorem tw5132510363991361758 : True := trivial
theorem tw5257357691939781965 : True := trivial
theorem tw5376582015891348187 : True := trivial
theorem tw5383490703532074193 : True := trivial
theorem tw5398087769084100194 : True := trivial
theorem tw5408294196587452996 : True := trivial
theorem tw5479940472881954480 : True := trivial
theorem tw5569088701115589822 : True := trivial
theorem tw5590463445962236887 : True := trivial
theorem tw5612909436623793075 : True := trivial
theorem tw5620180207506743254 : True := trivial
theorem tw5692205116547077914 : True := trivial
theorem tw5747364057811502214 : True := trivial
theorem tw5748311047150545119 : True := trivial
theorem tw5756353776158686917 : True := trivial
theorem tw5761893380322079688 : True := trivial
theorem tw5852126112052434190 : True := trivial
theorem tw5914316484222782259 : True := trivial
theorem tw5914695324676148229 : True := trivial
theorem tw5933293570871403791 : True := trivial
theorem tw5941003385523050377 : True := trivial
theorem tw5947605483790915579 : True := trivial
theorem tw5947759612935456516 : True := trivial
theorem tw5947824624347347324 : True := trivial
theorem tw6013931246126935491 : True := trivial
theorem tw6024283275126840469 : True := trivial
theorem tw6057652546029632223 : True := trivial
theorem tw6151590546532706654 : True := trivial
theorem tw6244846260120853428 : True := trivial
theorem tw6319083784522319653 : True := trivial
theorem tw6321141554347961719 : True := trivial
theorem tw6343710112959548576 : True := trivial
theorem tw6365911999600586456 : True := trivial
theorem tw6389712051785937339 : True := trivial
theorem tw6395012227670977695 : True := trivial
theorem tw6397491437911385729 : True := trivial
theorem tw6412689390686360490 : True := trivial
theorem tw6467335756434067510 : True := trivial
theorem tw6490218128759047925 : True := trivial
theorem tw6564607821298963979 : True := trivial
theorem tw6571659512461875598 : True := trivial
theorem tw6595843579091242475 : True := trivial
theorem tw6724924379474822389 : True := trivial
theorem tw6745125885846816077 : True := trivial
theorem tw6822482702098372912 : True := trivial
theorem tw6825210624462955007 : True := trivial
theorem tw6835254823344605729 : True := trivial
theorem tw6917765345700086026 : True := trivial
theorem tw6925399145742974401 : True := trivial
theorem tw6934392225387794893 : True := trivial
theorem tw7006209517775142954 : True := trivial
theorem tw7038778522117855029 : True := trivial
theorem tw7055550914537329575 : True := trivial
theorem tw7076643409962864739 : True := trivial
theorem tw7106330114085887911 : True := trivial
theorem tw7201705727513972890 : True := trivial
theorem tw7231327765099203287 : True := trivial
theorem tw7261557277216250816 : True := trivial
theorem tw7292033238639521995 : True := trivial
theorem tw7302169353285422312 : True := trivial
theorem tw7328151940140690993 : True := trivial
theorem tw7416860205472692310 : True := trivial
theorem tw7459541862002002720 : True := trivial
theorem tw7477450287239006502 : True := trivial
theorem tw7556090480631743602 : True := trivial
theorem tw7557254010784512129 : True := trivial
theorem tw7582189801907248789 : True := trivial
theorem tw7655677066597758635 : True := trivial
theorem tw7677321555166169443 : True := trivial
theorem tw7789338928229550519 : True := trivial
theorem tw7802183734836832405 : True := trivial
theorem tw7860266485785461553 : True := trivial
theorem tw7879241448082687257 : True := trivial
theorem tw7917074767882570084 : True := trivial
theorem tw7934950638179756674 : True := trivial
theorem tw7991436242201858227 : True := trivial
theorem tw8005648096731932698 : True := trivial
theorem tw8007881555957672756 : True := trivial
theorem tw8020883338891504950 : True := trivial
theorem tw8045404859176267249 : True := trivial
theorem tw8075460743854614548 : True := trivial
theorem tw8089007151940390338 : True := trivial
theorem tw8144190695735352145 : True := trivial
theorem tw8154548485472402276 : True := trivial
theorem tw8163879846615860173 : True := trivial
theorem tw8193729102600219645 : True := trivial
theorem tw8195546950077304218 : True := trivial
theorem tw8223441317000138240 : True := trivial
theorem tw8270245407789188073 : True := trivial
theorem tw8301421030308653541 : True := trivial
theorem tw8316617829859495498 : True := trivial
theorem tw8343027665042724500 : True := trivial
theorem tw8355103389767120848 : True := trivial
theorem tw8376692925014433602 : True := trivial
theorem tw8406550096799758505 : True := trivial
theorem tw8456337465375517989 : True := trivial
theorem tw8490791875525248692 : True := trivial
theorem tw8610796533300591953 : True := trivial
theorem tw8787244408675682648 : True := trivial
theorem tw8817846138912568521 : True := trivial
theorem tw8819123936610998286 : True := trivial
theorem tw8828658064135782339 : True := trivial
theorem tw8832188598985832412 : True := trivial
theorem tw8848183475363569772 : True := trivial
theorem tw8854123232356786609 : True := trivial
theorem tw8861209372479422140 : True := trivial
theorem tw8892632440895967148 : True := trivial
theorem tw8897737050788502772 : True := trivial
theorem tw8909244099736213365 : True := trivial
theorem tw9011664955320615500 : True := trivial
theorem tw9034644140467999132 : True := trivial
theorem tw9039962295386984152 : True := trivial
theorem tw9128367167821454086 : True := trivial
theorem tw9131587118418783362 : True := trivial
theorem tw9143027953678761034 : True := trivial
theorem tw9152550803160895255 : True := trivial
theorem tw9260862156683543326 : True := trivial
theorem tw9330864454677011415 : True := trivial
theorem tw9346681411417833817 : True := trivial
theorem tw9348890823190602562 : True := trivial
theorem tw9362898770178855193 : True := trivial
theorem tw9413602395290716984 : True := trivial
theorem tw9442313946600452656 : True := trivial
theorem tw9616143305330196117 : True := trivial
theorem tw9620379192089614499 : True := trivial
theorem tw9630980998343133632 : True := trivial
theorem tw9646684725774455462 : True := trivial
theorem tw9669273502756442077 : True := trivial
theorem tw9742720370044090147 : True := trivial
theorem tw9751274063080015773 : True := trivial
theorem tw9790492316406311130 : True := trivial
theorem tw9808401090004187465 : True := trivial
theorem tw9823657691342024487 : True := trivial
theorem tw9837133275395233282 : True := trivial
theorem tw9844727955235089572 : True := trivial
theorem tw9903974471712759933 : True := trivial
theorem tw9936985916759314237 : True := trivial
theorem tw9951158880784062420 : True := trivial
theorem tw10017524364311640426 : True := trivial
theorem tw10044124070220894445 : True := trivial
theorem tw10108445709129930580 : True := trivial
theorem tw10229491073488606555 : True := trivial
theorem tw10328272870436090089 : True := trivial
theorem tw10329281305569721412 : True := trivial
theorem tw10344624818442141066 : True := trivial
theorem tw10347959063924567641 : True := trivial
theorem tw10364116916326370933 : True := trivial
theorem tw10375912246420379987 : True := trivial
theorem tw10378692946229343609 : True := trivial
theorem tw10410350152092640055 : True := trivial
theorem tw10433939765696290426 : True := trivial
theorem tw10434967853244389238 : True := trivial
theorem tw10435614175697440024 : True := trivial
theorem tw10517474448549438973 : True := trivial
theorem tw10521506504022743092 : True := trivial
theorem tw10633706760275082031 : True := trivial
theorem tw10634234576876261968 : True := trivial
theorem tw10662126862300991503 : True := trivial
theorem tw10677109621290799619 : True := trivial
theorem tw10742136638888423599 : True := trivial
theorem tw10782374490799417176 : True := trivial
theorem tw10820393145120857116 : True := trivial
theorem tw10878636719373036107 : True := trivial
theorem tw10933109599117092204 : True := trivial
theorem tw10958599847254775245 : True := trivial
theorem tw11095133657711029905 : True := trivial
theorem tw11153197716512909152 : True := trivial
theorem tw11168011716130786253 : True := trivial
theorem tw11251873418900349304 : True := trivial
theorem tw11258608579114463839 : True := trivial
theorem tw11299732790954378030 : True := trivial
theorem tw11310212789644292408 : True := trivial
theorem tw11490654017949340483 : True := trivial
theorem tw11538425687783785005 : True := trivial
theorem tw11593979566737063293 : True := trivial
theorem tw11692215102245202164 : True := trivial
theorem tw11700491860172920109 : True := trivial
theorem tw11878228979898676912 : True := trivial
theorem tw11924180134172599743 : True := trivial
theorem tw11927714628726957228 : True := trivial
theorem tw11972603193099334379 : True := trivial
theorem tw12015474736693289206 : True := trivial
theorem tw12020328618610865053 : True := trivial
theorem tw12030663656878936430 : True := trivial
theorem tw12043030629491460452 : True := trivial
theorem tw12055806868483912625 : True := trivial
theorem tw12073420441189973353 : True := trivial
theorem tw12100486102565919228 : True := trivial
theorem tw12169715469721641982 : True := trivial
theorem tw12210623923223391028 : True := trivial
theorem tw12403025701670615697 : True := trivial
theorem tw12414548588570349976 : True := trivial
theorem tw12452761230436827471 : True := trivial
theorem tw12460263423513641916 : True := trivial
theorem tw12630431863914830625 : True := trivial
theorem tw12635598812497676190 : True := trivial
theorem tw12664044210079816970 : True := trivial
theorem tw12730317409364004875 : True := trivial
theorem tw12732613547007086793 : True := trivial
theorem tw12743354917515090549 : True := trivial
theorem tw12845147200040635524 : True := trivial
theorem tw12852435180709239083 : True := trivial
theorem tw12855801528387368217 : True := trivial
theorem tw12916266581491731744 : True := trivial
theorem tw12941980062702713659 : True := trivial
theorem tw12963600833617498110 : True := trivial
theorem tw12973408202865354040 : True := trivial
theorem tw12978277630422334125 : True := trivial
theorem tw12979226627982110143 : True := trivial
theorem tw12986944662642630412 : True := trivial
theorem tw13095333907150313455 : True := trivial
theorem tw13138183355013776229 : True := trivial
theorem tw13397030661866174515 : True := trivial
theorem tw13427840060531835337 : True := trivial
theorem tw13450420650015934306 : True := trivial
theorem tw13458303468530703125 : True := trivial
theorem tw13465255956874798004 : True := trivial
theorem tw13471866262336862738 : True := trivial
theorem tw13534315956490516588 : True := trivial
theorem tw13558028134762504328 : True := trivial
theorem tw13603466324715197788 : True := trivial
theorem tw13705918471294640797 : True := trivial
theorem tw13778686936605945241 : True := trivial
theorem tw13835689286889123512 : True := trivial
theorem tw13867738233326506537 : True := trivial
theorem tw13974444127826877690 : True := trivial
theorem tw14013946676941047538 : True := trivial
theorem tw14058943141090598260 : True := trivial
theorem tw14098947378332654798 : True := trivial
theorem tw14143105346607607420 : True := trivial
theorem tw14245035972655496459 : True := trivial
theorem tw14254183278492631808 : True := trivial
theorem tw14260879645997854740 : True := trivial
theorem tw14269167994618839393 : True := trivial
theorem tw14272527882294082124 : True := trivial
theorem tw14283300058080137263 : True := trivial
theorem tw14310138590082326678 : True := trivial
theorem tw14363679513619495932 : True := trivial
theorem tw14365719915759453785 : True := trivial
theorem tw14407740181712562747 : True := trivial
theorem tw14426343522643297576 : True := trivial
theorem tw14429780875783706892 : True := trivial
theorem tw14571453778189150180 : True := trivial
theorem tw14699969288830676996 : True := trivial
theorem tw14806663259263797560 : True := trivial
theorem tw14835402080035631263 : True := trivial
theorem tw14856154943801319177 : True := trivial
theorem tw14897442771339572659 : True := trivial
theorem tw14996105132961911322 : True := trivial
theorem tw15102054642725803881 : True := trivial
theorem tw15109005805464968908 : True := trivial
theorem tw15123718006218714506 : True := trivial
theorem tw15126677552879216538 : True := trivial
theorem tw15155825975090219844 : True := trivial
theorem tw15191129300649421921 : True := trivial
theorem tw15234796022205325797 : True := trivial
theorem tw15244717564151940735 : True := trivial
theorem tw15258051852500114095 : True := trivial
theorem tw15268412589264848063 : True := trivial
theorem tw15304801479944993370 : True := trivial
theorem tw15356947104339123545 : True := trivial
theorem tw15499066244058223892 : True := trivial
theorem tw15539956622761339107 : True := trivial
theorem tw15634983888081268997 : True := trivial
theorem tw15651424777764256232 : True := trivial
theorem tw15671960516782557721 : True := trivial
theorem tw15723821559823417514 : True := trivial
theorem tw15729276052397653812 : True := trivial
theorem tw15836104554417269334 : True := trivial
theorem tw15952197351717422674 : True := trivial
theorem tw15960690024638944648 : True := trivial
theorem tw16031808277919919789 : True := trivial
theorem tw16051686564266793120 : True := trivial
theorem tw16163856917801742419 : True := trivial
theorem tw16315608099197938596 : True := trivial
theorem tw16339995013013506297 : True := trivial
theorem tw16343888158190804316 : True := trivial
theorem tw16398781588475866243 : True := trivial
theorem tw16424693096116986005 : True := trivial
theorem tw16435931950333250093 : True := trivial
theorem tw16457131597087288013 : True := trivial
theorem tw16462767144375943503 : True := trivial
theorem tw16482537333286037370 : True := trivial
theorem tw16524564388951492551 : True := trivial
theorem tw16691606903410782181 : True := trivial
theorem tw16743718210307182304 : True := trivial
theorem tw16744499373675826373 : True := trivial
theorem tw16751172362200645998 : True := trivial
theorem tw16787962421227456756 : True := trivial
theorem tw16879759253648729643 : True := trivial
theorem tw16882768371157942994 : True := trivial
theorem tw16895837566419402819 : True := trivial
theorem tw16898012963791941707 : True := trivial
theorem tw16916462425374393163 : True := trivial
theorem tw16957276033547921708 : True := trivial
theorem tw17074215295849195327 : True := trivial
theorem tw17095467663072182502 : True := trivial
theorem tw17188691647420453057 : True := trivial
theorem tw17244798693960876832 : True := trivial
theorem tw17310677667945160611 : True := trivial
theorem tw17343885155229319492 : True := trivial
theorem tw17376921380596698092 : True := trivial
theorem tw17392332724027436245 : True := trivial
theorem tw17498977850513450358 : True := trivial
theorem tw17551831901451245288 : True := trivial
theorem tw17656565603446860181 : True := trivial
theorem tw17757653938156914001 : True := trivial
theorem tw17780704202873243760 : True := trivial
theorem tw17797734468433403060 : True := trivial
theorem tw17835929259780400000 : True := trivial
theorem tw17927857486479093734 : True := trivial
theorem tw17984248700278592646 : True := trivial
theorem tw18010071294339960825 : True := trivial
theorem tw18043303768589144449 : True := trivial
theorem tw18072109879328244683 : True := trivial
theorem tw18077659501920893967 : True := trivial
theorem tw18107812124885366034 : True := trivial
theorem tw18144875498237073512 : True := trivial
theorem tw18233755063114740549 : True := trivial
theorem tw18266242386819208582 : True := trivial
theorem tw18346981345282971648 : True := trivial
end PySem.W.Fast
open PySem PySem.W PyProof.Rows
set_option maxRecDepth 100000 in
set_option maxHeartbeats 0 in
theorem PySem.Challenge.cw_onesuit_s01_answers_holds : PySem.Challenge.rw_onesuit_s01_answers.Holds := by
  w_on; k_headS; (case hw => exact ⟨[.list [.int 1]], by decide +kernel, by decide +kernel⟩)
  k_fillS
  refine L2.walk_specK (r := PySem.Challenge.rw_onesuit_s01_answers) (k := 27) (CX := L2.CX0) (ps := ["calls"]) (sp := On.spAns) (by decide +kernel) rfl rfl ⟨rfl, by decide, by decide⟩ (fun w h Y => PySem.W.kIn_of Y) ?F ?S (fun _ _ _ _ z => z)
  case F =>
    intro w mg fa h Y KX G hmg
    refine' On.all_mk KX G hmg ?aS ?aT ?cS ?cT ?fo ?sn_cover ?sn_known ?tn_turn ?tn_need ?tn_hands ?tn_splits ?tn_search ?tn_leader ?tn_led ?tn_second ?tn_third ?bn_reversed ?bn_len ?bn_sorted ?bn_tuple ?bn_sum ?bn_range ?bn_max ?bn_all ?bn_set ?bn_list ?cn_ace ?cn_mneed ?cn_mcards ?cn_mhand ?cn_mours ?cn_mmiss ?cn_twice ?cn_tours ?cn_tmiss ?cn_out ?cn_notnow ?cn_nosuch ?cn_turn0 ?cn_turn1 ?cn_turn2 ?cn_turn3 ?cn_turn4 ?cn_msteps ?cn_step ?cn_jack ?d_low ?d_sec ?d_las ?d_fal ?d_wo ?d_cho ?d_sha ?d_spl ?d_way ?d_by2 ?d_by4 ?d_aft ?d_thi ?d_won ?d_nee ?d_ste ?d_tos ?d_wop ?d_row ?d_iss ?d_isp ?d_pla ?d_ref ?d_tg ?d_th ?d_rea ?d_cal ?d_an1 ?d_ans ?d_si ?d_sA ?d_sB ?d_sL ?d_s2 ?d_s3 ?d_ti ?d_tSui ?d_tOil ?d_tOit ?d_tNow ?d_tGr2 ?d_tGr4 ?d_tOdd ?d_tWay ?d_tHan ?d_tLds ?d_tLea ?d_tSes ?d_tSec ?d_tThs ?d_tThi ?d_tLas ?d_tLst ?d_tBli
    (case aS => k_is)
    (case aT => k_is)
    (case cS => refine' On.ClsAt.of ?x1cS ?x2cS ?x3cS ?x4cS ?x5cS ?x6cS; (case x1cS => k_is); (case x2cS => k_is); (case x3cS => k_is); (case x4cS => k_is); (case x5cS => k_is); (case x6cS => k_is))
    (case cT => refine' On.ClsAt.of ?x1cT ?x2cT ?x3cT ?x4cT ?x5cT ?x6cT; (case x1cT => k_is); (case x2cT => k_is); (case x3cT => k_is); (case x4cT => k_is); (case x5cT => k_is); (case x6cT => k_is))
    (case fo =>
      refine' On.FormAt.mk ?aF ?lF ?p0 ?p1 ?p2 ?p3 ?p4 ?p5 ?p6 ?p7 ?p8 ?p9 ?p10 ?p11 ?p12
      (case aF => k_is); (case lF => k_is)
      (case p0 => refine' On.PairAt.mk ?pl0; (case pl0 => k_is))
      (case p1 => refine' On.PairAt.mk ?pl1; (case pl1 => k_is))
      (case p2 => refine' On.PairAt.mk ?pl2; (case pl2 => k_is))
      (case p3 => refine' On.PairAt.mk ?pl3; (case pl3 => k_is))
      (case p4 => refine' On.PairAt.mk ?pl4; (case pl4 => k_is))
      (case p5 => refine' On.PairAt.mk ?pl5; (case pl5 => k_is))
      (case p6 => refine' On.PairAt.mk ?pl6; (case pl6 => k_is))
      (case p7 => refine' On.PairAt.mk ?pl7; (case pl7 => k_is))
      (case p8 => refine' On.PairAt.mk ?pl8; (case pl8 => k_is))
      (case p9 => refine' On.PairAt.mk ?pl9; (case pl9 => k_is))
      (case p10 => refine' On.PairAt.mk ?pl10; (case pl10 => k_is))
      (case p11 => refine' On.PairAt.mk ?pl11; (case pl11 => k_is))
      (case p12 => refine' On.PairAt.mk ?pl12; (case pl12 => k_is)))
    (case sn_cover => k_is)
    (case sn_known => k_is)
    (case tn_turn => k_is)
    (case tn_need => k_is)
    (case tn_hands => k_is)
    (case tn_splits => k_is)
    (case tn_search => k_is)
    (case tn_leader => k_is)
    (case tn_led => k_is)
    (case tn_second => k_is)
    (case tn_third => k_is)
    (case bn_reversed => k_is)
    (case bn_len => k_is)
    (case bn_sorted => k_is)
    (case bn_tuple => k_is)
    (case bn_sum => k_is)
    (case bn_range => k_is)
    (case bn_max => k_is)
    (case bn_all => k_is)
    (case bn_set => k_is)
    (case bn_list => k_is)
    (case cn_ace => refine' On.CstAt.mk ?acn_ace; (case acn_ace => k_is))
    (case cn_mneed => refine' On.CstAt.mk ?acn_mneed; (case acn_mneed => k_is))
    (case cn_mcards => refine' On.CstAt.mk ?acn_mcards; (case acn_mcards => k_is))
    (case cn_mhand => refine' On.CstAt.mk ?acn_mhand; (case acn_mhand => k_is))
    (case cn_mours => refine' On.CstAt.mk ?acn_mours; (case acn_mours => k_is))
    (case cn_mmiss => refine' On.CstAt.mk ?acn_mmiss; (case acn_mmiss => k_is))
    (case cn_twice => refine' On.CstAt.mk ?acn_twice; (case acn_twice => k_is))
    (case cn_tours => refine' On.CstAt.mk ?acn_tours; (case acn_tours => k_is))
    (case cn_tmiss => refine' On.CstAt.mk ?acn_tmiss; (case acn_tmiss => k_is))
    (case cn_out => refine' On.CstAt.mk ?acn_out; (case acn_out => k_is))
    (case cn_notnow => refine' On.CstAt.mk ?acn_notnow; (case acn_notnow => k_is))
    (case cn_nosuch => refine' On.CstAt.mk ?acn_nosuch; (case acn_nosuch => k_is))
    (case cn_turn0 => refine' On.CstAt.mk ?acn_turn0; (case acn_turn0 => k_is))
    (case cn_turn1 => refine' On.CstAt.mk ?acn_turn1; (case acn_turn1 => k_is))
    (case cn_turn2 => refine' On.CstAt.mk ?acn_turn2; (case acn_turn2 => k_is))
    (case cn_turn3 => refine' On.CstAt.mk ?acn_turn3; (case acn_turn3 => k_is))
    (case cn_turn4 => refine' On.CstAt.mk ?acn_turn4; (case acn_turn4 => k_is))
    (case cn_msteps => refine' On.CstAt.mk ?acn_msteps; (case acn_msteps => k_is))
    (case cn_step => refine' On.CstAt.mk ?acn_step; (case acn_step => k_is))
    (case cn_jack => refine' On.CstAt.mk ?acn_jack; (case acn_jack => k_is))
    (case d_low => refine' On.DefAt.mk ?ad_low ?ld_low ?cd_low ?kd_low; (case ad_low => k_is); (case ld_low => k_is); (case cd_low => k_is); (case kd_low => k_is))
    (case d_sec => refine' On.DefAt.mk ?ad_sec ?ld_sec ?cd_sec ?kd_sec; (case ad_sec => k_is); (case ld_sec => k_is); (case cd_sec => k_is); (case kd_sec => k_is))
    (case d_las => refine' On.DefAt.mk ?ad_las ?ld_las ?cd_las ?kd_las; (case ad_las => k_is); (case ld_las => k_is); (case cd_las => k_is); (case kd_las => k_is))
    (case d_fal => refine' On.DefAt.mk ?ad_fal ?ld_fal ?cd_fal ?kd_fal; (case ad_fal => k_is); (case ld_fal => k_is); (case cd_fal => k_is); (case kd_fal => k_is))
    (case d_wo => refine' On.DefAt.mk ?ad_wo ?ld_wo ?cd_wo ?kd_wo; (case ad_wo => k_is); (case ld_wo => k_is); (case cd_wo => k_is); (case kd_wo => k_is))
    (case d_cho => refine' On.DefAt.mk ?ad_cho ?ld_cho ?cd_cho ?kd_cho; (case ad_cho => k_is); (case ld_cho => k_is); (case cd_cho => k_is); (case kd_cho => k_is))
    (case d_sha => refine' On.DefAt.mk ?ad_sha ?ld_sha ?cd_sha ?kd_sha; (case ad_sha => k_is); (case ld_sha => k_is); (case cd_sha => k_is); (case kd_sha => k_is))
    (case d_spl => refine' On.DefAt.mk ?ad_spl ?ld_spl ?cd_spl ?kd_spl; (case ad_spl => k_is); (case ld_spl => k_is); (case cd_spl => k_is); (case kd_spl => k_is))
    (case d_way => refine' On.DefAt.mk ?ad_way ?ld_way ?cd_way ?kd_way; (case ad_way => k_is); (case ld_way => k_is); (case cd_way => k_is); (case kd_way => k_is))
    (case d_by2 => refine' On.DefAt.mk ?ad_by2 ?ld_by2 ?cd_by2 ?kd_by2; (case ad_by2 => k_is); (case ld_by2 => k_is); (case cd_by2 => k_is); (case kd_by2 => k_is))
    (case d_by4 => refine' On.DefAt.mk ?ad_by4 ?ld_by4 ?cd_by4 ?kd_by4; (case ad_by4 => k_is); (case ld_by4 => k_is); (case cd_by4 => k_is); (case kd_by4 => k_is))
    (case d_aft => refine' On.DefAt.mk ?ad_aft ?ld_aft ?cd_aft ?kd_aft; (case ad_aft => k_is); (case ld_aft => k_is); (case cd_aft => k_is); (case kd_aft => k_is))
    (case d_thi => refine' On.DefAt.mk ?ad_thi ?ld_thi ?cd_thi ?kd_thi; (case ad_thi => k_is); (case ld_thi => k_is); (case cd_thi => k_is); (case kd_thi => k_is))
    (case d_won => refine' On.DefAt.mk ?ad_won ?ld_won ?cd_won ?kd_won; (case ad_won => k_is); (case ld_won => k_is); (case cd_won => k_is); (case kd_won => k_is))
    (case d_nee => refine' On.DefAt.mk ?ad_nee ?ld_nee ?cd_nee ?kd_nee; (case ad_nee => k_is); (case ld_nee => k_is); (case cd_nee => k_is); (case kd_nee => k_is))
    (case d_ste => refine' On.DefAt.mk ?ad_ste ?ld_ste ?cd_ste ?kd_ste; (case ad_ste => k_is); (case ld_ste => k_is); (case cd_ste => k_is); (case kd_ste => k_is))
    (case d_tos => refine' On.DefAt.mk ?ad_tos ?ld_tos ?cd_tos ?kd_tos; (case ad_tos => k_is); (case ld_tos => k_is); (case cd_tos => k_is); (case kd_tos => k_is))
    (case d_wop => refine' On.DefAt.mk ?ad_wop ?ld_wop ?cd_wop ?kd_wop; (case ad_wop => k_is); (case ld_wop => k_is); (case cd_wop => k_is); (case kd_wop => k_is))
    (case d_row => refine' On.DefAt.mk ?ad_row ?ld_row ?cd_row ?kd_row; (case ad_row => k_is); (case ld_row => k_is); (case cd_row => k_is); (case kd_row => k_is))
    (case d_iss => refine' On.DefAt.mk ?ad_iss ?ld_iss ?cd_iss ?kd_iss; (case ad_iss => k_is); (case ld_iss => k_is); (case cd_iss => k_is); (case kd_iss => k_is))
    (case d_isp => refine' On.DefAt.mk ?ad_isp ?ld_isp ?cd_isp ?kd_isp; (case ad_isp => k_is); (case ld_isp => k_is); (case cd_isp => k_is); (case kd_isp => k_is))
    (case d_pla => refine' On.DefAt.mk ?ad_pla ?ld_pla ?cd_pla ?kd_pla; (case ad_pla => k_is); (case ld_pla => k_is); (case cd_pla => k_is); (case kd_pla => k_is))
    (case d_ref => refine' On.DefAt.mk ?ad_ref ?ld_ref ?cd_ref ?kd_ref; (case ad_ref => k_is); (case ld_ref => k_is); (case cd_ref => k_is); (case kd_ref => k_is))
    (case d_tg => refine' On.DefAt.mk ?ad_tg ?ld_tg ?cd_tg ?kd_tg; (case ad_tg => k_is); (case ld_tg => k_is); (case cd_tg => k_is); (case kd_tg => k_is))
    (case d_th => refine' On.DefAt.mk ?ad_th ?ld_th ?cd_th ?kd_th; (case ad_th => k_is); (case ld_th => k_is); (case cd_th => k_is); (case kd_th => k_is))
    (case d_rea => refine' On.DefAt.mk ?ad_rea ?ld_rea ?cd_rea ?kd_rea; (case ad_rea => k_is); (case ld_rea => k_is); (case cd_rea => k_is); (case kd_rea => k_is))
    (case d_cal => refine' On.DefAt.mk ?ad_cal ?ld_cal ?cd_cal ?kd_cal; (case ad_cal => k_is); (case ld_cal => k_is); (case cd_cal => k_is); (case kd_cal => k_is))
    (case d_an1 => refine' On.DefAt.mk ?ad_an1 ?ld_an1 ?cd_an1 ?kd_an1; (case ad_an1 => k_is); (case ld_an1 => k_is); (case cd_an1 => k_is); (case kd_an1 => k_is))
    (case d_ans => refine' On.DefAt.mk ?ad_ans ?ld_ans ?cd_ans ?kd_ans; (case ad_ans => k_is); (case ld_ans => k_is); (case cd_ans => k_is); (case kd_ans => k_is))
    (case d_si => refine' On.MetAt.mk ?ad_si ?id_si ?ld_si ?cd_si ?kd_si; (case ad_si => k_is); (case id_si => k_is); (case ld_si => k_is); (case cd_si => k_is); (case kd_si => k_is))
    (case d_sA => refine' On.MetAt.mk ?ad_sA ?id_sA ?ld_sA ?cd_sA ?kd_sA; (case ad_sA => k_is); (case id_sA => k_is); (case ld_sA => k_is); (case cd_sA => k_is); (case kd_sA => k_is))
    (case d_sB => refine' On.MetAt.mk ?ad_sB ?id_sB ?ld_sB ?cd_sB ?kd_sB; (case ad_sB => k_is); (case id_sB => k_is); (case ld_sB => k_is); (case cd_sB => k_is); (case kd_sB => k_is))
    (case d_sL => refine' On.MetAt.mk ?ad_sL ?id_sL ?ld_sL ?cd_sL ?kd_sL; (case ad_sL => k_is); (case id_sL => k_is); (case ld_sL => k_is); (case cd_sL => k_is); (case kd_sL => k_is))
    (case d_s2 => refine' On.MetAt.mk ?ad_s2 ?id_s2 ?ld_s2 ?cd_s2 ?kd_s2; (case ad_s2 => k_is); (case id_s2 => k_is); (case ld_s2 => k_is); (case cd_s2 => k_is); (case kd_s2 => k_is))
    (case d_s3 => refine' On.MetAt.mk ?ad_s3 ?id_s3 ?ld_s3 ?cd_s3 ?kd_s3; (case ad_s3 => k_is); (case id_s3 => k_is); (case ld_s3 => k_is); (case cd_s3 => k_is); (case kd_s3 => k_is))
    (case d_ti => refine' On.MetAt.mk ?ad_ti ?id_ti ?ld_ti ?cd_ti ?kd_ti; (case ad_ti => k_is); (case id_ti => k_is); (case ld_ti => k_is); (case cd_ti => k_is); (case kd_ti => k_is))
    (case d_tSui => refine' On.MetAt.mk ?ad_tSui ?id_tSui ?ld_tSui ?cd_tSui ?kd_tSui; (case ad_tSui => k_is); (case id_tSui => k_is); (case ld_tSui => k_is); (case cd_tSui => k_is); (case kd_tSui => k_is))
    (case d_tOil => refine' On.MetAt.mk ?ad_tOil ?id_tOil ?ld_tOil ?cd_tOil ?kd_tOil; (case ad_tOil => k_is); (case id_tOil => k_is); (case ld_tOil => k_is); (case cd_tOil => k_is); (case kd_tOil => k_is))
    (case d_tOit => refine' On.MetAt.mk ?ad_tOit ?id_tOit ?ld_tOit ?cd_tOit ?kd_tOit; (case ad_tOit => k_is); (case id_tOit => k_is); (case ld_tOit => k_is); (case cd_tOit => k_is); (case kd_tOit => k_is))
    (case d_tNow => refine' On.MetAt.mk ?ad_tNow ?id_tNow ?ld_tNow ?cd_tNow ?kd_tNow; (case ad_tNow => k_is); (case id_tNow => k_is); (case ld_tNow => k_is); (case cd_tNow => k_is); (case kd_tNow => k_is))
    (case d_tGr2 => refine' On.MetAt.mk ?ad_tGr2 ?id_tGr2 ?ld_tGr2 ?cd_tGr2 ?kd_tGr2; (case ad_tGr2 => k_is); (case id_tGr2 => k_is); (case ld_tGr2 => k_is); (case cd_tGr2 => k_is); (case kd_tGr2 => k_is))
    (case d_tGr4 => refine' On.MetAt.mk ?ad_tGr4 ?id_tGr4 ?ld_tGr4 ?cd_tGr4 ?kd_tGr4; (case ad_tGr4 => k_is); (case id_tGr4 => k_is); (case ld_tGr4 => k_is); (case cd_tGr4 => k_is); (case kd_tGr4 => k_is))
    (case d_tOdd => refine' On.MetAt.mk ?ad_tOdd ?id_tOdd ?ld_tOdd ?cd_tOdd ?kd_tOdd; (case ad_tOdd => k_is); (case id_tOdd => k_is); (case ld_tOdd => k_is); (case cd_tOdd => k_is); (case kd_tOdd => k_is))
    (case d_tWay => refine' On.MetAt.mk ?ad_tWay ?id_tWay ?ld_tWay ?cd_tWay ?kd_tWay; (case ad_tWay => k_is); (case id_tWay => k_is); (case ld_tWay => k_is); (case cd_tWay => k_is); (case kd_tWay => k_is))
    (case d_tHan => refine' On.MetAt.mk ?ad_tHan ?id_tHan ?ld_tHan ?cd_tHan ?kd_tHan; (case ad_tHan => k_is); (case id_tHan => k_is); (case ld_tHan => k_is); (case cd_tHan => k_is); (case kd_tHan => k_is))
    (case d_tLds => refine' On.MetAt.mk ?ad_tLds ?id_tLds ?ld_tLds ?cd_tLds ?kd_tLds; (case ad_tLds => k_is); (case id_tLds => k_is); (case ld_tLds => k_is); (case cd_tLds => k_is); (case kd_tLds => k_is))
    (case d_tLea => refine' On.MetAt.mk ?ad_tLea ?id_tLea ?ld_tLea ?cd_tLea ?kd_tLea; (case ad_tLea => k_is); (case id_tLea => k_is); (case ld_tLea => k_is); (case cd_tLea => k_is); (case kd_tLea => k_is))
    (case d_tSes => refine' On.MetAt.mk ?ad_tSes ?id_tSes ?ld_tSes ?cd_tSes ?kd_tSes; (case ad_tSes => k_is); (case id_tSes => k_is); (case ld_tSes => k_is); (case cd_tSes => k_is); (case kd_tSes => k_is))
    (case d_tSec => refine' On.MetAt.mk ?ad_tSec ?id_tSec ?ld_tSec ?cd_tSec ?kd_tSec; (case ad_tSec => k_is); (case id_tSec => k_is); (case ld_tSec => k_is); (case cd_tSec => k_is); (case kd_tSec => k_is))
    (case d_tThs => refine' On.MetAt.mk ?ad_tThs ?id_tThs ?ld_tThs ?cd_tThs ?kd_tThs; (case ad_tThs => k_is); (case id_tThs => k_is); (case ld_tThs => k_is); (case cd_tThs => k_is); (case kd_tThs => k_is))
    (case d_tThi => refine' On.MetAt.mk ?ad_tThi ?id_tThi ?ld_tThi ?cd_tThi ?kd_tThi; (case ad_tThi => k_is); (case id_tThi => k_is); (case ld_tThi => k_is); (case cd_tThi => k_is); (case kd_tThi => k_is))
    (case d_tLas => refine' On.MetAt.mk ?ad_tLas ?id_tLas ?ld_tLas ?cd_tLas ?kd_tLas; (case ad_tLas => k_is); (case id_tLas => k_is); (case ld_tLas => k_is); (case cd_tLas => k_is); (case kd_tLas => k_is))
    (case d_tLst => refine' On.MetAt.mk ?ad_tLst ?id_tLst ?ld_tLst ?cd_tLst ?kd_tLst; (case ad_tLst => k_is); (case id_tLst => k_is); (case ld_tLst => k_is); (case cd_tLst => k_is); (case kd_tLst => k_is))
    (case d_tBli => refine' On.MetAt.mk ?ad_tBli ?id_tBli ?ld_tBli ?cd_tBli ?kd_tBli; (case ad_tBli => k_is); (case id_tBli => k_is); (case ld_tBli => k_is); (case cd_tBli => k_is); (case kd_tBli => k_is))
  case S =>
    intro K H xs a hO hwi hask hx
    cases hx with
    | cons h1 h2 =>
      cases h2
      cases h1 with
      | lst hs ha =>
        have e := L2.ints_dw a.1 _ ha
        subst e
        have q : ((Codec.inLen 0 17000 a.1 && a.1.all (Codec.inInt (-1000000000000000000) 1000000000000000000)) && true) = true := hwi
        rw [Bool.and_eq_true, Bool.and_eq_true] at q
        exact ⟨_, a.1, rfl, hs, (Codec.inNat_iff.mp q.1.1).2, hask, fun H' p hp => .lst (L2.SqL.of hp) (L2.dw_ints _)⟩
