import PyProof.Rows.All
import Wide.All
import OpenK.AllK
import Wide.FinOn
import HandS.ForMost
import HandS.Conv
import HandS.Style
import HandS.Sort
import HandS.SortRule
import HandS.SortInts
import HandS.Deep
import HandS.More
import HandS.TupSets
import HandS.TupAny
import PySem.Challenge.RW_fromwithin_k04_whole_paths
set_option Elab.async false
set_option linter.all false
set_option maxRecDepth 100000
/-! Forests grown room by room: simple ways in them are unique. -/
namespace Fw

def adj (D : List (Int × Int)) (a b : Int) : Prop := (a, b) ∈ D ∨ (b, a) ∈ D

theorem adj_symm {D : List (Int × Int)} {a b : Int} (h : adj D a b) : adj D b a := h.symm

/-- a way without a room twice -/
inductive SP (R : Int → Int → Prop) : Int → Int → List Int → Prop
  | one (a : Int) : SP R a a [a]
  | cons {a c b : Int} {p : List Int} : R a c → SP R c b p → a ∉ p → SP R a b (a :: p)

section
variable {R R' : Int → Int → Prop}
theorem SP.head {a b : Int} {p : List Int} (h : SP R a b p) : a ∈ p := by
  cases h <;> simp
theorem SP.last {a b : Int} {p : List Int} (h : SP R a b p) : b ∈ p := by
  induction h with
  | one a => simp
  | cons _ _ _ ih => exact List.mem_cons_of_mem _ ih
theorem SP.loop {a : Int} {p : List Int} (h : SP R a a p) : p = [a] := by
  cases h with
  | one => rfl
  | cons r q n => exact absurd q.last n
theorem SP.nodup {a b : Int} {p : List Int} (h : SP R a b p) : p.Nodup := by
  induction h with
  | one a => simp
  | cons _ _ n ih => exact List.nodup_cons.mpr ⟨n, ih⟩
theorem SP.snoc {a b c : Int} {p : List Int} (h : SP R a b p) (r : R b c) (n : c ∉ p) : SP R a c (p ++ [c]) := by
  induction h with
  | one a =>
    refine .cons r (.one c) ?_
    intro e
    have e : a = c := List.mem_singleton.mp e
    exact n (by rw [e]; simp)
  | cons r' q n' ih =>
    rename_i a' c' b' p'
    rw [List.mem_cons, not_or] at n
    refine .cons r' (ih r n.2) ?_
    intro e
    rcases List.mem_append.mp e with e | e
    · exact n' e
    · exact n.1 (List.mem_singleton.mp e).symm
theorem SP.map {a b : Int} {p : List Int} (h : SP R a b p) (f : ∀ x y, x ∈ p → y ∈ p → R x y → R' x y) : SP R' a b p := by
  induction h with
  | one a => exact .one a
  | cons r q n ih =>
    exact .cons (f _ _ (List.mem_cons_self ..) (List.mem_cons_of_mem _ q.head) r) (ih fun x y hx hy => f x y (List.mem_cons_of_mem _ hx) (List.mem_cons_of_mem _ hy)) n
/-- what is closed under R and holds the end holds the start, and the other way -/
theorem SP.back {S : Int → Prop} (hs : ∀ x y, R x y → S y → S x) {a b : Int} {p : List Int} (h : SP R a b p) (e : S b) : S a := by
  induction h with
  | one a => exact e
  | cons r _ _ ih => exact hs _ _ r (ih e)
theorem SP.forth {S : Int → Prop} (hs : ∀ x y, R x y → S x → S y) {a b : Int} {p : List Int} (h : SP R a b p) (e : S a) : S b := by
  induction h with
  | one a => exact e
  | cons r _ _ ih => exact ih (hs _ _ r e)
end

def Uniq (R : Int → Int → Prop) : Prop := ∀ a b p q, SP R a b p → SP R a b q → p = q

section
variable {R R' : Int → Int → Prop} {u v : Int}
/-- one more leaf v, on u -/
structure Leaf (R R' : Int → Int → Prop) (u v : Int) : Prop where
  iff : ∀ x y, R' x y ↔ (R x y ∨ (x = u ∧ y = v) ∨ (x = v ∧ y = u))
  no1 : ∀ x, ¬ R v x
  no2 : ∀ x, ¬ R x v
  ne : u ≠ v
theorem Leaf.into (L : Leaf R R' u v) {x : Int} (h : R' x v) : x = u := by
  rcases (L.iff x v).mp h with h | h | h
  · exact absurd h (L.no2 x)
  · exact h.1
  · exact absurd h.2.symm L.ne
theorem Leaf.out (L : Leaf R R' u v) {x : Int} (h : R' v x) : x = u := by
  rcases (L.iff v x).mp h with h | h | h
  · exact absurd h (L.no1 x)
  · exact absurd h.1.symm L.ne
  · exact h.2
theorem Leaf.off (L : Leaf R R' u v) {x y : Int} (hx : x ≠ v) (hy : y ≠ v) (h : R' x y) : R x y := by
  rcases (L.iff x y).mp h with h | h | h
  · exact h
  · exact absurd h.2 hy
  · exact absurd h.1 hx
theorem Leaf.avoid (L : Leaf R R' u v) {a b : Int} {p : List Int} (h : SP R' a b p) (n : v ∉ p) : SP R a b p :=
  h.map fun x y hx hy r => L.off (fun e => n (e ▸ hx)) (fun e => n (e ▸ hy)) r
theorem Leaf.free (L : Leaf R R' u v) {a b : Int} {p : List Int} (h : SP R' a b p) (ha : a ≠ v) (hb : b ≠ v) : v ∉ p := by
  induction h with
  | one a =>
    intro e
    rw [List.mem_singleton] at e
    exact ha e.symm
  | cons r q n ih =>
    rename_i a' c' b' p'
    by_cases hc : c' = v
    · subst hc
      have e := L.into r
      cases q with
      | one => exact absurd rfl hb
      | cons r2 q2 n2 =>
        rename_i c2 p2
        have e2 := L.out r2
        exact absurd (List.mem_cons_of_mem _ (e ▸ e2 ▸ q2.head)) n
    · intro e
      rw [List.mem_cons] at e
      rcases e with e | e
      · exact ha e.symm
      · exact ih hc hb e
theorem Leaf.from (L : Leaf R R' u v) {b : Int} {p : List Int} (h : SP R' v b p) (hb : b ≠ v) : ∃ p', p = v :: p' ∧ SP R u b p' := by
  cases h with
  | one => exact absurd rfl hb
  | cons r q n =>
    rename_i c p'
    have e := L.out r
    subst e
    exact ⟨p', rfl, L.avoid q n⟩
theorem Leaf.to (L : Leaf R R' u v) {a b : Int} {p : List Int} (h : SP R' a b p) : a ≠ v → b = v → ∃ p', p = p' ++ [v] ∧ SP R a u p' := by
  induction h with
  | one a =>
    intro h1 h2
    exact absurd h2 h1
  | cons r q n ih =>
    rename_i a' c' b' p'
    intro h1 h2
    by_cases hc : c' = v
    · subst hc
      subst h2
      have e := L.into r
      subst e
      have e2 := q.loop
      subst e2
      exact ⟨[a'], rfl, .one _⟩
    · obtain ⟨p2, e, q2⟩ := ih hc h2
      refine ⟨a' :: p2, by rw [e]; rfl, .cons (L.off h1 hc r) q2 ?_⟩
      intro m
      exact n (by rw [e]; exact List.mem_append_left _ m)
theorem Leaf.uniq (L : Leaf R R' u v) (U : Uniq R) : Uniq R' := by
  intro a b p q hp hq
  by_cases ha : a = v
  · subst ha
    by_cases hb : b = a
    · subst hb
      rw [hp.loop, hq.loop]
    · obtain ⟨p', e1, s1⟩ := L.from hp hb
      obtain ⟨q', e2, s2⟩ := L.from hq hb
      rw [e1, e2, U _ _ _ _ s1 s2]
  · by_cases hb : b = v
    · obtain ⟨p', e1, s1⟩ := L.to hp ha hb
      obtain ⟨q', e2, s2⟩ := L.to hq ha hb
      rw [e1, e2, U _ _ _ _ s1 s2]
    · exact U _ _ _ _ (L.avoid hp (L.free hp ha hb)) (L.avoid hq (L.free hq ha hb))
end

/-- a forest, room by room: the rooms that stand, and the doors -/
inductive Grown : List Int → List (Int × Int) → Prop
  | nil : Grown [] []
  | room {U : List Int} {E : List (Int × Int)} (v : Int) : Grown U E → v ∉ U → Grown (v :: U) E
  | door {U : List Int} {E : List (Int × Int)} (v u a b : Int) : Grown U E → v ∉ U → u ∈ U → (a = min u v ∧ b = max u v) → Grown (v :: U) ((a, b) :: E)

theorem minmax (u v a b : Int) (h : a = min u v ∧ b = max u v) : (a = u ∧ b = v ∧ u ≤ v) ∨ (a = v ∧ b = u ∧ v ≤ u) := by
  omega

theorem Grown.ends {U : List Int} {E : List (Int × Int)} (g : Grown U E) : ∀ a b, (a, b) ∈ E → a ∈ U ∧ b ∈ U ∧ a < b := by
  induction g with
  | nil => intro a b h; cases h
  | room v g n ih => intro a b h; exact ⟨List.mem_cons_of_mem _ (ih a b h).1, List.mem_cons_of_mem _ (ih a b h).2.1, (ih a b h).2.2⟩
  | door v u x y g n hu hm ih =>
    intro a b h
    have hne : u ≠ v := fun e => n (e ▸ hu)
    rw [List.mem_cons] at h
    rcases h with h | h
    · injection h with h1 h2
      subst h1 h2
      rcases minmax u v a b hm with ⟨h1, h2, h3⟩ | ⟨h1, h2, h3⟩
      · subst h1 h2
        exact ⟨List.mem_cons_of_mem _ hu, List.mem_cons_self .., by omega⟩
      · subst h1 h2
        exact ⟨List.mem_cons_self .., List.mem_cons_of_mem _ hu, by omega⟩
    · exact ⟨List.mem_cons_of_mem _ (ih a b h).1, List.mem_cons_of_mem _ (ih a b h).2.1, (ih a b h).2.2⟩

theorem Grown.nodup {U : List Int} {E : List (Int × Int)} (g : Grown U E) : E.Nodup := by
  induction g with
  | nil => exact List.nodup_nil
  | room v g n ih => exact ih
  | door v u x y g n hu hm ih =>
    refine List.nodup_cons.mpr ⟨fun h => ?_, ih⟩
    have e := g.ends x y h
    rcases minmax u v x y hm with ⟨h1, h2, _⟩ | ⟨h1, h2, _⟩
    · exact n (h2 ▸ e.2.1)
    · exact n (h1 ▸ e.1)

theorem Grown.length {U : List Int} {E : List (Int × Int)} (g : Grown U E) : E.length ≤ U.length := by
  induction g with
  | nil => exact Nat.le_refl _
  | room v g n ih => exact Nat.le_succ_of_le ih
  | door v u x y g n hu hm ih => exact Nat.succ_le_succ ih

theorem Grown.uniq {U : List Int} {E : List (Int × Int)} (g : Grown U E) : Uniq (adj E) := by
  induction g with
  | nil =>
    intro a b p q hp hq
    have k : ∀ {p : List Int}, SP (adj []) a b p → p = [a] := by
      intro p hp
      cases hp with
      | one => rfl
      | cons r _ _ => rcases r with r | r <;> cases r
    rw [k hp, k hq]
  | room v g n ih => exact ih
  | @door U E v u x y g n hu hm ih =>
    have L : Leaf (adj E) (adj ((x, y) :: E)) u v := by
      refine ⟨fun a b => ?_, fun z h => ?_, fun z h => ?_, fun e => n (e ▸ hu)⟩
      · unfold adj
        simp only [List.mem_cons, Prod.mk.injEq]
        rcases minmax u v x y hm with ⟨h1, h2, _⟩ | ⟨h1, h2, _⟩
        · subst h1 h2
          constructor
          · rintro ((h | h) | (h | h))
            · exact .inr (.inl h)
            · exact .inl (.inl h)
            · exact .inr (.inr ⟨h.2, h.1⟩)
            · exact .inl (.inr h)
          · rintro ((h | h) | h | h)
            · exact .inl (.inr h)
            · exact .inr (.inr h)
            · exact .inl (.inl h)
            · exact .inr (.inl ⟨h.2, h.1⟩)
        · subst h1 h2
          constructor
          · rintro ((h | h) | (h | h))
            · exact .inr (.inr h)
            · exact .inl (.inl h)
            · exact .inr (.inl ⟨h.2, h.1⟩)
            · exact .inl (.inr h)
          · rintro ((h | h) | h | h)
            · exact .inl (.inr h)
            · exact .inr (.inr h)
            · exact .inr (.inl ⟨h.2, h.1⟩)
            · exact .inl (.inl h)
      · rcases h with h | h
        · exact n (g.ends _ _ h).1
        · exact n (g.ends _ _ h).2.1
      · rcases h with h | h
        · exact n (g.ends _ _ h).2.1
        · exact n (g.ends _ _ h).1
    exact L.uniq ih

/-- a door stands ahead of another -/
def Dlt (a b : Int × Int) : Prop := a.1 < b.1 ∨ (a.1 = b.1 ∧ a.2 < b.2)
/-- a forest of n rooms, as an ascending list of doors -/
def Forest (n : Int) (D : List (Int × Int)) : Prop := ∃ U E, Grown U E ∧ (∀ x, x ∈ U ↔ 0 ≤ x ∧ x < n) ∧ D.Perm E ∧ U.length ≤ 8 ∧ D.Pairwise Dlt

theorem adj_perm {D E : List (Int × Int)} (h : D.Perm E) : adj D = adj E := by
  funext a b
  unfold adj
  rw [h.mem_iff, h.mem_iff]
theorem Forest.uniq {n : Int} {D : List (Int × Int)} (f : Forest n D) : Uniq (adj D) := by
  obtain ⟨U, E, g, _, p, _⟩ := f
  rw [adj_perm p]
  exact g.uniq
theorem Forest.nodup {n : Int} {D : List (Int × Int)} (f : Forest n D) : D.Nodup := by
  obtain ⟨U, E, g, _, p, _⟩ := f
  exact p.nodup_iff.mpr g.nodup
theorem Forest.up {n : Int} {D : List (Int × Int)} (f : Forest n D) : D.Pairwise Dlt := by
  obtain ⟨U, E, _, _, _, _, u⟩ := f
  exact u
theorem Forest.len {n : Int} {D : List (Int × Int)} (f : Forest n D) : D.length ≤ 8 := by
  obtain ⟨U, E, g, _, p, l, _⟩ := f
  rw [p.length_eq]
  exact Nat.le_trans g.length l
theorem Forest.ends {n : Int} {D : List (Int × Int)} (f : Forest n D) {a b : Int} (h : (a, b) ∈ D) : 0 ≤ a ∧ a < b ∧ b < n := by
  obtain ⟨U, E, g, u, p, _⟩ := f
  have e := g.ends a b (p.mem_iff.mp h)
  exact ⟨((u a).mp e.1).1, e.2.2, ((u b).mp e.2.1).2⟩
theorem Forest.adj {n : Int} {D : List (Int × Int)} (f : Forest n D) {a b : Int} (h : adj D a b) : 0 ≤ a ∧ a < n ∧ 0 ≤ b ∧ b < n := by
  rcases h with h | h
  · have e := f.ends h; omega
  · have e := f.ends h; omega

/-- the adjacent rooms, ascending -/
def nb (n : Int) (D : List (Int × Int)) (r : Int) : List Int := ((List.range n.toNat).map fun (i : Nat) => (i : Int)).filter fun o => decide ((r, o) ∈ D) || decide ((o, r) ∈ D)
theorem mem_nb {n : Int} {D : List (Int × Int)} {r o : Int} : o ∈ nb n D r ↔ (0 ≤ o ∧ o < n) ∧ adj D r o := by
  unfold nb adj
  rw [List.mem_filter, List.mem_map]
  simp only [List.mem_range, Bool.or_eq_true, decide_eq_true_eq]
  constructor
  · rintro ⟨⟨i, hi, rfl⟩, h⟩
    exact ⟨⟨by omega, by omega⟩, h⟩
  · rintro ⟨⟨h0, h1⟩, h⟩
    exact ⟨⟨o.toNat, by omega, by omega⟩, h⟩
theorem Forest.mem_nb {n : Int} {D : List (Int × Int)} (f : Forest n D) {r o : Int} : o ∈ nb n D r ↔ Fw.adj D r o := by
  rw [Fw.mem_nb]
  exact ⟨fun h => h.2, fun h => ⟨⟨(f.adj h).2.2.1, (f.adj h).2.2.2⟩, h⟩⟩
theorem range_up (n : Nat) : ((List.range n).map fun (i : Nat) => (i : Int)).Pairwise (· < ·) := by
  rw [List.pairwise_map]
  exact List.pairwise_lt_range.imp fun h => by omega
theorem nb_up (n : Int) (D : List (Int × Int)) (r : Int) : (nb n D r).Pairwise (· < ·) := (range_up _).filter _
theorem nb_len (n : Int) (D : List (Int × Int)) (r : Int) : (nb n D r).length ≤ n.toNat := by
  unfold nb
  refine Nat.le_trans (List.length_filter_le _ _) ?_
  simp

/-- two ascending lists with the same members are one -/
theorem up_ext : ∀ {xs ys : List Int}, xs.Pairwise (· < ·) → ys.Pairwise (· < ·) → (∀ x, x ∈ xs ↔ x ∈ ys) → xs = ys
  | [], [], _, _, _ => rfl
  | [], y :: ys, _, _, h => absurd ((h y).mpr (List.mem_cons_self ..)) (by simp)
  | x :: xs, [], _, _, h => absurd ((h x).mp (List.mem_cons_self ..)) (by simp)
  | x :: xs, y :: ys, hx, hy, h => by
    obtain ⟨hx1, hx2⟩ := List.pairwise_cons.mp hx
    obtain ⟨hy1, hy2⟩ := List.pairwise_cons.mp hy
    have e : x = y := by
      have h1 := (h x).mp (List.mem_cons_self ..)
      have h2 := (h y).mpr (List.mem_cons_self ..)
      rw [List.mem_cons] at h1 h2
      rcases h1 with h1 | h1
      · exact h1
      · rcases h2 with h2 | h2
        · exact h2.symm
        · have := hy1 _ h1
          have := hx1 _ h2
          omega
    subst e
    rw [up_ext hx2 hy2 fun z => ?_]
    have hz := h z
    rw [List.mem_cons, List.mem_cons] at hz
    constructor
    · intro m
      rcases hz.mp (.inr m) with e | e
      · subst e; have := hx1 _ m; omega
      · exact e
    · intro m
      rcases hz.mpr (.inr m) with e | e
      · subst e; have := hy1 _ m; omega
      · exact e
theorem up_of {xs : List Int} (h : xs.Pairwise (· ≤ ·)) (n : xs.Nodup) : xs.Pairwise (· < ·) := by
  refine (h.and n).imp ?_
  intro a b ⟨h1, h2⟩
  omega

/-- the doors from r and to r, as the law lists them -/
def outs (D : List (Int × Int)) (r : Int) : List Int := (D.filter fun d => decide (d.1 = r)).map (·.2)
def ins (D : List (Int × Int)) (r : Int) : List Int := (D.filter fun d => decide (d.2 = r)).map (·.1)
theorem mem_outs {D : List (Int × Int)} {r o : Int} : o ∈ outs D r ↔ (r, o) ∈ D := by
  unfold outs
  simp only [List.mem_map, List.mem_filter, decide_eq_true_eq]
  constructor
  · rintro ⟨⟨a, b⟩, ⟨h, rfl⟩, rfl⟩; exact h
  · intro h; exact ⟨(r, o), ⟨h, rfl⟩, rfl⟩
theorem mem_ins {D : List (Int × Int)} {r o : Int} : o ∈ ins D r ↔ (o, r) ∈ D := by
  unfold ins
  simp only [List.mem_map, List.mem_filter, decide_eq_true_eq]
  constructor
  · rintro ⟨⟨a, b⟩, ⟨h, rfl⟩, rfl⟩; exact h
  · intro h; exact ⟨(o, r), ⟨h, rfl⟩, rfl⟩
theorem nodup_map_on {α β : Type} {f : α → β} : ∀ {xs : List α}, xs.Nodup → (∀ x y, x ∈ xs → y ∈ xs → f x = f y → x = y) → (xs.map f).Nodup
  | [], _, _ => List.nodup_nil
  | x :: xs, n, h => by
    obtain ⟨n1, n2⟩ := List.nodup_cons.mp n
    rw [List.map_cons]
    refine List.nodup_cons.mpr ⟨fun m => ?_, nodup_map_on n2 fun a b ha hb => h a b (List.mem_cons_of_mem _ ha) (List.mem_cons_of_mem _ hb)⟩
    obtain ⟨y, hy, e⟩ := List.mem_map.mp m
    have := h y x (List.mem_cons_of_mem _ hy) (List.mem_cons_self ..) e
    subst this
    exact n1 hy
theorem Forest.both_nodup {n : Int} {D : List (Int × Int)} (f : Forest n D) (r : Int) : (outs D r ++ ins D r).Nodup := by
  rw [List.nodup_append]
  refine ⟨?_, ?_, ?_⟩
  · refine nodup_map_on (f.nodup.filter _) ?_
    rintro ⟨a, b⟩ ⟨c, d⟩ h1 h2 e
    have e1 := of_decide_eq_true (List.mem_filter.mp h1).2
    have e2 := of_decide_eq_true (List.mem_filter.mp h2).2
    simp only at e e1 e2
    rw [e, e1, e2]
  · refine nodup_map_on (f.nodup.filter _) ?_
    rintro ⟨a, b⟩ ⟨c, d⟩ h1 h2 e
    have e1 := of_decide_eq_true (List.mem_filter.mp h1).2
    have e2 := of_decide_eq_true (List.mem_filter.mp h2).2
    simp only at e e1 e2
    rw [e, e1, e2]
  · intro a ha b hb e
    subst e
    have h1 := f.ends (mem_outs.mp ha)
    have h2 := f.ends (mem_ins.mp hb)
    omega
theorem Forest.sorted_nb {n : Int} {D : List (Int × Int)} (f : Forest n D) {r : Int} {ys : List Int} (p : ys.Perm (outs D r ++ ins D r)) (s : ys.Pairwise (· ≤ ·)) : ys = nb n D r := by
  refine up_ext (up_of s (p.nodup_iff.mpr (f.both_nodup r))) (nb_up n D r) fun x => ?_
  rw [p.mem_iff, List.mem_append, mem_outs, mem_ins, f.mem_nb]
  exact Iff.rfl

/-- the doors to r and from r, one list behind the other, as the program lists them -/
theorem Forest.nb_eq {n : Int} {D : List (Int × Int)} (f : Forest n D) (r : Int) : ins D r ++ outs D r = nb n D r := by
  refine up_ext ?_ (nb_up n D r) fun x => ?_
  · rw [List.pairwise_append]
    refine ⟨?_, ?_, fun a ha b hb => ?_⟩
    · unfold ins
      rw [List.pairwise_map]
      refine (f.up.filter _).imp_of_mem fun {x y} hx hy h => ?_
      have e1 : x.2 = r := of_decide_eq_true (List.mem_filter.mp hx).2
      have e2 : y.2 = r := of_decide_eq_true (List.mem_filter.mp hy).2
      unfold Dlt at h
      omega
    · unfold outs
      rw [List.pairwise_map]
      refine (f.up.filter _).imp_of_mem fun {x y} hx hy h => ?_
      have e1 : x.1 = r := of_decide_eq_true (List.mem_filter.mp hx).2
      have e2 : y.1 = r := of_decide_eq_true (List.mem_filter.mp hy).2
      unfold Dlt at h
      omega
    · have h1 := f.ends (mem_ins.mp ha)
      have h2 := f.ends (mem_outs.mp hb)
      omega
  · rw [List.mem_append, mem_outs, mem_ins, f.mem_nb]
    exact or_comm
/-- how many rooms below n are not in S: it falls when one more is -/
def left (n : Nat) (S : Int → Bool) : Nat := (List.range n).countP fun (i : Nat) => !S (i : Int)
theorem countP_lt {α : Type} {p q : α → Bool} : ∀ {l : List α} {x : α}, (∀ y ∈ l, q y = true → p y = true) → x ∈ l → p x = true → q x = false → l.countP q < l.countP p
  | [], _, _, m, _, _ => by cases m
  | y :: l, x, h, m, hp, hq => by
    have hm : l.countP q ≤ l.countP p := List.countP_mono_left fun z hz => h z (List.mem_cons_of_mem _ hz)
    rw [List.countP_cons, List.countP_cons]
    rw [List.mem_cons] at m
    by_cases e : x = y
    · subst e
      rw [if_neg (by rw [hq]; exact Bool.false_ne_true), if_pos hp]
      omega
    · have ih := countP_lt (fun z hz => h z (List.mem_cons_of_mem _ hz)) (m.resolve_left e) hp hq
      have hy := h y (List.mem_cons_self ..)
      by_cases c : q y = true
      · rw [if_pos c, if_pos (hy c)]; omega
      · rw [if_neg c]; omega
theorem left_lt {n : Nat} {S S' : Int → Bool} {o : Int} (h : ∀ x, S x = true → S' x = true) (h0 : 0 ≤ o) (h1 : o < n) (hs : S o = false) (hs' : S' o = true) : left n S' < left n S := by
  refine countP_lt (x := o.toNat) (fun y _ hy => ?_) (List.mem_range.mpr (by omega)) ?_ ?_
  · cases e : S (y : Int) with
    | false => rfl
    | true => rw [h _ e] at hy; cases hy
  · rw [show ((o.toNat : Nat) : Int) = o by omega, hs]; rfl
  · rw [show ((o.toNat : Nat) : Int) = o by omega, hs']; rfl
theorem left_le (n : Nat) (S : Int → Bool) : left n S ≤ n := by
  refine Nat.le_trans List.countP_le_length ?_
  simp
end Fw
namespace Fw
open PySem PySem.Spec PyProof.Rows L2
def top (i : Nat) : Stmt := PySem.Challenge.pw_fromwithin_k04_whole_paths.main.body.getD i (.Pass ⟨0, 0, 0, 0⟩)
abbrev sNb : Stmt := top 1
abbrev sPath : Stmt := top 2
abbrev sBey : Stmt := top 3
abbrev sComp : Stmt := top 4
abbrev sSteps : Stmt := top 5
abbrev sStream : Stmt := top 7
abbrev sDraw : Stmt := top 8
abbrev sHouse : Stmt := top 9
abbrev sPH : Stmt := top 10
abbrev sMH : Stmt := top 11
abbrev sDH : Stmt := top 12
abbrev sLaw : Stmt := top 13
end Fw
namespace Fw
open PySem PySem.Spec PyProof.Rows L2
abbrev vi (ns : List Int) : List V := ns.map V.int

theorem same_upd {H : Hp} {p : Addr} {o : HO} (h : H p = none) : Same H (upd H p o) := fun b x e => by
  rw [upd_ne (ne_of_none e h)]
  exact e

/-- the stream of draws: s the list of three, A the great cells, B all cells; c bounds the count -/
structure StreamAt (H : Hp) (s A B : Addr) (c : Nat) : Prop where
  ex : ∃ (big cells : List Int) (cnt : Int), H s = some (.lst [.ref A, .ref B, .int cnt]) ∧ H A = some (.lst (vi big)) ∧ H B = some (.lst (vi cells)) ∧
    (∀ x ∈ big, 0 ≤ x) ∧ (∀ x ∈ cells, 0 ≤ x) ∧ 0 < cells.length ∧ cells.length ≤ 100 ∧ big.length ≤ 100 ∧ 0 ≤ cnt ∧ cnt ≤ c
  nAB : A ≠ B
  nsA : s ≠ A
  nsB : s ≠ B
/-- all but the stream's own lists stands as before -/
def Fr (s A : Addr) (H H' : Hp) : Prop := ∀ b o, b ≠ s → b ≠ A → H b = some o → H' b = some o
theorem Fr.trans {s A : Addr} {H H1 H2 : Hp} (a : Fr s A H H1) (b : Fr s A H1 H2) : Fr s A H H2 := fun c o h1 h2 e => b c o h1 h2 (a c o h1 h2 e)
theorem Fr.of {s A : Addr} {H H1 : Hp} (a : Same H H1) : Fr s A H H1 := fun c o _ _ e => a c o e

theorem same_put {H H1 : Hp} {p : Addr} {o : HO} (s : Same H H1) (h : H p = none) : Same H (upd H1 p o) := fun b x e => by
  rw [upd_ne (ne_of_none e h)]
  exact s _ _ e
theorem get_vi {ns : List Int} {i : Nat} {x : V} (h : (vi ns)[i]? = some x) : ∃ v, ns[i]? = some v ∧ x = .int v := by
  rw [List.getElem?_map] at h
  cases e : ns[i]? with
  | none => rw [e] at h; cases h
  | some v => rw [e] at h; exact ⟨v, rfl, (Option.some.inj h).symm⟩
theorem vi_app (a b : List Int) : vi (a ++ b) = vi a ++ vi b := List.map_append
def absI (i : Int) : Int := if i < 0 then -i else i
theorem absI_pos (i : Int) : 0 ≤ absI i := by unfold absI; split <;> omega
/-- the builtins' names are not taken -/
structure Nm (mg : Str → Option Value) : Prop where
  abs : mg "abs" = none
  len : mg "len" = none
  list : mg "list" = none
  range : mg "range" = none
  min : mg "min" = none
  max : mg "max" = none
  tuple : mg "tuple" = none
  sorted : mg "sorted" = none
  isinstance : mg "isinstance" = none
  all : mg "all" = none
  zip : mg "zip" = none
  bool : mg "bool" = none
  int : mg "int" = none
  str : mg "str" = none
  repr : mg "repr" = none

/-! ### data -/
theorem dp_ints {K : PySem.W.Frag} {H : Hp} : ∀ ns : List Int, DpAll K H (vi ns) (ns.map PyData.int)
  | [] => .nil
  | n :: ns => .cons (.int n) (dp_ints ns)
theorem lay_ints : ∀ ns : List Int, PyData.canLayAll0 (ns.map PyData.int) = true
  | [] => by simp [PyData.canLayAll0]
  | n :: ns => by
    rw [List.map_cons, PyData.canLayAll0, lay_ints ns, PyData.canLay0]
    rfl
theorem deep_ints : ∀ ns : List Int, PyData.depthAll (ns.map PyData.int) = 0
  | [] => by simp [PyData.depthAll]
  | n :: ns => by
    rw [List.map_cons, PyData.depthAll, deep_ints ns, PyData.depth]
    rfl
theorem shaped_list (ns : List Int) : SeqAt.shaped (.list (ns.map PyData.int)) = true := by
  unfold SeqAt.shaped
  rw [PyData.canLay0, lay_ints, PyData.depth, deep_ints]
  decide
theorem shaped_tup (ns : List Int) : SeqAt.shaped (.tuple (ns.map PyData.int)) = true := by
  unfold SeqAt.shaped
  rw [PyData.canLay0, lay_ints, PyData.depth, deep_ints]
  decide
theorem eqv_nil (ns : List Int) : PyData.eqv (.list (ns.map PyData.int)) (.list []) = ns.isEmpty := by
  rw [PyData.eqv]
  cases ns with
  | nil => rw [List.map_nil, PyData.eqvAll]; rfl
  | cons n ns => rw [List.map_cons, PyData.eqvAll]; rfl
theorem ix0 (n : Nat) : ixN (n + 1) 0 = some 0 := by
  unfold ixN
  rw [if_pos (by omega), if_pos (by omega)]
  rfl
theorem atI0 {α : Type} {x : α} {xs : List α} : atI (x :: xs) 0 = some x := atI_nat (j := 0) rfl
theorem atI1 {α : Type} {x y : α} {xs : List α} : atI (x :: y :: xs) 1 = some y := atI_nat (j := 1) rfl
theorem atI2 {α : Type} {x y z : α} {xs : List α} : atI (x :: y :: z :: xs) 2 = some z := atI_nat (j := 2) rfl

section
variable {P : Program} {w : World} {K : PySem.W.Frag} {mg : Str → Option Value} {base : Heap}

def spStream (K : PySem.W.Frag) : Sp := fun vs H Q _ => ∃ (a : Addr) (ns : List Int), vs = [.ref a] ∧ SqL K H a (ns.map V.int) ∧ ns.length ≤ 63 ∧
  ∀ H' s A B, Same H H' → H s = none → H A = none → StreamAt H' s A B 0 → Q (.ref s) H'

theorem scStream : FnScope ["_law_script", "_law_cells", "_law_cell"] ["_law_script"] (defScope sStream) := ⟨rfl, rfl, rfl, by decide +kernel, rfl, by decide +kernel, by decide +kernel⟩
theorem ok_stream {f : Addr} {fd : FuncData} {k : Nat} (F : Fun K "_law_stream" "_law_stream" sStream f fd) (T : Nm mg) : FnOk P w K mg base CX0 (k + 1) f fd ["_law_script"] (spStream K) := by
  refine F.ok scStream (fun vs H Q E h => ?_) (fun cdv A outer s H vs Q E hr h => ?_)
  · obtain ⟨a, ns, rfl, _⟩ := h
    rfl
  · obtain ⟨a, ns, rfl, hS, hlen, q⟩ := h
    refine ⟨_, pss_cons (ps_setLc (i := 1) (own := [("_law_cell", 2)]) (g := gName 2) (by rfl) scStream.nd rfl rfl (sw_true rfl rfl rfl (by decide +kernel)) (pi_list (pv 0))
        (blkOk_by (own := [("_law_cell", 2)]) (N := ["_law_script", "_law_cells", "_law_cell"]) (sc := defScope sStream) (by decide +kernel))
        (fun _ _ _ _ _ => pg_name (i := 2) scStream.nd rfl (Or.inl rfl)) (fun _ _ _ _ _ => pts_nil)
        (fun _ _ _ _ _ => pe_callB call_abs (by rfl) T.abs (by decide +kernel) (pa_cons (pv 2) pa_nil)))
      (pss_one (ps_ret (pe_lst (pa_cons
        (pe_lc (own := [("_law_cell", 2)]) (g := gName 2) (by rfl) scStream.nd (pi_list (pv 1))
          (blkOk_by (own := [("_law_cell", 2)]) (N := ["_law_script", "_law_cells", "_law_cell"]) (sc := defScope sStream) (by decide +kernel))
          (fun _ _ _ _ _ => pg_name (i := 2) scStream.nd rfl (Or.inl rfl)) (fun _ _ _ _ _ => pts_one (pt_cmpR op_ge (pv 2) (pe_op op_pow pe_int pe_int) (nomark _)))
          (fun _ _ _ _ _ => pv 2))
        (pa_cons (pe_op op_cat (pv 1) (pe_lst (pa_cons (pe_op op_add (pe_callB call_len_seq (by rfl) T.len PySem.boot_len (pa_cons (pv 1) pa_nil)) pe_int) pa_nil)))
        (pa_cons pe_int pa_nil)))))), ?_⟩
    refine ⟨.ref a, rfl, a, rfl, ⟨_, hS⟩, fun D hD => lc_list (K := K) (a := a) (xs := vi ns) (fun i H1 => Same H H1 ∧ H1 D = some (.lst (vi ((ns.map absI).take i))))
      ⟨same_upd hD, upd_same⟩ (fun i H1 _ h => h.1.seq hS) ?_ ?_⟩
    · rintro i x H1 hx ⟨s1, e1⟩
      obtain ⟨v, ev, rfl⟩ := get_vi hx
      refine ⟨rfl, ?_⟩
      unfold tYes
      refine iteT ?_
      refine ⟨_, rfl, v, rfl, _, e1, ?_, ?_, ?_⟩
      · rw [List.length_map, List.length_take, List.length_map]
        exact small1000 (by omega)
      · exact same_put s1 hD
      · rw [upd_same, List.take_add_one, List.getElem?_map, ev, vi_app]
        rfl
    · rintro H1 ⟨s1, e1⟩
      rw [List.length_map, ← List.length_map (f := absI), List.take_length] at e1
      refine ⟨_, rfl, D, rfl, ⟨_, SqL.of e1⟩, fun G hG => lc_list (K := K) (a := D) (xs := vi (ns.map absI)) (fun i H2 => Same H1 H2 ∧ H2 G = some (.lst (vi (((ns.map absI).take i).filter fun x => decide (10 ^ 18 ≤ x)))))
        ⟨same_upd hG, upd_same⟩ (fun i H2 _ h => h.1.seq (SqL.of e1)) ?_ ?_⟩
      · rintro i x H2 hx ⟨s2, e2⟩
        obtain ⟨v, ev, rfl⟩ := get_vi hx
        refine ⟨rfl, _, rfl, _, _, rfl, rfl, ⟨by decide, by decide, by decide⟩, _, _, rfl, rfl, _, rfl, ?_⟩
        have et : ((ns.map absI).take (i + 1)).filter (fun x => decide (10 ^ 18 ≤ x)) = ((ns.map absI).take i).filter (fun x => decide (10 ^ 18 ≤ x)) ++ (if 10 ^ 18 ≤ v then [v] else []) := by
          rw [List.take_add_one, ev, List.filter_append]
          congr 1
          by_cases c : (10 : Int) ^ 18 ≤ v
          · rw [if_pos c]
            show List.filter _ [v] = [v]
            rw [List.filter_cons_of_pos (by simpa using c)]
            rfl
          · rw [if_neg c]
            show List.filter _ [v] = []
            rw [List.filter_cons_of_neg (by simpa using c)]
            rfl
        refine ite2 (fun c => ?_) (fun c => ?_)
        · have c : (10 : Int) ^ 18 ≤ v := of_decide_eq_true c
          refine ⟨_, rfl, _, e2, ?_, same_put s2 hG, ?_⟩
          · rw [List.length_map]
            refine small1000 (Nat.le_trans (List.length_filter_le _ _) ?_)
            rw [List.length_take, List.length_map]
            omega
          · rw [upd_same, et, if_pos c, vi_app]
            rfl
        · have c : ¬ (10 : Int) ^ 18 ≤ v := fun e => c (decide_eq_true e)
          refine ⟨s2, ?_⟩
          rw [et, if_neg c, List.append_nil]
          exact e2
      · rintro H2 ⟨s2, e2⟩
        rw [List.length_map, List.take_length] at e2
        have e1' := s2 _ _ e1
        refine ⟨_, rfl, _, rfl, D, _, rfl, .inl (SqL.of e1'), _, _, rfl, rfl, by show 1 ≤ sizeLine; decide, fun O hO => ?_⟩
        have e1'' := same_upd (o := .lst [.int (((vi (ns.map absI)).length : Nat) + 3)]) hO _ _ e1'
        refine ⟨D, O, _, _, rfl, rfl, e1'', upd_same, ?_, fun B hB => ?_⟩
        · simp only [List.length_map, List.length_append, List.length_cons, List.length_nil]
          exact Nat.le_of_lt (small1000 (by omega))
        refine ⟨by show 3 ≤ sizeLine; decide, fun S hS' => ?_⟩
        have nGS : S ≠ G := fun e => by
          rw [e] at hS'
          exact absurd hS' (by rw [same_upd hB _ _ (same_upd hO _ _ e2)]; exact nofun)
        have nBS : S ≠ B := fun e => by
          rw [e, upd_same] at hS'
          cases hS'
        have nGB : G ≠ B := fun e => by
          rw [← e] at hB
          exact absurd hB (by rw [same_upd hO _ _ e2]; exact nofun)
        have sA : Same H (upd (upd H2 O (.lst [.int (((vi (ns.map absI)).length : Nat) + 3)])) B (.lst (vi (ns.map absI) ++ [.int (((vi (ns.map absI)).length : Nat) + 3)]))) := (s1.trans s2).trans ((same_upd hO).trans (same_upd hB))
        refine q _ S G B (sA.trans (same_upd hS')) (sA.free hS') (s1.free hG) ⟨⟨(ns.map absI).filter (fun x => decide (10 ^ 18 ≤ x)), ns.map absI ++ [((ns.length : Nat) : Int) + 3], 0, upd_same, ?_, ?_, ?_, ?_, ?_, ?_, ?_, Int.le_refl _, Int.le_refl _⟩, nGB, nGS, nBS⟩
        · rw [upd_ne nGS.symm, upd_ne nGB, same_upd hO _ _ e2]
        · rw [upd_ne nBS.symm, upd_same, vi_app]
          show some (HO.lst (vi (ns.map absI) ++ [V.int (((vi (ns.map absI)).length : Nat) + 3)])) = _
          rw [List.length_map, List.length_map]
          rfl
        · intro x hx
          obtain ⟨y, _, rfl⟩ := List.mem_map.mp (List.mem_filter.mp hx).1
          exact absI_pos y
        · intro x hx
          rcases List.mem_append.mp hx with hx | hx
          · obtain ⟨y, _, rfl⟩ := List.mem_map.mp hx
            exact absI_pos y
          · rw [List.mem_singleton.mp hx]
            omega
        · simp
        · simp only [List.length_map, List.length_append, List.length_cons, List.length_nil]
          omega
        · refine Nat.le_trans (List.length_filter_le _ _) ?_
          rw [List.length_map]
          omega

def spDraw : Sp := fun vs H Q _ => ∃ (s A B : Addr) (c : Nat) (m : Int), vs = [.ref s, .int m] ∧ StreamAt H s A B c ∧ c < 2 ^ 40 ∧ 0 < m ∧ m < 2 ^ 20 ∧
  ∀ H' r, StreamAt H' s A B (c + 1) → Fr s A H H' → 0 ≤ r → r < m → Q (.int r) H'

theorem scDraw : FnScope ["_law_stream_here", "_law_many", "_law_rest", "_law_turn", "_law_cell", "_law_mixed"] ["_law_stream_here", "_law_many"] (defScope sDraw) := ⟨rfl, rfl, rfl, by decide +kernel, rfl, by decide +kernel, by decide +kernel⟩
theorem ok_draw {f : Addr} {fd : FuncData} {k : Nat} (F : Fun K "_law_draw" "_law_draw" sDraw f fd) (T : Nm mg) : FnOk P w K mg base CX0 (k + 1) f fd ["_law_stream_here", "_law_many"] spDraw := by
  refine F.ok scDraw (fun vs H Q E h => ?_) (fun cdv A outer s H vs Q E hr h => ?_)
  · obtain ⟨s, A, B, c, m, rfl, _⟩ := h
    rfl
  · obtain ⟨s, A, B, c, m, rfl, hS, hc, hm0, hm1, q⟩ := h
    refine ⟨_, pss_cons (ps_while PassesOwn.never (pt_cmpR (op_neD hr.units) (pe_ix ix_list (pv 0) pe_int (fun _ _ => rfl)) (pe_lst pa_nil) (nomark _))
        (pss_cons (ps_set (i := 2) scDraw.nd rfl (.inl rfl) (pe_ix ix_list (pe_ix ix_list (pv 0) pe_int (fun _ _ => rfl)) pe_int (fun _ _ => rfl)))
        (pss_cons (ps_if (pt_cmpR op_gt (pv 2) pe_int (nomark _))
          (pss_cons (ps_asg (pe_op op_fdivN (pv 2) (pv 1)) (pg_sub (pe_ix ix_list (pv 0) pe_int (fun _ _ => rfl)) pe_int set_list))
          (pss_one (ps_ret (pe_op op_modN (pv 2) (pv 1))))) pss_nil)
        (pss_one (ps_expr (pe_bm PySem.F.plainAttrs_list PySem.F.slot_list_pop PySem.F.type_list_pop mt_popAt (pe_ix ix_list (pv 0) pe_int (fun _ _ => rfl)) (pa_cons pe_int pa_nil)))))))
      (pss_cons (ps_set (i := 3) scDraw.nd rfl (.inl rfl) (pe_op op_add (pe_ix ix_list (pv 0) pe_int (fun _ _ => rfl)) pe_int))
      (pss_cons (ps_asg (pv 3) (pg_sub (pv 0) pe_int set_list))
      (pss_cons (ps_set (i := 4) scDraw.nd rfl (.inl rfl) (pe_op op_modN (pe_ix ix_list (pe_ix ix_list (pv 0) pe_int (fun _ _ => rfl)) (pe_op op_modN (pv 3) (pe_callB call_len_seq (by rfl) T.len PySem.boot_len (pa_cons (pe_ix ix_list (pv 0) pe_int (fun _ _ => rfl)) pa_nil))) (fun _ _ => rfl)) pe_int))
      (pss_cons (ps_set (i := 5) scDraw.nd rfl (.inl rfl) (pe_op op_add (pe_op op_add (pe_op op_mul (pv 4) (pe_op op_add pe_int (pe_op op_mul pe_int (pv 3)))) (pe_op op_mul (pe_op op_mul pe_int (pv 3)) (pv 3))) pe_int))
      (pss_cons (ps_set (i := 5) scDraw.nd rfl (.inl rfl) (pe_op op_modN (pv 5) pe_int))
      (pss_one (ps_ret (pe_op op_modN (pe_op op_fdivN (pe_op op_modN (pe_op op_mul (pv 5) (pv 5)) pe_int) pe_int) (pv 1))))))))), ?_⟩
    have fm : ∀ x y : Int, 0 < y → 0 ≤ x.fmod y ∧ x.fmod y < y := fun x y hy => by
      rw [Int.fmod_eq_emod_of_nonneg x (Int.le_of_lt hy)]
      exact ⟨Int.emod_nonneg x (by omega), Int.emod_lt_of_pos x hy⟩
    refine ⟨fun n σ H' => ∃ y2, σ = [some (.ref s), some (.int m), y2, none, none, none] ∧ StreamAt H' s A B c ∧ Fr s A H H' ∧ ∃ big : List Int, H' A = some (.lst (vi big)) ∧ n = big.length, ?_, ?_⟩
    · obtain ⟨big, cells, cnt, _, h2, _⟩ := hS.ex
      exact ⟨_, none, rfl, hS, fun _ _ _ _ e => e, big, h2, rfl⟩
    rintro n σ H1 ⟨y2, rfl, hS1, fr1, big', hb', rfl⟩
    obtain ⟨big, cells, cnt, h1, h2, h3, p1, p2, l0, l1, l2, c0, c1⟩ := hS1.ex
    have eb : vi big' = vi big := by
      rw [h2] at hb'
      injection hb' with hb'
      injection hb' with hb'
      exact hb'.symm
    have el : big'.length = big.length := by
      have := congrArg List.length eb
      simpa using this
    rw [el]
    refine ⟨_, rfl, s, _, _, _, rfl, rfl, SqL.of h1, atI0, Nat.zero_le _, fun e he => ?_⟩
    have n1 : s ≠ e := ne_of_none h1 he
    have n2 : A ≠ e := ne_of_none h2 he
    have n3 : B ≠ e := ne_of_none h3 he
    have h1' : (upd H1 e (.lst [])) s = _ := (upd_ne n1).trans h1
    have h2' : (upd H1 e (.lst [])) A = _ := (upd_ne n2).trans h2
    have h3' : (upd H1 e (.lst [])) B = _ := (upd_ne n3).trans h3
    have sm : Same H1 (upd H1 e (.lst [])) := same_upd he
    refine ⟨.list (big.map .int), .list [], .lst (SqL.of h2') (dp_ints big), .lst (SqL.of upd_same) .nil, shaped_list big, shaped_list [], _, rfl, ?_⟩
    rw [eqv_nil]
    cases big with
    | nil =>
      refine iteF ?_
      -- turn = s[2] + 1; s[2] = turn
      refine ⟨_, rfl, s, _, _, _, rfl, rfl, SqL.of h1', atI2, _, _, rfl, rfl, ?_⟩
      refine ⟨_, rfl, _, rfl, s, _, _, 2, rfl, rfl, h1', rfl, ?_⟩
      have h3s : (upd (upd H1 e (.lst [])) s (.lst ([V.ref A, V.ref B, V.int cnt].set 2 (V.int (cnt + 1))))) B = _ := (upd_ne hS1.nsB.symm).trans h3'
      have h2s : (upd (upd H1 e (.lst [])) s (.lst ([V.ref A, V.ref B, V.int cnt].set 2 (V.int (cnt + 1))))) A = _ := (upd_ne hS1.nsA.symm).trans h2'
      have hS2 : StreamAt (upd (upd H1 e (.lst [])) s (.lst ([V.ref A, V.ref B, V.int cnt].set 2 (V.int (cnt + 1))))) s A B (c + 1) :=
        ⟨⟨[], cells, cnt + 1, upd_same, h2s, h3s, p1, p2, l0, l1, l2, by omega, by omega⟩, hS1.nAB, hS1.nsA, hS1.nsB⟩
      have fr2 : Fr s A H (upd (upd H1 e (.lst [])) s (.lst ([V.ref A, V.ref B, V.int cnt].set 2 (V.int (cnt + 1))))) := fun b o z1 z2 z3 => by
        rw [upd_ne z1]
        exact sm _ _ (fr1 b o z1 z2 z3)
      have h1s : (upd (upd H1 e (.lst [])) s (.lst ([V.ref A, V.ref B, V.int cnt].set 2 (V.int (cnt + 1))))) s = some (.lst [V.ref A, V.ref B, V.int (cnt + 1)]) := upd_same
      have hl : (0 : Int) < (cells.length : Nat) := by omega
      obtain ⟨g0, g1⟩ := fm (cnt + 1) ((cells.length : Nat) : Int) hl
      have hj : ((cnt + 1).fmod ((cells.length : Nat) : Int)).toNat < cells.length := by omega
      have hat : atI (vi cells) ((cnt + 1).fmod (((vi cells).length : Nat) : Int)) = some (V.int cells[((cnt + 1).fmod ((cells.length : Nat) : Int)).toNat]) := by
        rw [List.length_map]
        have := atI_nat (xs := vi cells) (j := ((cnt + 1).fmod ((cells.length : Nat) : Int)).toNat) (v := V.int cells[((cnt + 1).fmod ((cells.length : Nat) : Int)).toNat]) (by rw [List.getElem?_map, List.getElem?_eq_getElem hj]; rfl)
        rw [show ((((cnt + 1).fmod ((cells.length : Nat) : Int)).toNat : Nat) : Int) = (cnt + 1).fmod ((cells.length : Nat) : Int) by omega] at this
        exact this
      refine ⟨_, rfl, s, _, _, _, rfl, rfl, SqL.of h1s, atI1, _, rfl, _, rfl, s, _, _, _, rfl, rfl, SqL.of h1s, atI1, B, _, rfl, .inl (SqL.of h3s), _, _, rfl, rfl, by rw [List.length_map]; omega, B, _, _, _, rfl, rfl, SqL.of h3s, hat, _, _, rfl, rfl, (by show (2147483647 : Int) ≠ 0; decide), ?_⟩
      generalize cells[((cnt + 1).fmod ((cells.length : Nat) : Int)).toNat] = x
      obtain ⟨x0, x1⟩ := fm x 2147483647 (by decide)
      refine ⟨_, rfl, _, rfl, _, _, rfl, rfl, .inl ⟨by decide, by decide⟩, _, _, rfl, rfl, _, _, rfl, rfl, .inl ⟨by omega, by omega⟩, ?_⟩
      refine ⟨_, rfl, _, _, rfl, rfl, .inl ⟨by decide, by decide⟩, _, rfl, _, _, rfl, rfl, .inr ⟨by omega, by omega⟩, _, _, rfl, rfl, _, _, rfl, rfl, ?_⟩
      refine ⟨_, rfl, _, _, rfl, rfl, (by show (2147483629 : Int) ≠ 0; decide), ?_⟩
      refine ⟨_, rfl, _, rfl, _, _, rfl, rfl, .inl ?_, _, _, rfl, rfl, (by show (2147483587 : Int) ≠ 0; decide), _, _, rfl, rfl, ⟨by decide, by decide⟩, _, rfl, _, _, rfl, rfl, by omega, ?_⟩
      · generalize (x.fmod 2147483647 * _ + _ + _ : Int) = y
        obtain ⟨y0, y1⟩ := fm y 2147483629 (by decide)
        exact ⟨by omega, by omega⟩
      · exact q _ _ hS2 fr2 (fm _ m hm0).1 (fm _ m hm0).2
    | cons x r =>
      refine iteT ⟨_, fun _ _ h => h, ?_⟩
      refine ⟨_, rfl, s, _, _, _, rfl, rfl, SqL.of h1', atI0, A, _, _, _, rfl, rfl, SqL.of h2', atI0, ?_⟩
      refine ⟨_, rfl, _, _, rfl, rfl, _, rfl, ?_⟩
      have hx : 0 ≤ x := p1 x (List.mem_cons_self ..)
      have hr' : ∀ y ∈ r, 0 ≤ y := fun y hy => p1 y (List.mem_cons_of_mem _ hy)
      refine ite2 (fun cx => ?_) (fun cx => ?_)
      · refine ⟨_, rfl, _, rfl, _, _, rfl, rfl, ⟨by omega, by omega⟩, ?_⟩
        refine ⟨_, rfl, s, _, _, _, rfl, rfl, SqL.of h1', atI0, A, _, _, 0, rfl, rfl, h2', ix0 _, ?_⟩
        refine ⟨_, rfl, _, rfl, _, _, rfl, rfl, by omega, ?_⟩
        refine q _ _ ⟨⟨x.fdiv m :: r, cells, cnt, (upd_ne hS1.nsA).trans h1', upd_same, (upd_ne hS1.nAB.symm).trans h3', ?_, p2, l0, l1, l2, c0, by omega⟩, hS1.nAB, hS1.nsA, hS1.nsB⟩ ?_ (fm x m hm0).1 (fm x m hm0).2
        · intro y hy
          rcases List.mem_cons.mp hy with rfl | hy
          · rw [Int.fdiv_eq_ediv_of_nonneg x (Int.le_of_lt hm0)]
            exact Int.ediv_nonneg hx (Int.le_of_lt hm0)
          · exact hr' y hy
        · intro b o z1 z2 z3
          rw [upd_ne z2]
          exact sm _ _ (fr1 b o z1 z2 z3)
      · refine ⟨_, rfl, s, _, _, _, rfl, rfl, SqL.of h1', atI0, .inl ⟨rfl, _, SqL.of h2'⟩, A, _, _, 0, _, rfl, rfl, h2', by decide, by decide, (ixN_seq (ix0 _)).1, rfl, ?_⟩
        refine ⟨r.length, by simp, _, rfl, ⟨⟨r, cells, cnt, (upd_ne hS1.nsA).trans h1', upd_same, (upd_ne hS1.nAB.symm).trans h3', hr', p2, l0, l1, by simp at l2; omega, c0, c1⟩, hS1.nAB, hS1.nsA, hS1.nsB⟩, ?_, r, upd_same, rfl⟩
        intro b o z1 z2 z3
        rw [upd_ne z2]
        exact sm _ _ (fr1 b o z1 z2 z3)
end
end Fw
namespace Fw
open PySem PySem.Spec PyProof.Rows L2

structure Def (K : PySem.W.Frag) (mg : Str → Option Value) (x : Str) (st : Stmt) (f : Addr) (fd : FuncData) (ps : List Str) : Prop where
  F : Fun K x x st f fd
  b : Binds K fd ps []
  g : mg x = some (.ref f)

section
variable {s A B : Addr} {H H1 H2 : Hp} {c : Nat}
theorem StreamAt.ne (hS : StreamAt H s A B c) {L : Addr} (h : H L = none) : s ≠ L ∧ A ≠ L ∧ B ≠ L := by
  obtain ⟨big, cells, cnt, h1, h2, h3, _⟩ := hS.ex
  exact ⟨ne_of_none h1 h, ne_of_none h2 h, ne_of_none h3 h⟩
theorem StreamAt.put (hS : StreamAt H s A B c) {L : Addr} {o : HO} (n : s ≠ L ∧ A ≠ L ∧ B ≠ L) : StreamAt (upd H L o) s A B c := by
  obtain ⟨big, cells, cnt, h1, h2, h3, r⟩ := hS.ex
  exact ⟨⟨big, cells, cnt, (upd_ne n.1).trans h1, (upd_ne n.2.1).trans h2, (upd_ne n.2.2).trans h3, r⟩, hS.nAB, hS.nsA, hS.nsB⟩
theorem StreamAt.mono (hS : StreamAt H s A B c) {c' : Nat} (h : c ≤ c') : StreamAt H s A B c' := by
  obtain ⟨big, cells, cnt, h1, h2, h3, p1, p2, l0, l1, l2, c0, c1⟩ := hS.ex
  exact ⟨⟨big, cells, cnt, h1, h2, h3, p1, p2, l0, l1, l2, c0, by omega⟩, hS.nAB, hS.nsA, hS.nsB⟩
theorem StreamAt.same (hS : StreamAt H s A B c) (e : Same H H1) : StreamAt H1 s A B c := by
  obtain ⟨big, cells, cnt, h1, h2, h3, r⟩ := hS.ex
  exact ⟨⟨big, cells, cnt, e _ _ h1, e _ _ h2, e _ _ h3, r⟩, hS.nAB, hS.nsA, hS.nsB⟩
theorem StreamAt.tup (hS : StreamAt H s A B c) {t : Addr} {xs : List V} (h : H t = some (.tup xs)) : t ≠ s ∧ t ≠ A ∧ t ≠ B := by
  obtain ⟨big, cells, cnt, h1, h2, h3, _⟩ := hS.ex
  exact ⟨ne_of h h1 (by intro q; cases q), ne_of h h2 (by intro q; cases q), ne_of h h3 (by intro q; cases q)⟩
theorem Fr.refl : Fr s A H H := fun _ _ _ _ e => e
theorem Fr.free (f : Fr s A H H1) (hS : StreamAt H1 s A B c) {L : Addr} (h : H1 L = none) : H L = none := by
  obtain ⟨n1, n2, _⟩ := hS.ne h
  cases e : H L with
  | none => rfl
  | some o =>
    rw [f L o n1.symm n2.symm e] at h
    cases h
theorem Fr.put (f : Fr s A H H1) {L : Addr} {o : HO} (h : H L = none) : Fr s A H (upd H1 L o) := fun b u z1 z2 e => by
  rw [upd_ne (ne_of_none e h)]
  exact f b u z1 z2 e
theorem Fr.tup (f : Fr s A H H1) (hS : StreamAt H s A B c) {t : Addr} {xs : List V} (h : H t = some (.tup xs)) : H1 t = some (.tup xs) :=
  f t _ (hS.tup h).1 (hS.tup h).2.1 h
end

/-- a house, as it stands in memory -/
def HouseAt (H : Hp) (h : Addr) (n : Int) (D : List (Int × Int)) : Prop := ∃ (q : Addr) (ps : List (Addr × Int × Int)),
  H h = some (.tup [.int n, .ref q]) ∧ H q = some (.tup (ps.map fun p => V.ref p.1)) ∧ D = ps.map (·.2) ∧ ∀ p ∈ ps, H p.1 = some (.tup [.int p.2.1, .int p.2.2])
theorem HouseAt.same {H H' : Hp} {h : Addr} {n : Int} {D : List (Int × Int)} (x : HouseAt H h n D) (e : Same H H') : HouseAt H' h n D := by
  obtain ⟨q, ps, h1, h2, h3, h4⟩ := x
  exact ⟨q, ps, e _ _ h1, e _ _ h2, h3, fun p hp => e _ _ (h4 p hp)⟩
theorem HouseAt.fr {s A B : Addr} {c : Nat} {H H' : Hp} {h : Addr} {n : Int} {D : List (Int × Int)} (x : HouseAt H h n D) (hS : StreamAt H s A B c) (e : Fr s A H H') : HouseAt H' h n D := by
  obtain ⟨q, ps, h1, h2, h3, h4⟩ := x
  exact ⟨q, ps, e.tup hS h1, e.tup hS h2, h3, fun p hp => e.tup hS (h4 p hp)⟩

theorem perm_map_inv {α β : Type} {f : α → β} : ∀ {ys zs : List β}, ys.Perm zs → ∀ {ps : List α}, zs = ps.map f → ∃ ps' : List α, ps'.Perm ps ∧ ys = ps'.map f := by
  intro ys zs h
  induction h with
  | nil =>
    intro ps e
    cases ps with
    | nil => exact ⟨[], .nil, rfl⟩
    | cons p r => cases e
  | cons x _ ih =>
    intro ps e
    cases ps with
    | nil => cases e
    | cons p r =>
      rw [List.map_cons] at e
      injection e with e1 e2
      obtain ⟨ps', hp, he⟩ := ih e2
      exact ⟨p :: ps', hp.cons p, by rw [he, List.map_cons, e1]⟩
  | swap x y l =>
    intro ps e
    match ps, e with
    | p :: q :: r, e =>
      rw [List.map_cons, List.map_cons] at e
      injection e with e1 e2
      injection e2 with e2 e3
      exact ⟨q :: p :: r, List.Perm.swap p q r, by rw [List.map_cons, List.map_cons, e1, e2, e3]⟩
  | trans _ _ ih1 ih2 =>
    intro ps e
    obtain ⟨p2, h2, e2⟩ := ih2 e
    obtain ⟨p1, h1, e1⟩ := ih1 e2
    exact ⟨p1, h1.trans h2, e1⟩

theorem rg_vi (n : Int) : rgV 0 n = vi ((List.range n.toNat).map fun (i : Nat) => (i : Int)) := by
  unfold rgV vi
  rw [List.map_map, Int.sub_zero]
  refine List.map_congr_left fun i _ => ?_
  show V.int (0 + (i : Int)) = V.int (i : Int)
  rw [Int.zero_add]
def rg (n : Int) : List Int := (List.range n.toNat).map fun (i : Nat) => (i : Int)
theorem mem_rg {n x : Int} : x ∈ rg n ↔ 0 ≤ x ∧ x < n := by
  unfold rg
  rw [List.mem_map]
  constructor
  · rintro ⟨i, hi, rfl⟩
    rw [List.mem_range] at hi
    omega
  · rintro ⟨h0, h1⟩
    exact ⟨x.toNat, List.mem_range.mpr (by omega), by omega⟩
theorem rg_len (n : Int) : (rg n).length = n.toNat := by simp [rg]
theorem rg_nodup (n : Int) : (rg n).Nodup := (range_up n.toNat).imp fun h => by omega

theorem vi_erase (ns : List Int) (i : Nat) : (vi ns).eraseIdx i = vi (ns.eraseIdx i) := by
  induction ns generalizing i with
  | nil => rfl
  | cons n ns ih =>
    cases i with
    | zero => rfl
    | succ i =>
      show V.int n :: (vi ns).eraseIdx i = V.int n :: vi (ns.eraseIdx i)
      rw [ih]
theorem erase_perm : ∀ {ns : List Int} {i : Nat} (h : i < ns.length), (ns[i] :: ns.eraseIdx i).Perm ns
  | n :: ns, 0, _ => List.Perm.refl _
  | n :: ns, i + 1, h => by
    have h' : i < ns.length := by simpa using h
    show (ns[i] :: n :: ns.eraseIdx i).Perm (n :: ns)
    exact (List.Perm.swap _ _ _).trans ((erase_perm (by simpa using h)).cons n)
theorem lacks {r : Int} (h0 : 0 ≤ r) (h1 : r < 3) : ∃ lk : Int, atI [V.int 0, V.int 0, V.int 6] r = some (.int lk) ∧ (lk = 0 ∨ lk = 6) := by
  have : r = 0 ∨ r = 1 ∨ r = 2 := by omega
  rcases this with rfl | rfl | rfl
  · exact ⟨0, atI0, .inl rfl⟩
  · exact ⟨0, atI1, .inl rfl⟩
  · exact ⟨6, atI2, .inr rfl⟩
theorem pick3 {r r1 : Int} {i : Nat} (h0 : 0 ≤ r) (h1 : r < 3) (a0 : 0 ≤ r1) (a1 : r1 < 1 + (i : Int)) : ∃ ix : Int, atI [V.int (1 + (i : Int) - 1), V.int 0, V.int r1] r = some (.int ix) ∧ 0 ≤ ix ∧ ix ≤ i := by
  have : r = 0 ∨ r = 1 ∨ r = 2 := by omega
  rcases this with rfl | rfl | rfl
  · exact ⟨_, atI0, by omega, by omega⟩
  · exact ⟨_, atI1, by omega, by omega⟩
  · exact ⟨_, atI2, by omega, by omega⟩
/-- the two ints of a pair in memory -/
def twoOf (H : Hp) (x : V) : Int × Int := match x with
  | .ref t => match H t with
    | some (.tup [.int i, .int j]) => (i, j)
    | _ => (0, 0)
  | _ => (0, 0)
theorem twoOf_eq {H : Hp} {t : Addr} {d : Int × Int} (h : H t = some (.tup [.int d.1, .int d.2])) : twoOf H (.ref t) = d := by
  unfold twoOf
  simp only [h]
theorem Dlt_of {x y : Int × Int} (h : ¬ (y.1 < x.1 ∨ (y.1 = x.1 ∧ y.2 < x.2))) (n : x ≠ y) : Dlt x y := by
  unfold Dlt
  have : ¬ (x.1 = y.1 ∧ x.2 = y.2) := fun e => n (Prod.ext e.1 e.2)
  omega
/-- what stands while the doors are made -/
structure Mid (H : Hp) (s A B O R : Addr) (ord : List Int) (c : Nat) (ps : List (Addr × Int × Int)) (H' : Hp) : Prop where
  st : StreamAt H' s A B c
  frm : Fr s A H H'
  eO : H' O = some (.lst (vi ord))
  eR : H' R = some (.lst (ps.map fun p => V.ref p.1))
  eP : ∀ p ∈ ps, H' p.1 = some (.tup [.int p.2.1, .int p.2.2])
theorem Mid.fr {H H1 H2 : Hp} {s A B O R : Addr} {ord : List Int} {c c' : Nat} {ps : List (Addr × Int × Int)} (m : Mid H s A B O R ord c ps H1) (hS : StreamAt H2 s A B c') (f : Fr s A H1 H2) (zO : s ≠ O ∧ A ≠ O ∧ B ≠ O) (zR : s ≠ R ∧ A ≠ R ∧ B ≠ R) : Mid H s A B O R ord c' ps H2 :=
  ⟨hS, m.frm.trans f, f _ _ zO.1.symm zO.2.1.symm m.eO, f _ _ zR.1.symm zR.2.1.symm m.eR, fun p hp => f.tup m.st (m.eP p hp)⟩
theorem Mid.new {H H1 : Hp} {s A B O R : Addr} {ord : List Int} {c : Nat} {ps : List (Addr × Int × Int)} (m : Mid H s A B O R ord c ps H1) {N : Addr} {o : HO} (h : H1 N = none) : Mid H s A B O R ord c ps (upd H1 N o) :=
  ⟨m.st.same (same_upd h), m.frm.put (m.frm.free m.st h), same_upd h _ _ m.eO, same_upd h _ _ m.eR, fun p hp => same_upd h _ _ (m.eP p hp)⟩
theorem if_by {t : TT} {tb te : TS} {D : Ends} {σ : L2.St} {H : Hp} (Good : Bool → Hp → Prop) (hb : ∀ H', Good true H' → tb D σ H') (he : ∀ H', Good false H' → te D σ H')
    (h : ∀ Q : Bool → Hp → Prop, (∀ b H', Good b H' → Q b H') → t σ H Q) : tIfS t tb te D σ H := h _ fun b H' g => by
  cases b with
  | true => exact iteT (hb _ g)
  | false => exact iteF (he _ g)
section
variable {P : Program} {w : World} {K : PySem.W.Frag} {mg : Str → Option Value} {base : Heap}
def spHouse : Sp := fun vs H Q _ => ∃ (s A B : Addr) (c : Nat) (least most : Int), vs = [.ref s, .int least, .int most] ∧ StreamAt H s A B c ∧ c < 2 ^ 30 ∧ 1 ≤ least ∧ least ≤ most ∧ most ≤ 8 ∧
  ∀ H' h n D, StreamAt H' s A B (c + 40) → Fr s A H H' → HouseAt H' h n D → Forest n D → least ≤ n → n ≤ most → Q (.ref h) H'

abbrev nHouse : List Str := ["_law_stream_here", "_law_least", "_law_most", "_law_rooms", "_law_left", "_law_order", "_law_doors", "_law_lacks", "_law_k", "_law_on"]
theorem scHouse : FnScope nHouse ["_law_stream_here", "_law_least", "_law_most"] (defScope sHouse) := ⟨rfl, rfl, rfl, by decide +kernel, rfl, by decide +kernel, by decide +kernel⟩
theorem ok_house {f fD : Addr} {fd fdD : FuncData} (F : Fun K "_law_house" "_law_house" sHouse f fd) (T : Nm mg) (D : Def K mg "_law_draw" sDraw fD fdD ["_law_stream_here", "_law_many"]) : FnOk P w K mg base CX0 2 f fd ["_law_stream_here", "_law_least", "_law_most"] spHouse := by
  have GD : FnOk P w K mg base CX0 1 fD fdD ["_law_stream_here", "_law_many"] spDraw := ok_draw D.F T
  refine F.ok scHouse (fun vs H Q E h => ?_) (fun cdv A outer s H vs Q E hr h => ?_)
  · obtain ⟨s, A, B, c, least, most, rfl, _⟩ := h
    rfl
  · obtain ⟨s, A, B, c, least, most, rfl, hS, hc, hl1, hl2, hl3, q⟩ := h
    refine ⟨_, pss_cons (ps_set (i := 3) scHouse.nd rfl (.inl rfl) (pe_op op_add (pv 1) (pe_call GD hr (by rfl) D.g D.F.kp D.b .nil pass0 (pa_cons (pv 0) (pa_cons (pe_op op_add (pe_op op_sub (pv 2) (pv 1)) pe_int) pa_nil)))))
      (pss_cons (ps_par3 (i := 4) (j := 5) (l := 6) (by rfl) scHouse.nd rfl rfl rfl (by decide) (by decide) (by decide) rfl rfl rfl (pa_cons (pe_listRg (by rfl) (by rfl) T.list (prg_1 (by rfl) T.range (pv 3))) (pa_cons (pe_lst pa_nil) (pa_cons (pe_lst pa_nil) pa_nil))) (by rfl))
      (pss_cons (ps_while PassesOwn.never (pt_cmpR (op_neD hr.units) (pv 4) (pe_lst pa_nil) (nomark _))
        (pss_one (ps_expr (pe_bm PySem.F.plainAttrs_list PySem.F.slot_list_append PySem.F.type_list_append mt_append (pv 5) (pa_cons
          (pe_bm PySem.F.plainAttrs_list PySem.F.slot_list_pop PySem.F.type_list_pop mt_popAt (pv 4) (pa_cons
            (pe_call GD hr (by rfl) D.g D.F.kp D.b .nil pass0 (pa_cons (pv 0) (pa_cons (pe_callB call_len_seq (by rfl) T.len PySem.boot_len (pa_cons (pv 4) pa_nil)) pa_nil))) pa_nil)) pa_nil)))))
      (pss_cons (ps_set (i := 7) scHouse.nd rfl (.inl rfl) (pe_ix ix_list (pe_lst (pa_cons pe_int (pa_cons pe_int (pa_cons pe_int pa_nil)))) (pe_call GD hr (by rfl) D.g D.F.kp D.b .nil pass0 (pa_cons (pv 0) (pa_cons pe_int pa_nil))) (fun _ _ => rfl)))
      (pss_cons (ps_for PassesOwn.never rfl (pi_range2 (by rfl) T.range (pa_cons pe_int (pa_cons (pv 3) pa_nil))) (pg_name (i := 8) scHouse.nd rfl (Or.inl rfl))
        (pss_cons (ps_set (i := 9) scHouse.nd rfl (.inl rfl) (pe_ix ix_list (pv 5) (pe_ix ix_list (pe_lst (pa_cons (pe_op op_sub (pv 8) pe_int) (pa_cons pe_int (pa_cons (pe_call GD hr (by rfl) D.g D.F.kp D.b .nil pass0 (pa_cons (pv 0) (pa_cons (pv 8) pa_nil))) pa_nil))))
            (pe_call GD hr (by rfl) D.g D.F.kp D.b .nil pass0 (pa_cons (pv 0) (pa_cons pe_int pa_nil))) (fun _ _ => rfl)) (fun _ _ => rfl)))
        (pss_one (ps_if (PW.pt (pw_or (pt_cmpR op_eq (pv 7) pe_int (nomark _)) (pw_or1 (pt_cmpR op_gt (pe_call GD hr (by rfl) D.g D.F.kp D.b .nil pass0 (pa_cons (pv 0) (pa_cons (pv 7) pa_nil))) pe_int (nomark _)))))
          (pss_one (ps_expr (pe_bm PySem.F.plainAttrs_list PySem.F.slot_list_append PySem.F.type_list_append mt_append (pv 6) (pa_cons (pe_tup
            (pa_cons (pe_callB (call_min2 rfl) (by rfl) T.min (by decide +kernel) (pa_cons (pv 9) (pa_cons (pe_ix ix_list (pv 5) (pv 8) (fun _ _ => rfl)) pa_nil)))
            (pa_cons (pe_callB (call_max2 rfl) (by rfl) T.max (by decide +kernel) (pa_cons (pv 9) (pa_cons (pe_ix ix_list (pv 5) (pv 8) (fun _ _ => rfl)) pa_nil))) pa_nil))) pa_nil))))
          pss_nil))))
      (pss_one (ps_ret (pe_tup (pa_cons (pv 3) (pa_cons (pe_callTy call_tuple_of (by rfl) T.tuple (by decide +kernel) (pa_cons (pe_callB cr_sortedPO (by rfl) T.sorted (by decide +kernel) (pa_cons (pv 6) pa_nil)) pa_nil)) pa_nil))))))))), ?_⟩
    refine ⟨_, rfl, _, rfl, _, rfl, _, rfl, _, _, rfl, rfl, _, _, rfl, rfl, s, A, B, c, _, rfl, hS, by omega, by omega, by omega, fun H1 r hS1 fr1 r0 r1 => ⟨_, _, rfl, rfl, ?_⟩⟩
    show gName 3 (V.int (least + r)) _ _ _
    generalize hn : least + r = n
    have n0 : 1 ≤ n := by omega
    have n1 : n ≤ 8 := by omega
    have n2 : least ≤ n := by omega
    have n3 : n ≤ most := by omega
    clear hn r0 r1
    refine ⟨_, rfl, _, rfl, RgOk.of_le (by omega) (by omega) (by omega) (by omega), fun L hL => ⟨Nat.zero_le _, fun O hO => ⟨Nat.zero_le _, fun R hR => ⟨_, _, _, rfl, ?_⟩⟩⟩⟩
    rw [rg_vi] at hR hO ⊢
    rw [show ((List.range n.toNat).map fun (i : Nat) => (i : Int)) = rg n from rfl] at hR hO ⊢
    have nLO : O ≠ L := fun e => by rw [e, upd_same] at hO; cases hO
    have hO1 : H1 O = none := by rw [upd_ne nLO] at hO; exact hO
    have nOR : R ≠ O := fun e => by rw [e, upd_same] at hR; cases hR
    have nLR : R ≠ L := fun e => by rw [e, upd_ne nLO.symm, upd_same] at hR; cases hR
    have hR1 : H1 R = none := by rw [upd_ne nOR, upd_ne nLR] at hR; exact hR
    have zL := hS1.ne hL
    have zO := hS1.ne hO1
    have zR := hS1.ne hR1
    have gL := fr1.free hS1 hL
    have gO := fr1.free hS1 hO1
    have gR := fr1.free hS1 hR1
    have hS2 : StreamAt (upd (upd (upd H1 L (.lst (vi (rg n)))) O (.lst [])) R (.lst [])) s A B (c + 1) := ((hS1.put zL).put zO).put zR
    have fr2 : Fr s A H (upd (upd (upd H1 L (.lst (vi (rg n)))) O (.lst [])) R (.lst [])) := ((fr1.put gL).put gO).put gR
    -- while left != []: order.append(left.pop(draw(s, len(left))))
    refine ⟨fun m σ H' => ∃ (lft ord : List Int) (c' : Nat), σ = [some (.ref s), some (.int least), some (.int most), some (.int n), some (.ref L), some (.ref O), some (.ref R), none, none, none] ∧ StreamAt H' s A B c' ∧ c' + lft.length ≤ c + 1 + n.toNat ∧
        Fr s A H H' ∧ H' L = some (.lst (vi lft)) ∧ H' O = some (.lst (vi ord)) ∧ H' R = some (.lst []) ∧ (ord ++ lft).Perm (rg n) ∧ m = lft.length,
      ⟨_, rg n, [], c + 1, rfl, hS2, by rw [rg_len]; omega, fr2, ?_, ?_, upd_same, List.Perm.refl _, rfl⟩, ?_⟩
    · rw [upd_ne nLR.symm, upd_ne nLO.symm, upd_same]
    · rw [upd_ne nOR.symm, upd_same]
      rfl
    clear hS2 fr2 hR hO
    rintro m σ H2 ⟨lft, ord, c2, rfl, hS2, hc2, fr2, eL, eO, eR, pm, rfl⟩
    have plen : ord.length + lft.length = n.toNat := by
      have := pm.length_eq
      rw [List.length_append, rg_len] at this
      exact this
    refine ⟨_, rfl, Nat.zero_le _, fun e he => ?_⟩
    have sm : Same H2 (upd H2 e (.lst [])) := same_upd he
    have hS3 := hS2.same sm
    have fr3 := fr2.put (o := .lst []) (fr2.free hS2 he)
    have eL3 := sm _ _ eL
    have eO3 := sm _ _ eO
    have eR3 := sm _ _ eR
    refine ⟨.list (lft.map .int), .list [], .lst (SqL.of eL3) (dp_ints lft), .lst (SqL.of upd_same) .nil, shaped_list lft, shaped_list [], _, rfl, ?_⟩
    clear eL eO eR hS2 fr2
    generalize upd H2 e (.lst []) = H3 at *
    clear sm he
    rw [eqv_nil]
    cases lft with
    | cons x0 lft0 =>
      generalize hlf : x0 :: lft0 = lft at *
      have lpos : 0 < lft.length := by rw [← hlf]; simp
      have lem : lft.isEmpty = false := by rw [← hlf]; rfl
      rw [lem]
      clear lem hlf
      refine iteT ⟨_, fun _ _ h => h, ?_⟩
      refine ⟨_, rfl, .inl ⟨rfl, _, SqL.of eO3⟩, _, rfl, .inl ⟨rfl, _, SqL.of eL3⟩, _, rfl, _, rfl, L, _, rfl, .inl (SqL.of eL3), s, A, B, c2, _, rfl, hS3, by omega, ?_, ?_, fun H4 r hS4 fr4 r0 r1 => ?_⟩
      · rw [List.length_map]; omega
      · rw [List.length_map]; omega
      rw [List.length_map] at r1
      have eL4 := fr4 _ _ zL.1.symm zL.2.1.symm eL3
      have eO4 := fr4 _ _ zO.1.symm zO.2.1.symm eO3
      have eR4 := fr4 _ _ zR.1.symm zR.2.1.symm eR3
      have hj : r.toNat < lft.length := by omega
      have ixr : ixN (vi lft).length r = some r.toNat := by
        unfold ixN
        rw [List.length_map, if_pos r0, if_pos r1]
      have gx : (vi lft)[r.toNat]? = some (V.int lft[r.toNat]) := by
        rw [List.getElem?_map, List.getElem?_eq_getElem hj]
        rfl
      refine ⟨L, _, r, r.toNat, _, rfl, rfl, eL4, by omega, by omega, (ixN_seq ixr).1, gx, ?_⟩
      have eO5 : (upd H4 L (.lst ((vi lft).eraseIdx r.toNat))) O = some (.lst (vi ord)) := (upd_ne nLO).trans eO4
      refine ⟨O, _, _, rfl, rfl, eO5, ?_, ?_⟩
      · rw [List.length_map]
        exact small1000 (by omega)
      have el : (lft.eraseIdx r.toNat).length = lft.length - 1 := by
        rw [List.length_eraseIdx, if_pos hj]
      refine ⟨(lft.eraseIdx r.toNat).length, by omega, lft.eraseIdx r.toNat, ord ++ [lft[r.toNat]], c2 + 1, rfl, ((hS4.put zL).put zO), by omega, ((fr3.trans fr4).put gL).put gO, ?_, ?_, ?_, ?_, rfl⟩
      · rw [upd_ne nLO.symm, upd_same, vi_erase]
      · rw [upd_same, vi_app]
        rfl
      · rw [upd_ne nOR, upd_ne nLR]
        exact eR4
      · refine List.Perm.trans ?_ pm
        rw [List.append_assoc]
        refine List.Perm.append_left ord ?_
        exact erase_perm hj
    | nil =>
      refine iteF ?_
      rw [List.append_nil] at pm
      clear eL3 zL gL hL nLO nLR hS1 fr1 hO1 hR1
      simp only [List.length_nil, Nat.add_zero] at hc2 plen
      have zO3 := zO
      -- lacks = [0, 0, 6][draw(s, 3)]
      refine ⟨by show 3 ≤ sizeLine; decide, fun M hM => ?_⟩
      have sm : Same H3 (upd H3 M (.lst [.int 0, .int 0, .int 6])) := same_upd hM
      refine ⟨_, rfl, s, A, B, c2, 3, rfl, hS3.same sm, by omega, by decide, by decide, fun H4 r hS4 fr4 r0 r1 => ?_⟩
      have zM := hS3.ne hM
      have eM4 := fr4 M _ zM.1.symm zM.2.1.symm upd_same
      have eO4 := fr4 _ _ zO.1.symm zO.2.1.symm (sm _ _ eO3)
      have eR4 := fr4 _ _ zR.1.symm zR.2.1.symm (sm _ _ eR3)
      have fr4' : Fr s A H H4 := (fr3.put (fr3.free hS3 hM)).trans fr4
      obtain ⟨lk, elk, hlk⟩ := lacks r0 r1
      refine ⟨M, _, _, _, rfl, rfl, SqL.of eM4, elk, ?_⟩
      clear eM4 fr4 sm hM zM elk eO3 eR3 fr3 hS3
      -- for k in range(1, rooms)
      refine ⟨_, rfl, 1, n, rfl, ⟨by decide, by decide, by omega, by omega⟩, for_range (lo := 1) (n := (n - 1).toNat) (fun i σ H' => ∃ (cc : Nat) (y8 y9 : Option V) (ps : List (Addr × Int × Int)),
        σ = [some (.ref s), some (.int least), some (.int most), some (.int n), some (.ref L), some (.ref O), some (.ref R), some (.int lk), y8, y9] ∧ cc ≤ c2 + 1 + 3 * i ∧ Mid H s A B O R ord cc ps H' ∧
        ps.length ≤ i ∧ ∃ U E, Grown U E ∧ (∀ x, x ∈ U ↔ x ∈ ord.take (i + 1)) ∧ (ps.map (·.2)).Perm E ∧ U.length = i + 1) ⟨c2 + 1, none, none, [], rfl, by omega, ⟨hS4, fr4', eO4, eR4, fun p hp => nomatch hp⟩, Nat.le_refl _, ?_⟩ ?_ ?_⟩
      · have h0 : 0 < ord.length := by omega
        refine ⟨[ord[0]], [], .room _ .nil (by simp), fun x => ?_, .nil, rfl⟩
        rw [List.take_add_one, List.getElem?_eq_getElem h0]
        simp
      · rintro i σ H5 hi ⟨cc, y8, y9, ps, rfl, hcc, M5, hps, U, E, g, hU, pE, lU⟩
        have hi1 : i + 1 < ord.length := by omega
        refine ⟨_, rfl, _, rfl, _, _, rfl, rfl, _, rfl, _, rfl, s, A, B, cc, _, rfl, M5.st, by omega, by omega, by omega, fun H6 r1 hS6 fr6 r10 r11 => ?_⟩
        have M6 := M5.fr hS6 fr6 zO zR
        refine ⟨by show 3 ≤ sizeLine; decide, fun N hN => ?_⟩
        have M7 := M6.new (o := .lst [.int (1 + (i : Int) - 1), .int 0, .int r1]) hN
        refine ⟨_, rfl, s, A, B, cc + 1, 3, rfl, M7.st, by omega, by decide, by decide, fun H8 r2 hS8 fr8 r20 r21 => ?_⟩
        have M8 := M7.fr hS8 fr8 zO zR
        have zN := M6.st.ne hN
        have eN8 := fr8 N _ zN.1.symm zN.2.1.symm upd_same
        obtain ⟨ix, eix, hix0, hix1⟩ := pick3 (i := i) r20 r21 r10 r11
        have hixl : ix.toNat < ord.length := by omega
        have eon : atI (vi ord) ix = some (V.int ord[ix.toNat]) := by
          have := atI_nat (xs := vi ord) (j := ix.toNat) (v := V.int ord[ix.toNat]) (by rw [List.getElem?_map, List.getElem?_eq_getElem hixl]; rfl)
          rw [show ((ix.toNat : Nat) : Int) = ix by omega] at this
          exact this
        have ekk : atI (vi ord) (1 + (i : Int)) = some (V.int ord[i + 1]) := by
          have := atI_nat (xs := vi ord) (j := i + 1) (v := V.int ord[i + 1]) (by rw [List.getElem?_map, List.getElem?_eq_getElem hi1]; rfl)
          rw [show ((i + 1 : Nat) : Int) = 1 + (i : Int) by omega] at this
          exact this
        refine ⟨N, _, _, _, rfl, rfl, SqL.of eN8, eix, O, _, _, _, rfl, rfl, SqL.of M8.eO, eon, ?_⟩
        clear eN8 fr8 zN hN M7 M6 fr6 eix
        have nd : ord.Nodup := pm.nodup_iff.mpr (rg_nodup n)
        have nv : ord[i + 1] ∉ U := fun m => by
          obtain ⟨j, hj, e⟩ := List.mem_take_iff_getElem.mp ((hU _).mp m)
          exact (List.pairwise_iff_getElem.mp nd) j (i + 1) (by omega) hi1 (by omega) e
        have mu : ord[ix.toNat] ∈ U := (hU _).mpr (List.mem_take_iff_getElem.mpr ⟨ix.toNat, by omega, rfl⟩)
        have hU' : ∀ x, x ∈ (ord[i + 1] :: U) ↔ x ∈ ord.take (i + 1 + 1) := fun x => by
          rw [List.take_add_one (i := i + 1), List.getElem?_eq_getElem hi1, List.mem_append, List.mem_cons, hU]
          simp [or_comm]
        dsimp only [gName]
        refine if_by (fun _ H' => ∃ c9, c9 ≤ cc + 3 ∧ Mid H s A B O R ord c9 ps H') ?_ ?_ ?_
        · rintro H9 ⟨c9, hc9, M9⟩
          refine ⟨_, rfl, .inl ⟨rfl, _, SqL.of M9.eR⟩, _, rfl, _, rfl, _, rfl, O, _, _, _, rfl, rfl, SqL.of M9.eO, ekk, _, _, rfl, _, rfl, _, rfl, _, rfl, O, _, _, _, rfl, rfl, SqL.of M9.eO, ekk, _, _, rfl, by show 2 ≤ sizeLine; decide, fun t ht => ?_⟩
          generalize hu : ord[ix.toNat] = u at *
          generalize hv : ord[i + 1] = v at *
          have M10 := M9.new (o := .tup [.int (if v < u then v else u), .int (if v > u then v else u)]) ht
          refine ⟨R, _, _, rfl, rfl, M10.eR, ?_, ?_⟩
          · rw [List.length_map]
            exact small1000 (by omega)
          refine ⟨c9, _, _, ps ++ [(t, if v < u then v else u, if v > u then v else u)], rfl, by omega, ⟨M10.st.put zR, M10.frm.put gR, ?_, ?_, ?_⟩, ?_, v :: U, _, .door v u (if v < u then v else u) (if v > u then v else u) g nv mu ?_, hU', ?_, ?_⟩
          · rw [upd_ne nOR.symm]
            exact M10.eO
          · rw [upd_same, List.map_append]
            rfl
          · intro p hp
            rcases List.mem_append.mp hp with hp | hp
            · have h1 := M10.eP p hp
              rw [upd_ne (ne_of h1 M10.eR (by intro q; cases q))]
              exact h1
            · rw [List.mem_singleton.mp hp]
              have h1 : (upd H9 t (.tup [.int (if v < u then v else u), .int (if v > u then v else u)])) t = some (.tup [.int (if v < u then v else u), .int (if v > u then v else u)]) := upd_same
              rw [upd_ne (ne_of h1 M10.eR (by intro q; cases q))]
              exact h1
          · rw [List.length_append, List.length_singleton]
            omega
          · constructor
            · split <;> omega
            · split <;> omega
          · rw [List.map_append]
            exact (List.perm_append_comm).trans (pE.cons _)
          · rw [List.length_cons, lU]
        · rintro H9 ⟨c9, hc9, M9⟩
          exact ⟨c9, _, _, ps, rfl, by omega, M9, by omega, _, _, .room _ g nv, hU', pE, by rw [List.length_cons, lU]⟩
        · intro QQ hQ
          refine ⟨_, rfl, rfl, _, rfl, ?_⟩
          refine ite2 (fun _ => ?_) (fun hz => ?_)
          · exact hQ _ _ ⟨cc + 2, by omega, M8⟩
          · have hlk6 : lk = 6 := by
              rcases hlk with e | e
              · subst e
                exact absurd (decide_eq_true rfl) hz
              · exact e
            subst hlk6
            refine ⟨_, rfl, _, rfl, s, A, B, cc + 2, 6, rfl, M8.st, by omega, by decide, by decide, fun H9 r3 hS9 fr9 _ _ => ?_⟩
            exact ⟨_, _, rfl, rfl, _, rfl, hQ _ _ ⟨cc + 3, by omega, M8.fr hS9 fr9 zO zR⟩⟩
      · rintro σ H5 ⟨cc, y8, y9, ps, rfl, hcc, M5, hps, U, E, g, hU, pE, lU⟩
        have kz : ∀ z ∈ ps, twoOf H5 (.ref z.1) = z.2 := fun z hz => twoOf_eq (M5.eP z hz)
        refine ⟨_, rfl, _, rfl, R, _, twoOf H5, rfl, SqL.of M5.eR, ?_, fun ys p hsrt hstb hp => ?_⟩
        · intro x hx
          obtain ⟨z, hz, rfl⟩ := List.mem_map.mp hx
          refine ⟨z.1, rfl, ?_⟩
          rw [kz z hz]
          exact M5.eP z hz
        obtain ⟨ps', pp, rfl⟩ := perm_map_inv hstb.perm rfl
        have upD : (ps'.map (·.2)).Pairwise Dlt := by
          have nd : (ps'.map (·.2)).Nodup := ((pp.map _).trans pE).nodup_iff.mpr g.nodup
          rw [List.nodup_iff_pairwise_ne, List.pairwise_map] at nd
          rw [List.pairwise_map]
          have hs : ps'.Pairwise fun x y => ltP (twoOf H5) (.ref y.1) (.ref x.1) = false := List.pairwise_map.mp hsrt
          refine (hs.and nd).imp_of_mem fun {x y} hx hy h => ?_
          have h1 : SrtO.lexB y.2 x.2 = false := by
            have := h.1
            unfold ltP at this
            rw [kz x (pp.mem_iff.mp hx), kz y (pp.mem_iff.mp hy)] at this
            exact this
          exact Dlt_of (SrtO.lexB_no.mp h1) h.2
        have M6 := M5.new (o := .lst (ps'.map fun p => V.ref p.1)) hp
        refine ⟨p, _, rfl, .inl ⟨SqL.of upd_same, fun d hd => ?_⟩⟩
        have M7 := M6.new (o := .tup (ps'.map fun p => V.ref p.1)) hd
        refine ⟨by show 2 ≤ sizeLine; decide, fun h hh => ?_⟩
        have M8 := M7.new (o := .tup [.int n, .ref d]) hh
        have tk : ord.take ((n - 1).toNat + 1) = ord := List.take_of_length_le (by omega)
        refine q _ h n (ps'.map (·.2)) (M8.st.mono (by omega)) M8.frm ⟨d, ps', upd_same, ?_, rfl, fun z hz => M8.eP z (pp.mem_iff.mp hz)⟩ ⟨U, E, g, fun x => ?_, (pp.map _).trans pE, by omega, upD⟩ n2 n3
        · rw [upd_ne (fun e => ?_), upd_same]
          rw [← e, upd_same] at hh
          cases hh
        · rw [hU, tk, pm.mem_iff, mem_rg]
end
end Fw
namespace Fw
open PySem PySem.Spec PyProof.Rows L2

/-! ### x in a tuple, by data -/
def rInT (K : PySem.W.Frag) : R2 := fun x y H Q => ∃ d ds, Dp K H x d ∧ Dp K H y (.tuple ds) ∧ SeqAt.shaped d = true ∧ SeqAt.shaped (.tuple ds) = true ∧ Q (.bl (ds.any fun z => PyData.eqv z d)) H
theorem op_inT {X : Cx} (hu : X.A.units + 65 < cLine) : OpR X (compareOp .In) (rInT X.K) := by
  intro pins s σ H x y v u Q I rx ry h
  obtain ⟨d, ds, hd, he, sd, se, q⟩ := h
  obtain ⟨as, r1⟩ := Dp.reads I d x v hd rx
  obtain ⟨bs, r2⟩ := Dp.reads I (.tuple ds) y u he ry
  exact SeqAt.in_tuple_reads r2 r1 (SeqAt.canLay_of_shaped se) (SeqAt.canLay_of_shaped sd) (room_in_shaped sd hu) ⟨.bl _, H, I, rfl, q⟩
theorem units65 {k : Nat} {A : Around} (r : Room k A) : A.units + 65 < cLine := by have := r.un; omega

/-- a door as data -/
def pd (d : Int × Int) : PyData := .tuple [.int d.1, .int d.2]
theorem pd_lay : ∀ D : List (Int × Int), PyData.canLayAll0 (D.map pd) = true
  | [] => by simp [PyData.canLayAll0]
  | d :: D => by
    rw [List.map_cons, PyData.canLayAll0, pd_lay D]
    simp [pd, PyData.canLay0, PyData.canLayAll0]
theorem pd_deep : ∀ D : List (Int × Int), PyData.depthAll (D.map pd) ≤ 1
  | [] => by simp [PyData.depthAll]
  | d :: D => by
    rw [List.map_cons, PyData.depthAll]
    have := pd_deep D
    simp [pd, PyData.depth, PyData.depthAll]
    omega
theorem pd_shaped (d : Int × Int) : SeqAt.shaped (pd d) = true := shaped_tup [d.1, d.2]
theorem pds_shaped (D : List (Int × Int)) : SeqAt.shaped (.tuple (D.map pd)) = true := by
  unfold SeqAt.shaped
  rw [PyData.canLay0, pd_lay, PyData.depth]
  have := pd_deep D
  simp
  omega
theorem pd_eqv (a b : Int × Int) : PyData.eqv (pd a) (pd b) = decide (a = b) := by
  obtain ⟨a1, a2⟩ := a
  obtain ⟨b1, b2⟩ := b
  simp only [pd, PyData.eqv, PyData.eqvAll, Bool.and_true]
  rw [Bool.eq_iff_iff]
  simp
theorem any_pd (D : List (Int × Int)) (d : Int × Int) : ((D.map pd).any fun z => PyData.eqv z (pd d)) = decide (d ∈ D) := by
  rw [Bool.eq_iff_iff, List.any_eq_true, decide_eq_true_eq]
  constructor
  · rintro ⟨z, hz, e⟩
    obtain ⟨y, hy, rfl⟩ := List.mem_map.mp hz
    rw [pd_eqv, decide_eq_true_eq] at e
    exact e ▸ hy
  · intro h
    exact ⟨pd d, List.mem_map_of_mem h, by rw [pd_eqv]; simp⟩
theorem dp_pair {K : PySem.W.Frag} {H : Hp} {t : Addr} {d : Int × Int} (h : H t = some (.tup [.int d.1, .int d.2])) : Dp K H (.ref t) (pd d) :=
  .tup (SqT.of h) (.cons (.int _) (.cons (.int _) .nil))
theorem dp_pairs {K : PySem.W.Frag} {H : Hp} : ∀ {ps : List (Addr × Int × Int)}, (∀ p ∈ ps, H p.1 = some (.tup [.int p.2.1, .int p.2.2])) → DpAll K H (ps.map fun p => V.ref p.1) ((ps.map (·.2)).map pd)
  | [], _ => .nil
  | p :: ps, h => .cons (dp_pair (h p (List.mem_cons_self ..))) (dp_pairs fun q hq => h q (List.mem_cons_of_mem _ hq))
theorem tt_by {t : TT} {Q : Bool → Hp → Prop} {σ : L2.St} {H : Hp} (Good : Bool → Hp → Prop) (h : ∀ Q' : Bool → Hp → Prop, (∀ b H', Good b H' → Q' b H') → t σ H Q') (hq : ∀ b H', Good b H' → Q b H') : t σ H Q := h _ hq

def pr (D : List (Int × Int)) (r : Int) : Int → Bool := fun o => decide ((r, o) ∈ D) || decide ((o, r) ∈ D)
def nbk (D : List (Int × Int)) (r : Int) (i : Nat) : List Int := ((List.range i).map fun (j : Nat) => 0 + (j : Int)).filter (pr D r)
theorem nbk_succ (D : List (Int × Int)) (r : Int) (i : Nat) : nbk D r (i + 1) = nbk D r i ++ if pr D r (0 + (i : Int)) = true then [0 + (i : Int)] else [] := by
  unfold nbk
  rw [List.range_succ, List.map_append, List.filter_append]
  congr 1
  by_cases c : pr D r (0 + (i : Int)) = true
  · rw [if_pos c]
    show List.filter (pr D r) [0 + (i : Int)] = _
    rw [List.filter_cons_of_pos c]
    rfl
  · rw [if_neg c]
    show List.filter (pr D r) [0 + (i : Int)] = _
    rw [List.filter_cons_of_neg c]
    rfl
theorem nbk_len (D : List (Int × Int)) (r : Int) (i : Nat) : (nbk D r i).length ≤ i := by
  refine Nat.le_trans (List.length_filter_le _ _) ?_
  simp
theorem nbk_nb (n : Int) (D : List (Int × Int)) (r : Int) : nbk D r n.toNat = nb n D r := by
  unfold nbk nb
  congr 1
  refine List.map_congr_left fun i _ => ?_
  omega

theorem get_ref {ps : List (Addr × Int × Int)} {i : Nat} {x : V} (h : (ps.map fun p => V.ref p.1)[i]? = some x) : ∃ p, ps[i]? = some p ∧ x = .ref p.1 := by
  rw [List.getElem?_map] at h
  cases e : ps[i]? with
  | none => rw [e] at h; cases h
  | some v => rw [e] at h; exact ⟨v, rfl, (Option.some.inj h).symm⟩
theorem outs_succ {D : List (Int × Int)} {r : Int} {i : Nat} {d : Int × Int} (h : D[i]? = some d) : outs (D.take (i + 1)) r = outs (D.take i) r ++ if d.1 = r then [d.2] else [] := by
  unfold outs
  rw [List.take_add_one, h, List.filter_append, List.map_append]
  congr 1
  by_cases c : d.1 = r
  · rw [if_pos c]
    show List.map _ (List.filter _ [d]) = _
    rw [List.filter_cons_of_pos (by simpa using c)]
    rfl
  · rw [if_neg c]
    show List.map _ (List.filter _ [d]) = _
    rw [List.filter_cons_of_neg (by simpa using c)]
    rfl
theorem ins_succ {D : List (Int × Int)} {r : Int} {i : Nat} {d : Int × Int} (h : D[i]? = some d) : ins (D.take (i + 1)) r = ins (D.take i) r ++ if d.2 = r then [d.1] else [] := by
  unfold ins
  rw [List.take_add_one, h, List.filter_append, List.map_append]
  congr 1
  by_cases c : d.2 = r
  · rw [if_pos c]
    show List.map _ (List.filter _ [d]) = _
    rw [List.filter_cons_of_pos (by simpa using c)]
    rfl
  · rw [if_neg c]
    show List.map _ (List.filter _ [d]) = _
    rw [List.filter_cons_of_neg (by simpa using c)]
    rfl
theorem outs_len (D : List (Int × Int)) (r : Int) : (outs D r).length ≤ D.length := by
  unfold outs
  rw [List.length_map]
  exact List.length_filter_le _ _
theorem ins_len (D : List (Int × Int)) (r : Int) : (ins D r).length ≤ D.length := by
  unfold ins
  rw [List.length_map]
  exact List.length_filter_le _ _
section
variable {P : Program} {w : World} {K : PySem.W.Frag} {mg : Str → Option Value} {base : Heap}
def spNb : Sp := fun vs H Q _ => ∃ (h : Addr) (n : Int) (D : List (Int × Int)) (r : Int), vs = [.ref h, .int r] ∧ HouseAt H h n D ∧ Forest n D ∧
  ∀ H' t, Same H H' → H' t = some (.tup (vi (nb n D r))) → Q (.ref t) H'

abbrev nNb : List Str := ["house", "room", "doors", "a", "b"]
abbrev gAB : PySem.W.Frag → TG := fun K => gTup K 2 (gCons (gName 3) (gCons (gName 4) gNil))
theorem scNb : FnScope nNb ["house", "room"] (defScope sNb) := ⟨rfl, rfl, rfl, by decide +kernel, rfl, by decide +kernel, by decide +kernel⟩
theorem ok_nb {f : Addr} {fd : FuncData} {k : Nat} (F : Fun K "neighbors" "neighbors" sNb f fd) (T : Nm mg) : FnOk P w K mg base CX0 (k + 1) f fd ["house", "room"] spNb := by
  refine F.ok scNb (fun vs H Q E h => ?_) (fun cdv A outer s H vs Q E hr h => ?_)
  · obtain ⟨h, n, D, r, rfl, _⟩ := h
    rfl
  · obtain ⟨h, n, D, r, rfl, ⟨q0, ps, h1, h2, h3, h4⟩, hF, q⟩ := h
    refine ⟨_, pss_cons (ps_set (i := 2) scNb.nd rfl (.inl rfl) (pe_ix ix_tup (pv 0) pe_int (fun _ _ => rfl)))
      (pss_one (ps_ret (pe_callTy call_tuple_of (by rfl) T.tuple (by decide +kernel) (pa_cons (pe_op op_cat
        (pe_lc (own := [("a", 3), ("b", 4)]) (g := gAB K) (by rfl) scNb.nd (pi_tup (pv 2))
          (blkOk_by (own := [("a", 3), ("b", 4)]) (N := nNb) (sc := defScope sNb) (by decide +kernel))
          (fun _ _ _ _ _ => pg_tup (by rfl) (pgs_cons (pg_name (i := 3) scNb.nd rfl (Or.inl rfl)) (pgs_cons (pg_name (i := 4) scNb.nd rfl (Or.inl rfl)) pgs_nil)))
          (fun _ _ _ _ _ => pts_one (pt_cmpR op_eq (pv 4) (pv 1) (nomark _)))
          (fun _ _ _ _ _ => pv 3))
        (pe_lc (own := [("a", 3), ("b", 4)]) (g := gAB K) (by rfl) scNb.nd (pi_tup (pv 2))
          (blkOk_by (own := [("a", 3), ("b", 4)]) (N := nNb) (sc := defScope sNb) (by decide +kernel))
          (fun _ _ _ _ _ => pg_tup (by rfl) (pgs_cons (pg_name (i := 3) scNb.nd rfl (Or.inl rfl)) (pgs_cons (pg_name (i := 4) scNb.nd rfl (Or.inl rfl)) pgs_nil)))
          (fun _ _ _ _ _ => pts_one (pt_cmpR op_eq (pv 3) (pv 1) (nomark _)))
          (fun _ _ _ _ _ => pv 4))) pa_nil)))), ?_⟩
    have el := hF.len
    have eD : D.take (ps.map fun p => V.ref p.1).length = D := by
      rw [h3, List.length_map, ← List.length_map (f := fun x : Addr × Int × Int => x.2), List.take_length]
    refine ⟨_, rfl, h, _, _, _, rfl, rfl, SqT.of h1, atI1, ?_⟩
    refine ⟨_, rfl, q0, rfl, ⟨_, SqT.of h2⟩, fun L hL => lc_tup (K := K) (a := q0) (xs := ps.map fun p => V.ref p.1) (fun i H1 => Same H H1 ∧ H1 L = some (.lst (vi (ins (D.take i) r))))
      ⟨same_upd hL, upd_same⟩ (fun i H1 _ hh => SqT.of (hh.1 _ _ h2)) ?_ ?_⟩
    · rintro i x H1 hx ⟨s1, e1⟩
      obtain ⟨p, hp, rfl⟩ := get_ref hx
      have ed : D[i]? = some p.2 := by rw [h3, List.getElem?_map, hp]; rfl
      refine ⟨p.1, _, rfl, SqT.of (s1 _ _ (h4 p (List.mem_of_getElem? hp))), rfl, _, _, rfl, _, _, rfl, rfl, rfl, _, rfl, _, rfl, rfl, _, rfl, ?_⟩
      refine ite2 (fun c => ?_) (fun c => ?_)
      · have c : p.2.2 = r := V.int.inj (of_decide_eq_true c)
        refine ⟨_, rfl, _, e1, ?_, same_put s1 hL, ?_⟩
        · rw [List.length_map]
          exact small1000 (Nat.le_trans (ins_len _ _) (by rw [List.length_take]; omega))
        · rw [upd_same, ins_succ ed, if_pos c, vi_app]
          rfl
      · have c : ¬ p.2.2 = r := fun e => c (decide_eq_true (by rw [e]))
        refine ⟨s1, ?_⟩
        rw [ins_succ ed, if_neg c, List.append_nil]
        exact e1
    · rintro H1 ⟨s1, e1⟩
      rw [eD] at e1
      refine ⟨_, rfl, q0, rfl, ⟨_, SqT.of (s1 _ _ h2)⟩, fun M hM => lc_tup (K := K) (a := q0) (xs := ps.map fun p => V.ref p.1) (fun i H2 => Same H1 H2 ∧ H2 M = some (.lst (vi (outs (D.take i) r))))
        ⟨same_upd hM, upd_same⟩ (fun i H2 _ hh => SqT.of (hh.1 _ _ (s1 _ _ h2))) ?_ ?_⟩
      · rintro i x H2 hx ⟨s2, e2⟩
        obtain ⟨p, hp, rfl⟩ := get_ref hx
        have ed : D[i]? = some p.2 := by rw [h3, List.getElem?_map, hp]; rfl
        refine ⟨p.1, _, rfl, SqT.of (s2 _ _ (s1 _ _ (h4 p (List.mem_of_getElem? hp)))), rfl, _, _, rfl, _, _, rfl, rfl, rfl, _, rfl, _, rfl, rfl, _, rfl, ?_⟩
        refine ite2 (fun c => ?_) (fun c => ?_)
        · have c : p.2.1 = r := V.int.inj (of_decide_eq_true c)
          refine ⟨_, rfl, _, e2, ?_, same_put s2 hM, ?_⟩
          · rw [List.length_map]
            exact small1000 (Nat.le_trans (outs_len _ _) (by rw [List.length_take]; omega))
          · rw [upd_same, outs_succ ed, if_pos c, vi_app]
            rfl
        · have c : ¬ p.2.1 = r := fun e => c (decide_eq_true (by rw [e]))
          refine ⟨s2, ?_⟩
          rw [outs_succ ed, if_neg c, List.append_nil]
          exact e2
      · rintro H2 ⟨s2, e2⟩
        rw [eD] at e2
        refine ⟨L, M, _, _, rfl, rfl, s2 _ _ e1, e2, ?_, fun N hN => ?_⟩
        · rw [List.length_map, List.length_map]
          have h1 := outs_len D r
          have h2 := ins_len D r
          exact Nat.le_of_lt (small1000 (by omega))
        rw [← vi_app, hF.nb_eq r]
        refine ⟨N, _, rfl, .inl ⟨SqL.of upd_same, fun t ht => q _ t ?_ upd_same⟩⟩
        exact ((s1.trans s2).trans (same_upd hN)).trans (same_upd ht)
end
end Fw
namespace Fw
open PySem PySem.Spec PyProof.Rows L2

/-- what a dict of rooms holds at a room -/
def lk (kvs : List (Key × V)) (v : Int) : Option V := valV kvs (Sum.inl v)
theorem lk_put (kvs : List (Key × V)) (k j : Int) (y : V) : lk (putK kvs (Sum.inl k) y) j = if j = k then some y else lk kvs j := by
  unfold lk
  rw [valV_put]
  by_cases e : j = k
  · rw [if_pos e, if_pos (by rw [e])]
  · rw [if_neg e, if_neg (fun z => e (Sum.inl.inj z))]
def isK (kvs : List (Key × V)) (v : Int) : Bool := (lk kvs v).isSome
theorem isK_put (kvs : List (Key × V)) (k j : Int) (y : V) : isK (putK kvs (Sum.inl k) y) j = (decide (j = k) || isK kvs j) := by
  unfold isK
  rw [lk_put]
  by_cases e : j = k
  · rw [if_pos e, decide_eq_true e]; rfl
  · rw [if_neg e, decide_eq_false e]; rfl

/-- the way from a room along the steps -/
inductive Ch (D : List (Int × Int)) (L : Int → Option V) (g : Int) : Int → List Int → Prop
  | goal : L g = some .non → Ch D L g g [g]
  | step {v u : Int} {p : List Int} : L v = some (.int u) → adj D v u → Ch D L g u p → v ∉ p → Ch D L g v (v :: p)
theorem Ch.mono {D : List (Int × Int)} {L L' : Int → Option V} {g v : Int} {p : List Int} (h : Ch D L g v p) (m : ∀ y x, L y = some x → L' y = some x) : Ch D L' g v p := by
  induction h with
  | goal e => exact .goal (m _ _ e)
  | step e a _ n ih => exact .step (m _ _ e) a ih n
theorem Ch.keys {D : List (Int × Int)} {L : Int → Option V} {g v : Int} {p : List Int} (h : Ch D L g v p) : ∀ y ∈ p, (L y).isSome = true := by
  induction h with
  | goal e =>
    intro y hy
    rw [List.mem_singleton.mp hy, e]
    rfl
  | step e _ _ _ ih =>
    intro y hy
    rcases List.mem_cons.mp hy with rfl | hy
    · rw [e]; rfl
    · exact ih y hy
theorem Ch.sp {D : List (Int × Int)} {L : Int → Option V} {g v : Int} {p : List Int} (h : Ch D L g v p) : SP (adj D) v g p := by
  induction h with
  | goal _ => exact .one _
  | step _ a _ n ih => exact .cons a ih n

/-- the dict of steps, at any time -/
structure SInv (n : Int) (D : List (Int × Int)) (R : List Int) (g : Int) (kvs : List (Key × V)) : Prop where
  goal : lk kvs g = some .non
  way : ∀ v x, lk kvs v = some x → ∃ p, Ch D (lk kvs) g v p
  rng : ∀ v, isK kvs v = true → v = g ∨ v ∈ R
  keys : ∃ ks : List Int, kvs.map (·.1) = ks.map Sum.inl ∧ ks.Nodup ∧ ∀ v, v ∈ ks ↔ isK kvs v = true
  len : kvs.length + left n.toNat (isK kvs) ≤ n.toNat + 1
theorem SInv.start {n g : Int} {D : List (Int × Int)} {R : List Int} : SInv n D R g [(Sum.inl g, V.non)] := by
  have e0 : ∀ v, lk [(Sum.inl g, V.non)] v = if v = g then some .non else none := fun v => by
    unfold lk
    by_cases e : v = g
    · rw [if_pos e, e]; exact valV_pos rfl
    · rw [if_neg e, valV_neg (fun z => e (Sum.inl.inj z).symm)]; rfl
  have e1 : lk [(Sum.inl g, V.non)] g = some .non := by rw [e0, if_pos rfl]
  have e2 : ∀ v, isK [(Sum.inl g, V.non)] v = true → v = g := fun v h => by
    unfold isK at h
    rw [e0] at h
    by_cases e : v = g
    · exact e
    · rw [if_neg e] at h; cases h
  refine ⟨e1, fun v x h => ?_, fun v h => .inl (e2 v h), ⟨[g], rfl, by simp, fun v => ⟨fun h => ?_, fun h => ?_⟩⟩, ?_⟩
  · have : isK [(Sum.inl g, V.non)] v = true := by unfold isK; rw [h]; rfl
    rw [e2 v this]
    exact ⟨[g], .goal e1⟩
  · rw [List.mem_singleton.mp h]; unfold isK; rw [e1]; rfl
  · rw [e2 v h]; simp
  · have := left_le n.toNat (isK [(Sum.inl g, V.non)])
    simp only [List.length_cons, List.length_nil]
    omega
theorem SInv.put {n g o v : Int} {D : List (Int × Int)} {R : List Int} {kvs : List (Key × V)} (S : SInv n D R g kvs) (hv : isK kvs v = true) (ho : isK kvs o = false) (a : adj D v o) (hR : o ∈ R) (h0 : 0 ≤ o) (h1 : o < n) :
    SInv n D R g (putK kvs (Sum.inl o) (.int v)) ∧ left n.toNat (isK (putK kvs (Sum.inl o) (.int v))) < left n.toNat (isK kvs) := by
  have eo : lk kvs o = none := by
    unfold isK at ho
    cases e : lk kvs o with
    | none => rfl
    | some x => rw [e] at ho; cases ho
  have m : ∀ y x, lk kvs y = some x → lk (putK kvs (Sum.inl o) (.int v)) y = some x := fun y x h => by
    rw [lk_put, if_neg (fun e => ?_)]
    · exact h
    · rw [e, eo] at h; cases h
  have hl : left n.toNat (isK (putK kvs (Sum.inl o) (.int v))) < left n.toNat (isK kvs) := by
    refine left_lt (o := o) (fun x hx => ?_) h0 (by omega) ho ?_
    · rw [isK_put, hx, Bool.or_true]
    · rw [isK_put, decide_eq_true rfl, Bool.true_or]
  refine ⟨⟨m _ _ S.goal, fun y x h => ?_, fun y h => ?_, ?_, ?_⟩, hl⟩
  · rw [lk_put] at h
    by_cases e : y = o
    · subst e
      cases hx : lk kvs v with
      | none => unfold isK at hv; rw [hx] at hv; cases hv
      | some z =>
        obtain ⟨p, hp⟩ := S.way v z hx
        refine ⟨y :: p, .step (by rw [lk_put, if_pos rfl]) (adj_symm a) (hp.mono m) fun hm => ?_⟩
        have := hp.keys y hm
        rw [eo] at this
        cases this
    · rw [if_neg e] at h
      obtain ⟨p, hp⟩ := S.way y x h
      exact ⟨p, hp.mono m⟩
  · rw [isK_put, Bool.or_eq_true, decide_eq_true_eq] at h
    rcases h with h | h
    · exact .inr (h ▸ hR)
    · exact S.rng y h
  · obtain ⟨ks, e1, e2, e3⟩ := S.keys
    refine ⟨ks ++ [o], ?_, ?_, fun y => ?_⟩
    · rw [putK_new _ eo, List.map_append, e1, List.map_append]; rfl
    · rw [List.nodup_append]
      refine ⟨e2, by simp, fun x hx y hy e => ?_⟩
      rw [List.mem_singleton.mp hy] at e
      rw [e, e3, ho] at hx
      cases hx
    · rw [List.mem_append, List.mem_singleton, e3, isK_put, Bool.or_eq_true, decide_eq_true_eq]
      exact or_comm
  · have := length_putK kvs (Sum.inl o) (V.int v)
    have := S.len
    omega

theorem inV_ints (x : Int) (R : List Int) : inV (.int x) (vi R) = decide (x ∈ R) := by
  unfold inV
  rw [Bool.eq_iff_iff, List.any_eq_true, decide_eq_true_eq]
  constructor
  · rintro ⟨y, hy, e⟩
    obtain ⟨z, hz, rfl⟩ := List.mem_map.mp hy
    have e : (z == x) = true := e
    rw [beq_iff_eq] at e
    exact e ▸ hz
  · intro h
    exact ⟨.int x, List.mem_map_of_mem h, by show (x == x) = true; simp⟩
theorem flat_ints (R : List Int) : (vi R).all flatV = true := by
  rw [List.all_eq_true]
  intro y hy
  obtain ⟨z, hz, rfl⟩ := List.mem_map.mp hy
  rfl
theorem vi_snoc_last {xs : List Int} {x : Int} : (vi (xs ++ [x]))[(vi (xs ++ [x])).length - 1]? = some (.int x) := by
  rw [vi_app, List.length_append]
  show (vi xs ++ [V.int x])[(vi xs).length + 1 - 1]? = _
  rw [Nat.add_sub_cancel, List.getElem?_append_right (Nat.le_refl _), Nat.sub_self]
  rfl
theorem vi_dropLast {xs : List Int} {x : Int} : (vi (xs ++ [x])).dropLast = vi xs := by
  rw [vi_app]
  show (vi xs ++ [V.int x]).dropLast = _
  rw [List.dropLast_concat]
theorem snoc_cases : ∀ (xs : List Int), xs = [] ∨ ∃ ys y, xs = ys ++ [y]
  | [] => .inl rfl
  | x :: xs => by
    rcases snoc_cases xs with rfl | ⟨ys, y, rfl⟩
    · exact .inr ⟨[], x, rfl⟩
    · exact .inr ⟨x :: ys, y, rfl⟩

section
variable {P : Program} {w : World} {K : PySem.W.Frag} {mg : Str → Option Value} {base : Heap}
/-- what the finished steps are -/
structure SDone (n : Int) (D : List (Int × Int)) (R : List Int) (g : Int) (kvs : List (Key × V)) : Prop where
  inv : SInv n D R g kvs
  closed : ∀ v o, isK kvs v = true → adj D v o → o ∈ R → isK kvs o = true
def spSteps (K : PySem.W.Frag) : Sp := fun vs H Q _ => ∃ (h rl : Addr) (n : Int) (D : List (Int × Int)) (g : Int) (R : List Int), vs = [.ref h, .int g, .ref rl] ∧ HouseAt H h n D ∧ Forest n D ∧ 0 ≤ n ∧ n ≤ 8 ∧
  (SqL K H rl (vi R) ∨ SqT K H rl (vi R)) ∧ ∀ H' d kvs, Same H H' → H d = none → H' d = some (.dK kvs) → SDone n D R g kvs → Q (.ref d) H'

structure SAt (H : Hp) (d wl : Addr) (n : Int) (D : List (Int × Int)) (R : List Int) (g : Int) (kvs : List (Key × V)) (wt : List Int) (H' : Hp) : Prop where
  sm : Same H H'
  ed : H' d = some (.dK kvs)
  ew : H' wl = some (.lst (vi wt))
  inv : SInv n D R g kvs
  wk : ∀ v ∈ wt, isK kvs v = true
  wlen : wt.length + left n.toNat (isK kvs) ≤ n.toNat + 1
theorem SAt.same {H : Hp} {d wl : Addr} {n : Int} {D : List (Int × Int)} {R : List Int} {g : Int} {kvs : List (Key × V)} {wt : List Int} {H1 H2 : Hp} (S : SAt H d wl n D R g kvs wt H1) (e : Same H1 H2) : SAt H d wl n D R g kvs wt H2 :=
  ⟨S.sm.trans e, e _ _ S.ed, e _ _ S.ew, S.inv, S.wk, S.wlen⟩
theorem Same.sqT {H H' : Hp} {a : Addr} {xs : List V} (e : Same H H') (h : SqT K H a xs) : SqT K H' a xs :=
  h.imp (Or.imp (e a _) fun ⟨o, x⟩ => ⟨o, e a _ x⟩) id
abbrev nSteps : List Str := ["house", "goal", "rooms", "steps", "waiting", "room", "other"]
theorem scSteps : FnScope nSteps ["house", "goal", "rooms"] (defScope sSteps) := ⟨rfl, rfl, rfl, by decide +kernel, rfl, by decide +kernel, by decide +kernel⟩
theorem ok_steps {f fN : Addr} {fd fdN : FuncData} (F : Fun K "steps_toward" "steps_toward" sSteps f fd) (T : Nm mg) (DN : Def K mg "neighbors" sNb fN fdN ["house", "room"]) : FnOk P w K mg base CX0 2 f fd ["house", "goal", "rooms"] (spSteps K) := by
  have GN : FnOk P w K mg base CX0 1 fN fdN ["house", "room"] spNb := ok_nb DN.F T
  refine F.ok scSteps (fun vs H Q E h => ?_) (fun cdv A outer s H vs Q E hr h => ?_)
  · obtain ⟨h, rl, n, D, g, R, rfl, _⟩ := h
    rfl
  · obtain ⟨h, rl, n, D, g, R, rfl, hH, hF, hn0, hn1, hR, q⟩ := h
    have hu := hu_of hr
    refine ⟨_, pss_cons (ps_set (i := 3) scSteps.nd rfl (.inl rfl) (pe_disp (pps_cons (pv 1) pe_non pps_nil) (by rfl) (by rfl) (fun z => by cases z) (by decide)))
      (pss_cons (ps_set (i := 4) scSteps.nd rfl (.inl rfl) (pe_lst (pa_cons (pv 1) pa_nil)))
      (pss_cons (ps_while PassesOwn.never (pt_truth (pv 4) (by intro _; rfl))
        (pss_cons (ps_set (i := 5) scSteps.nd rfl (.inl rfl) (pe_bm0 PySem.F.plainAttrs_list PySem.F.slot_list_pop PySem.F.type_list_pop mt_pop (pv 4)))
        (pss_one (ps_for PassesOwn.never rfl (pi_tup (pe_call GN hr (by rfl) DN.g DN.F.kp DN.b .nil pass0 (pa_cons (pv 0) (pa_cons (pv 5) pa_nil)))) (pg_name (i := 6) scSteps.nd rfl (Or.inl rfl))
          (pss_one (ps_if (PW.pt (pw_and (pt_cmpR op_in_seq (pv 6) (pv 2) (by rfl)) (pw_and1 (pt_cmp (pc_dnotin hu (pv 6) (pv 3))))))
            (pss_cons (ps_dput hu (pv 3) (pv 6) (pv 5) rfl)
            (pss_one (ps_expr (pe_bm PySem.F.plainAttrs_list PySem.F.slot_list_append PySem.F.type_list_append mt_append (pv 4) (pa_cons (pv 6) pa_nil)))))
            pss_nil))))))
      (pss_one (ps_ret (pv 3))))), ?_⟩
    refine fun d hd => ⟨_, rfl, upd_same, [(Sum.inl g, .non)], rfl, by show 1 ≤ 15; decide, ?_⟩
    rw [upd_upd]
    refine ⟨_, rfl, by show 1 ≤ sizeLine; decide, fun wl hw => ?_⟩
    have ed0 : (upd H d (.dK (mergeK [] [(Sum.inl g, V.non)]))) d = some (.dK [(Sum.inl g, V.non)]) := upd_same
    have nwd : d ≠ wl := ne_of_none ed0 hw
    have gw : H wl = none := (same_upd hd).free hw
    have clos0 : ∀ v o, isK [(Sum.inl g, V.non)] v = true → v ∉ [g] → adj D v o → o ∈ R → isK [(Sum.inl g, V.non)] o = true := fun v o hv hn _ _ => by
      obtain ⟨ks, e1, _, e3⟩ := (SInv.start (n := n) (D := D) (R := R) (g := g)).keys
      have e4 : ks = [g] := by
        cases ks with
        | nil => cases e1
        | cons k r =>
          cases r with
          | nil =>
            injection e1 with e1 _
            rw [← Sum.inl.inj e1]
          | cons k2 r =>
            injection e1 with _ e1
            cases e1
      rw [e4] at e3
      exact absurd ((e3 v).mpr hv) hn
    refine ⟨fun m σ H' => ∃ (kvs : List (Key × V)) (wt : List Int) (y5 y6 : Option V), σ = [some (.ref h), some (.int g), some (.ref rl), some (.ref d), some (.ref wl), y5, y6] ∧ SAt H d wl n D R g kvs wt H' ∧
        (∀ v o, isK kvs v = true → v ∉ wt → adj D v o → o ∈ R → isK kvs o = true) ∧ m = 2 * left n.toNat (isK kvs) + wt.length, ⟨_, [(Sum.inl g, V.non)], [g], none, none, rfl, ⟨?_, ?_, upd_same, SInv.start, ?_, ?_⟩, clos0, rfl⟩, ?_⟩
    · exact (same_upd hd).trans (same_upd hw)
    · rw [upd_ne nwd]
      exact ed0
    · intro v hv
      rw [List.mem_singleton.mp hv]
      unfold isK
      rw [SInv.start (n := n) (D := D) (R := R) |>.goal]
      rfl
    · have := left_le n.toNat (isK [(Sum.inl g, V.non)])
      simp only [List.length_cons, List.length_nil]
      omega
    clear clos0 ed0
    rintro m σ H1 ⟨kvs, wt, y5, y6, rfl, S1, clos, rfl⟩
    refine ⟨_, rfl, _, .inl ⟨_, SqL.of S1.ew, rfl⟩, ?_⟩
    rcases snoc_cases wt with rfl | ⟨ys, v, rfl⟩
    · refine iteF ?_
      exact ⟨_, rfl, q _ d kvs S1.sm hd S1.ed ⟨S1.inv, fun v o h1 h2 h3 => clos v o h1 (by simp) h2 h3⟩⟩
    · have ne : (!(vi (ys ++ [v])).isEmpty) = true := by
        cases ys <;> rfl
      rw [ne]
      refine iteT ⟨_, fun _ _ hh => hh, ?_⟩
      have hv : isK kvs v = true := S1.wk v (by simp)
      refine ⟨_, rfl, .inl ⟨rfl, _, SqL.of S1.ew⟩, wl, _, _, rfl, rfl, S1.ew, vi_snoc_last, ?_⟩
      rw [vi_dropLast]
      have l1 := S1.wlen
      rw [List.length_append, List.length_singleton] at l1
      have S2 : SAt H d wl n D R g kvs ys (upd H1 wl (.lst (vi ys))) := ⟨same_put S1.sm gw, (upd_ne nwd).trans S1.ed, upd_same, S1.inv, fun x hx => S1.wk x (List.mem_append_left _ hx), by omega⟩
      refine ⟨_, rfl, _, rfl, h, n, D, v, rfl, hH.same S2.sm, hF, fun H3 t s3 et => ?_⟩
      have S3 := S2.same s3
      refine ⟨t, rfl, ⟨_, SqT.of et⟩, for_tup (K := K) (a := t) (xs := vi (nb n D v)) (fun i σ H' => ∃ (kvs' : List (Key × V)) (wt : List Int) (y6 : Option V), σ = [some (.ref h), some (.int g), some (.ref rl), some (.ref d), some (.ref wl), some (.int v), y6] ∧
          SAt H d wl n D R g kvs' wt H' ∧ H' t = some (.tup (vi (nb n D v))) ∧ isK kvs' v = true ∧ (∀ x o, isK kvs' x = true → x ∉ wt → x ≠ v → adj D x o → o ∈ R → isK kvs' o = true) ∧
          (∀ o ∈ (nb n D v).take i, o ∈ R → isK kvs' o = true) ∧ 2 * left n.toNat (isK kvs') + wt.length < 2 * left n.toNat (isK kvs) + (ys ++ [v]).length) ⟨kvs, ys, y6, rfl, S3, et, hv, ?_, ?_, ?_⟩ ?_ ?_ ?_⟩
      · intro x o h1 h2 h3 h4 h5
        exact clos x o h1 (by simp [h2, h3]) h4 h5
      · intro o ho
        simp at ho
      · rw [List.length_append, List.length_singleton]
        omega
      · rintro i σ H' _ ⟨kvs', wt, y6, rfl, _, et', _⟩
        exact SqT.of et'
      · rintro i x σ H4 hx ⟨kvs', wt, y6, rfl, S4, et4, hv4, cl4, pre4, lt4⟩
        obtain ⟨o, eo, rfl⟩ := get_vi hx
        have mo := List.mem_of_getElem? eo
        have ao : adj D v o := hF.mem_nb.mp mo
        have ro := hF.adj ao
        have pre5 : ∀ kvs2 : List (Key × V), (∀ y, isK kvs' y = true → isK kvs2 y = true) → (o ∈ R → isK kvs2 o = true) → ∀ z ∈ (nb n D v).take (i + 1), z ∈ R → isK kvs2 z = true := fun kvs2 hm ho z hz hzR => by
          rw [List.take_add_one, eo, List.mem_append] at hz
          rcases hz with hz | hz
          · exact hm _ (pre4 z hz hzR)
          · have : z = o := by simpa using hz
            rw [this] at hzR ⊢
            exact ho hzR
        dsimp only [gName]
        refine if_by (fun b H5 => H5 = H4 ∧ (b = true → o ∈ R ∧ isK kvs' o = false) ∧ (b = false → o ∈ R → isK kvs' o = true)) ?_ ?_ ?_
        · rintro H5 ⟨rfl, hb, _⟩
          obtain ⟨oR, ok⟩ := hb rfl
          obtain ⟨I5, lt5⟩ := S4.inv.put hv4 ok ao oR ro.2.2.1 ro.2.2.2
          have lk4 := S4.inv.len
          have lw4 := S4.wlen
          refine ⟨_, rfl, _, rfl, _, rfl, d, _, rfl, DPut.k (k := Sum.inl o) S4.ed (small1000 (by omega)), ?_⟩
          have ew5 : (upd H5 d (.dK (putK kvs' (Sum.inl o) (V.int v)))) wl = some (.lst (vi wt)) := (upd_ne nwd.symm).trans S4.ew
          refine ⟨_, rfl, .inl ⟨rfl, _, SqL.of ew5⟩, _, rfl, wl, _, _, rfl, rfl, ew5, by rw [List.length_map]; exact small1000 (by omega), ?_⟩
          refine ⟨putK kvs' (Sum.inl o) (V.int v), wt ++ [o], _, rfl, ⟨same_put (same_put S4.sm hd) gw, (upd_ne nwd).trans upd_same, ?_, I5, ?_, ?_⟩, ?_, ?_, ?_, ?_, ?_⟩
          · rw [upd_same, vi_app]
            rfl
          · intro y hy
            rw [isK_put]
            rcases List.mem_append.mp hy with hy | hy
            · rw [S4.wk y hy, Bool.or_true]
            · rw [List.mem_singleton.mp hy, decide_eq_true rfl, Bool.true_or]
          · rw [List.length_append, List.length_singleton]
            omega
          · rw [upd_ne (ne_of et4 S4.ew (by intro z; cases z)), upd_ne (ne_of et4 S4.ed (by intro z; cases z))]
            exact et4
          · rw [isK_put, hv4, Bool.or_true]
          · intro y z h1 h2 h3 h4 h5
            rw [isK_put, Bool.or_eq_true, decide_eq_true_eq] at h1
            rw [List.mem_append, not_or, List.mem_singleton] at h2
            rcases h1 with h1 | h1
            · exact absurd h1 h2.2
            · rw [isK_put, cl4 y z h1 h2.1 h3 h4 h5, Bool.or_true]
          · refine pre5 _ (fun y hy => by rw [isK_put, hy, Bool.or_true]) fun _ => ?_
            rw [isK_put, decide_eq_true rfl, Bool.true_or]
          · rw [List.length_append, List.length_singleton]
            omega
        · rintro H5 ⟨rfl, _, hb⟩
          exact ⟨kvs', wt, _, rfl, S4, et4, hv4, cl4, pre5 kvs' (fun _ hh => hh) (hb rfl), lt4⟩
        · intro QQ hQ
          have hR4 : SqL K H4 rl (vi R) ∨ SqT K H4 rl (vi R) := hR.imp (fun z => S4.sm.seq z) (fun z => Same.sqT S4.sm z)
          refine ⟨_, rfl, _, rfl, rl, _, rfl, hR4, rfl, flat_ints R, _, rfl, ?_⟩
          show if (inV (.int o) (vi R)) = true then _ else _
          rw [inV_ints]
          refine ite2 (fun c => ?_) (fun c => ?_)
          · have c : o ∈ R := of_decide_eq_true c
            refine ⟨_, rfl, _, rfl, d, _, rfl, DGet.k (k := Sum.inl o) S4.ed, _, rfl, ?_⟩
            refine hQ _ _ ⟨rfl, fun e => ⟨c, ?_⟩, fun e _ => ?_⟩
            · show isK kvs' o = false
              unfold isK lk
              simpa using e
            · show isK kvs' o = true
              unfold isK lk
              simpa using e
          · exact hQ _ _ ⟨rfl, fun e => (by cases e), fun _ e => absurd (decide_eq_true e) c⟩
      · rintro σ H4 ⟨kvs', wt, y6, rfl, S4, et4, hv4, cl4, pre4, lt4⟩
        rw [List.length_map, List.take_length] at pre4
        refine ⟨_, lt4, kvs', wt, _, _, rfl, S4, fun x o h1 h2 h3 h4 => ?_, rfl⟩
        by_cases e : x = v
        · subst e
          exact pre4 o (hF.mem_nb.mpr h3) h4
        · exact cl4 x o h1 h2 e h3 h4
end
end Fw
namespace Fw
open PySem PySem.Spec PyProof.Rows L2
theorem HouseAt.top {H : Hp} {h : Addr} {n : Int} {D : List (Int × Int)} (x : HouseAt H h n D) : ∃ q, H h = some (.tup [.int n, .ref q]) := by
  obtain ⟨q, ps, h1, _⟩ := x
  exact ⟨q, h1⟩

/-- a nodup list of rooms below n is no longer than n -/
theorem short {n : Nat} : ∀ {p : List Int}, p.Nodup → (∀ x ∈ p, 0 ≤ x ∧ x < n) → p.length ≤ n := by
  induction n with
  | zero =>
    intro p _ h
    cases p with
    | nil => exact Nat.le_refl _
    | cons x r => have := h x (List.mem_cons_self ..); omega
  | succ n ih =>
    intro p nd h
    have h2 : (p.erase (n : Int)).length ≤ n := by
      refine ih (nd.erase _) fun x hx => ?_
      have hm := List.mem_of_mem_erase hx
      have hne : x ≠ (n : Int) := fun e => by
        subst e
        exact (List.Nodup.not_mem_erase nd) hx
      have := h x hm
      omega
    have h3 : p.length - 1 ≤ (p.erase (n : Int)).length := List.le_length_erase
    omega
theorem SP.all {R : Int → Int → Prop} {S : Int → Prop} (hs : ∀ x y, R x y → S y) {a b : Int} {p : List Int} (h : SP R a b p) (e : S a) : ∀ x ∈ p, S x := by
  induction h with
  | one a =>
    intro x hx
    rw [List.mem_singleton.mp hx]
    exact e
  | cons r _ _ ih =>
    intro x hx
    rcases List.mem_cons.mp hx with rfl | hx
    · exact e
    · exact ih (hs _ _ r) x hx
theorem Forest.short {n a b : Int} {D : List (Int × Int)} (f : Forest n D) (h8 : n ≤ 8) (h0 : 0 ≤ a) (h1 : a < n) {p : List Int} (h : SP (Fw.adj D) a b p) : p.length ≤ 8 := by
  have h2 : p.length ≤ n.toNat := Fw.short h.nodup fun x hx => by
    have := h.all (S := fun x => 0 ≤ x ∧ x < n) (fun x y r => ⟨(f.adj r).2.2.1, (f.adj r).2.2.2⟩) ⟨h0, h1⟩ x hx
    omega
  omega

end Fw
namespace Fw
open PySem PySem.Spec PyProof.Rows L2

section
variable {P : Program} {w : World} {K : PySem.W.Frag} {mg : Str → Option Value} {base : Heap}
def spPath : Sp := fun vs H Q _ => ∃ (h : Addr) (n : Int) (D : List (Int × Int)) (a b : Int), vs = [.ref h, .int a, .int b] ∧ HouseAt H h n D ∧ Forest n D ∧ n ≤ 8 ∧ 0 ≤ a ∧ a < n ∧ 0 ≤ b ∧ b < n ∧
  (∀ H', Same H H' → (∀ p, ¬ SP (adj D) a b p) → Q .non H') ∧ (∀ H' t p, Same H H' → SP (adj D) a b p → p.length ≤ 8 → H' t = some (.tup (vi p)) → Q (.ref t) H')

abbrev nPath : List Str := ["house", "a", "b", "steps", "path"]
theorem scPath : FnScope nPath ["house", "a", "b"] (defScope sPath) := ⟨rfl, rfl, rfl, by decide +kernel, rfl, by decide +kernel, by decide +kernel⟩
theorem ok_path {f fN fS : Addr} {fd fdN fdS : FuncData} (F : Fun K "path_between" "path_between" sPath f fd) (T : Nm mg) (DN : Def K mg "neighbors" sNb fN fdN ["house", "room"]) (DS : Def K mg "steps_toward" sSteps fS fdS ["house", "goal", "rooms"]) : FnOk P w K mg base CX0 3 f fd ["house", "a", "b"] spPath := by
  have GS : FnOk P w K mg base CX0 2 fS fdS ["house", "goal", "rooms"] (spSteps K) := ok_steps DS.F T DN
  refine F.ok scPath (fun vs H Q E h => ?_) (fun cdv A outer s H vs Q E hr h => ?_)
  · obtain ⟨h, n, D, a, b, rfl, _⟩ := h
    rfl
  · obtain ⟨h, n, D, a, b, rfl, hH, hF, hn, a0, a1, b0, b1, q1, q2⟩ := h
    have hu := hu_of hr
    obtain ⟨hq, eh⟩ := hH.top
    refine ⟨_, pss_cons (ps_set (i := 3) scPath.nd rfl (.inl rfl) (pe_call GS hr (by rfl) DS.g DS.F.kp DS.b .nil pass0 (pa_cons (pv 0) (pa_cons (pv 2) (pa_cons (pe_listRg (by rfl) (by rfl) T.list (prg_1 (by rfl) T.range (pe_ix ix_tup (pv 0) pe_int (fun _ _ => rfl)))) pa_nil)))))
      (pss_cons (ps_if (pt_cmp (pc_dnotin hu (pv 1) (pv 3))) (pss_one (ps_ret pe_non)) pss_nil)
      (pss_cons (ps_set (i := 4) scPath.nd rfl (.inl rfl) (pe_lst (pa_cons (pv 1) pa_nil)))
      (pss_cons (ps_while PassesOwn.never (pt_cmpR op_ne (pe_ix ix_list (pv 4) (pe_un un_neg pe_int) (fun _ _ => rfl)) (pv 2) (nomark _))
        (pss_one (ps_expr (pe_bm PySem.F.plainAttrs_list PySem.F.slot_list_append PySem.F.type_list_append mt_append (pv 4) (pa_cons (pe_dget hu (pv 3) (pe_ix ix_list (pv 4) (pe_un un_neg pe_int) (fun _ _ => rfl)) (fun _ _ => rfl)) pa_nil)))))
      (pss_one (ps_ret (pe_callTy call_tuple_of (by rfl) T.tuple (by decide +kernel) (pa_cons (pv 4) pa_nil))))))), ?_⟩
    refine ⟨_, rfl, _, rfl, _, rfl, h, _, _, _, rfl, rfl, SqT.of eh, atI0, n, rfl, RgOk.of_le (by omega) (by omega) (by omega) (by omega), fun rl hrl => ?_⟩
    rw [rg_vi, show ((List.range n.toNat).map fun (i : Nat) => (i : Int)) = rg n from rfl]
    have s1 : Same H (upd H rl (.lst (vi (rg n)))) := same_upd hrl
    refine ⟨h, rl, n, D, b, rg n, rfl, hH.same s1, hF, by omega, hn, .inl (SqL.of upd_same), fun H1 d kvs s2 hd ed S => ?_⟩
    have s2' := s1.trans s2
    have cl : ∀ v o, isK kvs v = true → adj D v o → isK kvs o = true := fun v o h1 h2 => S.closed v o h1 h2 (mem_rg.mpr ⟨(hF.adj h2).2.2.1, (hF.adj h2).2.2.2⟩)
    refine ⟨_, rfl, _, rfl, d, _, rfl, DGet.k (k := Sum.inl a) ed, _, rfl, ?_⟩
    cases ea : valV kvs (Sum.inl a) with
    | none =>
      refine iteT ?_
      refine q1 _ s2' fun p hp => ?_
      have hb : isK kvs b = true := by
        unfold isK
        rw [S.inv.goal]
        rfl
      have ha : isK kvs a = true := hp.back (S := fun x => isK kvs x = true) (fun x y r hy => cl y x hy (adj_symm r)) hb
      unfold isK lk at ha
      rw [ea] at ha
      cases ha
    | some x =>
      refine iteF ?_
      obtain ⟨p, hp⟩ := S.inv.way a x ea
      have hlen := hF.short hn a0 a1 hp.sp
      refine ⟨_, rfl, by show 1 ≤ sizeLine; decide, fun pl hpl => ?_⟩
      have gpl : H pl = none := s2'.free hpl
      have npd : d ≠ pl := ne_of_none ed hpl
      have p0 : ∃ r0, p = a :: r0 := by
        cases hp with
        | goal _ => exact ⟨[], rfl⟩
        | step _ _ _ _ => exact ⟨_, rfl⟩
      obtain ⟨r0, rfl⟩ := p0
      refine ⟨fun m σ H' => ∃ (don : List Int) (v : Int) (rest : List Int), σ = [some (.ref h), some (.int a), some (.int b), some (.ref d), some (.ref pl)] ∧ Same H H' ∧ H' d = some (.dK kvs) ∧ H' pl = some (.lst (vi (don ++ [v]))) ∧
          Ch D (lk kvs) b v (v :: rest) ∧ don ++ v :: rest = a :: r0 ∧ m = rest.length, ⟨_, [], a, r0, rfl, same_put s2' gpl, (upd_ne npd).trans ed, upd_same, hp, rfl, rfl⟩, ?_⟩
      rintro m σ H2 ⟨don, v, rest, rfl, s3, ed3, ep3, hv, eq3, rfl⟩
      have hat : atI (vi (don ++ [v])) (-1) = some (.int v) := by
        rw [vi_app]
        exact atI_last _ _
      refine ⟨_, rfl, _, rfl, pl, _, _, _, rfl, rfl, SqL.of ep3, hat, _, rfl, rfl, _, rfl, ?_⟩
      by_cases e : v = b
      · subst e
        have er : rest = [] := by
          have := hv.sp.loop
          injection this
        subst er
        refine iteNS rfl ?_
        refine ⟨_, rfl, pl, _, rfl, .inl ⟨SqL.of ep3, fun t ht => ?_⟩⟩
        refine q2 _ t (a :: r0) (s3.trans (same_upd ht)) hp.sp hlen ?_
        rw [upd_same, ← eq3]
      · have ne : (!decide (V.int v = V.int b)) = true := by
          rw [decide_eq_false (fun z => e (V.int.inj z))]
          rfl
        rw [ne]
        refine iteT ⟨_, fun _ _ hh => hh, ?_⟩
        cases hv with
        | goal _ => exact absurd rfl e
        | step ev _ hu2 _ =>
          rename_i u _ _
          have r0' : ∃ r1, rest = u :: r1 := by
            cases hu2 with
            | goal _ => exact ⟨[], rfl⟩
            | step _ _ _ _ => exact ⟨_, rfl⟩
          obtain ⟨r1, rfl⟩ := r0'
          have len3 : (don ++ v :: u :: r1).length ≤ 8 := by rw [eq3]; exact hlen
          have len4 : (vi (don ++ [v])).length < sizeLine := by
            rw [List.length_map, List.length_append, List.length_singleton]
            rw [List.length_append, List.length_cons] at len3
            exact small1000 (by omega)
          have hdg : DGet H2 d (V.int v) (some (V.int u)) := by
            have := DGet.k (k := Sum.inl v) ed3
            unfold lk at ev
            rw [ev] at this
            exact this
          refine ⟨_, rfl, .inl ⟨rfl, _, SqL.of ep3⟩, _, rfl, _, rfl, _, rfl, pl, _, _, _, rfl, rfl, SqL.of ep3, hat, d, V.int u, rfl, hdg, pl, _, _, rfl, rfl, ep3, len4, ?_⟩
          · refine ⟨r1.length, by simp, don ++ [v], u, r1, rfl, same_put s3 gpl, (upd_ne npd).trans ed3, ?_, hu2, by rw [List.append_assoc]; exact eq3, rfl⟩
            rw [upd_same, vi_app (don ++ [v])]
            rfl
end
end Fw
namespace Fw
open PySem PySem.Spec PyProof.Rows L2 SrtO

section
variable {P : Program} {w : World} {A : Around} {E : Value → Shared → Prop} {s : Shared}
/-- sorted of anything that can be collected, by an order -/
theorem sorted_any {a : Addr} {ltv : Value → Value → Bool} {Q : Value → Shared → Prop} (O : Swo ltv) (good : List Value → Shared → Prop) (col : wpAny (model P w) A.in1 (collect (.ref a)) good E s) (hz : ∀ vs z, good vs z → vs.length ≤ sizeLine)
    (hS : ∀ vs z, good vs z → 2 ≤ vs.length → SortableO P w A.in1.in1 { z with heap := z.heap.push (seqObj "list" vs.toArray 0) } z.heap.objs.size vs ltv)
    (fin : ∀ vs z out, good vs z → Srtd ltv out → Stb ltv out vs → Q (.ref z.heap.objs.size) { z with heap := sortedHeap (z.heap.push (seqObj "list" vs.toArray 0)) z.heap.objs.size vs out.toArray }) :
    wpAny (model P w) A (call (.builtin "sorted") [.ref a]) Q E s := by
  refine Calls.call_function_entry kind_sorted plain_sorted entry_sorted (args_sorted1 _) ?_
  show wpAny (model P w) A.in1 (Builtin.«sorted» _) _ _ _
  unfold Builtin.«sorted»
  refine wpAny_bind (m := checkCount "sorted" 1 1 _) (wpAny_pure (wpAny_bind (wpAny_mono col (fun vs z g => ?_) fun _ _ e => e)))
  refine wpAny_bind (wpAny_newList ?_ (hz vs z g))
  have at0 : (z.heap.push (seqObj "list" vs.toArray 0)).get? z.heap.objs.size = some (seqObj "list" vs.toArray 0) := Heap.get?_push_size _ rfl
  refine wpAny_bind (wpAny_holding (wpAny_call_entry slot_list_sort ⟨_, at0, rfl⟩ entry_list_sort (list_sort_ord O at0 (hz vs z g) (hS vs z g) fun out h1 h2 => ?_) (args_list_sort _)))
  exact ⟨_, rfl, wpAny_pure ⟨_, rfl, fin vs z out g h1 h2⟩⟩
end

/-- sorted(d), the keys of d ints -/
def rSortedDI : List V → Hp → VK → Prop := fun xs H Q => ∃ (a : Addr) (kvs : List (Key × V)) (ks : List Int), xs = [.ref a] ∧ H a = some (.dK kvs) ∧ kvs.map (·.1) = ks.map Sum.inl ∧
  ∀ (ys : List Int) (p : Addr), ys.Perm ks → ys.Pairwise (· ≤ ·) → H p = none → Q (.ref p) (upd H p (.lst (vi ys)))
theorem cr_sortedDI {X : Cx} (hc : X.calm = true) : CallR X (.builtin "sorted") rSortedDI := by
  intro pins s σ H xs us Q I r h
  obtain ⟨a, kvs, ks, rfl, ha, hk, q⟩ := h
  rw [Vals.ref1 r]
  obtain ⟨len, lo, vs, rel, dd⟩ := dk_of I.hok ha
  obtain ⟨ep, hat⟩ := dd.dictAt
  have ek : vs.map (·.1) = ks.map Sum.inl := rel.keys.symm.trans hk
  have el : vs.length = ks.length := by simpa using congrArg List.length ek
  have ez : ks.length ≤ sizeLine := by
    have := congrArg List.length hk
    rw [List.length_map, List.length_map] at this
    omega
  refine sorted_any swo_int (fun us z => IntsAre us ks ∧ Inv X pins σ H z ∧ z = { s with heap := z.heap, toks := z.toks }) ?_ ?_ ?_ ?_
  · refine PySem.W.kdu_collect (PySem.W.kdl_dict (knd := mixKind X.prog X.w) (kvs := vs) (ep := ep) lo) (I.ok.hd hc) hat (by omega) fun h' tk acc keep items => ⟨?_, I.kept keep, rfl⟩
    have lena : acc.toList.length = vs.length := by
      rw [Array.length_toList]
      exact items.1
    have rv := keys_at (us := acc.toList) (vs := vs) lena fun j v e => by
      obtain ⟨k, x, e1, e2⟩ := items.2 j v (by rw [← Array.getElem?_toList]; exact e)
      exact ⟨k, x, e1, e2⟩
    have e3 : (vs.map fun p => kV p.1) = ks.map V.int := by
      have := congrArg (List.map kV) ek
      rw [List.map_map, List.map_map] at this
      exact this
    rw [e3] at rv
    exact rv.ints
  · intro us z g
    rw [g.1.length]
    exact ez
  · intro us z g h2
    exact ints_sortable g.1 h2
  · rintro us z out ⟨hi, J, ez'⟩ h1 h2
    obtain ⟨k1, k2, k3⟩ := ints_out hi h1 h2
    have at0 : (z.heap.push (seqObj "list" us.toArray 0)).get? z.heap.objs.size = some (seqObj "list" us.toArray 0) := Heap.get?_push_size _ rfl
    obtain ⟨e', he'⟩ := sortedHeap_at (vs := us) (out := out.toArray) at0
    refine ⟨.ref z.heap.objs.size, upd H z.heap.objs.size (.lst (vi (out.map iv))), J.laid (t' := z.toks) (fun b u e => ?_) (Nat.le_refl _) ⟨?_, out, e', vals_of_ints k1, he'⟩, rfl, q _ _ k2 k3 (J.hok.fresh (Nat.le_refl _))⟩
    · have lt := Heap.lt_size e
      rw [sortedHeap_old (Nat.ne_of_lt lt) (by rw [size_push']; exact Nat.lt_succ_of_lt lt)]
      exact Heap.get?_push_of_some _ e
    · rw [List.length_map, k2.length_eq]
      exact ez
end Fw
namespace Fw
open PySem PySem.Spec PyProof.Rows L2 SrtO

/-! ### lists of ints in the order of tuples -/
def lexI : List Int → List Int → Bool
  | [], [] => false
  | [], _ :: _ => true
  | _ :: _, [] => false
  | x :: xs, y :: ys => if x = y then lexI xs ys else decide (x < y)
theorem lexI_asym : ∀ {xs ys : List Int}, lexI xs ys = true → lexI ys xs = false
  | [], [], h => by cases h
  | [], _ :: _, _ => rfl
  | _ :: _, [], h => by cases h
  | x :: xs, y :: ys, h => by
    unfold lexI at h ⊢
    by_cases e : x = y
    · rw [if_pos e] at h
      rw [if_pos e.symm]
      exact lexI_asym h
    · rw [if_neg e, decide_eq_true_eq] at h
      rw [if_neg (fun z => e z.symm)]
      exact decide_eq_false (by omega)
theorem lexI_tr : ∀ {xs ys zs : List Int}, lexI ys xs = false → lexI zs ys = false → lexI zs xs = false
  | [], [], [], _, _ => rfl
  | [], [], _ :: _, _, _ => rfl
  | [], _ :: _, [], _, h => by cases h
  | [], _ :: _, _ :: _, _, _ => rfl
  | _ :: _, [], _, h, _ => by cases h
  | _ :: _, _ :: _, [], _, h => by cases h
  | x :: xs, y :: ys, z :: zs, h1, h2 => by
    unfold lexI at h1 h2 ⊢
    by_cases e1 : y = x
    · rw [if_pos e1] at h1
      by_cases e2 : z = y
      · rw [if_pos e2] at h2
        rw [if_pos (e2.trans e1)]
        exact lexI_tr h1 h2
      · rw [if_neg e2, decide_eq_false_iff_not] at h2
        rw [if_neg (fun q => e2 (q.trans e1.symm))]
        exact decide_eq_false (by omega)
    · rw [if_neg e1, decide_eq_false_iff_not] at h1
      by_cases e2 : z = y
      · rw [if_neg (fun q => e1 (e2.symm.trans q))]
        exact decide_eq_false (by omega)
      · rw [if_neg e2, decide_eq_false_iff_not] at h2
        rw [if_neg (by omega)]
        exact decide_eq_false (by omega)
theorem lexI_total : ∀ {xs ys : List Int}, lexI xs ys = false → xs ≠ ys → lexI ys xs = true
  | [], [], _, h => absurd rfl h
  | [], _ :: _, h, _ => by cases h
  | _ :: _, [], _, _ => rfl
  | x :: xs, y :: ys, h, n => by
    unfold lexI at h ⊢
    by_cases e : x = y
    · rw [if_pos e] at h
      rw [if_pos e.symm]
      exact lexI_total h fun z => n (by rw [e, z])
    · rw [if_neg e, decide_eq_false_iff_not] at h
      rw [if_neg (fun z => e z.symm)]
      exact decide_eq_true (by omega)
theorem lexI_head {x y : Int} {xs ys : List Int} (h : x < y) : lexI (x :: xs) (y :: ys) = true := by
  unfold lexI
  rw [if_neg (by omega)]
  exact decide_eq_true h
/-- two lists that rise strictly, with the same members, are one -/
theorem rise_ext {α : Type} {lt : α → α → Prop} (as : ∀ a b, lt a b → ¬ lt b a) : ∀ {xs ys : List α}, xs.Pairwise lt → ys.Pairwise lt → (∀ x, x ∈ xs ↔ x ∈ ys) → xs = ys
  | [], [], _, _, _ => rfl
  | [], y :: ys, _, _, h => absurd ((h y).mpr (List.mem_cons_self ..)) (by simp)
  | x :: xs, [], _, _, h => absurd ((h x).mp (List.mem_cons_self ..)) (by simp)
  | x :: xs, y :: ys, hx, hy, h => by
    obtain ⟨hx1, hx2⟩ := List.pairwise_cons.mp hx
    obtain ⟨hy1, hy2⟩ := List.pairwise_cons.mp hy
    have e : x = y := by
      rcases List.mem_cons.mp ((h x).mp (List.mem_cons_self ..)) with h1 | h1
      · exact h1
      · rcases List.mem_cons.mp ((h y).mpr (List.mem_cons_self ..)) with h2 | h2
        · exact h2.symm
        · exact absurd (hy1 _ h1) (as _ _ (hx1 _ h2))
    subst e
    rw [rise_ext as hx2 hy2 fun z => ?_]
    constructor
    · intro m
      rcases List.mem_cons.mp ((h z).mp (List.mem_cons_of_mem _ m)) with e | e
      · subst e; exact absurd (hx1 _ m) (as _ _ (hx1 _ m))
      · exact e
    · intro m
      rcases List.mem_cons.mp ((h z).mpr (List.mem_cons_of_mem _ m)) with e | e
      · subst e; exact absurd (hy1 _ m) (as _ _ (hy1 _ m))
      · exact e

/-! ### the machine's comparison of two tuples of ints -/
def lexF (fin : Bool) : List Int → List Int → Bool
  | x :: xs, y :: ys => if x = y then lexF fin xs ys else decide (x < y)
  | _, _ => fin
theorem lexF_eq : ∀ (xs ys : List Int), lexF (decide (xs.length < ys.length)) xs ys = lexI xs ys
  | [], [] => rfl
  | [], _ :: _ => by unfold lexF lexI; simp
  | _ :: _, [] => by unfold lexF lexI; simp
  | x :: xs, y :: ys => by
    unfold lexF lexI
    have e : decide ((x :: xs).length < (y :: ys).length) = decide (xs.length < ys.length) := by simp
    rw [e, lexF_eq xs ys]
section
variable {P : Program} {w : World} {A : Around} {s : Shared}
theorem kat_ints {fin : Bool} : ∀ {xs ys : List Value} {ns ms : List Int} (i : Nat), IntsAre xs ns → IntsAre ys ms → PySem.W.KatLex P w A true fin (fun r s' => s' = s ∧ r = lexF fin ns ms) (xs.zip ys) i s := by
  intro xs ys ns ms i hx
  induction hx generalizing ys ms i with
  | nil => intro _; exact PySem.W.kat_nil ⟨rfl, by cases ms <;> rfl⟩
  | cons x t hx ih =>
    intro hy
    cases hy with
    | nil => exact PySem.W.kat_nil ⟨rfl, rfl⟩
    | cons y u hy =>
      refine PySem.W.kat_cons (SeqAt.EqAt.int_int x t y u P w _ _ (PySem.W.kat_go (fun e => ?_) fun e => ?_))
      · have e : x = y := by simpa using e
        subst e
        unfold lexF
        rw [if_pos rfl]
        exact PySem.W.kat_yes (ih (i + 1) hy)
      · have e : ¬ x = y := by simpa using e
        unfold lexF
        rw [if_neg e]
        refine PySem.W.kat_no ?_
        cases hb : (true && i == 0) with
        | true => exact oneLt_int ⟨rfl, rfl⟩
        | false => exact PySem.W.kat_one _ _ (PyProof.Rows.lt_int (show s = s ∧ decide (x < y) = decide (x < y) from ⟨rfl, rfl⟩))
theorem swo_lexI (k : Value → List Int) : Swo fun v u => lexI (k v) (k u) := ⟨fun _ _ h => lexI_asym h, fun _ _ _ h1 h2 => lexI_tr h1 h2⟩
/-- tuples of ints, none empty, sort by their order -/
theorem tups_sortable {a : Addr} {vs : List Value} {k : Value → List Int} (h0 : 0 < vs.length) (hp : ∀ v ∈ vs, TS.TupInts s.heap v (k v) ∧ k v ≠ []) (ha : ∀ o, s.heap.get? a = some o → o.cls ≠ .type "tuple") : SortableO P w A s a vs fun v u => lexI (k v) (k u) := by
  intro h' keep
  have hp' : ∀ v ∈ vs, TS.TupInts h' v (k v) := fun v hv => (hp v hv).1.keeps fun b o e c => keep b o (fun z => ha o (z ▸ e) c) e
  have firsts : ∀ us : List Value, (∀ v ∈ us, v ∈ vs) → ∃ fs : List Value, PySem.W.KatTups h' us fs ∧ fs.length = us.length ∧ ∀ f ∈ fs, ∃ x t, f = Value.int x t := by
    intro us
    induction us with
    | nil => exact fun _ => ⟨[], PySem.W.KatTups.nil, rfl, fun _ hm => nomatch hm⟩
    | cons v us ih =>
      intro hu
      obtain ⟨fs, g1, g2, g3⟩ := ih fun z hz => hu z (List.mem_cons_of_mem _ hz)
      have hv := hu v (List.mem_cons_self ..)
      obtain ⟨b, xs, rfl, ⟨o, ho, hc, n, hd⟩, hi⟩ := hp' v hv
      have ne := (hp _ hv).2
      generalize k (.ref b) = kb at hi ne
      obtain ⟨l⟩ := xs
      cases l with
      | nil =>
        have hi : IntsAre [] kb := hi
        cases hi
        exact absurd rfl ne
      | cons f l =>
        have hf : ∃ x t, f = Value.int x t := by
          have hi : IntsAre (f :: l) kb := hi
          cases hi
          exact ⟨_, _, rfl⟩
        refine ⟨f :: fs, PySem.W.KatTups.cons ho hc hd rfl g1, by rw [List.length_cons, List.length_cons, g2], fun z hz => ?_⟩
        rcases List.mem_cons.mp hz with rfl | hz
        · exact hf
        · exact g3 z hz
  obtain ⟨fs, g1, g2, g3⟩ := firsts vs fun _ h => h
  refine ⟨tuples' true, fun Q E hq => ?_, fun p q hm hm' => ?_⟩
  · refine PySem.W.kat_kind (T := .type "int") g1 (by omega) (fun f hf => ?_) (by rfl) ?_
    · obtain ⟨x, t, rfl⟩ := g3 f hf
      exact PySem.W.Looks.now
    · rw [show (Value.type "int" != Value.type "tuple") = true by decide +kernel]
      exact hq
  · obtain ⟨b, xs, e1, ⟨o, ho, hc, n, hd⟩, hi⟩ := hp' p.1 hm
    obtain ⟨b2, xs2, e2, ⟨o2, ho2, hc2, n2, hd2⟩, hi2⟩ := hp' q.1 hm'
    have fe : (lt2 fun v u => lexI (k v) (k u)) p q = lexI (k p.1) (k q.1) := rfl
    rw [fe, ← lexF_eq]
    have l1 : (k p.1).length = xs.size := by rw [← hi.length]; simp
    have l2 : (k q.1).length = xs2.size := by rw [← hi2.length]; simp
    rw [l1, l2]
    generalize k p.1 = ns at hi
    generalize k q.1 = ms at hi2
    rw [e1, e2]
    exact PySem.W.kat_lt ho hd ho2 hd2 (kat_ints 0 hi hi2)
end

/-- sorted(set), the members tuples of ints, none empty -/
def rSortedTV (K : PySem.W.Frag) (P : Program) (w : World) : List V → Hp → VK → Prop := fun vs H Q => ∃ (a : Addr) (L : List (Addr × List Int)), vs = [V.ref a] ∧ H a = some (SetTO P w a L) ∧ (∀ p ∈ L, SqT K H p.1 (vi p.2) ∧ p.2 ≠ []) ∧
  ∀ (L' : List (Addr × List Int)) (p : Addr), (∀ q, q ∈ L' ↔ q ∈ L) → (L'.map (·.2)).Pairwise (fun x y => lexI x y = true) → H p = none → Q (.ref p) (upd H p (.lst (L'.map fun q => V.ref q.1)))
theorem cr_sortedTV {X : Cx} (hc : X.calm = true) : CallR X (.builtin "sorted") (rSortedTV X.K X.prog X.w) := by
  intro pins s σ H vs us Q I r h
  obtain ⟨a, L, rfl, ha, hk, q⟩ := h
  rw [Vals.ref1 r]
  have R0 : SetT0 X.prog X.w s.heap a L := (I.hok a _ ha).1
  obtain ⟨es, ep, t, R⟩ := R0.full fun p hp => I.isT (hk p hp).1
  have few := R.few
  have rows : es.toList.map (·.2) = L.map fun q => Value.ref q.1 := by
    rw [R.rows]
    unfold rowsOf
    rw [List.map_map]
    rfl
  have one : ∀ q ∈ L, ∀ r ∈ L, q.1 = r.1 → q = r := fun q hq r hr e => by
    have a1 := R.tup q hq
    rw [e] at a1
    exact Prod.ext e (a1.inj (R.tup r hr))
  have tup : ∀ (h' : Heap), (∀ b o, s.heap.get? b = some o → h'.get? b = some o) → ∀ q ∈ L, TS.TupInts h' (.ref q.1) q.2 := fun h' kk q hq => tupInts_of (P := X.prog) (w := X.w) (isT_keep (R.tup q hq) kk)
  obtain ⟨o, ho, hex, hd⟩ := R.ob
  have hsz := R.size
  refine sorted_any (swo_lexI (TS.intsOf s.heap)) (fun us z => (∀ b o, s.heap.get? b = some o → z.heap.get? b = some o) ∧ s.heap.objs.size ≤ z.heap.objs.size ∧ z.gens = s.gens ∧ z.os = s.os ∧ us.Perm (L.map fun q => Value.ref q.1))
    (collect_set (A := X.A.in1) (I.ok.hd hc) ⟨o, ho, hex.1, hd⟩ R.fits (by unfold scanBound; omega) R.tab.ris R.led fun z out k1 k2 k3 k4 k5 => ⟨k1, k2, k3, k4, by rw [← rows]; exact k5⟩) ?_ ?_ ?_
  · rintro us z ⟨_, _, _, _, pm⟩
    rw [pm.length_eq, List.length_map, sizeLine_eq]
    omega
  · rintro us z ⟨k1, _, _, _, pm⟩ h2
    refine tups_sortable (by omega) (fun v hv => ?_) fun o' e => ?_
    · obtain ⟨p, hp, rfl⟩ := List.mem_map.mp (pm.mem_iff.mp hv)
      have e0 : TS.intsOf s.heap (.ref p.1) = p.2 := (tup s.heap (fun _ _ e => e) p hp).ints
      rw [e0]
      exact ⟨tup _ (fun b o e => Heap.get?_push_of_some _ (k1 b o e)) p hp, (hk p hp).2⟩
    · have e' : some o' = some (seqObj "list" us.toArray 0) := e.symm.trans (Heap.get?_push_size _ rfl)
      cases e'
      intro c
      exact absurd (Value.type.inj c) (by decide)
  · rintro us z out ⟨k1, k2, k3, k4, pm⟩ h1 h2
    have pm2 := h2.perm.trans pm
    obtain ⟨L', pL, eL⟩ := perm_map_inv pm2 rfl
    have at0 : (z.heap.push (seqObj "list" us.toArray 0)).get? z.heap.objs.size = some (seqObj "list" us.toArray 0) := Heap.get?_push_size _ rfl
    obtain ⟨e', he'⟩ := sortedHeap_at (vs := us) (out := out.toArray) at0
    have hn : H z.heap.objs.size = none := I.hok.fresh k2
    have kk : ∀ b o, s.heap.get? b = some o → (sortedHeap (z.heap.push (seqObj "list" us.toArray 0)) z.heap.objs.size us out.toArray).get? b = some o := fun b o e => by
      have lt := Heap.lt_size (k1 b o e)
      rw [sortedHeap_old (Nat.ne_of_lt lt) (by rw [size_push']; exact Nat.lt_succ_of_lt lt)]
      exact Heap.get?_push_of_some _ (k1 b o e)
    have rise : (L'.map (·.2)).Pairwise (fun x y => lexI x y = true) := by
      rw [eL] at h1
      have p1 := List.pairwise_map.mp h1
      have nd : (L'.map (·.2)).Nodup := (pL.map _).nodup_iff.mpr R.nd
      refine List.pairwise_map.mpr (List.Pairwise.imp_of_mem ?_ (p1.and (List.pairwise_map.mp nd)))
      rintro q r hq hr ⟨g1, g2⟩
      have f1 : TS.intsOf s.heap (.ref q.1) = q.2 := (tup s.heap (fun _ _ e => e) q (pL.mem_iff.mp hq)).ints
      have f2 : TS.intsOf s.heap (.ref r.1) = r.2 := (tup s.heap (fun _ _ e => e) r (pL.mem_iff.mp hr)).ints
      have g1 : lexI (TS.intsOf s.heap (.ref r.1)) (TS.intsOf s.heap (.ref q.1)) = false := g1
      rw [f1, f2] at g1
      exact lexI_total g1 fun e => g2 e.symm
    have J : Inv X pins σ (upd H z.heap.objs.size (.lst (L'.map fun q => V.ref q.1))) { s with heap := sortedHeap (z.heap.push (seqObj "list" us.toArray 0)) z.heap.objs.size us out.toArray, gens := z.gens, drawn := z.drawn, toks := z.toks } :=
      I.call (ch := []) (Un.laid kk k2 hn) (I.hok.laid kk k2 ⟨by rw [List.length_map, pL.length_eq, sizeLine_eq]; omega, out, e', by rw [eL]; exact vals_of_refs L', he'⟩) (by rw [k3]; exact I.bare) (fun _ z => nomatch z)
    have ez : ({ z with heap := sortedHeap (z.heap.push (seqObj "list" us.toArray 0)) z.heap.objs.size us out.toArray } : Shared) = { s with heap := sortedHeap (z.heap.push (seqObj "list" us.toArray 0)) z.heap.objs.size us out.toArray, gens := z.gens, drawn := z.drawn, toks := z.toks } := by
      cases z
      cases k4
      rfl
    rw [ez]
    exact ⟨.ref z.heap.objs.size, _, J, rfl, q L' _ (fun x => pL.mem_iff) rise hn⟩
end Fw
namespace Fw
open PySem PySem.Spec PyProof.Rows L2

/-- what can be reached from g over rooms of R -/
inductive Wk (D : List (Int × Int)) (R : List Int) (g : Int) : Int → Prop
  | base : Wk D R g g
  | step {v o : Int} : Wk D R g v → adj D v o → o ∈ R → Wk D R g o
section
variable {D : List (Int × Int)} {R : List Int} {g : Int}
theorem Wk.mem {v : Int} (h : Wk D R g v) : v = g ∨ v ∈ R := by
  cases h with
  | base => exact .inl rfl
  | step _ _ m => exact .inr m
theorem Wk.trans {a b c : Int} (h : Wk D R a b) (k : Wk D R b c) : Wk D R a c := by
  induction k with
  | base => exact h
  | step _ r m ih => exact .step ih r m
theorem Wk.symm {v : Int} (hg : g ∈ R) (h : Wk D R g v) : Wk D R v g := by
  induction h with
  | base => exact .base
  | @step v o k r m ih =>
    have mv : v ∈ R := by
      rcases k.mem with e | e
      · rw [e]; exact hg
      · exact e
    exact (Wk.step .base (adj_symm r) mv).trans ih
theorem SDone.wk {n : Int} {kvs : List (Key × V)} (S : SDone n D R g kvs) (v : Int) : isK kvs v = true ↔ Wk D R g v := by
  constructor
  · intro h
    unfold isK at h
    cases e : lk kvs v with
    | none => rw [e] at h; cases h
    | some x =>
      obtain ⟨p, c⟩ := S.inv.way v x e
      clear e h
      induction c with
      | goal _ => exact .base
      | @step v u p e a _ _ ih =>
        rcases S.inv.rng v (by unfold isK; rw [e]; rfl) with e2 | m
        · rw [e2]; exact .base
        · exact .step ih (adj_symm a) m
  · intro h
    induction h with
    | base => unfold isK; rw [S.inv.goal]; rfl
    | step _ r m ih => exact S.closed _ _ ih r m
/-- the component of g, ascending -/
structure IsC (D : List (Int × Int)) (R : List Int) (g : Int) (l : List Int) : Prop where
  up : l.Pairwise (· < ·)
  mem : ∀ v, v ∈ l ↔ Wk D R g v
theorem IsC.one {l l' : List Int} (a : IsC D R g l) (b : IsC D R g l') : l = l' := up_ext a.up b.up fun v => (a.mem v).trans (b.mem v).symm
theorem IsC.of {l ks : List Int} (p : l.Perm ks) (s : l.Pairwise (· ≤ ·)) (n : ks.Nodup) (m : ∀ v, v ∈ ks ↔ Wk D R g v) : IsC D R g l := ⟨up_of s (p.nodup_iff.mpr n), fun v => by rw [p.mem_iff]; exact m v⟩
end
theorem rg_filter_len {n : Int} {p : Int → Bool} : ((rg n).filter p).length ≤ n.toNat := by
  refine Nat.le_trans (List.length_filter_le _ _) ?_
  rw [rg_len]
  exact Nat.le_refl _

section
variable {P : Program} {w : World} {K : PySem.W.Frag} {mg : Str → Option Value} {base : Heap}
def nr (r : Int) : Int → Bool := fun o => !decide (V.int o = V.int r)
def oth (n r : Int) : List Int := (rg n).filter (nr r)
def ob (r : Int) (i : Nat) : List Int := ((List.range i).map fun (j : Nat) => 0 + (j : Int)).filter (nr r)
theorem ob_succ (r : Int) (i : Nat) : ob r (i + 1) = ob r i ++ if nr r (0 + (i : Int)) = true then [0 + (i : Int)] else [] := by
  unfold ob
  rw [List.range_succ, List.map_append, List.filter_append]
  congr 1
  by_cases c : nr r (0 + (i : Int)) = true
  · rw [if_pos c]
    show List.filter (nr r) [0 + (i : Int)] = _
    rw [List.filter_cons_of_pos c]
    rfl
  · rw [if_neg c]
    show List.filter (nr r) [0 + (i : Int)] = _
    rw [List.filter_cons_of_neg c]
    rfl
theorem ob_len (r : Int) (i : Nat) : (ob r i).length ≤ i := by
  refine Nat.le_trans (List.length_filter_le _ _) ?_
  simp
theorem ob_oth (n r : Int) : ob r n.toNat = oth n r := by
  unfold ob oth rg
  congr 1
  refine List.map_congr_left fun i _ => ?_
  omega
def spBey : Sp := fun vs H Q _ => ∃ (h : Addr) (n : Int) (D : List (Int × Int)) (r g : Int), vs = [.ref h, .int r, .int g] ∧ HouseAt H h n D ∧ Forest n D ∧ 0 ≤ n ∧ n ≤ 8 ∧
  ∀ H' t l, Same H H' → H' t = some (.tup (vi l)) → IsC D (oth n r) g l → l.length ≤ 20 → Q (.ref t) H'
abbrev nBey : List Str := ["house", "room", "neighbor", "others", "other"]
theorem scBey : FnScope nBey ["house", "room", "neighbor"] (defScope sBey) := ⟨rfl, rfl, rfl, by decide +kernel, rfl, by decide +kernel, by decide +kernel⟩
theorem ok_bey {f fN fS : Addr} {fd fdN fdS : FuncData} (F : Fun K "rooms_beyond" "rooms_beyond" sBey f fd) (T : Nm mg) (DN : Def K mg "neighbors" sNb fN fdN ["house", "room"]) (DS : Def K mg "steps_toward" sSteps fS fdS ["house", "goal", "rooms"]) : FnOk P w K mg base CX0 3 f fd ["house", "room", "neighbor"] spBey := by
  have GS : FnOk P w K mg base CX0 2 fS fdS ["house", "goal", "rooms"] (spSteps K) := ok_steps DS.F T DN
  refine F.ok scBey (fun vs H Q E h => ?_) (fun cdv A outer s H vs Q E hr h => ?_)
  · obtain ⟨h, n, D, r, g, rfl, _⟩ := h
    rfl
  · obtain ⟨h, n, D, r, g, rfl, hH, hF, n0, n1, q⟩ := h
    obtain ⟨hq, eh⟩ := hH.top
    refine ⟨_, pss_cons (ps_setLc (i := 3) (own := [("other", 4)]) (g := gName 4) (by rfl) scBey.nd rfl rfl (sw_true rfl rfl rfl (by decide +kernel)) (pi_range1 (by rfl) T.range (pa_cons (pe_ix ix_tup (pv 0) pe_int (fun _ _ => rfl)) pa_nil))
        (blkOk_by (own := [("other", 4)]) (N := nBey) (sc := defScope sBey) (by decide +kernel)) (fun _ _ _ _ _ => pg_name (i := 4) scBey.nd rfl (Or.inl rfl))
        (fun _ _ _ _ _ => pts_one (pt_cmpR op_ne (pv 4) (pv 1) (nomark _))) (fun _ _ _ _ _ => pv 4))
      (pss_one (ps_ret (pe_callTy call_tuple_of (by rfl) T.tuple (by decide +kernel) (pa_cons (pe_callB (cr_sortedDI rfl) (by rfl) T.sorted (by decide +kernel) (pa_cons
        (pe_call GS hr (by rfl) DS.g DS.F.kp DS.b .nil pass0 (pa_cons (pv 0) (pa_cons (pv 2) (pa_cons (pv 3) pa_nil)))) pa_nil)) pa_nil)))), ?_⟩
    refine ⟨_, rfl, h, _, _, _, rfl, rfl, SqT.of eh, atI0, n, rfl, by omega, by omega, fun L hL => lc_range (lo := 0) (n := n.toNat) (fun i H1 => Same H H1 ∧ H1 L = some (.lst (vi (ob r i)))) ⟨same_upd hL, upd_same⟩ ?_ ?_⟩
    · rintro i H1 hi ⟨s1, e1⟩
      refine ⟨rfl, _, rfl, _, rfl, rfl, _, rfl, ?_⟩
      refine ite2 (fun c => ?_) (fun c => ?_)
      · refine ⟨_, rfl, _, e1, ?_, same_put s1 hL, ?_⟩
        · rw [List.length_map]
          exact small1000 (Nat.le_trans (ob_len r i) (by omega))
        · rw [upd_same, ob_succ, if_pos (show nr r _ = true from c), vi_app]
          rfl
      · refine ⟨s1, ?_⟩
        rw [ob_succ, if_neg (show ¬ nr r _ = true from c), List.append_nil]
        exact e1
    · rintro H1 ⟨s1, e1⟩
      rw [ob_oth] at e1
      refine ⟨_, rfl, _, rfl, _, rfl, h, L, n, D, g, oth n r, rfl, hH.same s1, hF, n0, n1, .inl (SqL.of e1), fun H2 d kvs s2 _ ed S => ?_⟩
      obtain ⟨ks, k1, k2, k3⟩ := S.inv.keys
      refine ⟨d, kvs, ks, rfl, ed, k1, fun ys p pm up hp => ?_⟩
      have sl := S.inv.len
      have kl : ks.length = kvs.length := by simpa using (congrArg List.length k1).symm
      refine ⟨p, _, rfl, .inl ⟨SqL.of upd_same, fun t ht => ?_⟩⟩
      exact q _ t ys (s1.trans (s2.trans ((same_upd hp).trans (same_upd ht)))) upd_same (IsC.of pm up k2 fun v => (k3 v).trans (S.wk v)) (by rw [pm.length_eq]; omega)
end
end Fw
namespace Fw
open PySem PySem.Spec PyProof.Rows L2
/-- the components of the first i rooms -/
structure CInv (D : List (Int × Int)) (R : List Int) (i : Nat) (Cs : List (Addr × List Int)) : Prop where
  a : ∀ c ∈ Cs, ∃ r ∈ R.take i, IsC D R r c.2
  b : ∀ r ∈ R.take i, ∃ c ∈ Cs, r ∈ c.2
  up : (Cs.map (·.2)).Pairwise (fun x y => lexI x y = true)
  n : Cs.length ≤ i
section
variable {D : List (Int × Int)} {R : List Int}
theorem IsC.has {g : Int} {l : List Int} (h : IsC D R g l) : g ∈ l := (h.mem g).mpr .base
theorem take_succ_mem {R : List Int} {i : Nat} {r x : Int} (e : R[i]? = some r) : x ∈ R.take (i + 1) ↔ x ∈ R.take i ∨ x = r := by
  rw [List.take_add_one, e, List.mem_append]
  simp
theorem CInv.skip {i : Nat} {Cs : List (Addr × List Int)} (C : CInv D R i Cs) {r : Int} (e : R[i]? = some r) (h : ∃ c ∈ Cs, r ∈ c.2) : CInv D R (i + 1) Cs := by
  refine ⟨fun c hc => ?_, fun x hx => ?_, C.up, Nat.le_succ_of_le C.n⟩
  · obtain ⟨r', h1, h2⟩ := C.a c hc
    exact ⟨r', (take_succ_mem e).mpr (.inl h1), h2⟩
  · rcases (take_succ_mem e).mp hx with hx | hx
    · exact C.b x hx
    · rw [hx]; exact h
theorem CInv.add {i : Nat} {Cs : List (Addr × List Int)} (C : CInv D R i Cs) {r : Int} (e : R[i]? = some r) (upR : R.Pairwise (· < ·)) (no : ∀ c ∈ Cs, r ∉ c.2) {t : Addr} {l : List Int} (hl : IsC D R r l) : CInv D R (i + 1) (Cs ++ [(t, l)]) := by
  have hi : i < R.length := (List.getElem?_eq_some_iff.mp e).1
  have er : R[i] = r := (List.getElem?_eq_some_iff.mp e).2
  have mr : r ∈ R := List.mem_of_getElem? e
  have low : ∀ v ∈ R, v < r → v ∈ R.take i := fun v hv hlt => by
    obtain ⟨j, hj, ej⟩ := List.mem_iff_getElem.mp hv
    refine List.mem_take_iff_getElem.mpr ⟨j, ?_, ej⟩
    have : ¬ i ≤ j := fun hij => by
      rcases Nat.lt_or_eq_of_le hij with h | h
      · have := (List.pairwise_iff_getElem.mp upR) i j hi hj h
        omega
      · subst h; omega
    omega
  have least : ∀ v ∈ l, r ≤ v := fun v hv => by
    by_cases hlt : v < r
    · have wv := (hl.mem v).mp hv
      have mv : v ∈ R := by
        rcases wv.mem with z | z
        · omega
        · exact z
      obtain ⟨c, hc, hvc⟩ := C.b v (low v mv hlt)
      obtain ⟨r', h1, h2⟩ := C.a c hc
      have w2 : Wk D R r' r := ((h2.mem v).mp hvc).trans (wv.symm mr)
      exact absurd ((h2.mem r).mpr w2) (no c hc)
    · omega
  refine ⟨fun c hc => ?_, fun x hx => ?_, ?_, ?_⟩
  · rcases List.mem_append.mp hc with hc | hc
    · obtain ⟨r', h1, h2⟩ := C.a c hc
      exact ⟨r', (take_succ_mem e).mpr (.inl h1), h2⟩
    · rw [List.mem_singleton.mp hc]
      exact ⟨r, (take_succ_mem e).mpr (.inr rfl), hl⟩
  · rcases (take_succ_mem e).mp hx with hx | hx
    · obtain ⟨c, hc, h⟩ := C.b x hx
      exact ⟨c, List.mem_append_left _ hc, h⟩
    · exact ⟨(t, l), List.mem_append_right _ (List.mem_singleton.mpr rfl), by rw [hx]; exact hl.has⟩
  · rw [List.map_append, List.pairwise_append]
    refine ⟨C.up, List.pairwise_singleton _ _, fun x hx y hy => ?_⟩
    have ey : y = l := List.mem_singleton.mp hy
    obtain ⟨c, hc, ec⟩ := List.mem_map.mp hx
    obtain ⟨r', h1, h2⟩ := C.a c hc
    have rr : r' < r := by
      obtain ⟨j, hj, ej⟩ := List.mem_take_iff_getElem.mp h1
      have := (List.pairwise_iff_getElem.mp upR) j i (by omega) hi (by omega)
      omega
    subst ey
    subst ec
    have hr' := h2.has
    have u2 := h2.up
    have hr := hl.has
    revert hr' u2 hr least
    cases c.2 with
    | nil => intro _ h; cases h
    | cons a as =>
      cases y with
      | nil => intro _ _ _ h; cases h
      | cons b bs =>
        intro ls hr' u2 _
        refine lexI_head ?_
        have h1 : r ≤ b := ls b (List.mem_cons_self ..)
        have h2 : a ≤ r' := by
          rcases List.mem_cons.mp hr' with z | z
          · omega
          · exact Int.le_of_lt ((List.pairwise_cons.mp u2).1 r' z)
        omega
  · rw [List.length_append, List.length_singleton]
    exact Nat.succ_le_succ C.n
theorem CInv.done {Cs : List (Addr × List Int)} (C : CInv D R R.length Cs) (l : List Int) : l ∈ Cs.map (·.2) ↔ ∃ r ∈ R, IsC D R r l := by
  have ha := C.a
  have hb := C.b
  rw [List.take_length] at ha hb
  constructor
  · intro h
    obtain ⟨c, hc, e⟩ := List.mem_map.mp h
    subst e
    exact ha c hc
  · rintro ⟨r, hr, h⟩
    obtain ⟨c, hc, hrc⟩ := hb r hr
    obtain ⟨r', h1, h2⟩ := ha c hc
    have w := (h2.mem r).mp hrc
    have : c.2 = l := up_ext h2.up h.up fun v => by
      rw [h2.mem, h.mem]
      exact ⟨fun k => (w.symm h1).trans k, fun k => w.trans k⟩
    exact this ▸ List.mem_map_of_mem hc
end

section
variable {P : Program} {w : World} {K : PySem.W.Frag} {mg : Str → Option Value} {base : Heap}
def refs (Cs : List (Addr × List Int)) : List V := Cs.map fun c => V.ref c.1
def TupsAt (H : Hp) (Cs : List (Addr × List Int)) : Prop := ∀ c ∈ Cs, H c.1 = some (.tup (vi c.2)) ∧ c.2.length ≤ 20
theorem TupsAt.same {H H' : Hp} {Cs : List (Addr × List Int)} (h : TupsAt H Cs) (e : Same H H') : TupsAt H' Cs := fun c hc => ⟨e _ _ (h c hc).1, (h c hc).2⟩
theorem get_refs {Cs : List (Addr × List Int)} {i : Nat} {x : V} (h : (refs Cs)[i]? = some x) : ∃ c, Cs[i]? = some c ∧ x = .ref c.1 := by
  unfold refs at h
  rw [List.getElem?_map] at h
  cases e : Cs[i]? with
  | none => rw [e] at h; cases h
  | some v => rw [e] at h; exact ⟨v, rfl, (Option.some.inj h).symm⟩
def spComp (K : PySem.W.Frag) : Sp := fun vs H Q _ => ∃ (h rl : Addr) (n : Int) (D : List (Int × Int)) (R : List Int), vs = [.ref h, .ref rl] ∧ HouseAt H h n D ∧ Forest n D ∧ 0 ≤ n ∧ n ≤ 8 ∧ H rl = some (.tup (vi R)) ∧ R.Pairwise (· < ·) ∧ R.length ≤ 8 ∧
  ∀ H' t Cs, Same H H' → H' t = some (.tup (refs Cs)) → TupsAt H' Cs → (Cs.map (·.2)).Pairwise (fun x y => lexI x y = true) → (∀ l, l ∈ Cs.map (·.2) ↔ ∃ r ∈ R, IsC D R r l) → Cs.length ≤ 8 → Q (.ref t) H'
abbrev nComp : List Str := ["house", "rooms", "found", "room", "component"]
theorem scComp : FnScope nComp ["house", "rooms"] (defScope sComp) := ⟨rfl, rfl, rfl, by decide +kernel, rfl, by decide +kernel, by decide +kernel⟩
theorem ok_comp {f fN fS : Addr} {fd fdN fdS : FuncData} (F : Fun K "components" "components" sComp f fd) (T : Nm mg) (Tany : mg "any" = none) (DN : Def K mg "neighbors" sNb fN fdN ["house", "room"]) (DS : Def K mg "steps_toward" sSteps fS fdS ["house", "goal", "rooms"]) : FnOk P w K mg base CX0 3 f fd ["house", "rooms"] (spComp K) := by
  have GS : FnOk P w K mg base CX0 2 fS fdS ["house", "goal", "rooms"] (spSteps K) := ok_steps DS.F T DN
  refine F.ok scComp (fun vs H Q E h => ?_) (fun cdv A outer s H vs Q E hr h => ?_)
  · obtain ⟨h, rl, n, D, R, rfl, _⟩ := h
    rfl
  · obtain ⟨h, rl, n, D, R, rfl, hH, hF, n0, n1, eR, upR, lR, q⟩ := h
    refine ⟨_, pss_cons (ps_set (i := 2) scComp.nd rfl (.inl rfl) (pe_lst pa_nil))
      (pss_cons (ps_for PassesOwn.never rfl (pi_tup (pv 1)) (pg_name (i := 3) scComp.nd rfl (Or.inr rfl))
        (pss_one (ps_if (pt_not (pt_val (pe_callB (cr_any rfl) (by rfl) Tany (by decide +kernel) (pa_cons
            (pe_lc (own := [("component", 4)]) (g := gName 4) (tt := tYes) (te := tOp (rIn K false) (tVar 3) (tVar 4)) (by rfl) scComp.nd (pi_list (pv 2)) (blkOk_by (own := [("component", 4)]) (N := nComp) (sc := defScope sComp) (by decide +kernel))
              (fun _ _ _ _ _ => pg_name (i := 4) scComp.nd rfl (Or.inl rfl)) (fun _ _ _ _ _ => pts_nil) (fun _ _ _ _ _ => pe_cmpR op_in_seq (pv 3) (pv 4) (by rfl))) pa_nil))))
          (pss_one (ps_expr (pe_bm PySem.F.plainAttrs_list PySem.F.slot_list_append PySem.F.type_list_append mt_append (pv 2) (pa_cons (pe_callTy call_tuple_of (by rfl) T.tuple (by decide +kernel) (pa_cons
            (pe_callB (cr_sortedDI rfl) (by rfl) T.sorted (by decide +kernel) (pa_cons (pe_call GS hr (by rfl) DS.g DS.F.kp DS.b .nil pass0 (pa_cons (pv 0) (pa_cons (pv 3) (pa_cons (pv 1) pa_nil)))) pa_nil)) pa_nil)) pa_nil))))
          pss_nil)))
      (pss_one (ps_ret (pe_callTy call_tuple_of (by rfl) T.tuple (by decide +kernel) (pa_cons (pv 2) pa_nil))))), ?_⟩
    refine ⟨Nat.zero_le _, fun fl hfl => ?_⟩
    have t0 : TupsAt (upd H fl (.lst [])) [] := fun c hc => by cases hc
    have c0 : CInv D R 0 [] := ⟨fun c hc => (by cases hc), fun r hr => (by simp at hr), List.Pairwise.nil, Nat.le_refl _⟩
    refine ⟨_, rfl, rl, rfl, ⟨_, SqT.of (same_upd hfl _ _ eR)⟩, for_tup (K := K) (a := rl) (xs := vi R) (fun i σ H' => ∃ (Cs : List (Addr × List Int)) (y3 y4 : Option V), σ = [some (.ref h), some (.ref rl), some (.ref fl), y3, y4] ∧ Same H H' ∧ H' fl = some (.lst (refs Cs)) ∧ TupsAt H' Cs ∧ CInv D R i Cs)
      ⟨[], none, none, rfl, same_upd hfl, upd_same, t0, c0⟩ (fun i σ H' _ ⟨_, _, _, _, sm, _⟩ => SqT.of (sm _ _ eR)) ?_ ?_⟩
    · rintro i x σ H1 hx ⟨Cs, y3, y4, rfl, s1, ef, hT, C⟩
      obtain ⟨r, er, rfl⟩ := get_vi hx
      have hi : i < R.length := (List.getElem?_eq_some_iff.mp er).1
      have Cn := C.n
      dsimp only [gName]
      refine if_by (fun b H2 => Same H1 H2 ∧ (b = true → ∀ c ∈ Cs, r ∉ c.2) ∧ (b = false → ∃ c ∈ Cs, r ∈ c.2)) ?_ ?_ ?_
      · rintro H2 ⟨s2, no, _⟩
        have no := no rfl
        have ef2 := s2 _ _ ef
        refine ⟨_, rfl, .inl ⟨rfl, _, SqL.of ef2⟩, _, rfl, _, rfl, _, rfl, h, rl, n, D, r, R, rfl, hH.same (s1.trans s2), hF, n0, n1, .inr (SqT.of (s2 _ _ (s1 _ _ eR))), fun H3 d kvs s3 hd ed S => ?_⟩
        obtain ⟨ks, k1, k2, k3⟩ := S.inv.keys
        have sl := S.inv.len
        have kl : ks.length = kvs.length := by simpa using (congrArg List.length k1).symm
        refine ⟨d, kvs, ks, rfl, ed, k1, fun ys p pm up hp => ⟨p, _, rfl, .inl ⟨SqL.of upd_same, fun t ht => ?_⟩⟩⟩
        have sA : Same H2 (upd (upd H3 p (.lst (vi ys))) t (.tup (vi ys))) := s3.trans ((same_upd hp).trans (same_upd ht))
        have ef4 := sA _ _ ef2
        have hl : IsC D R r ys := IsC.of pm up k2 fun v => (k3 v).trans (S.wk v)
        refine ⟨fl, _, _, rfl, rfl, ef4, by unfold refs; rw [List.length_map]; exact small1000 (by omega), ?_⟩
        refine ⟨Cs ++ [(t, ys)], _, _, rfl, same_put (s1.trans (s2.trans sA)) hfl, ?_, fun c hc => ?_, C.add er upR no hl⟩
        · rw [upd_same]
          unfold refs
          rw [List.map_append]
          rfl
        · rcases List.mem_append.mp hc with hc | hc
          · have h1 := hT.same (s2.trans sA) c hc
            exact ⟨(upd_ne (ne_of h1.1 ef4 (by intro z; cases z))).trans h1.1, h1.2⟩
          · rw [List.mem_singleton.mp hc]
            have h1 : (upd (upd H3 p (.lst (vi ys))) t (.tup (vi ys))) t = some (.tup (vi ys)) := upd_same
            exact ⟨(upd_ne (ne_of h1 ef4 (by intro z; cases z))).trans h1, by show ys.length ≤ 20; rw [pm.length_eq]; omega⟩
      · rintro H2 ⟨s2, _, yes⟩
        exact ⟨Cs, _, _, rfl, s1.trans s2, s2 _ _ ef, hT.same s2, C.skip er (yes rfl)⟩
      · intro QQ hQ
        refine ⟨_, rfl, fl, rfl, ⟨_, SqL.of ef⟩, fun L hL => lc_list (K := K) (a := fl) (xs := refs Cs) (fun j H2 => Same H1 H2 ∧ H2 L = some (.lst ((Cs.take j).map fun c => V.bl (decide (r ∈ c.2))))) ⟨same_upd hL, upd_same⟩ (fun j H2 _ hh => SqL.of (hh.1 _ _ ef)) ?_ ?_⟩
        · rintro j x H2 hx ⟨s2, e2⟩
          obtain ⟨c, ec, rfl⟩ := get_refs hx
          have hc := hT.same s2 c (List.mem_of_getElem? ec)
          have hj : j < Cs.length := (List.getElem?_eq_some_iff.mp ec).1
          refine ⟨rfl, ?_⟩
          unfold tYes
          refine iteT ?_
          refine ⟨_, rfl, _, rfl, c.1, _, rfl, .inr (SqT.of hc.1), rfl, flat_ints c.2, _, e2, ?_, same_put s2 hL, ?_⟩
          · rw [List.length_map, List.length_take]
            exact small1000 (by omega)
          · rw [upd_same, List.take_add_one, ec, List.map_append]
            show some (HO.lst (_ ++ [V.bl (inV (.int r) (vi c.2))])) = _
            rw [inV_ints]
            rfl
        · rintro H2 ⟨s2, e2⟩
          have el : (refs Cs).length = Cs.length := by unfold refs; rw [List.length_map]
          rw [el, List.take_length] at e2
          refine ⟨L, Cs.map fun c => decide (r ∈ c.2), rfl, SqL.of (by rw [List.map_map]; exact e2), _, rfl, hQ _ _ ⟨s2, fun e c hc m => ?_, fun e => ?_⟩⟩
          · have : ((Cs.map fun c => decide (r ∈ c.2)).any id) = true := List.any_eq_true.mpr ⟨true, List.mem_map.mpr ⟨c, hc, decide_eq_true m⟩, rfl⟩
            rw [this] at e
            cases e
          · have e : ((Cs.map fun c => decide (r ∈ c.2)).any id) = true := by simpa using e
            obtain ⟨b, hb, hb2⟩ := List.any_eq_true.mp e
            obtain ⟨c, hc, e3⟩ := List.mem_map.mp hb
            have hb2 : b = true := hb2
            rw [hb2] at e3
            exact ⟨c, hc, of_decide_eq_true e3⟩
    · rintro σ H1 ⟨Cs, y3, y4, rfl, s1, ef, hT, C⟩
      rw [List.length_map] at C
      have Cn := C.n
      refine ⟨_, rfl, fl, _, rfl, .inl ⟨SqL.of ef, fun t ht => ?_⟩⟩
      exact q _ t Cs (s1.trans (same_upd ht)) upd_same (hT.same (same_upd ht)) C.up C.done (by omega)
end
end Fw
namespace Fw
open PySem PySem.Spec PyProof.Rows L2
/-! ### ways, turned and cut -/
section
variable {R : Int → Int → Prop}
theorem SP.rev (hs : ∀ x y, R x y → R y x) {a b : Int} {p : List Int} (h : SP R a b p) : SP R b a p.reverse := by
  induction h with
  | one a => exact .one a
  | cons r q n ih =>
    rw [List.reverse_cons]
    exact ih.snoc (hs _ _ r) (by rw [List.mem_reverse]; exact n)
theorem SP.pre {a b : Int} {p : List Int} (h : SP R a b p) : ∀ (k : Nat) (hk : k < p.length), SP R a p[k] (p.take (k + 1)) := by
  induction h with
  | one a =>
    intro k hk
    have : k = 0 := by simp at hk; omega
    subst this
    exact .one a
  | @cons a c b p r q n ih =>
    intro k hk
    cases k with
    | zero => exact .one a
    | succ k =>
      have hk' : k < p.length := by simpa using hk
      exact .cons r (ih k hk') fun m => n (List.mem_of_mem_take m)
theorem SP.at0 {a b : Int} {p : List Int} (h : SP R a b p) : p[0]? = some a := by
  cases h <;> rfl
theorem SP.snocE {a b : Int} {p : List Int} (h : SP R a b p) : ∃ q, p = q ++ [b] := by
  induction h with
  | one a => exact ⟨[], rfl⟩
  | cons _ _ _ ih =>
    obtain ⟨q, e⟩ := ih
    exact ⟨_ :: q, by rw [e]; rfl⟩
theorem SP.next {a b : Int} {p : List Int} (h : SP R a b p) : ∀ (k : Nat) (hk : k + 1 < p.length), R p[k] p[k + 1] := by
  induction h with
  | one a => intro k hk; simp at hk
  | @cons a c b p r q n ih =>
    intro k hk
    cases k with
    | zero =>
      have e := q.at0
      have h0 : 0 < p.length := by simp at hk; omega
      have e2 : p[0] = c := by
        rw [List.getElem?_eq_getElem h0] at e
        exact Option.some.inj e
      show R a p[0]
      rw [e2]
      exact r
    | succ k => exact ih k (by simpa using hk)
theorem SP.to_mem {a b c : Int} {p : List Int} (h : SP R a b p) (m : c ∈ p) : ∃ q, SP R a c q := by
  obtain ⟨k, hk, e⟩ := List.mem_iff_getElem.mp m
  exact ⟨_, e ▸ h.pre k hk⟩
theorem Wk.sp {D : List (Int × Int)} {U : List Int} {g v : Int} (h : Wk D U g v) : ∃ p, SP (adj D) g v p := by
  induction h with
  | base => exact ⟨_, .one g⟩
  | @step v o _ r _ ih =>
    obtain ⟨p, hp⟩ := ih
    by_cases m : o ∈ p
    · exact hp.to_mem m
    · exact ⟨_, hp.snoc r m⟩
theorem SP.wk {D : List (Int × Int)} {U : List Int} {a b : Int} {p : List Int} (h : SP (adj D) a b p) (hU : ∀ x y, adj D x y → y ∈ U) : Wk D U a b := by
  induction h with
  | one a => exact .base
  | cons r _ _ ih => exact (Wk.step .base r (hU _ _ r)).trans ih
end
/-! ### three ways meet in one room -/
def Med (R : Int → Int → Prop) : Prop := ∀ a b c p q r, SP R a b p → SP R b c q → SP R a c r → ∃ x, ∀ y, (y ∈ p ∧ y ∈ q ∧ y ∈ r) ↔ y = x
section
variable {R R' : Int → Int → Prop} {u v : Int}
def pj (u v x : Int) : Int := if x = v then u else x
theorem pj_ne (L : Leaf R R' u v) (x : Int) : pj u v x ≠ v := by
  unfold pj
  split
  · exact L.ne
  · assumption
theorem Leaf.clean (L : Leaf R R' u v) {a b : Int} {p : List Int} (h : SP R a b p) (ha : a ≠ v) : v ∉ p := fun m => h.all (S := fun x => x ≠ v) (fun x y r e => L.no2 x (e ▸ r)) ha v m rfl
theorem Leaf.cut (L : Leaf R R' u v) {a b : Int} {p : List Int} (h : SP R' a b p) (hn : ¬ (a = v ∧ b = v)) : ∃ p0, SP R (pj u v a) (pj u v b) p0 ∧ v ∉ p0 ∧ ∀ y, y ∈ p ↔ (y ∈ p0 ∨ (y = v ∧ (a = v ∨ b = v))) := by
  by_cases ha : a = v
  · have hb : b ≠ v := fun e => hn ⟨ha, e⟩
    subst ha
    obtain ⟨p', e, s⟩ := L.from h hb
    refine ⟨p', ?_, L.clean s L.ne, fun y => ?_⟩
    · unfold pj
      rw [if_pos rfl, if_neg hb]
      exact s
    · rw [e, List.mem_cons]
      constructor
      · rintro (h | h)
        · exact .inr ⟨h, .inl rfl⟩
        · exact .inl h
      · rintro (h | ⟨h, _⟩)
        · exact .inr h
        · exact .inl h
  · by_cases hb : b = v
    · obtain ⟨p', e, s⟩ := L.to h ha hb
      refine ⟨p', ?_, L.clean s ha, fun y => ?_⟩
      · unfold pj
        rw [if_neg ha, if_pos hb]
        exact s
      · rw [e, List.mem_append, List.mem_singleton]
        constructor
        · rintro (h | h)
          · exact .inl h
          · exact .inr ⟨h, .inr hb⟩
        · rintro (h | ⟨h, _⟩)
          · exact .inl h
          · exact .inr h
    · have s := L.avoid h (L.free h ha hb)
      refine ⟨p, ?_, L.free h ha hb, fun y => ⟨.inl, ?_⟩⟩
      · unfold pj
        rw [if_neg ha, if_neg hb]
        exact s
      · rintro (h | ⟨_, h | h⟩)
        · exact h
        · exact absurd h ha
        · exact absurd h hb
theorem Leaf.med (L : Leaf R R' u v) (M : Med R) : Med R' := by
  intro a b c p q r hp hq hr
  by_cases h1 : a = v ∧ b = v
  · obtain ⟨rfl, rfl⟩ := h1
    have e := hp.loop
    refine ⟨b, fun y => ⟨fun h => ?_, fun h => ?_⟩⟩
    · rw [e] at h; exact List.mem_singleton.mp h.1
    · rw [h]; exact ⟨hp.head, hq.head, hr.head⟩
  by_cases h2 : b = v ∧ c = v
  · obtain ⟨rfl, rfl⟩ := h2
    have e := hq.loop
    refine ⟨c, fun y => ⟨fun h => ?_, fun h => ?_⟩⟩
    · rw [e] at h; exact List.mem_singleton.mp h.2.1
    · rw [h]; exact ⟨hp.last, hq.head, hr.last⟩
  by_cases h3 : a = v ∧ c = v
  · obtain ⟨rfl, rfl⟩ := h3
    have e := hr.loop
    refine ⟨c, fun y => ⟨fun h => ?_, fun h => ?_⟩⟩
    · rw [e] at h; exact List.mem_singleton.mp h.2.2
    · rw [h]; exact ⟨hp.head, hq.last, hr.head⟩
  obtain ⟨p0, sp, np, mp⟩ := L.cut hp h1
  obtain ⟨q0, sq, nq, mq⟩ := L.cut hq h2
  obtain ⟨r0, sr, nr, mr⟩ := L.cut hr h3
  obtain ⟨x, hx⟩ := M _ _ _ _ _ _ sp sq sr
  refine ⟨x, fun y => ?_⟩
  rw [← hx, mp, mq, mr]
  constructor
  · rintro ⟨g1, g2, g3⟩
    by_cases e : y = v
    · subst e
      rcases g1 with g1 | ⟨_, g1⟩
      · exact absurd g1 np
      rcases g2 with g2 | ⟨_, g2⟩
      · exact absurd g2 nq
      rcases g3 with g3 | ⟨_, g3⟩
      · exact absurd g3 nr
      rcases g1 with g1 | g1
      · rcases g2 with g2 | g2
        · exact absurd ⟨g1, g2⟩ h1
        · exact absurd ⟨g1, g2⟩ h3
      · rcases g3 with g3 | g3
        · exact absurd ⟨g3, g1⟩ h1
        · exact absurd ⟨g1, g3⟩ h2
    · exact ⟨g1.resolve_right fun z => e z.1, g2.resolve_right fun z => e z.1, g3.resolve_right fun z => e z.1⟩
  · rintro ⟨g1, g2, g3⟩
    exact ⟨.inl g1, .inl g2, .inl g3⟩
end
theorem leaf_of {U : List Int} {E : List (Int × Int)} {v u x y : Int} (g : Grown U E) (n : v ∉ U) (hu : u ∈ U) (hm : x = min u v ∧ y = max u v) : Leaf (adj E) (adj ((x, y) :: E)) u v := by
  refine ⟨fun a b => ?_, fun z h => ?_, fun z h => ?_, fun e => n (e ▸ hu)⟩
  · unfold adj
    simp only [List.mem_cons, Prod.mk.injEq]
    rcases minmax u v x y hm with ⟨h1, h2, _⟩ | ⟨h1, h2, _⟩
    · subst h1 h2
      constructor
      · rintro ((h | h) | (h | h))
        · exact .inr (.inl h)
        · exact .inl (.inl h)
        · exact .inr (.inr ⟨h.2, h.1⟩)
        · exact .inl (.inr h)
      · rintro ((h | h) | h | h)
        · exact .inl (.inr h)
        · exact .inr (.inr h)
        · exact .inl (.inl h)
        · exact .inr (.inl ⟨h.2, h.1⟩)
    · subst h1 h2
      constructor
      · rintro ((h | h) | (h | h))
        · exact .inr (.inr h)
        · exact .inl (.inl h)
        · exact .inr (.inl ⟨h.2, h.1⟩)
        · exact .inl (.inr h)
      · rintro ((h | h) | h | h)
        · exact .inl (.inr h)
        · exact .inr (.inr h)
        · exact .inr (.inl ⟨h.2, h.1⟩)
        · exact .inl (.inl h)
  · rcases h with h | h
    · exact n (g.ends _ _ h).1
    · exact n (g.ends _ _ h).2.1
  · rcases h with h | h
    · exact n (g.ends _ _ h).2.1
    · exact n (g.ends _ _ h).1
theorem Grown.med {U : List Int} {E : List (Int × Int)} (g : Grown U E) : Med (adj E) := by
  induction g with
  | nil =>
    intro a b c p q r hp hq hr
    have k : ∀ {a b : Int} {p : List Int}, SP (adj []) a b p → a = b ∧ p = [a] := by
      intro a b p hp
      cases hp with
      | one => exact ⟨rfl, rfl⟩
      | cons r _ _ => rcases r with r | r <;> cases r
    obtain ⟨e1, e2⟩ := k hp
    obtain ⟨e3, e4⟩ := k hq
    obtain ⟨_, e5⟩ := k hr
    subst e1
    subst e3
    rw [e2, e4, e5]
    exact ⟨a, fun y => by simp⟩
  | room v g n ih => exact ih
  | door v u x y g n hu hm ih => exact (leaf_of g n hu hm).med ih
theorem Forest.med {n : Int} {D : List (Int × Int)} (f : Forest n D) : Med (Fw.adj D) := by
  obtain ⟨U, E, g, _, p, _⟩ := f
  rw [adj_perm p]
  exact g.med
theorem one_of {p : List Int} (nd : p.Nodup) {f : Int → Bool} {x : Int} (h : ∀ y, (y ∈ p ∧ f y = true) ↔ y = x) : (p.filter f).length = 1 := by
  have e : p.filter f = [x] := by
    have m : ∀ y, y ∈ p.filter f ↔ y = x := fun y => by rw [List.mem_filter]; exact h y
    have n2 := nd.filter (p := f)
    cases hp : p.filter f with
    | nil =>
      have := (m x).mpr rfl
      rw [hp] at this
      cases this
    | cons z r =>
      rw [hp] at m n2
      have ez : z = x := (m z).mp (List.mem_cons_self ..)
      cases r with
      | nil => rw [ez]
      | cons z2 r =>
        have ez2 : z2 = x := (m z2).mp (List.mem_cons_of_mem _ (List.mem_cons_self ..))
        have := (List.nodup_cons.mp n2).1
        rw [ez, ez2] at this
        exact absurd (List.mem_cons_self ..) this
  rw [e]
  rfl
end Fw
namespace Fw
open PySem PySem.Spec PyProof.Rows L2
/-! ### how many components -/
theorem sub_len {α : Type} [DecidableEq α] : ∀ {xs ys : List α}, xs.Nodup → (∀ x ∈ xs, x ∈ ys) → xs.length ≤ ys.length
  | [], _, _, _ => Nat.zero_le _
  | x :: xs, ys, nd, h => by
    obtain ⟨n1, n2⟩ := List.nodup_cons.mp nd
    have hx := h x (List.mem_cons_self ..)
    have ih := sub_len (xs := xs) (ys := ys.erase x) n2 fun y hy => (List.mem_erase_of_ne (show y ≠ x from fun e => n1 (e ▸ hy))).mpr (h y (List.mem_cons_of_mem _ hy))
    rw [List.length_erase_of_mem hx] at ih
    have := List.length_pos_of_mem hx
    rw [List.length_cons]
    omega
/-- roots of a grown forest: one a class -/
structure Roots (U : List Int) (E : List (Int × Int)) (rs : List Int) : Prop where
  nd : rs.Nodup
  len : rs.length + E.length = U.length
  mem : ∀ r ∈ rs, r ∈ U
  all : ∀ x ∈ U, ∃ r ∈ rs, ∃ p, SP (adj E) r x p
  one : ∀ r ∈ rs, ∀ r' ∈ rs, ∀ p, SP (adj E) r r' p → r = r'
theorem Grown.roots {U : List Int} {E : List (Int × Int)} (g : Grown U E) : ∃ rs, Roots U E rs := by
  induction g with
  | nil => exact ⟨[], List.nodup_nil, rfl, fun r hr => (by cases hr), fun x hx => (by cases hx), fun r hr => (by cases hr)⟩
  | @room U E v g n ih =>
    obtain ⟨rs, R⟩ := ih
    have out : ∀ {x : Int} {p : List Int}, SP (adj E) x v p → x = v := fun {x p} h => by
      cases h with
      | one => rfl
      | @cons _ c _ q r s _ =>
        have hu : ∀ y ∈ q, y ∈ U := s.all (S := fun y => y ∈ U) (fun a b r => by rcases r with r | r; exact (g.ends _ _ r).2.1; exact (g.ends _ _ r).1) (by rcases r with r | r; exact (g.ends _ _ r).2.1; exact (g.ends _ _ r).1)
        exact absurd (hu v s.last) n
    have into : ∀ {x : Int} {p : List Int}, SP (adj E) v x p → x = v := fun {x p} h => (out (h.rev fun _ _ => adj_symm))
    refine ⟨v :: rs, List.nodup_cons.mpr ⟨fun m => n (R.mem v m), R.nd⟩, ?_, fun r hr => ?_, fun x hx => ?_, fun r hr r' hr' p hp => ?_⟩
    · have := R.len
      rw [List.length_cons, List.length_cons]
      omega
    · rcases List.mem_cons.mp hr with e | e
      · rw [e]; exact List.mem_cons_self ..
      · exact List.mem_cons_of_mem _ (R.mem r e)
    · rcases List.mem_cons.mp hx with e | e
      · exact ⟨v, List.mem_cons_self .., [v], by rw [e]; exact .one v⟩
      · obtain ⟨r, h1, h2⟩ := R.all x e
        exact ⟨r, List.mem_cons_of_mem _ h1, h2⟩
    · rcases List.mem_cons.mp hr with e | e
      · rw [e] at hp ⊢
        exact (into hp).symm
      · rcases List.mem_cons.mp hr' with e' | e'
        · rw [e'] at hp ⊢
          exact out hp
        · exact R.one r e r' e' p hp
  | @door U E v u x y g n hu hm ih =>
    obtain ⟨rs, R⟩ := ih
    have L := leaf_of g n hu hm
    have nv : ∀ r ∈ rs, r ≠ v := fun r hr e => n (e ▸ R.mem r hr)
    refine ⟨rs, R.nd, ?_, fun r hr => List.mem_cons_of_mem _ (R.mem r hr), fun z hz => ?_, fun r hr r' hr' p hp => ?_⟩
    · have := R.len
      rw [List.length_cons, List.length_cons]
      omega
    · have up : ∀ {a b : Int} {p : List Int}, SP (adj E) a b p → SP (adj ((x, y) :: E)) a b p := fun h => h.map fun a b _ _ r => (L.iff a b).mpr (.inl r)
      rcases List.mem_cons.mp hz with e | e
      · obtain ⟨r, h1, p, h2⟩ := R.all u hu
        refine ⟨r, h1, p ++ [v], ?_⟩
        rw [e]
        exact (up h2).snoc ((L.iff u v).mpr (.inr (.inl ⟨rfl, rfl⟩))) (L.clean h2 (nv r h1))
      · obtain ⟨r, h1, p, h2⟩ := R.all z e
        exact ⟨r, h1, p, up h2⟩
    · have f := L.free hp (nv r hr) (nv r' hr')
      exact R.one r hr r' hr' p (L.avoid hp f)
theorem Grown.rooms {U : List Int} {E : List (Int × Int)} (g : Grown U E) : U.Nodup := by
  induction g with
  | nil => exact List.nodup_nil
  | room v _ n ih => exact List.nodup_cons.mpr ⟨n, ih⟩
  | door v _ _ _ _ n _ _ ih => exact List.nodup_cons.mpr ⟨n, ih⟩
theorem Forest.rg {n : Int} {D : List (Int × Int)} (f : Forest n D) : ∀ x y, Fw.adj D x y → y ∈ rg n := fun x y r => mem_rg.mpr ⟨(f.adj r).2.2.1, (f.adj r).2.2.2⟩
theorem Forest.count {n : Int} {D : List (Int × Int)} (f : Forest n D) {Ls : List (List Int)} (up : Ls.Pairwise (fun x y => lexI x y = true)) (hm : ∀ l, l ∈ Ls ↔ ∃ r ∈ Fw.rg n, IsC D (Fw.rg n) r l) (n0 : 0 ≤ n) : (Ls.length : Int) = n - (D.length : Int) := by
  classical
  have hR := f.rg
  obtain ⟨U, E, g, hU, pm, _⟩ := f
  obtain ⟨rs, Z⟩ := g.roots
  have eA := adj_perm pm
  have memU : ∀ x, x ∈ U ↔ x ∈ Fw.rg n := fun x => (hU x).trans mem_rg.symm
  have wk : ∀ {a b : Int} {p : List Int}, SP (Fw.adj E) a b p → Wk D (Fw.rg n) a b := fun h => SP.wk (D := D) (by rw [eA]; exact h) hR
  have sp : ∀ {a b : Int}, Wk D (Fw.rg n) a b → ∃ p, SP (Fw.adj E) a b p := fun h => by rw [← eA]; exact h.sp
  have nodupL : Ls.Nodup := up.imp fun {a b} h e => by
    rw [e] at h
    rw [lexI_asym h] at h
    cases h
  -- a root for each component
  have rootOf : ∀ l ∈ Ls, ∃ r ∈ rs, IsC D (Fw.rg n) r l := fun l hl => by
    obtain ⟨x, hx, hC⟩ := (hm l).mp hl
    obtain ⟨r, h1, p, h2⟩ := Z.all x ((memU x).mpr hx)
    have w := wk h2
    have wb := w.symm ((memU r).mp (Z.mem r h1))
    exact ⟨r, h1, hC.up, fun v => (hC.mem v).trans ⟨fun k => w.trans k, fun k => wb.trans k⟩⟩
  have compOf : ∀ r ∈ rs, ∃ l ∈ Ls, IsC D (Fw.rg n) r l := fun r hr => by
    have hx := (memU r).mp (Z.mem r hr)
    -- the component of r as a list
    have mem : ∃ l, IsC D (Fw.rg n) r l := by
      refine ⟨(Fw.rg n).filter fun v => @decide (Wk D (Fw.rg n) r v) (Classical.propDecidable _), (range_up n.toNat).filter _, fun v => ?_⟩
      rw [List.mem_filter]
      constructor
      · intro h
        simpa using h.2
      · intro h
        refine ⟨?_, by simpa using h⟩
        rcases h.mem with e | e
        · rw [e]; exact hx
        · exact e
    obtain ⟨l, hl⟩ := mem
    exact ⟨l, (hm l).mpr ⟨r, hx, hl⟩, hl⟩
  have le1 : Ls.length ≤ rs.length := by
    let k : List Int → Int := fun l => if h : ∃ r ∈ rs, IsC D (Fw.rg n) r l then Classical.choose h else 0
    have hk : ∀ l ∈ Ls, k l ∈ rs ∧ IsC D (Fw.rg n) (k l) l := fun l hl => by
      have h := rootOf l hl
      show (dite _ _ _) ∈ rs ∧ IsC D (Fw.rg n) (dite _ _ _) l
      rw [dif_pos h]
      exact ⟨(Classical.choose_spec h).1, (Classical.choose_spec h).2⟩
    have nd : (Ls.map k).Nodup := nodup_map_on nodupL fun a b ha hb e => by
      have h1 := (hk a ha).2
      rw [e] at h1
      exact h1.one (hk b hb).2
    have := sub_len nd (ys := rs) fun x hx => by
      obtain ⟨l, hl, e⟩ := List.mem_map.mp hx
      exact e ▸ (hk l hl).1
    rw [List.length_map] at this
    exact this
  have le2 : rs.length ≤ Ls.length := by
    let k : Int → List Int := fun r => if h : ∃ l ∈ Ls, IsC D (Fw.rg n) r l then Classical.choose h else []
    have hk : ∀ r ∈ rs, k r ∈ Ls ∧ IsC D (Fw.rg n) r (k r) := fun r hr => by
      have h := compOf r hr
      show (dite _ _ _) ∈ Ls ∧ IsC D (Fw.rg n) r (dite _ _ _)
      rw [dif_pos h]
      exact ⟨(Classical.choose_spec h).1, (Classical.choose_spec h).2⟩
    have nd : (rs.map k).Nodup := nodup_map_on Z.nd fun a b ha hb e => by
      have h1 := (hk a ha).2
      have h2 := (hk b hb).2
      rw [e] at h1
      obtain ⟨p, hp⟩ := sp ((h1.mem b).mp h2.has)
      exact Z.one a ha b hb p hp
    have := sub_len nd (ys := Ls) fun x hx => by
      obtain ⟨r, hr, e⟩ := List.mem_map.mp hx
      exact e ▸ (hk r hr).1
    rw [List.length_map] at this
    exact this
  have lenU : U.length = n.toNat := by
    have ndU : U.Nodup := g.rooms
    have a1 := sub_len ndU (ys := Fw.rg n) fun x hx => (memU x).mp hx
    have a2 := sub_len (rg_nodup n) (ys := U) fun x hx => (memU x).mpr hx
    rw [rg_len] at a1 a2
    omega
  have := Z.len
  have dl := pm.length_eq
  omega
/-! ### a door less -/
theorem Grown.filter {U : List Int} {E : List (Int × Int)} (g : Grown U E) (p : Int × Int → Bool) : Grown U (E.filter p) := by
  induction g with
  | nil => exact .nil
  | room v _ n ih => exact .room v ih n
  | door v u x y _ n hu hm ih =>
    by_cases c : p (x, y) = true
    · rw [List.filter_cons_of_pos c]
      exact .door v u x y ih n hu hm
    · rw [List.filter_cons_of_neg c]
      exact .room v ih n
def less (D : List (Int × Int)) (e : Int × Int) : List (Int × Int) := D.filter fun d => !PyData.eqv (pd d) (pd e)
theorem mem_less {D : List (Int × Int)} {e d : Int × Int} : d ∈ less D e ↔ d ∈ D ∧ d ≠ e := by
  unfold less
  rw [List.mem_filter, pd_eqv]
  simp
theorem Forest.less {n : Int} {D : List (Int × Int)} (f : Forest n D) (e : Int × Int) : Forest n (less D e) := by
  obtain ⟨U, E, g, hU, pm, l, u⟩ := f
  exact ⟨U, _, g.filter _, hU, pm.filter _, l, u.filter _⟩
section
variable {n : Int} {D : List (Int × Int)} {a b : Int}
theorem less_adj {x y : Int} (h : adj (less D (a, b)) x y) : adj D x y := by
  rcases h with h | h
  · exact .inl (mem_less.mp h).1
  · exact .inr (mem_less.mp h).1
theorem adj_less {x y : Int} (h : adj D x y) (h1 : ¬ (x = a ∧ y = b)) (h2 : ¬ (x = b ∧ y = a)) : adj (less D (a, b)) x y := by
  rcases h with h | h
  · exact .inl (mem_less.mpr ⟨h, fun e => by injection e with e1 e2; exact h1 ⟨e1, e2⟩⟩)
  · exact .inr (mem_less.mpr ⟨h, fun e => by injection e with e1 e2; exact h2 ⟨e2, e1⟩⟩)
theorem Forest.apart (f : Forest n D) (hd : (a, b) ∈ D) : ¬ Wk (Fw.less D (a, b)) (Fw.rg n) a b := fun h => by
  have lt := (f.ends hd).2.1
  obtain ⟨p, hp⟩ := h.sp
  have h1 : SP (Fw.adj D) a b p := hp.map fun x y _ _ r => less_adj r
  have h2 : SP (Fw.adj D) a b [a, b] := .cons (.inl hd) (.one b) (by simp; omega)
  have e := f.uniq _ _ _ _ h1 h2
  subst e
  cases hp with
  | @cons _ c _ _ r q _ =>
    cases q with
    | one =>
      rcases r with r | r
      · exact (mem_less.mp r).2 rfl
      · have := (f.ends (mem_less.mp r).1).2.1
        omega
    | cons _ q _ => cases q
/-- one side: the rooms beyond the door, and the component without it -/
theorem Forest.side (f : Forest n D) (hd : Fw.adj D a b) (ne : a ≠ b) (na : ¬ Wk (Fw.less D (a, b)) (Fw.rg n) a b) (v : Int) : Wk D (oth n b) a v ↔ Wk (Fw.less D (a, b)) (Fw.rg n) a v := by
  constructor
  · intro h
    induction h with
    | base => exact .base
    | @step v o k r m ih =>
      have mo := List.mem_filter.mp m
      have ob : o ≠ b := fun e => by
        have := mo.2
        unfold nr at this
        rw [e] at this
        simp at this
      have vb : v ≠ b := by
        rcases k.mem with e | e
        · rw [e]; exact ne
        · intro z
          have := (List.mem_filter.mp e).2
          unfold nr at this
          rw [z] at this
          simp at this
      exact .step ih (adj_less r (fun z => ob z.2) (fun z => vb z.1)) mo.1
  · intro h
    induction h with
    | base => exact .base
    | @step v o k r m ih =>
      have ob : o ≠ b := fun e => by
        have z := Wk.step k r m
        rw [e] at z
        exact na z
      refine .step ih (less_adj r) (List.mem_filter.mpr ⟨m, ?_⟩)
      unfold nr
      simpa using ob
end
end Fw
namespace Fw
open PySem PySem.Spec PyProof.Rows L2 HT
/-! ### t[::-1] -/
section
variable {P : Program} {w : World} {A : Around} {E : Value → Shared → Prop} {s : Shared}
theorem back_parts (n : Nat) : Builtin.Slice.sliceAdjust none none (-1) (n : Int) = ((n : Int) - 1, -1) ∧ Builtin.Slice.slicePlaces ((n : Int) - 1) (-1) (-1) = n := by
  constructor
  · rfl
  · unfold Builtin.Slice.slicePlaces
    rw [if_neg (by decide)]
    by_cases h : n = 0
    · subst h; rfl
    · rw [if_pos (by omega), show (-(-1 : Int)) = 1 from rfl, Int.ediv_one]
      omega
theorem applied_back {sl : Addr} {n : Nat} {vs : Value} {Q : Int × Int × Nat → Shared → Prop} (hs : s.heap.IsSliceOf sl .none .none vs) (ps : IsPart vs (some (-1))) (h : Q ((n : Int) - 1, -1, n) s) :
    wpAny (model P w) A (Builtin.Slice.sliceApplied (.ref sl) (pure (n : Int))) Q E s := by
  obtain ⟨os, g1, g2, g3⟩ := id hs
  unfold Builtin.Slice.sliceApplied Builtin.Slice.sliceFields
  refine wpAny_bind (wpAny_bind (wpAny_field g1 g3 (x := .none) rfl (wpAny_bind (wpAny_field g1 g3 (x := .none) rfl (wpAny_bind (wpAny_field g1 g3 (x := vs) rfl (wpAny_pure ?_)))))))
  refine wpAny_bind (slicePart_ ps ?_)
  show wpAny _ _ (if ((-1 : Int) == 0) = true then _ else _) _ _ s
  rw [if_neg (by decide)]
  refine wpAny_bind (slicePart_none (wpAny_bind (slicePart_none (wpAny_bind (wpAny_pure ?_)))))
  show wpAny _ _ (match Builtin.Slice.sliceAdjust none none (-1) (n : Int) with | (lo, hi) => pure (lo, (-1 : Int), Builtin.Slice.slicePlaces lo hi (-1))) _ _ s
  rw [(back_parts n).1]
  show wpAny _ _ (pure ((n : Int) - 1, (-1 : Int), Builtin.Slice.slicePlaces ((n : Int) - 1) (-1) (-1))) _ _ s
  rw [(back_parts n).2]
  exact wpAny_pure h
theorem fm_eq {α β : Type} {f : α → Option β} {g : α → β} : ∀ {l : List α}, (∀ x ∈ l, f x = some (g x)) → l.filterMap f = l.map g
  | [], _ => rfl
  | x :: l, h => by
    rw [List.filterMap_cons, h x (List.mem_cons_self ..), List.map_cons, fm_eq (l := l) fun y hy => h y (List.mem_cons_of_mem _ hy)]
theorem pick_back (xs : List Value) : ((List.range xs.toArray.size).filterMap fun (k : Nat) => xs.toArray[(((xs.toArray.size : Nat) : Int) - 1 + (k : Int) * (-1)).toNat]?) = xs.reverse := by
  rw [List.size_toArray]
  have e : ∀ k ∈ List.range xs.length, xs.toArray[(((xs.length : Nat) : Int) - 1 + (k : Int) * (-1)).toNat]? = some (xs.reverse[k]?.getD .none) := fun k hk => by
    have hk := List.mem_range.mp hk
    have e1 : (((xs.length : Nat) : Int) - 1 + (k : Int) * (-1)).toNat = xs.length - 1 - k := by omega
    rw [e1, List.getElem?_toArray, List.getElem?_reverse hk, List.getElem?_eq_getElem (by omega)]
    rfl
  have e2 : (List.range xs.length).filterMap (fun (k : Nat) => xs.toArray[(((xs.length : Nat) : Int) - 1 + (k : Int) * (-1)).toNat]?) = (List.range xs.length).map fun k => xs.reverse[k]?.getD .none := by
    exact fm_eq e
  rw [e2]
  refine List.ext_getElem (by simp) fun i h1 h2 => ?_
  rw [List.getElem_map, List.getElem_range, List.getElem?_eq_getElem h2]
  rfl
theorem tuple_back {t sl : Addr} {xs : List Value} {vs : Value} {Q : Value → Shared → Prop} (ht : IsTup s.heap t xs.toArray) (hs : s.heap.IsSliceOf sl .none .none vs) (ps : IsPart vs (some (-1))) (hz : xs.length ≤ sizeLine)
    (h : Q (.ref s.heap.objs.size) { s with heap := s.heap.push { cls := .type "tuple", data := .seq xs.reverse.toArray } }) : wpAny (model P w) A (getItem (.ref t) (.ref sl)) Q E s := by
  have fits : sizeOk (.seq xs.reverse.toArray) := by
    show xs.reverse.toArray.size ≤ sizeLine
    simpa using hz
  obtain ⟨os, g1, g2, g3⟩ := id hs
  have ty : s.TypeIs (.ref sl) "slice" := ⟨os, g1, g2⟩
  unfold getItem
  try with_reducible refine wpAny_holding ?_
  first | refine wpAny_bind (wpAny_pure ?_) | skip
  refine wpAny_bind (wpAny_sequenceKey ht.typeIs (by decide) (wpAny_bind (wpAny_callSpecial?_slot (name := Str.ofString "__getitem__") ht.typeIs PyProof.Rows.slot_tuple_getitem
    (wpAny_call_entry PyProof.Rows.slot_tuple_getitem ht.typeIs entry_tuple_getitem ?_ (args_tuple_getitem _ _)))))
  show wpAny _ _ (Builtin.Tuple.tupleItemsOf (.ref t) >>= _) _ _ s
  refine wpAny_bind (tupleItemsOf_ ht (wpAny_bind (wpAny_typeOf ty ?_)))
  rw [if_pos (by decide)]
  refine wpAny_bind (applied_back hs ps ?_)
  have no : ¬ ((((xs.toArray.size : Nat) : Int) - 1 == 0 && (-1 : Int) == 1 && xs.toArray.size == xs.toArray.size) = true) := by
    rw [show ((-1 : Int) == 1) = false by decide, Bool.and_false, Bool.false_and]
    exact Bool.false_ne_true
  show wpAny _ _ (if (((xs.toArray.size : Nat) : Int) - 1 == 0 && (-1 : Int) == 1 && xs.toArray.size == xs.toArray.size) = true then _ else _) _ _ s
  rw [if_neg no, pick_back]
  first
    | exact wpAny_bind (m := Builtin.Tuple.tupleExact _) (wpAny_newObj_type (wpAny_pure ⟨_, rfl, wpAny_pure h⟩) fits)
    | exact wpAny_bind (m := Builtin.Tuple.tupleExact _) (wpAny_newObj_type (wpAny_bind (wpAny_pure (wpAny_pure ⟨_, rfl, wpAny_pure h⟩))) fits)
    | exact wpAny_bind (wpAny_bind (m := Builtin.Tuple.tupleExact _) (wpAny_newObj_type (wpAny_pure (wpAny_pure ⟨_, rfl, wpAny_pure h⟩)) fits))
    | exact wpAny_bind (wpAny_bind (m := Builtin.Tuple.tupleExact _) (wpAny_newObj_type (wpAny_pure ⟨_, rfl, wpAny_pure h⟩) fits))
end
def tRevT (K : PySem.W.Frag) (te : TE) : TE := fun σ H Q => te σ H fun x H1 => ∃ a xs, x = .ref a ∧ SqT K H1 a xs ∧ ∀ p, H1 p = none → Q (.ref p) (upd H1 p (.tup xs.reverse))
theorem pe_revT {X : Cx} {e : Expr} {te : TE} {k : Nat} {p1 p2 p3 pos : Pos} (he : PE X e te) : PE X (.Subscript e (.Slice none none (some (.UnaryOp .USub (.Constant (.int 1) k p1) p2)) p3) pos) (tRevT X.K te) := by
  constructor
  intro pins s σ H Q I h
  refine Subscript_ (thn (he.run pins s σ H _ I h) ?_)
  rintro v s1 ⟨x, H1, I1, r1, a, xs, rfl, hx, q⟩
  cases r1
  have st : PO X (some (.UnaryOp .USub (.Constant (.int 1) k p1) p2)) (tPart (tUn (rU fun i => .int (-i)) (tC (.int 1)))) := po_some (pe_un un_neg pe_int)
  refine wpAny_Slice (thn (po_none.run pins s1 σ H1 (fun o H2 => o = none ∧ H2 = H1) I1 ⟨rfl, rfl⟩) ?_)
  rintro vl s2 ⟨l, H2, I2, pl, rfl, rfl⟩
  refine thn (po_none.run pins s2 σ H2 (fun o H3 => o = none ∧ H3 = H2) I2 ⟨rfl, rfl⟩) ?_
  rintro vu s3 ⟨u, H3, I3, pu, rfl, rfl⟩
  refine thn (st.run pins s3 σ H3 (fun o H4 => o = some (-1) ∧ H4 = H3) I3 ⟨1, rfl, -1, rfl, rfl, rfl⟩) ?_
  rintro vs s4 ⟨o, H4, I4, ps, rfl, rfl⟩
  have J : Inv X pins σ H4 { s4 with heap := s4.heap.push { cls := .type "slice", data := .fields #[vl, vu, vs] } } := I4.kept (t' := s4.toks) fun b ob g => Heap.get?_push_of_some _ g
  obtain ⟨its, r, ht, hz⟩ := J.tuple hx
  cases pl
  cases pu
  show wpAny (model X.prog X.w) X.A (subscriptTail e (.Slice none none (some (.UnaryOp .USub (.Constant (.int 1) k p1) p2)) p3) (.ref a) (.ref s4.heap.objs.size)) (EP X pins σ Q) X.xe { s4 with heap := s4.heap.push { cls := .type "slice", data := .fields #[.none, .none, vs] } }
  refine tail_any (ops := [.ref a, .ref s4.heap.objs.size]) ht.typeIs PyProof.Rows.slot_tuple_getitem.lookup (tuple_back ht (Heap.IsSliceOf.new _ _ _ vs) ps (by rw [← r.length]; exact hz) ?_) (by with_unfolding_all rfl)
  refine ⟨.ref _, _, J.laid (t' := s4.toks) (o := .tup xs.reverse) (fun b ob g => Heap.get?_push_of_some _ g) (Nat.le_refl _) ⟨by rw [List.length_reverse]; exact hz, _, r.reverse, IsTup.new _ _⟩, rfl, q _ (J.hok.fresh (Nat.le_refl _))⟩
end Fw
namespace Fw
open PySem PySem.Spec PyProof.Rows L2
theorem eqvAll_same : ∀ ns : List Int, PyData.eqvAll (ns.map PyData.int) (ns.map PyData.int) = true
  | [] => by simp [PyData.eqvAll]
  | n :: ns => by
    rw [List.map_cons, PyData.eqvAll, eqvAll_same ns, PyData.eqv]
    simp
theorem eqv_same (ns : List Int) : PyData.eqv (.tuple (ns.map PyData.int)) (.tuple (ns.map PyData.int)) = true := by
  rw [PyData.eqv]
  exact eqvAll_same ns
theorem dp_tup {K : PySem.W.Frag} {H : Hp} {t : Addr} {ns : List Int} (h : H t = some (.tup (vi ns))) : Dp K H (.ref t) (.tuple (ns.map PyData.int)) := .tup (SqT.of h) (dp_ints ns)
theorem atI_at {p : List Int} {k : Nat} (hk : k < p.length) : atI (vi p) (k : Int) = some (V.int p[k]) := atI_nat (by rw [List.getElem?_map, List.getElem?_eq_getElem hk]; rfl)
theorem vi_rev (p : List Int) : (vi p).reverse = vi p.reverse := List.map_reverse.symm
theorem vi_take (p : List Int) (k : Nat) : (vi p).take k = vi (p.take k) := List.map_take.symm
theorem cut_take (xs : List V) (k : Nat) : cutV xs none (some (k : Int)) = xs.take k := by
  unfold cutV
  rw [HT.sIx_none, HT.sIx_nat, Nat.sub_zero, List.drop_zero]
  rcases Nat.le_total k xs.length with h | h
  · rw [Nat.min_eq_left h]
  · rw [Nat.min_eq_right h, List.take_of_length_le h, List.take_of_length_le (Nat.le_refl _)]
section
variable {P : Program} {w : World} {K : PySem.W.Frag} {mg : Str → Option Value} {base : Heap}
def spPH : Sp := fun vs H Q _ => ∃ (h : Addr) (n : Int) (D : List (Int × Int)) (a b : Int), vs = [.ref h, .int a, .int b] ∧ HouseAt H h n D ∧ Forest n D ∧ n ≤ 8 ∧ 0 ≤ a ∧ a < n ∧ 0 ≤ b ∧ b < n ∧ ∀ H', Same H H' → Q (.bl true) H'
abbrev nPH : List Str := ["_law_house_here", "_law_one", "_law_other", "_law_found", "_law_k"]
theorem scPH : FnScope nPH ["_law_house_here", "_law_one", "_law_other"] (defScope sPH) := ⟨rfl, rfl, rfl, by decide +kernel, rfl, by decide +kernel, by decide +kernel⟩
theorem ok_ph {f fN fP fS : Addr} {fd fdN fdP fdS : FuncData} (F : Fun K "_law_path_holds" "_law_path_holds" sPH f fd) (T : Nm mg) (DN : Def K mg "neighbors" sNb fN fdN ["house", "room"]) (DP : Def K mg "path_between" sPath fP fdP ["house", "a", "b"]) (DS : Def K mg "steps_toward" sSteps fS fdS ["house", "goal", "rooms"]) :
    FnOk P w K mg base CX0 4 f fd ["_law_house_here", "_law_one", "_law_other"] spPH := by
  have GN : FnOk P w K mg base CX0 1 fN fdN ["house", "room"] spNb := ok_nb DN.F T
  have GP : FnOk P w K mg base CX0 3 fP fdP ["house", "a", "b"] spPath := ok_path DP.F T DN DS
  refine F.ok scPH (fun vs H Q E h => ?_) (fun cdv A outer s H vs Q E hr h => ?_)
  · obtain ⟨h, n, D, a, b, rfl, _⟩ := h
    rfl
  · obtain ⟨h, n, D, a, b, rfl, hH, hF, n1, a0, a1, b0, b1, q⟩ := h
    have r1 : Room 1 _ := hr.mono (by decide)
    refine ⟨_, pss_cons (ps_set (i := 3) scPH.nd rfl (.inr rfl) (pe_call GP hr (by rfl) DP.g DP.F.kp DP.b .nil pass0 (pa_cons (pv 0) (pa_cons (pv 1) (pa_cons (pv 2) pa_nil)))))
      (pss_cons (ps_if (pt_cmp (pc_isN (pv 3))) (pss_one (ps_ret (pe_cmp (pc_isN (pe_call GP hr (by rfl) DP.g DP.F.kp DP.b .nil pass0 (pa_cons (pv 0) (pa_cons (pv 2) (pa_cons (pv 1) pa_nil))))) rfl))) pss_nil)
      (pss_cons (ps_if (PW.pt (pw_or (pt_cmpR (op_neD hr.units) (pe_call GP hr (by rfl) DP.g DP.F.kp DP.b .nil pass0 (pa_cons (pv 0) (pa_cons (pv 2) (pa_cons (pv 1) pa_nil)))) (pe_revT (pv 3)) (nomark _))
          (pw_or1 (pt_cmpR (op_neD hr.units) (pe_tup (pa_cons (pe_ix ix_tup (pv 3) pe_int (fun _ _ => rfl)) (pa_cons (pe_ix ix_tup (pv 3) (pe_un un_neg pe_int) (fun _ _ => rfl)) pa_nil))) (pe_tup (pa_cons (pv 1) (pa_cons (pv 2) pa_nil))) (nomark _)))))
        pss_never pss_nil)
      (pss_cons (ps_if (pt_cmpR (op_neD hr.units) (pe_lc (own := [("_law_k", 4)]) (g := gName 4)
            (tt := tTest (tOp (rIn K true) (tOp (rIxT K) (tVar 3) (tVar 4)) (tCall spNb [] E0 (tCons (tVar 0) (tCons (tOp (rIxT K) (tVar 3) (tOp (rI0 fun i j => V.int (i - j)) (tVar 4) (tC (V.int 1)))) tNil)))))
            (by rfl) scPH.nd (pi_range2 (by rfl) T.range (pa_cons pe_int (pa_cons (pe_callB call_len_seq (by rfl) T.len PySem.boot_len (pa_cons (pv 3) pa_nil)) pa_nil)))
            (blkOk_by (own := [("_law_k", 4)]) (N := nPH) (sc := defScope sPH) (by decide +kernel)) (fun _ _ _ _ _ => pg_name (i := 4) scPH.nd rfl (Or.inl rfl))
            (fun _ _ _ _ _ => pts_one (pt_cmpR op_notIn_seq (pe_ix ix_tup (pv 3) (pv 4) (fun _ _ => rfl)) (pe_call GN r1 (by rfl) DN.g DN.F.kp DN.b .nil pass0 (pa_cons (pv 0) (pa_cons (pe_ix ix_tup (pv 3) (pe_op op_sub (pv 4) pe_int) (fun _ _ => rfl)) pa_nil))) (by rfl)))
            (fun _ _ _ _ _ => pv 4)) (pe_lst pa_nil) (nomark _))
        pss_never pss_nil)
      (pss_one (ps_ret (pe_cmpR (op_eqD hr.units) (pe_lc (own := [("_law_k", 4)]) (g := gName 4)
            (tt := tTest (tOp (rNeD K) (tCall spPath [] E0 (tCons (tVar 0) (tCons (tVar 1) (tCons (tOp (rIxT K) (tVar 3) (tVar 4)) tNil)))) (tSl (rSlA K) (tVar 3) tNoPart (tPart (tOp (rI0 fun i j => V.int (i + j)) (tVar 4) (tC (V.int 1)))))))
            (by rfl) scPH.nd (pi_range1 (by rfl) T.range (pa_cons (pe_callB call_len_seq (by rfl) T.len PySem.boot_len (pa_cons (pv 3) pa_nil)) pa_nil))
            (blkOk_by (own := [("_law_k", 4)]) (N := nPH) (sc := defScope sPH) (by decide +kernel)) (fun _ _ _ _ _ => pg_name (i := 4) scPH.nd rfl (Or.inl rfl))
            (fun _ _ _ _ _ => pts_one (pt_cmpR (op_neD hr.units) (pe_call GP hr (by rfl) DP.g DP.F.kp DP.b .nil pass0 (pa_cons (pv 0) (pa_cons (pv 1) (pa_cons (pe_ix ix_tup (pv 3) (pv 4) (fun _ _ => rfl)) pa_nil)))) (pe_slice sl_tupA (pv 3) po_none (po_some (pe_op op_add (pv 4) pe_int))) (nomark _)))
            (fun _ _ _ _ _ => pv 4)) (pe_lst pa_nil) (nomark _))))))), ?_⟩
    refine ⟨_, rfl, _, rfl, _, rfl, h, n, D, a, b, rfl, hH, hF, n1, a0, a1, b0, b1, fun H1 s1 no => ?_, fun H1 t p s1 sp lp et => ?_⟩
    · refine ⟨_, rfl, _, rfl, iteT ?_⟩
      refine ⟨_, rfl, _, rfl, _, rfl, h, n, D, b, a, rfl, hH.same s1, hF, n1, b0, b1, a0, a1, fun H2 s2 _ => ?_, fun H2 t p s2 sp _ _ => absurd (sp.rev fun _ _ => adj_symm) (no _)⟩
      show Q (V.bl (decide (V.non = V.non))) _
      rw [decide_eq_true rfl]
      exact q _ (s1.trans s2)
    · refine ⟨_, rfl, _, rfl, iteF ?_⟩
      have hH1 := hH.same s1
      have spr := sp.rev fun _ _ => adj_symm
      have rng : ∀ x ∈ p, 0 ≤ x ∧ x < n := sp.all (S := fun x => 0 ≤ x ∧ x < n) (fun x y r => ⟨(hF.adj r).2.2.1, (hF.adj r).2.2.2⟩) ⟨a0, a1⟩
      refine ⟨_, rfl, _, rfl, _, rfl, h, n, D, b, a, rfl, hH1, hF, n1, b0, b1, a0, a1, fun H2 s2 no => absurd spr (no _), fun H2 t2 p2 s2 sp2 _ et2 => ?_⟩
      have ep : p2 = p.reverse := hF.uniq _ _ _ _ sp2 spr
      subst ep
      refine ⟨_, rfl, t, _, rfl, SqT.of (s2 _ _ et), fun r hr' => ?_⟩
      have er : (upd H2 r (.tup (vi p).reverse)) r = some (.tup (vi p.reverse)) := by rw [upd_same, vi_rev]
      refine ⟨_, _, dp_tup (same_upd hr' _ _ et2), dp_tup er, shaped_tup _, shaped_tup _, _, rfl, ?_⟩
      rw [eqv_same]
      refine iteF ?_
      have s3 : Same H1 (upd H2 r (.tup (vi p).reverse)) := s2.trans (same_upd hr')
      have et3 := s3 _ _ et
      generalize upd H2 r (.tup (vi p).reverse) = H3 at s3 et3
      obtain ⟨q0, eq0⟩ := sp.snocE
      have lastp : atI (vi p) (-1) = some (.int b) := by
        rw [eq0, vi_app]
        exact atI_last _ _
      have firstp : atI (vi p) 0 = some (.int a) := atI_nat (j := 0) (by rw [List.getElem?_map, sp.at0]; rfl)
      refine ⟨_, rfl, t, _, _, _, rfl, rfl, SqT.of et3, firstp, _, rfl, _, rfl, t, _, _, _, rfl, rfl, SqT.of et3, lastp, by show 2 ≤ sizeLine; decide, fun u hu => ?_⟩
      refine ⟨_, rfl, _, rfl, by show 2 ≤ sizeLine; decide, fun u2 hu2 => ?_⟩
      refine ⟨.tuple ([a, b].map .int), .tuple ([a, b].map .int), dp_tup (ns := [a, b]) (same_upd hu2 _ _ upd_same), dp_tup (ns := [a, b]) upd_same, shaped_tup _, shaped_tup _, _, rfl, ?_⟩
      rw [eqv_same]
      refine iteF ?_
      have s4 : Same H1 (upd (upd H3 u (.tup [.int a, .int b])) u2 (.tup [.int a, .int b])) := s3.trans ((same_upd hu).trans (same_upd hu2))
      have et4 := s4 _ _ et
      have hH4 := hH1.same s4
      generalize upd (upd H3 u (.tup [.int a, .int b])) u2 (.tup [.int a, .int b]) = H4 at s4 et4 hH4
      -- its rooms are pairwise adjacent
      refine ⟨_, rfl, t, _, rfl, .inr (SqT.of et4), 1, _, rfl, ⟨by decide, by decide, by omega, by rw [List.length_map]; omega⟩, fun L hL => lc_range (lo := 1) (n := (((vi p).length : Nat) - 1 : Int).toNat) (fun i H5 => Same H4 H5 ∧ H5 L = some (.lst [])) ⟨same_upd hL, upd_same⟩ ?_ ?_⟩
      · rintro i H5 hi ⟨s5, e5⟩
        rw [List.length_map] at hi
        have hi2 : i + 1 < p.length := by omega
        have et5 := s5 _ _ et4
        have e1 : atI (vi p) (1 + (i : Int)) = some (V.int p[i + 1]) := by
          have := atI_at hi2
          rw [show ((i + 1 : Nat) : Int) = 1 + (i : Int) by omega] at this
          exact this
        have e0 : atI (vi p) (1 + (i : Int) - 1) = some (V.int p[i]) := by
          have := atI_at (show i < p.length by omega)
          rw [show ((i : Nat) : Int) = 1 + (i : Int) - 1 by omega] at this
          exact this
        refine ⟨rfl, _, rfl, _, rfl, t, _, _, _, rfl, rfl, SqT.of et5, e1, _, rfl, _, rfl, _, rfl, _, _, rfl, rfl, t, _, _, _, rfl, rfl, SqT.of et5, e0, h, n, D, _, rfl, hH4.same s5, hF, fun H6 t6 s6 e6 => ?_⟩
        refine ⟨t6, _, rfl, .inr (SqT.of e6), rfl, flat_ints _, _, rfl, ?_⟩
        show if (!inV (.int p[i + 1]) (vi (nb n D p[i]))) = true then _ else _
        rw [inV_ints, decide_eq_true (hF.mem_nb.mpr (sp.next i hi2))]
        refine iteF ?_
        exact ⟨s5.trans s6, s6 _ _ e5⟩
      · rintro H5 ⟨s5, e5⟩
        refine ⟨Nat.zero_le _, fun u3 hu3 => ?_⟩
        refine ⟨.list (([] : List Int).map .int), .list [], .lst (SqL.of (same_upd hu3 _ _ e5)) .nil, .lst (SqL.of upd_same) .nil, shaped_list [], shaped_list [], _, rfl, ?_⟩
        rw [eqv_nil]
        refine iteF ?_
        have s6 : Same H4 (upd H5 u3 (.lst [])) := s5.trans (same_upd hu3)
        have et6 := s6 _ _ et4
        have hH6 := hH4.same s6
        generalize upd H5 u3 (.lst []) = H6 at s6 et6 hH6
        -- its prefixes are paths
        refine ⟨_, rfl, t, _, rfl, .inr (SqT.of et6), _, rfl, by omega, by rw [List.length_map]; omega, fun L2 hL2 => lc_range (lo := 0) (n := (((vi p).length : Nat) : Int).toNat) (fun i H7 => Same H6 H7 ∧ H7 L2 = some (.lst [])) ⟨same_upd hL2, upd_same⟩ ?_ ?_⟩
        · rintro i H7 hi ⟨s7, e7⟩
          rw [List.length_map] at hi
          have hi2 : i < p.length := by omega
          have et7 := s7 _ _ et6
          have e0 : atI (vi p) (0 + (i : Int)) = some (V.int p[i]) := by
            rw [Int.zero_add]
            exact atI_at hi2
          have rp := rng p[i] (List.getElem_mem hi2)
          have spi := sp.pre i hi2
          refine ⟨rfl, _, rfl, _, rfl, _, rfl, _, rfl, t, _, _, _, rfl, rfl, SqT.of et7, e0, h, n, D, a, _, rfl, hH6.same s7, hF, n1, a0, a1, rp.1, rp.2, fun H8 s8 no => absurd spi (no _), fun H8 t8 p8 s8 sp8 _ et8 => ?_⟩
          have ep8 : p8 = p.take (i + 1) := hF.uniq _ _ _ _ sp8 spi
          subst ep8
          have fin : ∀ (H9 : Hp) (t9 : Addr), Same H8 H9 → H9 t9 = some (.tup (vi (p.take (i + 1)))) → rNeD K (.ref t8) (.ref t9) H9 (fun x H' => ∃ k, x = V.bl k ∧ (if k = true then tVar 4 [some (.ref h), some (.int a), some (.int b), some (.ref t), some (.int (0 + (i : Int)))] H' (fun y H4 => ∃ acc, H4 L2 = some (HO.lst acc) ∧ acc.length < sizeLine ∧ Same H6 (upd H4 L2 (HO.lst (acc ++ [y]))) ∧ upd H4 L2 (HO.lst (acc ++ [y])) L2 = some (HO.lst [])) else Same H6 H' ∧ H' L2 = some (.lst []))) := by
            intro H9 t9 s9 e9
            refine ⟨_, _, dp_tup (s9 _ _ et8), dp_tup e9, shaped_tup _, shaped_tup _, _, rfl, ?_⟩
            rw [eqv_same]
            exact iteF ⟨s7.trans (s8.trans s9), s9 _ _ (s8 _ _ e7)⟩
          refine ⟨_, rfl, _, rfl, _, _, rfl, rfl, _, rfl, t, _, rfl, SqT.of (s8 _ _ et7), fun hw => ?_, fun _ u9 hu9 => ?_⟩
          · have e9 : p.take (i + 1) = p := by
              have z := hw.2
              rw [show (0 + (i : Int) + 1) = ((i + 1 : Nat) : Int) by omega, HT.sIx_nat, List.length_map] at z
              exact List.take_of_length_le (by omega)
            exact fin H8 t (Same.refl _) (by rw [e9]; exact s8 _ _ et7)
          · refine fin _ u9 (same_upd hu9) ?_
            rw [upd_same, show (0 + (i : Int) + 1) = ((i + 1 : Nat) : Int) by omega, cut_take, vi_take]
        · rintro H7 ⟨s7, e7⟩
          refine ⟨Nat.zero_le _, fun u4 hu4 => ?_⟩
          refine ⟨.list (([] : List Int).map .int), .list [], .lst (SqL.of (same_upd hu4 _ _ e7)) .nil, .lst (SqL.of upd_same) .nil, shaped_list [], shaped_list [], ?_⟩
          rw [eqv_nil]
          exact q _ (s1.trans (s4.trans (s6.trans (s7.trans (same_upd hu4)))))
end
end Fw
namespace Fw
open PySem PySem.Spec PyProof.Rows L2
/-- what path_between hands back -/
def PR (D : List (Int × Int)) (a b : Int) (x : V) (H : Hp) : Prop := (x = .non ∧ ∀ p, ¬ SP (adj D) a b p) ∨ ∃ t p, x = .ref t ∧ H t = some (.tup (vi p)) ∧ SP (adj D) a b p ∧ p.length ≤ 8
theorem PR.same {D : List (Int × Int)} {a b : Int} {x : V} {H H' : Hp} (h : PR D a b x H) (e : Same H H') : PR D a b x H' := by
  rcases h with h | ⟨t, p, h1, h2, h3⟩
  · exact .inl h
  · exact .inr ⟨t, p, h1, e _ _ h2, h3⟩
theorem path_any {H : Hp} {Q : VK} {E : XK} {h : Addr} {n : Int} {D : List (Int × Int)} {a b : Int} (hH : HouseAt H h n D) (hF : Forest n D) (n1 : n ≤ 8) (a0 : 0 ≤ a) (a1 : a < n) (b0 : 0 ≤ b) (b1 : b < n) (k : ∀ H' x, Same H H' → PR D a b x H' → Q x H') : spPath [.ref h, .int a, .int b] H Q E :=
  ⟨h, n, D, a, b, rfl, hH, hF, n1, a0, a1, b0, b1, fun H' s no => k H' _ s (.inl ⟨rfl, no⟩), fun H' t p s sp lp et => k H' _ s (.inr ⟨t, p, rfl, et, sp, lp⟩)⟩
def spPath2 : Sp := fun vs H Q _ => ∃ (h : Addr) (n : Int) (D : List (Int × Int)) (a b : Int), vs = [.ref h, .int a, .int b] ∧ HouseAt H h n D ∧ Forest n D ∧ n ≤ 8 ∧ 0 ≤ a ∧ a < n ∧ 0 ≤ b ∧ b < n ∧ ∀ H' x, Same H H' → PR D a b x H' → Q x H'
theorem path2 (vs : List V) (H : Hp) (Q : VK) (E : XK) (z : spPath2 vs H Q E) : spPath vs H Q E := by
  obtain ⟨h, n, D, a, b, rfl, hH, hF, n1, a0, a1, b0, b1, k⟩ := z
  exact path_any hH hF n1 a0 a1 b0 b1 k
theorem PR.data {K : PySem.W.Frag} {D : List (Int × Int)} {a b : Int} {x : V} {H : Hp} (h : PR D a b x H) : ∃ d, Dp K H x d ∧ d.canLay0 = true ∧ d.depth ≤ 1 ∧ PyData.eqv d .none = decide (x = .non) := by
  rcases h with ⟨rfl, _⟩ | ⟨t, p, rfl, h2, _⟩
  · exact ⟨.none, .non, by simp [PyData.canLay0], by simp [PyData.depth], by simp [PyData.eqv]⟩
  · refine ⟨_, dp_tup h2, by rw [PyData.canLay0]; exact lay_ints p, by rw [PyData.depth, deep_ints]; exact Nat.le_refl _, ?_⟩
    rw [PyData.eqv]
    rfl
section
variable {P : Program} {w : World} {K : PySem.W.Frag} {mg : Str → Option Value} {base : Heap}
def spMH : Sp := fun vs H Q _ => ∃ (h : Addr) (n : Int) (D : List (Int × Int)) (a b c : Int), vs = [.ref h, .int a, .int b, .int c] ∧ HouseAt H h n D ∧ Forest n D ∧ n ≤ 8 ∧ 0 ≤ a ∧ a < n ∧ 0 ≤ b ∧ b < n ∧ 0 ≤ c ∧ c < n ∧ ∀ H', Same H H' → Q (.bl true) H'
abbrev nMH : List Str := ["_law_house_here", "_law_one", "_law_two", "_law_three", "_law_found", "_law_room"]
theorem scMH : FnScope nMH ["_law_house_here", "_law_one", "_law_two", "_law_three"] (defScope sMH) := ⟨rfl, rfl, rfl, by decide +kernel, rfl, by decide +kernel, by decide +kernel⟩
theorem ok_mh {f fN fP fS : Addr} {fd fdN fdP fdS : FuncData} (F : Fun K "_law_middle_holds" "_law_middle_holds" sMH f fd) (T : Nm mg) (DN : Def K mg "neighbors" sNb fN fdN ["house", "room"]) (DP : Def K mg "path_between" sPath fP fdP ["house", "a", "b"]) (DS : Def K mg "steps_toward" sSteps fS fdS ["house", "goal", "rooms"]) :
    FnOk P w K mg base CX0 4 f fd ["_law_house_here", "_law_one", "_law_two", "_law_three"] spMH := by
  have GP : FnOk P w K mg base CX0 3 fP fdP ["house", "a", "b"] spPath2 := (ok_path DP.F T DN DS).imp path2
  refine F.ok scMH (fun vs H Q E h => ?_) (fun cdv A outer s H vs Q E hr h => ?_)
  · obtain ⟨h, n, D, a, b, c, rfl, _⟩ := h
    rfl
  · obtain ⟨h, n, D, a, b, c, rfl, hH, hF, n1, a0, a1, b0, b1, c0, c1, q⟩ := h
    refine ⟨_, pss_cons (ps_set (i := 4) scMH.nd rfl (.inr rfl) (pe_lst (pa_cons (pe_call GP hr (by rfl) DP.g DP.F.kp DP.b .nil pass0 (pa_cons (pv 0) (pa_cons (pv 1) (pa_cons (pv 2) pa_nil))))
        (pa_cons (pe_call GP hr (by rfl) DP.g DP.F.kp DP.b .nil pass0 (pa_cons (pv 0) (pa_cons (pv 2) (pa_cons (pv 3) pa_nil)))) (pa_cons (pe_call GP hr (by rfl) DP.g DP.F.kp DP.b .nil pass0 (pa_cons (pv 0) (pa_cons (pv 1) (pa_cons (pv 3) pa_nil)))) pa_nil)))))
      (pss_cons (ps_if (pt_cmpR (op_inD (units65 hr)) pe_non (pv 4) (by rfl)) (pss_one (ps_ret pe_bl)) pss_nil)
      (pss_one (ps_ret (pe_cmpR op_eq (pe_callB call_len_seq (by rfl) T.len PySem.boot_len (pa_cons
        (pe_lc (own := [("_law_room", 5)]) (g := gName 5) (tt := tAnd (tTest (tOp (rIn K false) (tVar 5) (tOp (rIxL K) (tVar 4) (tC (V.int 1))))) (tTest (tOp (rIn K false) (tVar 5) (tOp (rIxL K) (tVar 4) (tC (V.int 2)))))) (by rfl) scMH.nd
          (pi_tup (pe_ix ix_list (pv 4) pe_int (fun _ _ => rfl))) (blkOk_by (own := [("_law_room", 5)]) (N := nMH) (sc := defScope sMH) (by decide +kernel)) (fun _ _ _ _ _ => pg_name (i := 5) scMH.nd rfl (Or.inl rfl))
          (fun _ _ _ _ _ => pts_one (PW.pt (pw_and (pt_cmpR op_in_seq (pv 5) (pe_ix ix_list (pv 4) pe_int (fun _ _ => rfl)) (by rfl)) (pw_and1 (pt_cmpR op_in_seq (pv 5) (pe_ix ix_list (pv 4) pe_int (fun _ _ => rfl)) (by rfl))))))
          (fun _ _ _ _ _ => pv 5)) pa_nil)) pe_int (nomark _))))), ?_⟩
    refine ⟨_, rfl, _, rfl, _, rfl, h, n, D, a, b, rfl, hH, hF, n1, a0, a1, b0, b1, fun H1 x1 s1 R1 => ?_⟩
    refine ⟨_, rfl, _, rfl, _, rfl, h, n, D, b, c, rfl, (hH.same s1), hF, n1, b0, b1, c0, c1, fun H2 x2 s2 R2 => ?_⟩
    refine ⟨_, rfl, _, rfl, _, rfl, h, n, D, a, c, rfl, (hH.same (s1.trans s2)), hF, n1, a0, a1, c0, c1, fun H3 x3 s3 R3 => ?_⟩
    refine ⟨by show 3 ≤ sizeLine; decide, fun F4 hF4 => ?_⟩
    have s4 : Same H3 (upd H3 F4 (.lst [x1, x2, x3])) := same_upd hF4
    have e4 : (upd H3 F4 (.lst [x1, x2, x3])) F4 = some (.lst [x1, x2, x3]) := upd_same
    have R1 := R1.same (s2.trans (s3.trans s4))
    have R2 := R2.same (s3.trans s4)
    have R3 := R3.same s4
    have sA := s1.trans (s2.trans (s3.trans s4))
    generalize upd H3 F4 (.lst [x1, x2, x3]) = H4 at s4 e4 R1 R2 R3 sA
    obtain ⟨d1, g1, l1, p1, v1⟩ := R1.data (K := K)
    obtain ⟨d2, g2, l2, p2, v2⟩ := R2.data (K := K)
    obtain ⟨d3, g3, l3, p3, v3⟩ := R3.data (K := K)
    have sh : SeqAt.shaped (.list [d1, d2, d3]) = true := by
      unfold SeqAt.shaped
      rw [PyData.canLay0, PyData.canLayAll0, PyData.canLayAll0, PyData.canLayAll0, PyData.canLayAll0, l1, l2, l3, PyData.depth, PyData.depthAll, PyData.depthAll, PyData.depthAll, PyData.depthAll]
      simp
      omega
    refine ⟨_, rfl, .none, [d1, d2, d3], .non, .lst (SqL.of e4) (.cons g1 (.cons g2 (.cons g3 .nil))), by decide, sh, _, rfl, ?_⟩
    have ea : ([d1, d2, d3].any fun z => PyData.eqv z .none) = (decide (x1 = .non) || (decide (x2 = .non) || decide (x3 = .non))) := by
      simp only [List.any_cons, List.any_nil, Bool.or_false, v1, v2, v3]
    rw [ea]
    refine ite2 (fun _ => q _ sA) (fun hc => ?_)
    rcases R1 with ⟨rfl, _⟩ | ⟨t1, P1, rfl, e1, sp1, ll1⟩
    · exact absurd rfl hc
    rcases R2 with ⟨rfl, _⟩ | ⟨t2, P2, rfl, e2, sp2, ll2⟩
    · exact absurd rfl hc
    rcases R3 with ⟨rfl, _⟩ | ⟨t3, P3, rfl, e3, sp3, ll3⟩
    · exact absurd rfl hc
    obtain ⟨x, hx⟩ := hF.med _ _ _ _ _ _ sp1 sp2 sp3
    have cnt := one_of (f := fun y => decide (y ∈ P2) && decide (y ∈ P3)) sp1.nodup (x := x) fun y => by
      rw [← hx]
      simp
    refine ⟨_, rfl, F4, _, _, _, rfl, rfl, SqL.of e4, atI0, t1, rfl, ⟨_, SqT.of e1⟩, fun L hL => lc_tup (K := K) (a := t1) (xs := vi P1) (fun j H5 => Same H4 H5 ∧ H5 L = some (.lst (vi ((P1.take j).filter fun y => decide (y ∈ P2) && decide (y ∈ P3))))) ⟨same_upd hL, upd_same⟩ (fun j H5 _ hh => SqT.of (hh.1 _ _ e1)) ?_ ?_⟩
    · rintro j y H5 hy ⟨s5, e5⟩
      obtain ⟨o, eo, rfl⟩ := get_vi hy
      have hj : j < P1.length := (List.getElem?_eq_some_iff.mp eo).1
      refine ⟨rfl, ?_⟩
      refine tt_by (fun b H6 => H6 = H5 ∧ b = (decide (o ∈ P2) && decide (o ∈ P3))) ?_ ?_
      · intro QQ hQ
        refine ⟨_, rfl, _, rfl, F4, _, _, _, rfl, rfl, SqL.of (s5 _ _ e4), atI1, t2, _, rfl, .inr (SqT.of (s5 _ _ e2)), rfl, flat_ints P2, _, rfl, ?_⟩
        show if (inV (.int o) (vi P2)) = true then _ else _
        rw [inV_ints]
        refine ite2 (fun k1 => ?_) (fun k1 => ?_)
        · refine ⟨_, rfl, _, rfl, F4, _, _, _, rfl, rfl, SqL.of (s5 _ _ e4), atI2, t3, _, rfl, .inr (SqT.of (s5 _ _ e3)), rfl, flat_ints P3, _, rfl, hQ _ _ ⟨rfl, ?_⟩⟩
          show inV (.int o) (vi P3) = _
          rw [inV_ints, k1, Bool.true_and]
        · refine hQ _ _ ⟨rfl, ?_⟩
          rw [Bool.eq_false_iff.mpr k1, Bool.false_and]
      · rintro bb H6 ⟨rfl, rfl⟩
        have ft : (P1.take (j + 1)).filter (fun y => decide (y ∈ P2) && decide (y ∈ P3)) = (P1.take j).filter (fun y => decide (y ∈ P2) && decide (y ∈ P3)) ++ if (decide (o ∈ P2) && decide (o ∈ P3)) = true then [o] else [] := by
          rw [List.take_add_one, eo, List.filter_append]
          congr 1
          by_cases k : (decide (o ∈ P2) && decide (o ∈ P3)) = true
          · rw [if_pos k]
            show List.filter _ [o] = _
            rw [List.filter_cons]
            simp only [k, if_true]
            rfl
          · rw [if_neg k]
            show List.filter _ [o] = _
            rw [List.filter_cons]
            simp only [k, if_false]
            rfl
        refine ite2 (fun k => ?_) (fun k => ?_)
        · refine ⟨_, rfl, _, e5, ?_, same_put s5 hL, ?_⟩
          · rw [List.length_map]
            refine small1000 (Nat.le_trans (List.length_filter_le _ _) ?_)
            rw [List.length_take]
            omega
          · rw [upd_same, ft, if_pos k, vi_app]
            rfl
        · refine ⟨s5, ?_⟩
          rw [ft, if_neg k, List.append_nil]
          exact e5
    · rintro H5 ⟨s5, e5⟩
      rw [List.length_map, List.take_length] at e5
      refine ⟨L, _, rfl, .inl (SqL.of e5), rfl, ?_⟩
      rw [List.length_map, cnt]
      show Q (V.bl (decide (V.int ((1 : Nat) : Int) = V.int 1))) _
      rw [decide_eq_true (show V.int ((1 : Nat) : Int) = V.int 1 from rfl)]
      exact q _ (sA.trans s5)
end
end Fw
namespace Fw
open PySem PySem.Spec PyProof.Rows L2
theorem less_take {ps : List (Addr × Int × Int)} {e : Int × Int} {j : Nat} {p : Addr × Int × Int} (h : ps[j]? = some p) : (ps.take (j + 1)).filter (fun q => !PyData.eqv (pd q.2) (pd e)) = (ps.take j).filter (fun q => !PyData.eqv (pd q.2) (pd e)) ++ if (!PyData.eqv (pd p.2) (pd e)) = true then [p] else [] := by
  rw [List.take_add_one, h, List.filter_append]
  congr 1
  by_cases k : (!PyData.eqv (pd p.2) (pd e)) = true
  · rw [if_pos k]
    show List.filter _ [p] = _
    rw [List.filter_cons]
    simp only [k, if_true]
    rfl
  · rw [if_neg k]
    show List.filter _ [p] = _
    rw [List.filter_cons]
    simp only [k, if_false]
    rfl
theorem less_map {ps : List (Addr × Int × Int)} {e : Int × Int} : (ps.filter fun q => !PyData.eqv (pd q.2) (pd e)).map (·.2) = less (ps.map (·.2)) e := by
  unfold less
  rw [List.filter_map]
  rfl
theorem dp_refs {K : PySem.W.Frag} {H : Hp} : ∀ {Cs : List (Addr × List Int)}, TupsAt H Cs → DpAll K H (refs Cs) (Cs.map fun c => PyData.tuple (c.2.map PyData.int))
  | [], _ => .nil
  | c :: Cs, h => .cons (dp_tup (h c (List.mem_cons_self ..)).1) (dp_refs fun q hq => h q (List.mem_cons_of_mem _ hq))
theorem refs_lay : ∀ Cs : List (Addr × List Int), PyData.canLayAll0 (Cs.map fun c => PyData.tuple (c.2.map PyData.int)) = true ∧ PyData.depthAll (Cs.map fun c => PyData.tuple (c.2.map PyData.int)) ≤ 1
  | [] => by simp [PyData.canLayAll0, PyData.depthAll]
  | c :: Cs => by
    obtain ⟨h1, h2⟩ := refs_lay Cs
    rw [List.map_cons, PyData.canLayAll0, PyData.depthAll, h1, PyData.canLay0, lay_ints, PyData.depth, deep_ints]
    exact ⟨rfl, by omega⟩
theorem refs_shaped (Cs : List (Addr × List Int)) : SeqAt.shaped (.tuple (Cs.map fun c => PyData.tuple (c.2.map PyData.int))) = true := by
  obtain ⟨h1, h2⟩ := refs_lay Cs
  unfold SeqAt.shaped
  rw [PyData.canLay0, h1, PyData.depth]
  simp
  omega
theorem refs_any {Cs : List (Addr × List Int)} {l : List Int} (h : l ∈ Cs.map (·.2)) : ((Cs.map fun c => PyData.tuple (c.2.map PyData.int)).any fun z => PyData.eqv z (.tuple (l.map PyData.int))) = true := by
  obtain ⟨c, hc, e⟩ := List.mem_map.mp h
  exact List.any_eq_true.mpr ⟨_, List.mem_map.mpr ⟨c, hc, rfl⟩, by rw [e]; exact eqv_same l⟩
theorem flipD {D : List (Int × Int)} {a b : Int} {U : List Int} {g v : Int} : Wk (less D (a, b)) U g v → Wk (less D (a, b)) U g v := id
/-- the other side of the door -/
theorem Forest.side2 {n : Int} {D : List (Int × Int)} {a b : Int} (f : Forest n D) (ne : a ≠ b) (na : ¬ Wk (Fw.less D (a, b)) (Fw.rg n) b a) (v : Int) : Wk D (oth n a) b v ↔ Wk (Fw.less D (a, b)) (Fw.rg n) b v := by
  constructor
  · intro h
    induction h with
    | base => exact .base
    | @step v o k r m ih =>
      have mo := List.mem_filter.mp m
      have oa : o ≠ a := fun e => by
        have := mo.2
        unfold nr at this
        rw [e] at this
        simp at this
      have va : v ≠ a := by
        rcases k.mem with e | e
        · rw [e]; exact fun z => ne z.symm
        · intro z
          have := (List.mem_filter.mp e).2
          unfold nr at this
          rw [z] at this
          simp at this
      exact .step ih (adj_less r (fun z => va z.1) (fun z => oa z.2)) mo.1
  · intro h
    induction h with
    | base => exact .base
    | @step v o k r m ih =>
      have oa : o ≠ a := fun e => by
        have z := Wk.step k r m
        rw [e] at z
        exact na z
      refine .step ih (less_adj r) (List.mem_filter.mpr ⟨m, ?_⟩)
      unfold nr
      simpa using oa
/-- what the two sides of a door are -/
structure Sides (n : Int) (D : List (Int × Int)) (a b : Int) (l1 l2 : List Int) : Prop where
  c1 : IsC (less D (a, b)) (rg n) a l1
  c2 : IsC (less D (a, b)) (rg n) b l2
  no : ∀ x ∈ l1, ∀ y ∈ l2, ¬ Wk (less D (a, b)) (rg n) x y
  yes : ∀ x ∈ l1, ∀ y ∈ l2, ∃ p, SP (adj D) x y p ∧ b ∈ p
  dis : ∀ x ∈ l1, x ∉ l2
theorem Forest.sides {n : Int} {D : List (Int × Int)} {a b : Int} {l1 l2 : List Int} (f : Forest n D) (hd : (a, b) ∈ D) (h1 : IsC D (oth n b) a l1) (h2 : IsC D (oth n a) b l2) : Sides n D a b l1 l2 := by
  have en := f.ends hd
  have ma : a ∈ Fw.rg n := mem_rg.mpr ⟨en.1, by omega⟩
  have mb : b ∈ Fw.rg n := mem_rg.mpr ⟨by omega, en.2.2⟩
  have na := f.apart hd
  have nb : ¬ Wk (Fw.less D (a, b)) (Fw.rg n) b a := fun h => na (h.symm mb)
  have s1 := f.side (.inl hd) (by omega) na
  have s2 := f.side2 (a := a) (b := b) (by omega) nb
  have hL := (f.less (a, b)).rg
  have no : ∀ x ∈ l1, ∀ y ∈ l2, ¬ Wk (Fw.less D (a, b)) (Fw.rg n) x y := fun x hx y hy h => by
    have wx := (s1 x).mp ((h1.mem x).mp hx)
    have wy := (s2 y).mp ((h2.mem y).mp hy)
    exact na ((wx.trans h).trans (wy.symm mb))
  refine ⟨⟨h1.up, fun v => (h1.mem v).trans (s1 v)⟩, ⟨h2.up, fun v => (h2.mem v).trans (s2 v)⟩, no, fun x hx y hy => ?_, fun x hx hy => no x hx x hy .base⟩
  have wx : Wk D (Fw.rg n) a x := by
    obtain ⟨p, hp⟩ := ((h1.mem x).mp hx).sp
    exact hp.wk f.rg
  have wy : Wk D (Fw.rg n) b y := by
    obtain ⟨p, hp⟩ := ((h2.mem y).mp hy).sp
    exact hp.wk f.rg
  have w : Wk D (Fw.rg n) x y := (wx.symm ma).trans ((Wk.step .base (.inl hd) mb).trans wy)
  obtain ⟨p, hp⟩ := w.sp
  refine ⟨p, hp, ?_⟩
  by_cases m : b ∈ p
  · exact m
  · have hp2 : SP (Fw.adj (Fw.less D (a, b))) x y p := hp.map fun u v hu hv r => adj_less r (fun z => m (z.2 ▸ hv)) (fun z => m (z.1 ▸ hu))
    exact absurd (hp2.wk hL) (no x hx y hy)
section
variable {P : Program} {w : World} {K : PySem.W.Frag} {mg : Str → Option Value} {base : Heap}
def spDH : Sp := fun vs H Q _ => ∃ (h dr : Addr) (n : Int) (D : List (Int × Int)) (a b : Int), vs = [.ref h, .ref dr] ∧ HouseAt H h n D ∧ Forest n D ∧ 0 ≤ n ∧ n ≤ 8 ∧ H dr = some (.tup [.int a, .int b]) ∧ (a, b) ∈ D ∧ ∀ H', Same H H' → Q (.bl true) H'
abbrev nDH : List Str := ["_law_house_here", "_law_door", "_law_one", "_law_other", "_law_less", "_law_near", "_law_far", "_law_here", "_law_there", "_law_both", "_law_row", "_law_room"]
theorem scDH : FnScope nDH ["_law_house_here", "_law_door"] (defScope sDH) := ⟨rfl, rfl, rfl, by decide +kernel, rfl, by decide +kernel, by decide +kernel⟩
theorem ok_dh {f fN fP fB fC fS : Addr} {fd fdN fdP fdB fdC fdS : FuncData} (F : Fun K "_law_door_holds" "_law_door_holds" sDH f fd) (T : Nm mg) (Tany : mg "any" = none) (DN : Def K mg "neighbors" sNb fN fdN ["house", "room"]) (DP : Def K mg "path_between" sPath fP fdP ["house", "a", "b"])
    (DB : Def K mg "rooms_beyond" sBey fB fdB ["house", "room", "neighbor"]) (DC : Def K mg "components" sComp fC fdC ["house", "rooms"]) (DS : Def K mg "steps_toward" sSteps fS fdS ["house", "goal", "rooms"]) :
    FnOk P w K mg base CX0 4 f fd ["_law_house_here", "_law_door"] spDH := by
  have GP : FnOk P w K mg base CX0 3 fP fdP ["house", "a", "b"] spPath := ok_path DP.F T DN DS
  have GB : FnOk P w K mg base CX0 3 fB fdB ["house", "room", "neighbor"] spBey := ok_bey DB.F T DN DS
  have GC : FnOk P w K mg base CX0 3 fC fdC ["house", "rooms"] (spComp K) := ok_comp DC.F T Tany DN DS
  refine F.ok scDH (fun vs H Q E h => ?_) (fun cdv A outer s H vs Q E hr h => ?_)
  · obtain ⟨h, dr, n, D, a, b, rfl, _⟩ := h
    rfl
  · obtain ⟨h, dr, n, D, a, b, rfl, hH, hF, n0, n1, ed, md, q⟩ := h
    have en := hF.ends md
    obtain ⟨hq, ps, e1, e2, e3, e4⟩ := id hH
    refine ⟨_, pss_cons (ps_asg (pv 1) (pg_tup (by rfl) (pgs_cons (pg_name (i := 2) scDH.nd rfl (.inl rfl)) (pgs_cons (pg_name (i := 3) scDH.nd rfl (.inl rfl)) pgs_nil))))
      (pss_cons (ps_set (i := 4) scDH.nd rfl (.inl rfl) (pe_tup (pa_cons (pe_ix ix_tup (pv 0) pe_int (fun _ _ => rfl)) (pa_cons (pe_callTy call_tuple_of (by rfl) T.tuple (by decide +kernel) (pa_cons
          (pe_lc (own := [("_law_row", 10)]) (g := gName 10) (tt := tTest (tOp (rNeD K) (tVar 10) (tVar 1))) (by rfl) scDH.nd (pi_tup (pe_ix ix_tup (pv 0) pe_int (fun _ _ => rfl))) (blkOk_by (own := [("_law_row", 10)]) (N := nDH) (sc := defScope sDH) (by decide +kernel))
            (fun _ _ _ _ _ => pg_name (i := 10) scDH.nd rfl (Or.inl rfl)) (fun _ _ _ _ _ => pts_one (pt_cmpR (op_neD hr.units) (pv 10) (pv 1) (nomark _))) (fun _ _ _ _ _ => pv 10)) pa_nil)) pa_nil))))
      (pss_cons (ps_asg (pe_tup (pa_cons (pe_call GB hr (by rfl) DB.g DB.F.kp DB.b .nil pass0 (pa_cons (pv 0) (pa_cons (pv 3) (pa_cons (pv 2) pa_nil)))) (pa_cons (pe_call GB hr (by rfl) DB.g DB.F.kp DB.b .nil pass0 (pa_cons (pv 0) (pa_cons (pv 2) (pa_cons (pv 3) pa_nil)))) pa_nil)))
          (pg_tup (by rfl) (pgs_cons (pg_name (i := 5) scDH.nd rfl (.inl rfl)) (pgs_cons (pg_name (i := 6) scDH.nd rfl (.inr rfl)) pgs_nil))))
      (pss_cons (ps_for PassesOwn.never rfl (pi_tup (pv 5)) (pg_name (i := 7) scDH.nd rfl (Or.inl rfl))
        (pss_one (ps_for PassesOwn.never rfl (pi_tup (pv 6)) (pg_name (i := 8) scDH.nd rfl (Or.inl rfl))
          (pss_one (ps_if (PW.pt (pw_or (pt_cmp (pc_notN (pe_call GP hr (by rfl) DP.g DP.F.kp DP.b .nil pass0 (pa_cons (pv 4) (pa_cons (pv 7) (pa_cons (pv 8) pa_nil))))))
              (pw_or1 (pt_cmpR op_notIn_seq (pv 3) (pe_call GP hr (by rfl) DP.g DP.F.kp DP.b .nil pass0 (pa_cons (pv 0) (pa_cons (pv 7) (pa_cons (pv 8) pa_nil)))) (by rfl)))))
            pss_never pss_nil)))))
      (pss_cons (ps_set (i := 9) scDH.nd rfl (.inl rfl) (pe_lst (pa_cons
          (pe_cmpR (op_inT (units65 hr)) (pv 5) (pe_call GC hr (by rfl) DC.g DC.F.kp DC.b .nil pass0 (pa_cons (pv 4) (pa_cons (pe_tupRg (by rfl) (by rfl) T.tuple (prg_1 (by rfl) T.range (pe_ix ix_tup (pv 0) pe_int (fun _ _ => rfl)))) pa_nil))) (by rfl))
          (pa_cons (pe_cmpR (op_inT (units65 hr)) (pv 6) (pe_call GC hr (by rfl) DC.g DC.F.kp DC.b .nil pass0 (pa_cons (pv 4) (pa_cons (pe_tupRg (by rfl) (by rfl) T.tuple (prg_1 (by rfl) T.range (pe_ix ix_tup (pv 0) pe_int (fun _ _ => rfl)))) pa_nil))) (by rfl)) pa_nil))))
      (pss_one (ps_ret (pe_and (pe_cmpR (op_eqD hr.units) (pv 9) (pe_lst (pa_cons pe_bl (pa_cons pe_bl pa_nil))) (nomark _)) (pe_one (pe_cmpR op_eq (pe_callB call_len_seq (by rfl) T.len PySem.boot_len (pa_cons
          (pe_lc (own := [("_law_room", 11)]) (g := gName 11) (tt := tTest (tOp (rIn K false) (tVar 11) (tVar 6))) (by rfl) scDH.nd (pi_tup (pv 5)) (blkOk_by (own := [("_law_room", 11)]) (N := nDH) (sc := defScope sDH) (by decide +kernel))
            (fun _ _ _ _ _ => pg_name (i := 11) scDH.nd rfl (Or.inl rfl)) (fun _ _ _ _ _ => pts_one (pt_cmpR op_in_seq (pv 11) (pv 6) (by rfl))) (fun _ _ _ _ _ => pv 11)) pa_nil)) pe_int (nomark _)))))))))), ?_⟩
    refine ⟨_, rfl, dr, _, rfl, SqT.of ed, rfl, _, _, rfl, _, _, rfl, rfl, ?_⟩
    -- the house without the door
    refine ⟨_, rfl, h, _, _, _, rfl, rfl, SqT.of e1, atI0, _, rfl, h, _, _, _, rfl, rfl, SqT.of e1, atI1, hq, rfl, ⟨_, SqT.of e2⟩, fun L hL => lc_tup (K := K) (a := hq) (xs := ps.map fun p => V.ref p.1)
      (fun j H1 => Same H H1 ∧ H1 L = some (.lst (((ps.take j).filter fun z => !PyData.eqv (pd z.2) (pd (a, b))).map fun p => V.ref p.1))) ⟨same_upd hL, upd_same⟩ (fun j H1 _ hh => SqT.of (hh.1 _ _ e2)) ?_ ?_⟩
    · rintro j x H1 hx ⟨s1, eL⟩
      obtain ⟨p, hp, rfl⟩ := get_ref hx
      have hj : j < ps.length := (List.getElem?_eq_some_iff.mp hp).1
      have pl : ps.length ≤ 8 := by
        have := hF.len
        rw [e3, List.length_map] at this
        exact this
      refine ⟨rfl, _, rfl, _, rfl, pd p.2, pd (a, b), dp_pair (s1 _ _ (e4 p (List.mem_of_getElem? hp))), dp_pair (d := (a, b)) (s1 _ _ ed), pd_shaped _, pd_shaped _, _, rfl, ?_⟩
      refine ite2 (fun c => ?_) (fun c => ?_)
      · refine ⟨_, rfl, _, eL, ?_, same_put s1 hL, ?_⟩
        · rw [List.length_map]
          refine small1000 (Nat.le_trans (List.length_filter_le _ _) ?_)
          rw [List.length_take]
          omega
        · rw [upd_same, less_take hp, if_pos c, List.map_append]
          rfl
      · refine ⟨s1, ?_⟩
        rw [less_take hp, if_neg c, List.append_nil]
        exact eL
    · rintro H1 ⟨s1, eL⟩
      rw [List.length_map, List.take_length] at eL
      refine ⟨L, _, rfl, .inl ⟨SqL.of eL, fun t1 ht1 => ⟨by show 2 ≤ sizeLine; decide, fun t2 ht2 => ?_⟩⟩⟩
      have sA : Same H (upd (upd H1 t1 (.tup ((ps.filter fun z => !PyData.eqv (pd z.2) (pd (a, b))).map fun p => V.ref p.1))) t2 (.tup [.int n, .ref t1])) := s1.trans ((same_upd ht1).trans (same_upd ht2))
      have hL2 : HouseAt (upd (upd H1 t1 (.tup ((ps.filter fun z => !PyData.eqv (pd z.2) (pd (a, b))).map fun p => V.ref p.1))) t2 (.tup [.int n, .ref t1])) t2 n (less D (a, b)) :=
        ⟨t1, ps.filter fun z => !PyData.eqv (pd z.2) (pd (a, b)), upd_same, same_upd ht2 _ _ upd_same, by rw [less_map, e3], fun p hp => sA _ _ (e4 p (List.mem_filter.mp hp).1)⟩
      generalize upd (upd H1 t1 (.tup ((ps.filter fun z => !PyData.eqv (pd z.2) (pd (a, b))).map fun p => V.ref p.1))) t2 (.tup [.int n, .ref t1]) = H2 at sA hL2
      have hF2 := hF.less (a, b)
      -- the two sides
      refine ⟨_, rfl, _, rfl, _, rfl, h, n, D, b, a, rfl, hH.same sA, hF, n0, n1, fun H3 w1 l1 s3 ew1 c1 ll1 => ?_⟩
      refine ⟨_, rfl, _, rfl, _, rfl, h, n, D, a, b, rfl, hH.same (sA.trans s3), hF, n0, n1, fun H4 w2 l2 s4 ew2 c2 ll2 => ⟨by show 2 ≤ sizeLine; decide, fun tp htp => ?_⟩⟩
      have Z := hF.sides md c1 c2
      refine ⟨tp, _, rfl, SqT.of upd_same, rfl, _, _, rfl, _, _, rfl, rfl, ?_⟩
      have s5 : Same H2 (upd H4 tp (.tup [.ref w1, .ref w2])) := s3.trans (s4.trans (same_upd htp))
      have hH5 := hH.same (sA.trans s5)
      have hL5 := hL2.same s5
      have x1 := same_upd (o := .tup [V.ref w1, V.ref w2]) htp _ _ (s4 _ _ ew1)
      have x2 := same_upd (o := .tup [V.ref w1, V.ref w2]) htp _ _ ew2
      have sB := sA.trans s5
      generalize upd H4 tp (.tup [.ref w1, .ref w2]) = H5 at s5 hH5 hL5 x1 x2 sB
      have r1 : ∀ v ∈ l1, 0 ≤ v ∧ v < n := fun v hv => by
        rcases ((Z.c1.mem v).mp hv).mem with z | z
        · omega
        · exact mem_rg.mp z
      have r2 : ∀ v ∈ l2, 0 ≤ v ∧ v < n := fun v hv => by
        rcases ((Z.c2.mem v).mp hv).mem with z | z
        · omega
        · exact mem_rg.mp z
      refine ⟨_, rfl, w1, rfl, ⟨_, SqT.of x1⟩, for_tup (K := K) (a := w1) (xs := vi l1) (fun i σ H' => ∃ y7 y8, σ = [some (.ref h), some (.ref dr), some (.int a), some (.int b), some (.ref t2), some (.ref w1), some (.ref w2), y7, y8, none, none, none] ∧ Same H5 H') ⟨_, _, rfl, Same.refl _⟩ (fun i σ H' _ hh => ?_) ?_ ?_⟩
      · obtain ⟨_, _, _, e⟩ := hh
        exact SqT.of (e _ _ x1)
      · rintro i x σ H6 hx ⟨y7, y8, rfl, s6⟩
        obtain ⟨u, eu, rfl⟩ := get_vi hx
        have mu := List.mem_of_getElem? eu
        refine ⟨_, rfl, w2, rfl, ⟨_, SqT.of (s6 _ _ x2)⟩, for_tup (K := K) (a := w2) (xs := vi l2) (fun i σ H' => ∃ y8, σ = [some (.ref h), some (.ref dr), some (.int a), some (.int b), some (.ref t2), some (.ref w1), some (.ref w2), some (.int u), y8, none, none, none] ∧ Same H5 H') ⟨_, rfl, s6⟩ (fun i σ H' _ hh => ?_) ?_ ?_⟩
        · obtain ⟨_, _, e⟩ := hh
          exact SqT.of (e _ _ x2)
        · rintro j x σ H7 hx ⟨z8, rfl, s7⟩
          obtain ⟨v, ev, rfl⟩ := get_vi hx
          have mv := List.mem_of_getElem? ev
          obtain ⟨p, sp, bp⟩ := Z.yes u mu v mv
          refine ⟨_, rfl, _, rfl, _, rfl, t2, n, less D (a, b), u, v, rfl, hL5.same s7, hF2, n1, (r1 u mu).1, (r1 u mu).2, (r2 v mv).1, (r2 v mv).2, fun H8 s8 _ => ?_, fun H8 t8 p8 s8 sp8 _ _ => absurd (sp8.wk hF2.rg) (Z.no u mu v mv)⟩
          refine ⟨_, rfl, iteF ?_⟩
          refine ⟨_, rfl, _, rfl, _, rfl, _, rfl, h, n, D, u, v, rfl, hH5.same (s7.trans s8), hF, n1, (r1 u mu).1, (r1 u mu).2, (r2 v mv).1, (r2 v mv).2, fun H9 s9 no => absurd sp (no p), fun H9 t9 p9 s9 sp9 _ et9 => ?_⟩
          have ep : p9 = p := hF.uniq _ _ _ _ sp9 sp
          subst ep
          refine ⟨t9, _, rfl, .inr (SqT.of et9), rfl, flat_ints p9, _, rfl, ?_⟩
          show if (!inV (.int b) (vi p9)) = true then _ else _
          rw [inV_ints, decide_eq_true bp]
          refine iteF ?_
          exact ⟨_, rfl, s7.trans (s8.trans s9)⟩
        · rintro σ H7 ⟨z8, rfl, s7⟩
          exact ⟨_, _, rfl, s7⟩
      · rintro σ H6 ⟨y7, y8, rfl, s6⟩
        have hH6 := hH5.same s6
        have hL6 := hL5.same s6
        obtain ⟨hq6, eh6⟩ := hH6.top
        have lrg : (rg n).length ≤ 8 := by rw [rg_len]; omega
        -- both are components
        refine ⟨_, rfl, _, rfl, _, rfl, h, _, _, _, rfl, rfl, SqT.of eh6, atI0, n, rfl, RgOk.of_le (by omega) (by omega) (by omega) (by omega), fun u1 hu1 => ?_⟩
        rw [rg_vi, show ((List.range n.toNat).map fun (i : Nat) => (i : Int)) = rg n from rfl]
        have k1 : Same H6 (upd H6 u1 (.tup (vi (rg n)))) := same_upd hu1
        refine ⟨t2, u1, n, less D (a, b), rg n, rfl, hL6.same k1, hF2, n0, n1, upd_same, range_up n.toNat, lrg, fun H7 q1 Cs s7 eq1 T7 _ m7 _ => ?_⟩
        have k2 := k1.trans s7
        have in1 : l1 ∈ Cs.map (·.2) := (m7 l1).mpr ⟨a, mem_rg.mpr ⟨by omega, by omega⟩, Z.c1⟩
        refine ⟨_, _, dp_tup (k2 _ _ (s6 _ _ x1)), .tup (SqT.of eq1) (dp_refs T7), shaped_tup _, refs_shaped Cs, ?_⟩
        rw [refs_any in1]
        have hH7 := hH6.same k2
        have hL7 := hL6.same k2
        obtain ⟨hq7, eh7⟩ := hH7.top
        refine ⟨_, rfl, _, rfl, _, rfl, h, _, _, _, rfl, rfl, SqT.of eh7, atI0, n, rfl, RgOk.of_le (by omega) (by omega) (by omega) (by omega), fun u2 hu2 => ?_⟩
        rw [rg_vi, show ((List.range n.toNat).map fun (i : Nat) => (i : Int)) = rg n from rfl]
        have k3 : Same H7 (upd H7 u2 (.tup (vi (rg n)))) := same_upd hu2
        refine ⟨t2, u2, n, less D (a, b), rg n, rfl, hL7.same k3, hF2, n0, n1, upd_same, range_up n.toNat, lrg, fun H8 q2 Ds s8 eq2 T8 _ m8 _ => ?_⟩
        have k4 := k3.trans s8
        have in2 : l2 ∈ Ds.map (·.2) := (m8 l2).mpr ⟨b, mem_rg.mpr ⟨by omega, by omega⟩, Z.c2⟩
        refine ⟨_, _, dp_tup (k4 _ _ (k2 _ _ (s6 _ _ x2))), .tup (SqT.of eq2) (dp_refs T8), shaped_tup _, refs_shaped Ds, ?_⟩
        rw [refs_any in2]
        refine ⟨by show 2 ≤ sizeLine; decide, fun bt hbt => ?_⟩
        refine ⟨_, rfl, by show 2 ≤ sizeLine; decide, fun bt2 hbt2 => ?_⟩
        have eb1 := same_upd (o := .lst [V.bl true, V.bl true]) hbt2 _ _ (upd_same (H := H8) (a := bt) (o := .lst [V.bl true, V.bl true]))
        refine ⟨.list [.bool true, .bool true], .list [.bool true, .bool true], .lst (SqL.of eb1) (.cons (.bl _) (.cons (.bl _) .nil)), .lst (SqL.of upd_same) (.cons (.bl _) (.cons (.bl _) .nil)), by decide, by decide, _, rfl, ?_⟩
        rw [show PyData.eqv (.list [.bool true, .bool true]) (.list [.bool true, .bool true]) = true by simp [PyData.eqv, PyData.eqvAll]]
        refine iteT ?_
        have k5 : Same H6 (upd (upd H8 bt (.lst [V.bl true, V.bl true])) bt2 (.lst [V.bl true, V.bl true])) := k2.trans (k4.trans ((same_upd hbt).trans (same_upd hbt2)))
        have x1' := k5 _ _ (s6 _ _ x1)
        have x2' := k5 _ _ (s6 _ _ x2)
        generalize upd (upd H8 bt (.lst [V.bl true, V.bl true])) bt2 (.lst [V.bl true, V.bl true]) = H9 at k5 x1' x2'
        refine ⟨_, rfl, w1, rfl, ⟨_, SqT.of x1'⟩, fun M hM => lc_tup (K := K) (a := w1) (xs := vi l1) (fun j H10 => Same H9 H10 ∧ H10 M = some (.lst [])) ⟨same_upd hM, upd_same⟩ (fun j H10 _ hh => SqT.of (hh.1 _ _ x1')) ?_ ?_⟩
        · rintro j x H10 hx ⟨s10, e10⟩
          obtain ⟨v, ev, rfl⟩ := get_vi hx
          refine ⟨rfl, _, rfl, _, rfl, w2, _, rfl, .inr (SqT.of (s10 _ _ x2')), rfl, flat_ints l2, _, rfl, ?_⟩
          show if (inV (.int v) (vi l2)) = true then _ else _
          rw [inV_ints, decide_eq_false (Z.dis v (List.mem_of_getElem? ev))]
          exact iteF ⟨s10, e10⟩
        · rintro H10 ⟨s10, e10⟩
          refine ⟨M, _, rfl, .inl (SqL.of e10), rfl, ?_⟩
          show Q (V.bl (decide (V.int ((0 : Nat) : Int) = V.int 0))) _
          rw [decide_eq_true (show V.int ((0 : Nat) : Int) = V.int 0 from rfl)]
          exact q _ (sB.trans (s6.trans (k5.trans s10)))
end
end Fw
namespace Fw
open PySem PySem.Spec PyProof.Rows L2

/-! ### repr, where no repr is under way -/
def rRepr (K : PySem.W.Frag) : List V → Hp → VK → Prop := fun vs H Q => ∃ (a : Addr) (d : PyData), vs = [.ref a] ∧ Dp K H (.ref a) d ∧ d.showable = true ∧ d.hasDict = false ∧ d.depth ≤ 60 ∧ d.shown.length ≤ sizeLine ∧ Q (.str d.shown) H
theorem call_repr {X : Cx} (hg : X.A.guards = some []) (hu : X.A.units + 65 < cLine) : CallR X (.builtin "repr") (rRepr X.K) := by
  intro pins s σ H vs us Q I r h
  obtain ⟨a, d, rfl, hd, hs, hn, hp, hz, q⟩ := h
  obtain ⟨u, rfl, ru⟩ := vals1 r
  obtain rfl : u = Value.ref a := ru
  obtain ⟨as, rd⟩ := Dp.reads I d _ _ hd rfl
  refine repr_of_reads' rd hs (fun z => ?_) hg (by omega) (fun _ _ e => e) (fun h' t tk hk => ?_) hz
  · rw [hn] at z
    cases z
  · exact ⟨.str _, H, I.kept hk, ⟨_, rfl⟩, q⟩

/-! ### a def that is run where no repr is under way -/
structure FnG (P : Program) (w : World) (K : PySem.W.Frag) (mg : Str → Option Value) (base : Heap) (k : Nat) (f : Addr) (fd : FuncData) (ps : List Str) (sp : Sp) : Prop where
  len : ∀ vs H Q E, sp vs H Q E → vs.length = ps.length
  go : ∀ (A : Around) (out : List Env) (st : Shared) (H : Hp) (as : Args) (us : List Value) (vs : List V) (Q : VK), A.guards = some [] → Room k A → Env0 P w K mg base A out st H → BindsTo st fd as (ps.zip us) → Vals vs us → sp vs H Q E0 →
    codeAny (model P w) A (.call (.ref f) as) (CR CX0 out P w H st Q E0) st

section
variable {P : Program} {w : World} {K : PySem.W.Frag} {mg : Str → Option Value} {base : Heap}
theorem Fun.okG {x : Str} {st : Stmt} {f : Addr} {fd : FuncData} {N ps : List Str} {k : Nat} {sp : Sp} (F : Fun K x x st f fd) (S : FnScope N ps (defScope st)) (len : ∀ vs H Q E, sp vs H Q E → vs.length = ps.length)
    (bd : ∀ (c : Value) (A : Around) (out : List Env) (z : Shared) (H : Hp) (vs : List V) (Q : VK), (A.deeper (envOfC x (defScope st) z.heap.objs.size f c)).guards = some [] → Room k (A.deeper (envOfC x (defScope st) z.heap.objs.size f c)) → sp vs H Q E0 →
      ∃ t, PSs (cxOf CX0 P w K mg base N x (defScope st) f c A out z H E0).nox (defBody st) t ∧ t { nx := fun _ H' => Q .non H', rt := Q } (L2.start N vs) H) : FnG P w K mg base (k + 1) f fd ps sp := by
  obtain ⟨oc, od, kV, doc, pm, an, c, ct, osl, rfl, lk, hc⟩ := F.ex
  refine ⟨len, fun A out z H as us vs Q gd room en bi rel hs => ?_⟩
  have kin : K.In z.heap := fun b o e => (en.bs b o (en.mod.kin b o e)).1
  refine codeAny_call_function room.depth (kin _ _ lk) rfl S.co S.gen rfl (PySem.W.codeRec_of kin hc) (bi _ _ _ _ ?_)
  have kinds : ∀ y ∈ ps.zip us, (defScope st).names.lookup y.1 = some .local ∨ ((defScope st).names.lookup y.1 = some .cell ∧ ((cellsFrom (z.heap.objs.size + 1) (defScope st).names []).lookup y.1).isSome = true) := by
    rintro ⟨n, v⟩ hy
    exact (S.par n (List.of_mem_zip hy).1).imp id fun q => ⟨q, PySem.W.cellsFrom_some _ _ _ (.inl q)⟩
  refine wpAny_newFunctionEnv_cells S.kind kinds fun env ee z1 ic => ?_
  subst ee
  refine ⟨(en.mod.nolimit.keeps fun b o e => (en.bs b o e).1).keeps ic.toInCall.keep, codeAny_func ?_⟩
  obtain ⟨t, d, rd⟩ := bd c A out z H vs Q gd (room.deeper _) hs
  have inv := inv_start (CX := CX0) (E := E0) S room.hd en (len _ _ _ _ hs) rel ic
  refine wpAny_mono (d.nox.run [] z1 _ H _ inv rd) (fun fl z2 e => ?_) fun _ _ e => e
  match fl, e with
  | .ret u, ⟨v, σ', H', J, rv, q⟩ => exact ⟨v, H', J.os, J.bare, J.base, J.hok, rv, q⟩
  | .next, ⟨σ', H', J, q⟩ => exact ⟨.non, H', J.os, J.bare, J.base, J.hok, rfl, q⟩
  | .brk, ⟨_, _, _, q⟩ => exact q.elim
  | .cont, ⟨_, _, _, q⟩ => exact q.elim

/-- a call of such a def -/
theorem pe_callG {X : Cx} {k : Nat} {f : Addr} {fd : FuncData} {ps : List Str} {sp : Sp} {x : Str} {p pos : Pos} {e : Expr} {es : List Expr} {t : TA} (F : FnG X.prog X.w X.K X.mg X.base k f fd ps sp) (gd : X.A.guards = some []) (hr : Room k X.A)
    (hg : Gl X x) (hm : X.mg x = some (.ref f)) (hk : PySem.W.keepIn X.K (.ref f) = true) (hb : Binds X.K fd ps []) (ha : PA X (e :: es) t) (hdb : (x == ("__debug__" : Str)) = false := by decide)
    (h1 : starEach (e :: es) X.env = (false, eval e X.env) :: starEach es X.env := by rfl) (h2 : (backTo pos (starEach es X.env)).any (·.1) = false := by rfl) : PE X (.Call (.Name x p) (e :: es) [] pos) (tCall sp [] E0 t) := by
  constructor
  intro pins z σ H Q I h
  refine wpAny_Call_Name_kw (ld_glob I hg hm (PySem.W.callWith_K (h₀ := X.base) I.ok.mod.kin hk (thn (ha.run pos pins z σ H _ I h) ?_) h1 h2) hdb)
  rintro us z1 ⟨vs, H1, I1, r, q⟩
  refine ⟨I1.kIn, wpAny_call (codeAny_mono (F.go X.A X.stack z1 H1 ⟨us, []⟩ (us ++ []) (vs ++ []) Q gd hr I1.env0 (hb z1 us I1.kIn ?_) (r.append .nil) q) fun a z2 hq => ?_)⟩
  · rw [← (r.append .nil).length]
    exact F.len _ _ _ _ q
  · match a, hq with
    | .error _, hq => exact hq.elim
    | .ok (.ret u), hq => exact I1.after hq
    | .ok .next, hq => exact hq.elim
    | .ok .brk, hq => exact hq.elim
    | .ok .cont, hq => exact hq.elim
end
end Fw
namespace Fw
open PySem PySem.Spec PyProof.Rows L2

/-- the state at the law's own call: only the script is tracked -/
theorem top_state {P : Program} {w : World} {K : PySem.W.Frag} {mg mb : Str → Option Value} {a : Addr} {z : Shared} {vs : List Value} {ns : List Int} (kin : K.In z.heap) (gl : z.heap.Ns mainGlobals mg) (bl : z.heap.Ns builtinsNs mb)
    (bb : ∀ x : Str, x ≠ "__name__" → mb x = bootBuiltins x) (lim : z.heap.NoLimit) (ge : z.gens = #[]) (obj : z.heap.get? a = some { cls := .type "list", data := .seq vs.toArray }) (hi : IntsAre vs ns) (hl : ns.length ≤ sizeLine) :
    ∃ (H : Hp) (base : Heap), SqL K H a (vi ns) ∧ K.In base ∧ base.Ns mainGlobals mg ∧ Env0 P w K mg base callerA [] z H ∧ ∀ (H' : Hp) (z' : Shared), Un (frs []) [] H H' z.heap z'.heap → HOk P w H' z'.heap → OldK z.heap z'.heap := by
  have rel : Vals (vi ns) vs := vals_ints hi
  -- what is tracked: nothing, or the script alone
  have pick : ∃ H : Hp, SqL K H a (vi ns) ∧ HOk P w H z.heap ∧ (∀ b, H b = none ∨ (b = a ∧ K.lookup a = none ∧ ∃ xs, H b = some (.frz { cls := .type "list", data := .seq vs.toArray } (.lst xs)))) := by
    cases e : K.lookup a with
    | some o =>
      have e2 : o = { cls := .type "list", data := .seq vs.toArray } := by
        have := kin a o e
        rw [obj] at this
        exact (Option.some.inj this).symm
      subst e2
      refine ⟨fun _ => none, .inr ⟨_, vs.toArray, _, e, rfl, rfl, rfl, ?_, rel⟩, fun b u q => ?_, fun b => .inl rfl⟩
      · rw [List.size_toArray, hi.length]
        exact hl
      · cases (show (none : Option HO) = some u from q)
    | none =>
      refine ⟨upd (fun _ => none) a (.frz { cls := .type "list", data := .seq vs.toArray } (.lst (vi ns))), .inl (.inr ⟨_, upd_same⟩), fun b u q => ?_, fun b => ?_⟩
      · by_cases eb : b = a
        · rw [eb, upd_same] at q
          cases q
          rw [eb]
          exact ⟨obj, by rw [List.length_map]; exact hl, vs, _, rel, obj⟩
        · rw [upd_ne eb] at q
          cases q
      · by_cases eb : b = a
        · exact .inr ⟨eb, rfl, _, by rw [eb]; exact upd_same⟩
        · exact .inl (upd_ne eb)
  obtain ⟨H, hS, hok, only⟩ := pick
  have low : ∀ {b : Addr} {o : Obj}, z.heap.get? b = some o → (b = a → K.lookup a ≠ none) → (hidT z.heap H).get? b = some o := fun {b o} e q => hidT_get e (by
    rcases only b with n | ⟨eb, n, _⟩
    · exact n
    · exact absurd n (q eb))
  have dic : ∀ {b : Addr} {m : Str → Option Value}, z.heap.Ns b m → (hidT z.heap H).Ns b m := fun {b m} h => by
    obtain ⟨o, es, ep, e, d, r⟩ := h
    refine ⟨o, es, ep, hidT_get e ?_, d, r⟩
    rcases only b with n | ⟨eb, _, _⟩
    · exact n
    · rw [eb, obj] at e
      cases e
      cases (show Data.seq vs.toArray _ = Data.dict es ep from d)
  have kb : K.In (hidT z.heap H) := fun b o e => low (kin b o e) fun eb n => by
    rw [eb, n] at e
    cases e
  refine ⟨H, hidT z.heap H, hS, kb, dic gl, ?_, fun H' z' un ok' => OldK.of_keep fun b o e => ?_⟩
  · refine { frames := rfl, mod := ⟨kb, dic gl, ⟨mb, dic bl, bb⟩, ?_⟩, bs := fun b o e => of_hidT e, bsz := Nat.le_of_eq (hidT_size _ _), funs := trivial, frf := fun b hb => ?_, hok := hok, bare := .of_eq ge }
    · obtain ⟨mc, h1, h2⟩ := lim
      exact ⟨mc, dic h1, h2⟩
    · cases (show b ∈ ([] : List Addr) from hb)
  · rcases only b with n | ⟨eb, _, xs, fz⟩
    · refine un.keep b o e n (fun hb => ?_) (fun hb => ?_)
      · cases (show b ∈ ([] : List Addr) from hb)
      · cases hb
    · have f2 := (ok' b _ (un.frzs b _ _ fz)).1
      rw [eb, obj] at e
      cases e
      exact f2

/-- the law's def takes the script alone -/
abbrev Takes1 (fd : FuncData) : Prop := ∀ (z : Shared) (v : Value), BindsTo z fd ⟨[v], []⟩ [("_law_script", v)]
/-- the law's def, at fa, keeps sp over whatever holds the written part -/
def LawAt (P : Program) (w : World) (K : PySem.W.Frag) (mg : Str → Option Value) (k : Nat) (fa : Addr) (sp : Sp) : Prop :=
  ∃ fd, Takes1 fd ∧ ∀ b : Heap, K.In b → b.Ns mainGlobals mg → FnG P w K mg b k fa fd ["_law_script"] sp
/-- a promise that says True of every script -/
def Tells (sp : PySem.W.Frag → Sp) : Prop := ∀ K H a ns, ns.length ≤ 63 → SqL K H a (vi ns) → sp K [.ref a] H (fun v _ => v = .bl true) E0
/-- how a call that keeps such a promise ends -/
structure Told (P : Program) (w : World) (H : Hp) (z : Shared) (r : Result) (z' : Shared) : Prop where
  res : r = .ok (.ret (.bool true))
  os : z'.os = z.os
  bare : AllBare z'.gens
  st : ∃ H', Un (frs []) [] H H' z.heap z'.heap ∧ HOk P w H' z'.heap
theorem told {P : Program} {w : World} {H : Hp} {z z' : Shared} {r : Result} (e : CR CX0 [] P w H z (fun v _ => v = .bl true) E0 r z') : Told P w H z r z' := by
  rcases r with _ | f
  · exact False.elim e
  cases f
  all_goals first | exact False.elim e | skip
  rename_i u
  obtain ⟨v, H', o1, o2, un, ok, rv, qv⟩ := e
  have qv : v = .bl true := qv
  rw [qv] at rv
  exact ⟨by rw [show u = Value.bool true from rv], o1, o2, H', un, ok⟩
/-- the end of a law whose def wants that no repr is under way -/
theorem walkG {l : PySem.W.OpenLaw} {k : Nat} {q : Program} {ls : List Str} {XP : (Str → Option Value) → Heap → Prop} {Y : World → Heap → Prop} {d : DefRec} {K : Params → PySem.W.Frag} {sp : PySem.W.Frag → Sp} (t : Tells sp) (m : l.most = some 63) (nd : d.params.defaults = []) (room : Room k callerA)
    (inK : ∀ w h, Y w h → (K w.params).In h) (L : ∀ w mg fa h, (K w.params).In h → h.Ns mainGlobals mg → mg d.name = some (.ref fa) → LawAt l.prog w (K w.params) mg k fa (sp (K w.params))) :
    PySem.W.WalkO q ls XP Y l.row.toRowW d [] (fun f vs => PySem.call f vs) := by
  apply Att.attach_call m nd
  intro w _ z mg _ fa _ _ _ _ a vs ns G y _ _ _ here obj hi few gens
  obtain ⟨fd, one, keeps⟩ := L w mg fa _ (inK w _ y) G.T.g here
  obtain ⟨H, b, hS, kb, gb, en, old⟩ := top_state (P := l.prog) (w := w) (inK w _ y) G.T.g G.T.b G.T.builtins G.T.nolimit gens obj hi (Nat.le_trans few (by decide))
  have c := (keeps b kb gb).go callerA [] z H ⟨[.ref a], []⟩ [.ref a] [.ref a] (fun v _ => v = .bl true) rfl room en (one z (.ref a)) (.cons rfl .nil) (t _ H a ns few hS)
  exact codeAny_mono c fun r z' e => by
    have e := told e
    obtain ⟨H', un, ok⟩ := e.st
    exact ⟨e.res, old H' z' un ok, e.os, e.bare⟩
end Fw
namespace Fw
open PySem PySem.Spec PyProof.Rows L2
section
variable {P : Program} {w : World} {K : PySem.W.Frag} {mg : Str → Option Value} {base : Heap}
def spLaw (K : PySem.W.Frag) : Sp := fun vs H Q _ => ∃ (a : Addr) (ns : List Int), vs = [.ref a] ∧ SqL K H a (vi ns) ∧ ns.length ≤ 63 ∧ ∀ H', Q (.bl true) H'
abbrev nLaw : List Str := ["_law_script", "_law_stream_here", "_law_turn", "_law_house_here", "_law_every", "_law_one", "_law_other", "_law_k", "_law_some", "_law_j", "_law_door"]
theorem scLaw : FnScope nLaw ["_law_script"] (defScope sLaw) := ⟨rfl, rfl, rfl, by decide +kernel, rfl, by decide +kernel, by decide +kernel⟩
structure All (P : Program) (w : World) (K : PySem.W.Frag) (mg : Str → Option Value) (base : Heap) (f1 f2 f3 f4 f5 f6 f7 f8 f9 f10 f11 : Addr) (d1 d2 d3 d4 d5 d6 d7 d8 d9 d10 d11 : FuncData) : Prop where
  T : Nm mg
  any : mg "any" = none
  nb : Def K mg "neighbors" sNb f1 d1 ["house", "room"]
  path : Def K mg "path_between" sPath f2 d2 ["house", "a", "b"]
  bey : Def K mg "rooms_beyond" sBey f3 d3 ["house", "room", "neighbor"]
  comp : Def K mg "components" sComp f4 d4 ["house", "rooms"]
  steps : Def K mg "steps_toward" sSteps f5 d5 ["house", "goal", "rooms"]
  stream : Def K mg "_law_stream" sStream f6 d6 ["_law_script"]
  draw : Def K mg "_law_draw" sDraw f7 d7 ["_law_stream_here", "_law_many"]
  house : Def K mg "_law_house" sHouse f8 d8 ["_law_stream_here", "_law_least", "_law_most"]
  ph : Def K mg "_law_path_holds" sPH f9 d9 ["_law_house_here", "_law_one", "_law_other"]
  mh : Def K mg "_law_middle_holds" sMH f10 d10 ["_law_house_here", "_law_one", "_law_two", "_law_three"]
  dh : Def K mg "_law_door_holds" sDH f11 d11 ["_law_house_here", "_law_door"]
theorem ok_law {f f1 f2 f3 f4 f5 f6 f7 f8 f9 f10 f11 : Addr} {fd d1 d2 d3 d4 d5 d6 d7 d8 d9 d10 d11 : FuncData} (F : Fun K "law" "law" sLaw f fd) (Z : All P w K mg base f1 f2 f3 f4 f5 f6 f7 f8 f9 f10 f11 d1 d2 d3 d4 d5 d6 d7 d8 d9 d10 d11) : FnG P w K mg base 5 f fd ["_law_script"] (spLaw K) := by
  have GStream : FnOk P w K mg base CX0 1 f6 d6 _ (spStream K) := ok_stream Z.stream.F Z.T
  have GDraw : FnOk P w K mg base CX0 1 f7 d7 _ spDraw := ok_draw Z.draw.F Z.T
  have GHouse : FnOk P w K mg base CX0 2 f8 d8 _ spHouse := ok_house Z.house.F Z.T Z.draw
  have GComp : FnOk P w K mg base CX0 3 f4 d4 _ (spComp K) := ok_comp Z.comp.F Z.T Z.any Z.nb Z.steps
  have GPH : FnOk P w K mg base CX0 4 f9 d9 _ spPH := ok_ph Z.ph.F Z.T Z.nb Z.path Z.steps
  have GMH : FnOk P w K mg base CX0 4 f10 d10 _ spMH := ok_mh Z.mh.F Z.T Z.nb Z.path Z.steps
  have GDH : FnOk P w K mg base CX0 4 f11 d11 _ spDH := ok_dh Z.dh.F Z.T Z.any Z.nb Z.path Z.bey Z.comp Z.steps
  refine Fun.okG F scLaw (fun vs H Q E h => ?_) (fun cdv A outer s H vs Q gd hr h => ?_)
  · obtain ⟨a, ns, rfl, _⟩ := h
    rfl
  · obtain ⟨a, ns, rfl, hS, hlen, q⟩ := h
    have r1 : Room 1 _ := hr.mono (by decide)
    have r2 : Room 2 _ := hr.mono (by decide)
    have r3 : Room 3 _ := hr.mono (by decide)
    refine ⟨_, pss_cons (ps_set (i := 1) scLaw.nd rfl (.inr rfl) (pe_call GStream r1 (by rfl) Z.stream.g Z.stream.F.kp Z.stream.b .nil pass0 (pa_cons (pv 0) pa_nil)))
      (pss_cons (ps_for PassesOwn.never rfl (pi_range1 (by rfl) Z.T.range (pa_cons pe_int pa_nil)) (pg_name (i := 2) scLaw.nd rfl (Or.inl rfl))
        (pss_cons (ps_set (i := 3) scLaw.nd rfl (.inr rfl) (pe_call GHouse r2 (by rfl) Z.house.g Z.house.F.kp Z.house.b .nil pass0 (pa_cons (pv 1) (pa_cons pe_int (pa_cons pe_int pa_nil)))))
        (pss_cons (ps_set (i := 4) scLaw.nd rfl (.inl rfl) (pe_listRg (by rfl) (by rfl) Z.T.list (prg_1 (by rfl) Z.T.range (pe_ix ix_tup (pv 3) pe_int (fun _ _ => rfl)))))
        (pss_cons (ps_if (pt_cmpR op_ne (pe_callB call_len_seq (by rfl) Z.T.len PySem.boot_len (pa_cons (pe_call GComp r3 (by rfl) Z.comp.g Z.comp.F.kp Z.comp.b .nil pass0 (pa_cons (pv 3) (pa_cons (pe_callTy call_tuple_of (by rfl) Z.T.tuple (by decide +kernel) (pa_cons (pv 4) pa_nil)) pa_nil))) pa_nil))
            (pe_op op_sub (pe_ix ix_tup (pv 3) pe_int (fun _ _ => rfl)) (pe_callB call_len_seq (by rfl) Z.T.len PySem.boot_len (pa_cons (pe_ix ix_tup (pv 3) pe_int (fun _ _ => rfl)) pa_nil))) (nomark _)) pss_never pss_nil)
        (pss_cons (ps_for PassesOwn.never rfl (pi_list (pv 4)) (pg_name (i := 5) scLaw.nd rfl (Or.inl rfl))
          (pss_one (ps_for PassesOwn.never rfl (pi_list (pv 4)) (pg_name (i := 6) scLaw.nd rfl (Or.inl rfl))
            (pss_one (ps_if (pt_not (pt_val (pe_call GPH hr (by rfl) Z.ph.g Z.ph.F.kp Z.ph.b .nil pass0 (pa_cons (pv 3) (pa_cons (pv 5) (pa_cons (pv 6) pa_nil)))))) pss_never pss_nil)))))
        (pss_cons (ps_for PassesOwn.never rfl (pi_range1 (by rfl) Z.T.range (pa_cons pe_int pa_nil)) (pg_name (i := 7) scLaw.nd rfl (Or.inl rfl))
          (pss_cons (ps_setLc (i := 8) (own := [("_law_j", 9)]) (g := gName 9) (te := tCall spDraw [] E0 (tCons (tVar 1) (tCons (tOp (rIxT K) (tVar 3) (tC (V.int 0))) tNil))) (by rfl) scLaw.nd rfl rfl (sw_true rfl rfl rfl (by decide +kernel)) (pi_range1 (by rfl) Z.T.range (pa_cons pe_int pa_nil))
              (blkOk_by (own := [("_law_j", 9)]) (N := nLaw) (sc := defScope sLaw) (by decide +kernel)) (fun _ _ _ _ _ => pg_name (i := 9) scLaw.nd rfl (Or.inl rfl)) (fun _ _ _ _ _ => pts_nil)
              (fun _ _ _ _ _ => pe_call GDraw r1 (by rfl) Z.draw.g Z.draw.F.kp Z.draw.b .nil pass0 (pa_cons (pv 1) (pa_cons (pe_ix ix_tup (pv 3) pe_int (fun _ _ => rfl)) pa_nil))))
          (pss_one (ps_if (pt_not (pt_val (pe_call GMH hr (by rfl) Z.mh.g Z.mh.F.kp Z.mh.b .nil pass0 (pa_cons (pv 3) (pa_cons (pe_ix ix_list (pv 8) pe_int (fun _ _ => rfl)) (pa_cons (pe_ix ix_list (pv 8) pe_int (fun _ _ => rfl)) (pa_cons (pe_ix ix_list (pv 8) pe_int (fun _ _ => rfl)) pa_nil))))))) pss_never pss_nil))))
        (pss_one (ps_if (pt_cmpR (op_neD hr.units) (pe_lc (own := [("_law_door", 10)]) (g := gName 10) (tt := tNot (tB (tCall spDH [] E0 (tCons (tVar 3) (tCons (tVar 10) tNil))))) (by rfl) scLaw.nd (pi_tup (pe_ix ix_tup (pv 3) pe_int (fun _ _ => rfl)))
              (blkOk_by (own := [("_law_door", 10)]) (N := nLaw) (sc := defScope sLaw) (by decide +kernel)) (fun _ _ _ _ _ => pg_name (i := 10) scLaw.nd rfl (Or.inl rfl))
              (fun _ _ _ _ _ => pts_one (pt_not (pt_val (pe_call GDH hr (by rfl) Z.dh.g Z.dh.F.kp Z.dh.b .nil pass0 (pa_cons (pv 3) (pa_cons (pv 10) pa_nil)))))) (fun _ _ _ _ _ => pv 10)) (pe_lst pa_nil) (nomark _)) pss_never pss_nil))))))))
      (pss_one (ps_ret pe_bl))), ?_⟩
    refine ⟨_, rfl, a, ns, rfl, hS, hlen, fun H1 s1 A1 B1 sm1 _ _ hS1 => ?_⟩
    refine ⟨3, rfl, by decide, by decide, for_range (lo := 0) (n := 3) (fun i σ H' => ∃ y2 y3 y4 y5 y6 y7 y8 y9 y10, σ = [some (.ref a), some (.ref s1), y2, y3, y4, y5, y6, y7, y8, y9, y10] ∧ StreamAt H' s1 A1 B1 (100 * i)) ⟨_, _, _, _, _, _, _, _, _, rfl, hS1⟩ ?_ ?_⟩
    · rintro i σ H2 hi ⟨y2, y3, y4, y5, y6, y7, y8, y9, y10, rfl, hS2⟩
      refine ⟨_, rfl, s1, A1, B1, 100 * i, 1, 8, rfl, hS2, by omega, by decide, by decide, by decide, fun H3 h n D hS3 fr3 hH3 hF n0 n1 => ?_⟩
      obtain ⟨hq, eh3⟩ := hH3.top
      refine ⟨_, rfl, h, _, _, _, rfl, rfl, SqT.of eh3, atI0, n, rfl, RgOk.of_le (by omega) (by omega) (by omega) (by omega), fun E5 hE5 => ?_⟩
      rw [rg_vi, show ((List.range n.toNat).map fun (i : Nat) => (i : Int)) = rg n from rfl]
      have zE := hS3.ne hE5
      have hS4 := hS3.same (same_upd (o := .lst (vi (rg n))) hE5)
      have hH4 := hH3.same (same_upd (o := .lst (vi (rg n))) hE5)
      have eE4 : (upd H3 E5 (.lst (vi (rg n)))) E5 = some (.lst (vi (rg n))) := upd_same
      generalize upd H3 E5 (.lst (vi (rg n))) = H4 at hS4 hH4 eE4
      have lrg : (rg n).length ≤ 8 := by rw [rg_len]; omega
      -- the number of components
      refine ⟨_, rfl, _, rfl, E5, _, rfl, .inl ⟨SqL.of eE4, fun u1 hu1 => ?_⟩⟩
      have k1 : Same H4 (upd H4 u1 (.tup (vi (rg n)))) := same_upd hu1
      refine ⟨h, u1, n, D, rg n, rfl, hH4.same k1, hF, by omega, n1, upd_same, range_up n.toNat, lrg, fun H5 q1 Cs s5 eq1 T5 up5 m5 _ => ?_⟩
      have k2 := k1.trans s5
      have hH5 := hH4.same k2
      have hS5 := hS4.same k2
      have eE5 := k2 _ _ eE4
      have cnt := hF.count (Ls := Cs.map (·.2)) up5 m5 (by omega)
      obtain ⟨hq5, ps5, z1, z2, z3, z4⟩ := id hH5
      have eqn : V.int (((refs Cs).length : Nat) : Int) = V.int (n - (((ps5.map fun p => V.ref p.1).length : Nat) : Int)) := by
        rw [List.length_map] at cnt
        unfold refs
        rw [List.length_map, List.length_map, cnt, z3, List.length_map]
      refine ⟨q1, _, rfl, .inr (SqT.of eq1), _, rfl, h, _, _, _, rfl, rfl, SqT.of z1, atI0, _, rfl, h, _, _, _, rfl, rfl, SqT.of z1, atI1, hq5, _, rfl, .inr (SqT.of z2), _, _, rfl, rfl, rfl, _, rfl, iteNS eqn ?_⟩
      clear eqn cnt z4 z3 z2 z1 up5 m5 T5 eq1
      -- every path
      refine ⟨_, rfl, E5, rfl, ⟨_, SqL.of eE5⟩, for_list (K := K) (a := E5) (xs := vi (rg n)) (fun j σ H' => ∃ y5 y6, σ = [some (.ref a), some (.ref s1), some (.int (0 + (i : Int))), some (.ref h), some (.ref E5), y5, y6, y7, y8, y9, y10] ∧ Same H5 H') ⟨_, _, rfl, Same.refl _⟩ (fun j σ H' _ hh => ?_) ?_ ?_⟩
      · obtain ⟨_, _, _, e⟩ := hh
        exact SqL.of (e _ _ eE5)
      · rintro j x σ H6 hx ⟨w5, w6, rfl, s6⟩
        obtain ⟨one, eo, rfl⟩ := get_vi hx
        have mo := mem_rg.mp (List.mem_of_getElem? eo)
        refine ⟨_, rfl, E5, rfl, ⟨_, SqL.of (s6 _ _ eE5)⟩, for_list (K := K) (a := E5) (xs := vi (rg n)) (fun j σ H' => ∃ y6, σ = [some (.ref a), some (.ref s1), some (.int (0 + (i : Int))), some (.ref h), some (.ref E5), some (.int one), y6, y7, y8, y9, y10] ∧ Same H5 H') ⟨_, rfl, s6⟩ (fun j σ H' _ hh => ?_) ?_ ?_⟩
        · obtain ⟨_, _, e⟩ := hh
          exact SqL.of (e _ _ eE5)
        · rintro m x σ H7 hx ⟨w6, rfl, s7⟩
          obtain ⟨oth', et, rfl⟩ := get_vi hx
          have mt := mem_rg.mp (List.mem_of_getElem? et)
          refine ⟨_, rfl, _, rfl, _, rfl, h, n, D, one, oth', rfl, hH5.same s7, hF, n1, mo.1, mo.2, mt.1, mt.2, fun H8 s8 => ⟨_, rfl, iteF ?_⟩⟩
          exact ⟨_, rfl, s7.trans s8⟩
        · rintro σ H7 ⟨w6, rfl, s7⟩
          exact ⟨_, _, rfl, s7⟩
      · rintro σ H6 ⟨w5, w6, rfl, s6⟩
        have hH6 := hH5.same s6
        have hS6 := hS5.same s6
        -- twelve triples
        refine ⟨12, rfl, by decide, by decide, for_range (lo := 0) (n := 12) (fun j σ H' => ∃ y7 y8, σ = [some (.ref a), some (.ref s1), some (.int (0 + (i : Int))), some (.ref h), some (.ref E5), w5, w6, y7, y8, y9, y10] ∧ StreamAt H' s1 A1 B1 (100 * i + 40 + 3 * j) ∧ HouseAt H' h n D) ⟨_, _, rfl, hS6, hH6⟩ ?_ ?_⟩
        · rintro j σ H7 hj ⟨w7, w8, rfl, hS7, hH7⟩
          refine ⟨3, rfl, by decide, by decide, fun L hL => ?_⟩
          have zL := hS7.ne hL
          refine lc_range (lo := 0) (n := 3) (fun m H8 => ∃ S : List Int, S.length = m ∧ (∀ x ∈ S, 0 ≤ x ∧ x < n) ∧ StreamAt H8 s1 A1 B1 (100 * i + 40 + 3 * j + m) ∧ HouseAt H8 h n D ∧ H8 L = some (.lst (vi S)))
            ⟨[], rfl, fun x hx => (by cases hx), hS7.same (same_upd hL), hH7.same (same_upd hL), upd_same⟩ ?_ ?_
          · rintro m H8 hm ⟨S, lS, rS, hS8, hH8, eL8⟩
            obtain ⟨hq8, eh8⟩ := hH8.top
            refine ⟨rfl, ?_⟩
            unfold tYes
            refine iteT ?_
            refine ⟨_, rfl, _, rfl, h, _, _, _, rfl, rfl, SqT.of eh8, atI0, s1, A1, B1, _, n, rfl, hS8, by omega, by omega, by omega, fun H9 r hS9 fr9 g0 g1 => ?_⟩
            have eL9 := fr9 _ _ zL.1.symm zL.2.1.symm eL8
            have hH9 := hH8.fr hS8 fr9
            refine ⟨_, eL9, by rw [List.length_map]; exact small1000 (by omega), S ++ [r], by rw [List.length_append, List.length_singleton, lS], fun x hx => ?_, hS9.put zL, ?_, ?_⟩
            · rcases List.mem_append.mp hx with hx | hx
              · exact rS x hx
              · rw [List.mem_singleton.mp hx]
                exact ⟨g0, g1⟩
            · obtain ⟨q9, p9, a1, a2, a3, a4⟩ := hH9
              have ne : ∀ {t : Addr} {xs : List V}, H9 t = some (.tup xs) → t ≠ L := fun e => ne_of e eL9 (by intro z; cases z)
              exact ⟨q9, p9, (upd_ne (ne a1)).trans a1, (upd_ne (ne a2)).trans a2, a3, fun p hp => (upd_ne (ne (a4 p hp))).trans (a4 p hp)⟩
            · rw [upd_same, vi_app]
              rfl
          · rintro H8 ⟨S, lS, rS, hS8, hH8, eL8⟩
            match S, lS, rS, eL8 with
            | [x, y, z], _, rS, eL8 =>
              have rx := rS x (by simp)
              have ry := rS y (by simp)
              have rz := rS z (by simp)
              refine ⟨_, rfl, _, rfl, L, _, _, _, rfl, rfl, SqL.of eL8, atI0, _, rfl, L, _, _, _, rfl, rfl, SqL.of eL8, atI1, _, rfl, L, _, _, _, rfl, rfl, SqL.of eL8, atI2, h, n, D, x, y, z, rfl, hH8, hF, n1, rx.1, rx.2, ry.1, ry.2, rz.1, rz.2, fun H9 s9 => ⟨_, rfl, iteF ?_⟩⟩
              exact ⟨_, _, rfl, (hS8.same s9).mono (by omega), hH8.same s9⟩
        · rintro σ H7 ⟨w7, w8, rfl, hS7, hH7⟩
          -- every door
          obtain ⟨hq7, ps, e1, e2, e3, e4⟩ := id hH7
          refine ⟨_, rfl, h, _, _, _, rfl, rfl, SqT.of e1, atI1, hq7, rfl, ⟨_, SqT.of e2⟩, fun L hL => lc_tup (K := K) (a := hq7) (xs := ps.map fun p => V.ref p.1) (fun j H8 => Same H7 H8 ∧ H8 L = some (.lst [])) ⟨same_upd hL, upd_same⟩ (fun j H8 _ hh => SqT.of (hh.1 _ _ e2)) ?_ ?_⟩
          · rintro j x H8 hx ⟨s8, eL8⟩
            obtain ⟨p, hp, rfl⟩ := get_ref hx
            have mp := List.mem_of_getElem? hp
            refine ⟨rfl, _, rfl, _, rfl, h, p.1, n, D, p.2.1, p.2.2, rfl, hH7.same s8, hF, by omega, n1, s8 _ _ (e4 p mp), by rw [e3]; exact List.mem_map_of_mem (f := (·.2)) mp, fun H9 s9 => ⟨_, rfl, iteF ?_⟩⟩
            exact ⟨s8.trans s9, s9 _ _ eL8⟩
          · rintro H8 ⟨s8, eL8⟩
            refine ⟨Nat.zero_le _, fun u3 hu3 => ?_⟩
            refine ⟨.list (([] : List Int).map .int), .list [], .lst (SqL.of (same_upd hu3 _ _ eL8)) .nil, .lst (SqL.of upd_same) .nil, shaped_list [], shaped_list [], _, rfl, ?_⟩
            rw [eqv_nil]
            refine iteF ?_
            exact ⟨_, _, _, _, _, _, _, _, _, rfl, (hS7.same (s8.trans (same_upd hu3))).mono (by omega)⟩
    · rintro σ H2 ⟨y2, y3, y4, y5, y6, y7, y8, y9, y10, rfl, hS2⟩
      exact q _
end
end Fw
namespace Fw
open PySem L2
theorem all_mk {P : Program} {w : World} {K : PySem.W.Frag} {h : Heap} {mg : Str → Option Value} {fa : Addr} (X : K.In h) (G : h.Ns mainGlobals mg) (hfa : mg "law" = some (.ref fa))
    {f1 : Addr} {od1 an1 : Option Addr} {sl1 : Array (Option Value)} {oc1 kV1 dc1 pm1 cd1 ct1 : Value}
    (a1 : PySem.W.nsIn K mainGlobals "neighbors" = some (some (.ref f1)))
    (l1 : K.lookup f1 = some ⟨oc1, od1, .func (PySem.W.fnOf "neighbors" "neighbors" (defArgs sNb) (defBody sNb) (defScope sNb) .none kV1 dc1 pm1 an1 cd1 ct1), sl1⟩)
    (c1 : PySem.W.codeIn K cd1 "neighbors" = true) (k1 : PySem.W.keepIn K (.ref f1) = true)
    {f2 : Addr} {od2 an2 : Option Addr} {sl2 : Array (Option Value)} {oc2 kV2 dc2 pm2 cd2 ct2 : Value}
    (a2 : PySem.W.nsIn K mainGlobals "path_between" = some (some (.ref f2)))
    (l2 : K.lookup f2 = some ⟨oc2, od2, .func (PySem.W.fnOf "path_between" "path_between" (defArgs sPath) (defBody sPath) (defScope sPath) .none kV2 dc2 pm2 an2 cd2 ct2), sl2⟩)
    (c2 : PySem.W.codeIn K cd2 "path_between" = true) (k2 : PySem.W.keepIn K (.ref f2) = true)
    {f3 : Addr} {od3 an3 : Option Addr} {sl3 : Array (Option Value)} {oc3 kV3 dc3 pm3 cd3 ct3 : Value}
    (a3 : PySem.W.nsIn K mainGlobals "rooms_beyond" = some (some (.ref f3)))
    (l3 : K.lookup f3 = some ⟨oc3, od3, .func (PySem.W.fnOf "rooms_beyond" "rooms_beyond" (defArgs sBey) (defBody sBey) (defScope sBey) .none kV3 dc3 pm3 an3 cd3 ct3), sl3⟩)
    (c3 : PySem.W.codeIn K cd3 "rooms_beyond" = true) (k3 : PySem.W.keepIn K (.ref f3) = true)
    {f4 : Addr} {od4 an4 : Option Addr} {sl4 : Array (Option Value)} {oc4 kV4 dc4 pm4 cd4 ct4 : Value}
    (a4 : PySem.W.nsIn K mainGlobals "components" = some (some (.ref f4)))
    (l4 : K.lookup f4 = some ⟨oc4, od4, .func (PySem.W.fnOf "components" "components" (defArgs sComp) (defBody sComp) (defScope sComp) .none kV4 dc4 pm4 an4 cd4 ct4), sl4⟩)
    (c4 : PySem.W.codeIn K cd4 "components" = true) (k4 : PySem.W.keepIn K (.ref f4) = true)
    {f5 : Addr} {od5 an5 : Option Addr} {sl5 : Array (Option Value)} {oc5 kV5 dc5 pm5 cd5 ct5 : Value}
    (a5 : PySem.W.nsIn K mainGlobals "steps_toward" = some (some (.ref f5)))
    (l5 : K.lookup f5 = some ⟨oc5, od5, .func (PySem.W.fnOf "steps_toward" "steps_toward" (defArgs sSteps) (defBody sSteps) (defScope sSteps) .none kV5 dc5 pm5 an5 cd5 ct5), sl5⟩)
    (c5 : PySem.W.codeIn K cd5 "steps_toward" = true) (k5 : PySem.W.keepIn K (.ref f5) = true)
    {f6 : Addr} {od6 an6 : Option Addr} {sl6 : Array (Option Value)} {oc6 kV6 dc6 pm6 cd6 ct6 : Value}
    (a6 : PySem.W.nsIn K mainGlobals "_law_stream" = some (some (.ref f6)))
    (l6 : K.lookup f6 = some ⟨oc6, od6, .func (PySem.W.fnOf "_law_stream" "_law_stream" (defArgs sStream) (defBody sStream) (defScope sStream) .none kV6 dc6 pm6 an6 cd6 ct6), sl6⟩)
    (c6 : PySem.W.codeIn K cd6 "_law_stream" = true) (k6 : PySem.W.keepIn K (.ref f6) = true)
    {f7 : Addr} {od7 an7 : Option Addr} {sl7 : Array (Option Value)} {oc7 kV7 dc7 pm7 cd7 ct7 : Value}
    (a7 : PySem.W.nsIn K mainGlobals "_law_draw" = some (some (.ref f7)))
    (l7 : K.lookup f7 = some ⟨oc7, od7, .func (PySem.W.fnOf "_law_draw" "_law_draw" (defArgs sDraw) (defBody sDraw) (defScope sDraw) .none kV7 dc7 pm7 an7 cd7 ct7), sl7⟩)
    (c7 : PySem.W.codeIn K cd7 "_law_draw" = true) (k7 : PySem.W.keepIn K (.ref f7) = true)
    {f8 : Addr} {od8 an8 : Option Addr} {sl8 : Array (Option Value)} {oc8 kV8 dc8 pm8 cd8 ct8 : Value}
    (a8 : PySem.W.nsIn K mainGlobals "_law_house" = some (some (.ref f8)))
    (l8 : K.lookup f8 = some ⟨oc8, od8, .func (PySem.W.fnOf "_law_house" "_law_house" (defArgs sHouse) (defBody sHouse) (defScope sHouse) .none kV8 dc8 pm8 an8 cd8 ct8), sl8⟩)
    (c8 : PySem.W.codeIn K cd8 "_law_house" = true) (k8 : PySem.W.keepIn K (.ref f8) = true)
    {f9 : Addr} {od9 an9 : Option Addr} {sl9 : Array (Option Value)} {oc9 kV9 dc9 pm9 cd9 ct9 : Value}
    (a9 : PySem.W.nsIn K mainGlobals "_law_path_holds" = some (some (.ref f9)))
    (l9 : K.lookup f9 = some ⟨oc9, od9, .func (PySem.W.fnOf "_law_path_holds" "_law_path_holds" (defArgs sPH) (defBody sPH) (defScope sPH) .none kV9 dc9 pm9 an9 cd9 ct9), sl9⟩)
    (c9 : PySem.W.codeIn K cd9 "_law_path_holds" = true) (k9 : PySem.W.keepIn K (.ref f9) = true)
    {f10 : Addr} {od10 an10 : Option Addr} {sl10 : Array (Option Value)} {oc10 kV10 dc10 pm10 cd10 ct10 : Value}
    (a10 : PySem.W.nsIn K mainGlobals "_law_middle_holds" = some (some (.ref f10)))
    (l10 : K.lookup f10 = some ⟨oc10, od10, .func (PySem.W.fnOf "_law_middle_holds" "_law_middle_holds" (defArgs sMH) (defBody sMH) (defScope sMH) .none kV10 dc10 pm10 an10 cd10 ct10), sl10⟩)
    (c10 : PySem.W.codeIn K cd10 "_law_middle_holds" = true) (k10 : PySem.W.keepIn K (.ref f10) = true)
    {f11 : Addr} {od11 an11 : Option Addr} {sl11 : Array (Option Value)} {oc11 kV11 dc11 pm11 cd11 ct11 : Value}
    (a11 : PySem.W.nsIn K mainGlobals "_law_door_holds" = some (some (.ref f11)))
    (l11 : K.lookup f11 = some ⟨oc11, od11, .func (PySem.W.fnOf "_law_door_holds" "_law_door_holds" (defArgs sDH) (defBody sDH) (defScope sDH) .none kV11 dc11 pm11 an11 cd11 ct11), sl11⟩)
    (c11 : PySem.W.codeIn K cd11 "_law_door_holds" = true) (k11 : PySem.W.keepIn K (.ref f11) = true)
    {f12 : Addr} {od12 an12 : Option Addr} {sl12 : Array (Option Value)} {oc12 kV12 dc12 pm12 cd12 ct12 : Value}
    (a12 : PySem.W.nsIn K mainGlobals "law" = some (some (.ref f12)))
    (l12 : K.lookup f12 = some ⟨oc12, od12, .func (PySem.W.fnOf "law" "law" (defArgs sLaw) (defBody sLaw) (defScope sLaw) .none kV12 dc12 pm12 an12 cd12 ct12), sl12⟩)
    (c12 : PySem.W.codeIn K cd12 "law" = true) (k12 : PySem.W.keepIn K (.ref f12) = true)
    (z0 : PySem.W.nsIn K mainGlobals "abs" = some none) (z1 : PySem.W.nsIn K mainGlobals "len" = some none) (z2 : PySem.W.nsIn K mainGlobals "list" = some none) (z3 : PySem.W.nsIn K mainGlobals "range" = some none) (z4 : PySem.W.nsIn K mainGlobals "min" = some none) (z5 : PySem.W.nsIn K mainGlobals "max" = some none) (z6 : PySem.W.nsIn K mainGlobals "tuple" = some none) (z7 : PySem.W.nsIn K mainGlobals "sorted" = some none) (z8 : PySem.W.nsIn K mainGlobals "isinstance" = some none) (z9 : PySem.W.nsIn K mainGlobals "all" = some none) (z10 : PySem.W.nsIn K mainGlobals "zip" = some none) (z11 : PySem.W.nsIn K mainGlobals "bool" = some none) (z12 : PySem.W.nsIn K mainGlobals "int" = some none) (z13 : PySem.W.nsIn K mainGlobals "str" = some none) (z14 : PySem.W.nsIn K mainGlobals "repr" = some none) (z15 : PySem.W.nsIn K mainGlobals "any" = some none) : LawAt P w K mg 5 fa (spLaw K) := by
  have e := hfa.symm.trans (PySem.W.mg_of X G a12)
  cases e
  have T : Nm mg := ⟨PySem.W.mg_none_of X G z0, PySem.W.mg_none_of X G z1, PySem.W.mg_none_of X G z2, PySem.W.mg_none_of X G z3, PySem.W.mg_none_of X G z4, PySem.W.mg_none_of X G z5, PySem.W.mg_none_of X G z6, PySem.W.mg_none_of X G z7, PySem.W.mg_none_of X G z8, PySem.W.mg_none_of X G z9, PySem.W.mg_none_of X G z10, PySem.W.mg_none_of X G z11, PySem.W.mg_none_of X G z12, PySem.W.mg_none_of X G z13, PySem.W.mg_none_of X G z14⟩
  have F1 := fun_mk (st := sNb) l1 c1 k1
  have b1 := F1.binds (ps := ["house", "room"]) fun _ _ _ _ _ _ us hl => match us, hl with | [_, _], _ => rfl
  have F2 := fun_mk (st := sPath) l2 c2 k2
  have b2 := F2.binds (ps := ["house", "a", "b"]) fun _ _ _ _ _ _ us hl => match us, hl with | [_, _, _], _ => rfl
  have F3 := fun_mk (st := sBey) l3 c3 k3
  have b3 := F3.binds (ps := ["house", "room", "neighbor"]) fun _ _ _ _ _ _ us hl => match us, hl with | [_, _, _], _ => rfl
  have F4 := fun_mk (st := sComp) l4 c4 k4
  have b4 := F4.binds (ps := ["house", "rooms"]) fun _ _ _ _ _ _ us hl => match us, hl with | [_, _], _ => rfl
  have F5 := fun_mk (st := sSteps) l5 c5 k5
  have b5 := F5.binds (ps := ["house", "goal", "rooms"]) fun _ _ _ _ _ _ us hl => match us, hl with | [_, _, _], _ => rfl
  have F6 := fun_mk (st := sStream) l6 c6 k6
  have b6 := F6.binds (ps := ["_law_script"]) fun _ _ _ _ _ _ us hl => match us, hl with | [_], _ => rfl
  have F7 := fun_mk (st := sDraw) l7 c7 k7
  have b7 := F7.binds (ps := ["_law_stream_here", "_law_many"]) fun _ _ _ _ _ _ us hl => match us, hl with | [_, _], _ => rfl
  have F8 := fun_mk (st := sHouse) l8 c8 k8
  have b8 := F8.binds (ps := ["_law_stream_here", "_law_least", "_law_most"]) fun _ _ _ _ _ _ us hl => match us, hl with | [_, _, _], _ => rfl
  have F9 := fun_mk (st := sPH) l9 c9 k9
  have b9 := F9.binds (ps := ["_law_house_here", "_law_one", "_law_other"]) fun _ _ _ _ _ _ us hl => match us, hl with | [_, _, _], _ => rfl
  have F10 := fun_mk (st := sMH) l10 c10 k10
  have b10 := F10.binds (ps := ["_law_house_here", "_law_one", "_law_two", "_law_three"]) fun _ _ _ _ _ _ us hl => match us, hl with | [_, _, _, _], _ => rfl
  have F11 := fun_mk (st := sDH) l11 c11 k11
  have b11 := F11.binds (ps := ["_law_house_here", "_law_door"]) fun _ _ _ _ _ _ us hl => match us, hl with | [_, _], _ => rfl
  have F12 := fun_mk (st := sLaw) l12 c12 k12
  refine ⟨_, fun s v => ?_, fun base _ _ => ok_law F12 ⟨T, PySem.W.mg_none_of X G z15, ⟨F1, b1, PySem.W.mg_of X G a1⟩, ⟨F2, b2, PySem.W.mg_of X G a2⟩, ⟨F3, b3, PySem.W.mg_of X G a3⟩, ⟨F4, b4, PySem.W.mg_of X G a4⟩, ⟨F5, b5, PySem.W.mg_of X G a5⟩, ⟨F6, b6, PySem.W.mg_of X G a6⟩, ⟨F7, b7, PySem.W.mg_of X G a7⟩, ⟨F8, b8, PySem.W.mg_of X G a8⟩, ⟨F9, b9, PySem.W.mg_of X G a9⟩, ⟨F10, b10, PySem.W.mg_of X G a10⟩, ⟨F11, b11, PySem.W.mg_of X G a11⟩⟩⟩
  exact .of_eq rfl
theorem tells : Tells spLaw := fun K H a ns hl hS => ⟨a, ns, rfl, hS, hl, fun _ => rfl⟩
end Fw

open PySem PySem.W PyProof.Rows in
set_option maxRecDepth 100000 in
set_option maxHeartbeats 0 in
theorem PySem.Challenge.cw_fromwithin_k04_whole_paths_holds : PySem.Challenge.rw_fromwithin_k04_whole_paths.Holds := by
  w_on; o_law; k_head; (case hw => w_witness2)
  k_fill
  refine Fw.walkG (l := PySem.Challenge.rw_fromwithin_k04_whole_paths) (k := 5) Fw.tells rfl rfl ⟨rfl, by decide, by decide⟩ (fun w h Y => PySem.W.kIn_of Y) ?F
  case F =>
    intro w mg fa h KX G hmg
    refine' Fw.all_mk KX G hmg ?a1 ?l1 ?c1 ?k1 ?a2 ?l2 ?c2 ?k2 ?a3 ?l3 ?c3 ?k3 ?a4 ?l4 ?c4 ?k4 ?a5 ?l5 ?c5 ?k5 ?a6 ?l6 ?c6 ?k6 ?a7 ?l7 ?c7 ?k7 ?a8 ?l8 ?c8 ?k8 ?a9 ?l9 ?c9 ?k9 ?a10 ?l10 ?c10 ?k10 ?a11 ?l11 ?c11 ?k11 ?a12 ?l12 ?c12 ?k12 ?z0 ?z1 ?z2 ?z3 ?z4 ?z5 ?z6 ?z7 ?z8 ?z9 ?z10 ?z11 ?z12 ?z13 ?z14 ?z15
    (case a1 => k_is)
    (case l1 => k_is)
    (case c1 => k_is)
    (case k1 => k_is)
    (case a2 => k_is)
    (case l2 => k_is)
    (case c2 => k_is)
    (case k2 => k_is)
    (case a3 => k_is)
    (case l3 => k_is)
    (case c3 => k_is)
    (case k3 => k_is)
    (case a4 => k_is)
    (case l4 => k_is)
    (case c4 => k_is)
    (case k4 => k_is)
    (case a5 => k_is)
    (case l5 => k_is)
    (case c5 => k_is)
    (case k5 => k_is)
    (case a6 => k_is)
    (case l6 => k_is)
    (case c6 => k_is)
    (case k6 => k_is)
    (case a7 => k_is)
    (case l7 => k_is)
    (case c7 => k_is)
    (case k7 => k_is)
    (case a8 => k_is)
    (case l8 => k_is)
    (case c8 => k_is)
    (case k8 => k_is)
    (case a9 => k_is)
    (case l9 => k_is)
    (case c9 => k_is)
    (case k9 => k_is)
    (case a10 => k_is)
    (case l10 => k_is)
    (case c10 => k_is)
    (case k10 => k_is)
    (case a11 => k_is)
    (case l11 => k_is)
    (case c11 => k_is)
    (case k11 => k_is)
    (case a12 => k_is)
    (case l12 => k_is)
    (case c12 => k_is)
    (case k12 => k_is)
    (case z0 => k_is)
    (case z1 => k_is)
    (case z2 => k_is)
    (case z3 => k_is)
    (case z4 => k_is)
    (case z5 => k_is)
    (case z6 => k_is)
    (case z7 => k_is)
    (case z8 => k_is)
    (case z9 => k_is)
    (case z10 => k_is)
    (case z11 => k_is)
    (case z12 => k_is)
    (case z13 => k_is)
    (case z14 => k_is)
    (case z15 => k_is)
