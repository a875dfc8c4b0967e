import PyProof.Rows.All
import Wide.All
import OpenK.AllK
import Wide.FinOn
import HandS.ForMost
import HandS.Wide
import HandS.Conv
import HandS.Style
import HandS.Sort
import HandS.SortRule
import HandS.SortInts
import HandS.Deep
import HandS.Text
import HandS.Words
import HandS.IsInst
import HandS.More
import HandS.TupSets
import HandS.Zip
import HandS.Walk
import KE.KDictPairs
import PyProof.SumWalk
import PyProof.ListOps
import PyProof.Walks
import PySem.Challenge.RW_fromwithin_k17_whole_surplus_preserved
set_option Elab.async false
set_option linter.all false
set_option maxRecDepth 100000
/-! Forests grown room by room: simple ways in them are unique. -/
namespace Fw

def adj (D : List (Int × Int)) (a b : Int) : Prop := (a, b) ∈ D ∨ (b, a) ∈ D

theorem adj_symm {D : List (Int × Int)} {a b : Int} (h : adj D a b) : adj D b a := h.symm

/-- a way without a room twice -/
inductive SP (R : Int → Int → Prop) : Int → Int → List Int → Prop
  | one (a : Int) : SP R a a [a]
  | cons {a c b : Int} {p : List Int} : R a c → SP R c b p → a ∉ p → SP R a b (a :: p)

section
variable {R R' : Int → Int → Prop}
theorem SP.head {a b : Int} {p : List Int} (h : SP R a b p) : a ∈ p := by
  cases h <;> simp
theorem SP.last {a b : Int} {p : List Int} (h : SP R a b p) : b ∈ p := by
  induction h with
  | one a => simp
  | cons _ _ _ ih => exact List.mem_cons_of_mem _ ih
theorem SP.loop {a : Int} {p : List Int} (h : SP R a a p) : p = [a] := by
  cases h with
  | one => rfl
  | cons r q n => exact absurd q.last n
theorem SP.nodup {a b : Int} {p : List Int} (h : SP R a b p) : p.Nodup := by
  induction h with
  | one a => simp
  | cons _ _ n ih => exact List.nodup_cons.mpr ⟨n, ih⟩
theorem SP.snoc {a b c : Int} {p : List Int} (h : SP R a b p) (r : R b c) (n : c ∉ p) : SP R a c (p ++ [c]) := by
  induction h with
  | one a =>
    refine .cons r (.one c) ?_
    intro e
    have e : a = c := List.mem_singleton.mp e
    exact n (by rw [e]; simp)
  | cons r' q n' ih =>
    rename_i a' c' b' p'
    rw [List.mem_cons, not_or] at n
    refine .cons r' (ih r n.2) ?_
    intro e
    rcases List.mem_append.mp e with e | e
    · exact n' e
    · exact n.1 (List.mem_singleton.mp e).symm
theorem SP.map {a b : Int} {p : List Int} (h : SP R a b p) (f : ∀ x y, x ∈ p → y ∈ p → R x y → R' x y) : SP R' a b p := by
  induction h with
  | one a => exact .one a
  | cons r q n ih =>
    exact .cons (f _ _ (List.mem_cons_self ..) (List.mem_cons_of_mem _ q.head) r) (ih fun x y hx hy => f x y (List.mem_cons_of_mem _ hx) (List.mem_cons_of_mem _ hy)) n
/-- what is closed under R and holds the end holds the start, and the other way -/
theorem SP.back {S : Int → Prop} (hs : ∀ x y, R x y → S y → S x) {a b : Int} {p : List Int} (h : SP R a b p) (e : S b) : S a := by
  induction h with
  | one a => exact e
  | cons r _ _ ih => exact hs _ _ r (ih e)
theorem SP.forth {S : Int → Prop} (hs : ∀ x y, R x y → S x → S y) {a b : Int} {p : List Int} (h : SP R a b p) (e : S a) : S b := by
  induction h with
  | one a => exact e
  | cons r _ _ ih => exact ih (hs _ _ r e)
end

def Uniq (R : Int → Int → Prop) : Prop := ∀ a b p q, SP R a b p → SP R a b q → p = q

section
variable {R R' : Int → Int → Prop} {u v : Int}
/-- one more leaf v, on u -/
structure Leaf (R R' : Int → Int → Prop) (u v : Int) : Prop where
  iff : ∀ x y, R' x y ↔ (R x y ∨ (x = u ∧ y = v) ∨ (x = v ∧ y = u))
  no1 : ∀ x, ¬ R v x
  no2 : ∀ x, ¬ R x v
  ne : u ≠ v
theorem Leaf.into (L : Leaf R R' u v) {x : Int} (h : R' x v) : x = u := by
  rcases (L.iff x v).mp h with h | h | h
  · exact absurd h (L.no2 x)
  · exact h.1
  · exact absurd h.2.symm L.ne
theorem Leaf.out (L : Leaf R R' u v) {x : Int} (h : R' v x) : x = u := by
  rcases (L.iff v x).mp h with h | h | h
  · exact absurd h (L.no1 x)
  · exact absurd h.1.symm L.ne
  · exact h.2
theorem Leaf.off (L : Leaf R R' u v) {x y : Int} (hx : x ≠ v) (hy : y ≠ v) (h : R' x y) : R x y := by
  rcases (L.iff x y).mp h with h | h | h
  · exact h
  · exact absurd h.2 hy
  · exact absurd h.1 hx
theorem Leaf.avoid (L : Leaf R R' u v) {a b : Int} {p : List Int} (h : SP R' a b p) (n : v ∉ p) : SP R a b p :=
  h.map fun x y hx hy r => L.off (fun e => n (e ▸ hx)) (fun e => n (e ▸ hy)) r
theorem Leaf.free (L : Leaf R R' u v) {a b : Int} {p : List Int} (h : SP R' a b p) (ha : a ≠ v) (hb : b ≠ v) : v ∉ p := by
  induction h with
  | one a =>
    intro e
    rw [List.mem_singleton] at e
    exact ha e.symm
  | cons r q n ih =>
    rename_i a' c' b' p'
    by_cases hc : c' = v
    · subst hc
      have e := L.into r
      cases q with
      | one => exact absurd rfl hb
      | cons r2 q2 n2 =>
        rename_i c2 p2
        have e2 := L.out r2
        exact absurd (List.mem_cons_of_mem _ (e ▸ e2 ▸ q2.head)) n
    · intro e
      rw [List.mem_cons] at e
      rcases e with e | e
      · exact ha e.symm
      · exact ih hc hb e
theorem Leaf.from (L : Leaf R R' u v) {b : Int} {p : List Int} (h : SP R' v b p) (hb : b ≠ v) : ∃ p', p = v :: p' ∧ SP R u b p' := by
  cases h with
  | one => exact absurd rfl hb
  | cons r q n =>
    rename_i c p'
    have e := L.out r
    subst e
    exact ⟨p', rfl, L.avoid q n⟩
theorem Leaf.to (L : Leaf R R' u v) {a b : Int} {p : List Int} (h : SP R' a b p) : a ≠ v → b = v → ∃ p', p = p' ++ [v] ∧ SP R a u p' := by
  induction h with
  | one a =>
    intro h1 h2
    exact absurd h2 h1
  | cons r q n ih =>
    rename_i a' c' b' p'
    intro h1 h2
    by_cases hc : c' = v
    · subst hc
      subst h2
      have e := L.into r
      subst e
      have e2 := q.loop
      subst e2
      exact ⟨[a'], rfl, .one _⟩
    · obtain ⟨p2, e, q2⟩ := ih hc h2
      refine ⟨a' :: p2, by rw [e]; rfl, .cons (L.off h1 hc r) q2 ?_⟩
      intro m
      exact n (by rw [e]; exact List.mem_append_left _ m)
theorem Leaf.uniq (L : Leaf R R' u v) (U : Uniq R) : Uniq R' := by
  intro a b p q hp hq
  by_cases ha : a = v
  · subst ha
    by_cases hb : b = a
    · subst hb
      rw [hp.loop, hq.loop]
    · obtain ⟨p', e1, s1⟩ := L.from hp hb
      obtain ⟨q', e2, s2⟩ := L.from hq hb
      rw [e1, e2, U _ _ _ _ s1 s2]
  · by_cases hb : b = v
    · obtain ⟨p', e1, s1⟩ := L.to hp ha hb
      obtain ⟨q', e2, s2⟩ := L.to hq ha hb
      rw [e1, e2, U _ _ _ _ s1 s2]
    · exact U _ _ _ _ (L.avoid hp (L.free hp ha hb)) (L.avoid hq (L.free hq ha hb))
end

/-- a forest, room by room: the rooms that stand, and the doors -/
inductive Grown : List Int → List (Int × Int) → Prop
  | nil : Grown [] []
  | room {U : List Int} {E : List (Int × Int)} (v : Int) : Grown U E → v ∉ U → Grown (v :: U) E
  | door {U : List Int} {E : List (Int × Int)} (v u a b : Int) : Grown U E → v ∉ U → u ∈ U → (a = min u v ∧ b = max u v) → Grown (v :: U) ((a, b) :: E)

theorem minmax (u v a b : Int) (h : a = min u v ∧ b = max u v) : (a = u ∧ b = v ∧ u ≤ v) ∨ (a = v ∧ b = u ∧ v ≤ u) := by
  omega

theorem Grown.ends {U : List Int} {E : List (Int × Int)} (g : Grown U E) : ∀ a b, (a, b) ∈ E → a ∈ U ∧ b ∈ U ∧ a < b := by
  induction g with
  | nil => intro a b h; cases h
  | room v g n ih => intro a b h; exact ⟨List.mem_cons_of_mem _ (ih a b h).1, List.mem_cons_of_mem _ (ih a b h).2.1, (ih a b h).2.2⟩
  | door v u x y g n hu hm ih =>
    intro a b h
    have hne : u ≠ v := fun e => n (e ▸ hu)
    rw [List.mem_cons] at h
    rcases h with h | h
    · injection h with h1 h2
      subst h1 h2
      rcases minmax u v a b hm with ⟨h1, h2, h3⟩ | ⟨h1, h2, h3⟩
      · subst h1 h2
        exact ⟨List.mem_cons_of_mem _ hu, List.mem_cons_self .., by omega⟩
      · subst h1 h2
        exact ⟨List.mem_cons_self .., List.mem_cons_of_mem _ hu, by omega⟩
    · exact ⟨List.mem_cons_of_mem _ (ih a b h).1, List.mem_cons_of_mem _ (ih a b h).2.1, (ih a b h).2.2⟩

theorem Grown.nodup {U : List Int} {E : List (Int × Int)} (g : Grown U E) : E.Nodup := by
  induction g with
  | nil => exact List.nodup_nil
  | room v g n ih => exact ih
  | door v u x y g n hu hm ih =>
    refine List.nodup_cons.mpr ⟨fun h => ?_, ih⟩
    have e := g.ends x y h
    rcases minmax u v x y hm with ⟨h1, h2, _⟩ | ⟨h1, h2, _⟩
    · exact n (h2 ▸ e.2.1)
    · exact n (h1 ▸ e.1)

theorem Grown.length {U : List Int} {E : List (Int × Int)} (g : Grown U E) : E.length ≤ U.length := by
  induction g with
  | nil => exact Nat.le_refl _
  | room v g n ih => exact Nat.le_succ_of_le ih
  | door v u x y g n hu hm ih => exact Nat.succ_le_succ ih

theorem Grown.uniq {U : List Int} {E : List (Int × Int)} (g : Grown U E) : Uniq (adj E) := by
  induction g with
  | nil =>
    intro a b p q hp hq
    have k : ∀ {p : List Int}, SP (adj []) a b p → p = [a] := by
      intro p hp
      cases hp with
      | one => rfl
      | cons r _ _ => rcases r with r | r <;> cases r
    rw [k hp, k hq]
  | room v g n ih => exact ih
  | @door U E v u x y g n hu hm ih =>
    have L : Leaf (adj E) (adj ((x, y) :: E)) u v := by
      refine ⟨fun a b => ?_, fun z h => ?_, fun z h => ?_, fun e => n (e ▸ hu)⟩
      · unfold adj
        simp only [List.mem_cons, Prod.mk.injEq]
        rcases minmax u v x y hm with ⟨h1, h2, _⟩ | ⟨h1, h2, _⟩
        · subst h1 h2
          constructor
          · rintro ((h | h) | (h | h))
            · exact .inr (.inl h)
            · exact .inl (.inl h)
            · exact .inr (.inr ⟨h.2, h.1⟩)
            · exact .inl (.inr h)
          · rintro ((h | h) | h | h)
            · exact .inl (.inr h)
            · exact .inr (.inr h)
            · exact .inl (.inl h)
            · exact .inr (.inl ⟨h.2, h.1⟩)
        · subst h1 h2
          constructor
          · rintro ((h | h) | (h | h))
            · exact .inr (.inr h)
            · exact .inl (.inl h)
            · exact .inr (.inl ⟨h.2, h.1⟩)
            · exact .inl (.inr h)
          · rintro ((h | h) | h | h)
            · exact .inl (.inr h)
            · exact .inr (.inr h)
            · exact .inr (.inl ⟨h.2, h.1⟩)
            · exact .inl (.inl h)
      · rcases h with h | h
        · exact n (g.ends _ _ h).1
        · exact n (g.ends _ _ h).2.1
      · rcases h with h | h
        · exact n (g.ends _ _ h).2.1
        · exact n (g.ends _ _ h).1
    exact L.uniq ih

/-- a door stands ahead of another -/
def Dlt (a b : Int × Int) : Prop := a.1 < b.1 ∨ (a.1 = b.1 ∧ a.2 < b.2)
/-- a forest of n rooms, as an ascending list of doors -/
def Forest (n : Int) (D : List (Int × Int)) : Prop := ∃ U E, Grown U E ∧ (∀ x, x ∈ U ↔ 0 ≤ x ∧ x < n) ∧ D.Perm E ∧ U.length ≤ 8 ∧ D.Pairwise Dlt

theorem adj_perm {D E : List (Int × Int)} (h : D.Perm E) : adj D = adj E := by
  funext a b
  unfold adj
  rw [h.mem_iff, h.mem_iff]
theorem Forest.uniq {n : Int} {D : List (Int × Int)} (f : Forest n D) : Uniq (adj D) := by
  obtain ⟨U, E, g, _, p, _⟩ := f
  rw [adj_perm p]
  exact g.uniq
theorem Forest.nodup {n : Int} {D : List (Int × Int)} (f : Forest n D) : D.Nodup := by
  obtain ⟨U, E, g, _, p, _⟩ := f
  exact p.nodup_iff.mpr g.nodup
theorem Forest.up {n : Int} {D : List (Int × Int)} (f : Forest n D) : D.Pairwise Dlt := by
  obtain ⟨U, E, _, _, _, _, u⟩ := f
  exact u
theorem Forest.len {n : Int} {D : List (Int × Int)} (f : Forest n D) : D.length ≤ 8 := by
  obtain ⟨U, E, g, _, p, l, _⟩ := f
  rw [p.length_eq]
  exact Nat.le_trans g.length l
theorem Forest.ends {n : Int} {D : List (Int × Int)} (f : Forest n D) {a b : Int} (h : (a, b) ∈ D) : 0 ≤ a ∧ a < b ∧ b < n := by
  obtain ⟨U, E, g, u, p, _⟩ := f
  have e := g.ends a b (p.mem_iff.mp h)
  exact ⟨((u a).mp e.1).1, e.2.2, ((u b).mp e.2.1).2⟩
theorem Forest.adj {n : Int} {D : List (Int × Int)} (f : Forest n D) {a b : Int} (h : adj D a b) : 0 ≤ a ∧ a < n ∧ 0 ≤ b ∧ b < n := by
  rcases h with h | h
  · have e := f.ends h; omega
  · have e := f.ends h; omega

/-- the adjacent rooms, ascending -/
def nb (n : Int) (D : List (Int × Int)) (r : Int) : List Int := ((List.range n.toNat).map fun (i : Nat) => (i : Int)).filter fun o => decide ((r, o) ∈ D) || decide ((o, r) ∈ D)
theorem mem_nb {n : Int} {D : List (Int × Int)} {r o : Int} : o ∈ nb n D r ↔ (0 ≤ o ∧ o < n) ∧ adj D r o := by
  unfold nb adj
  rw [List.mem_filter, List.mem_map]
  simp only [List.mem_range, Bool.or_eq_true, decide_eq_true_eq]
  constructor
  · rintro ⟨⟨i, hi, rfl⟩, h⟩
    exact ⟨⟨by omega, by omega⟩, h⟩
  · rintro ⟨⟨h0, h1⟩, h⟩
    exact ⟨⟨o.toNat, by omega, by omega⟩, h⟩
theorem Forest.mem_nb {n : Int} {D : List (Int × Int)} (f : Forest n D) {r o : Int} : o ∈ nb n D r ↔ Fw.adj D r o := by
  rw [Fw.mem_nb]
  exact ⟨fun h => h.2, fun h => ⟨⟨(f.adj h).2.2.1, (f.adj h).2.2.2⟩, h⟩⟩
theorem range_up (n : Nat) : ((List.range n).map fun (i : Nat) => (i : Int)).Pairwise (· < ·) := by
  rw [List.pairwise_map]
  exact List.pairwise_lt_range.imp fun h => by omega
theorem nb_up (n : Int) (D : List (Int × Int)) (r : Int) : (nb n D r).Pairwise (· < ·) := (range_up _).filter _
theorem nb_len (n : Int) (D : List (Int × Int)) (r : Int) : (nb n D r).length ≤ n.toNat := by
  unfold nb
  refine Nat.le_trans (List.length_filter_le _ _) ?_
  simp

/-- two ascending lists with the same members are one -/
theorem up_ext : ∀ {xs ys : List Int}, xs.Pairwise (· < ·) → ys.Pairwise (· < ·) → (∀ x, x ∈ xs ↔ x ∈ ys) → xs = ys
  | [], [], _, _, _ => rfl
  | [], y :: ys, _, _, h => absurd ((h y).mpr (List.mem_cons_self ..)) (by simp)
  | x :: xs, [], _, _, h => absurd ((h x).mp (List.mem_cons_self ..)) (by simp)
  | x :: xs, y :: ys, hx, hy, h => by
    obtain ⟨hx1, hx2⟩ := List.pairwise_cons.mp hx
    obtain ⟨hy1, hy2⟩ := List.pairwise_cons.mp hy
    have e : x = y := by
      have h1 := (h x).mp (List.mem_cons_self ..)
      have h2 := (h y).mpr (List.mem_cons_self ..)
      rw [List.mem_cons] at h1 h2
      rcases h1 with h1 | h1
      · exact h1
      · rcases h2 with h2 | h2
        · exact h2.symm
        · have := hy1 _ h1
          have := hx1 _ h2
          omega
    subst e
    rw [up_ext hx2 hy2 fun z => ?_]
    have hz := h z
    rw [List.mem_cons, List.mem_cons] at hz
    constructor
    · intro m
      rcases hz.mp (.inr m) with e | e
      · subst e; have := hx1 _ m; omega
      · exact e
    · intro m
      rcases hz.mpr (.inr m) with e | e
      · subst e; have := hy1 _ m; omega
      · exact e
theorem up_of {xs : List Int} (h : xs.Pairwise (· ≤ ·)) (n : xs.Nodup) : xs.Pairwise (· < ·) := by
  refine (h.and n).imp ?_
  intro a b ⟨h1, h2⟩
  omega

/-- the doors from r and to r, as the law lists them -/
def outs (D : List (Int × Int)) (r : Int) : List Int := (D.filter fun d => decide (d.1 = r)).map (·.2)
def ins (D : List (Int × Int)) (r : Int) : List Int := (D.filter fun d => decide (d.2 = r)).map (·.1)
theorem mem_outs {D : List (Int × Int)} {r o : Int} : o ∈ outs D r ↔ (r, o) ∈ D := by
  unfold outs
  simp only [List.mem_map, List.mem_filter, decide_eq_true_eq]
  constructor
  · rintro ⟨⟨a, b⟩, ⟨h, rfl⟩, rfl⟩; exact h
  · intro h; exact ⟨(r, o), ⟨h, rfl⟩, rfl⟩
theorem mem_ins {D : List (Int × Int)} {r o : Int} : o ∈ ins D r ↔ (o, r) ∈ D := by
  unfold ins
  simp only [List.mem_map, List.mem_filter, decide_eq_true_eq]
  constructor
  · rintro ⟨⟨a, b⟩, ⟨h, rfl⟩, rfl⟩; exact h
  · intro h; exact ⟨(o, r), ⟨h, rfl⟩, rfl⟩
theorem nodup_map_on {α β : Type} {f : α → β} : ∀ {xs : List α}, xs.Nodup → (∀ x y, x ∈ xs → y ∈ xs → f x = f y → x = y) → (xs.map f).Nodup
  | [], _, _ => List.nodup_nil
  | x :: xs, n, h => by
    obtain ⟨n1, n2⟩ := List.nodup_cons.mp n
    rw [List.map_cons]
    refine List.nodup_cons.mpr ⟨fun m => ?_, nodup_map_on n2 fun a b ha hb => h a b (List.mem_cons_of_mem _ ha) (List.mem_cons_of_mem _ hb)⟩
    obtain ⟨y, hy, e⟩ := List.mem_map.mp m
    have := h y x (List.mem_cons_of_mem _ hy) (List.mem_cons_self ..) e
    subst this
    exact n1 hy
theorem Forest.both_nodup {n : Int} {D : List (Int × Int)} (f : Forest n D) (r : Int) : (outs D r ++ ins D r).Nodup := by
  rw [List.nodup_append]
  refine ⟨?_, ?_, ?_⟩
  · refine nodup_map_on (f.nodup.filter _) ?_
    rintro ⟨a, b⟩ ⟨c, d⟩ h1 h2 e
    have e1 := of_decide_eq_true (List.mem_filter.mp h1).2
    have e2 := of_decide_eq_true (List.mem_filter.mp h2).2
    simp only at e e1 e2
    rw [e, e1, e2]
  · refine nodup_map_on (f.nodup.filter _) ?_
    rintro ⟨a, b⟩ ⟨c, d⟩ h1 h2 e
    have e1 := of_decide_eq_true (List.mem_filter.mp h1).2
    have e2 := of_decide_eq_true (List.mem_filter.mp h2).2
    simp only at e e1 e2
    rw [e, e1, e2]
  · intro a ha b hb e
    subst e
    have h1 := f.ends (mem_outs.mp ha)
    have h2 := f.ends (mem_ins.mp hb)
    omega
theorem Forest.sorted_nb {n : Int} {D : List (Int × Int)} (f : Forest n D) {r : Int} {ys : List Int} (p : ys.Perm (outs D r ++ ins D r)) (s : ys.Pairwise (· ≤ ·)) : ys = nb n D r := by
  refine up_ext (up_of s (p.nodup_iff.mpr (f.both_nodup r))) (nb_up n D r) fun x => ?_
  rw [p.mem_iff, List.mem_append, mem_outs, mem_ins, f.mem_nb]
  exact Iff.rfl

/-- the doors to r and from r, one list behind the other, as the program lists them -/
theorem Forest.nb_eq {n : Int} {D : List (Int × Int)} (f : Forest n D) (r : Int) : ins D r ++ outs D r = nb n D r := by
  refine up_ext ?_ (nb_up n D r) fun x => ?_
  · rw [List.pairwise_append]
    refine ⟨?_, ?_, fun a ha b hb => ?_⟩
    · unfold ins
      rw [List.pairwise_map]
      refine (f.up.filter _).imp_of_mem fun {x y} hx hy h => ?_
      have e1 : x.2 = r := of_decide_eq_true (List.mem_filter.mp hx).2
      have e2 : y.2 = r := of_decide_eq_true (List.mem_filter.mp hy).2
      unfold Dlt at h
      omega
    · unfold outs
      rw [List.pairwise_map]
      refine (f.up.filter _).imp_of_mem fun {x y} hx hy h => ?_
      have e1 : x.1 = r := of_decide_eq_true (List.mem_filter.mp hx).2
      have e2 : y.1 = r := of_decide_eq_true (List.mem_filter.mp hy).2
      unfold Dlt at h
      omega
    · have h1 := f.ends (mem_ins.mp ha)
      have h2 := f.ends (mem_outs.mp hb)
      omega
  · rw [List.mem_append, mem_outs, mem_ins, f.mem_nb]
    exact or_comm
/-- how many rooms below n are not in S: it falls when one more is -/
def left (n : Nat) (S : Int → Bool) : Nat := (List.range n).countP fun (i : Nat) => !S (i : Int)
theorem countP_lt {α : Type} {p q : α → Bool} : ∀ {l : List α} {x : α}, (∀ y ∈ l, q y = true → p y = true) → x ∈ l → p x = true → q x = false → l.countP q < l.countP p
  | [], _, _, m, _, _ => by cases m
  | y :: l, x, h, m, hp, hq => by
    have hm : l.countP q ≤ l.countP p := List.countP_mono_left fun z hz => h z (List.mem_cons_of_mem _ hz)
    rw [List.countP_cons, List.countP_cons]
    rw [List.mem_cons] at m
    by_cases e : x = y
    · subst e
      rw [if_neg (by rw [hq]; exact Bool.false_ne_true), if_pos hp]
      omega
    · have ih := countP_lt (fun z hz => h z (List.mem_cons_of_mem _ hz)) (m.resolve_left e) hp hq
      have hy := h y (List.mem_cons_self ..)
      by_cases c : q y = true
      · rw [if_pos c, if_pos (hy c)]; omega
      · rw [if_neg c]; omega
theorem left_lt {n : Nat} {S S' : Int → Bool} {o : Int} (h : ∀ x, S x = true → S' x = true) (h0 : 0 ≤ o) (h1 : o < n) (hs : S o = false) (hs' : S' o = true) : left n S' < left n S := by
  refine countP_lt (x := o.toNat) (fun y _ hy => ?_) (List.mem_range.mpr (by omega)) ?_ ?_
  · cases e : S (y : Int) with
    | false => rfl
    | true => rw [h _ e] at hy; cases hy
  · rw [show ((o.toNat : Nat) : Int) = o by omega, hs]; rfl
  · rw [show ((o.toNat : Nat) : Int) = o by omega, hs']; rfl
theorem left_le (n : Nat) (S : Int → Bool) : left n S ≤ n := by
  refine Nat.le_trans List.countP_le_length ?_
  simp
end Fw
namespace Fw
open PySem PySem.Spec PyProof.Rows L2
def top (i : Nat) : Stmt := PySem.Challenge.pw_fromwithin_k17_whole_surplus_preserved.main.body.getD i (.Pass ⟨0, 0, 0, 0⟩)
abbrev iUnknownPerson : Stmt := inClass (top 2) 0
abbrev iInvalidRoom : Stmt := inClass (top 3) 0
abbrev iNotAdjacent : Stmt := inClass (top 4) 0
abbrev iEmptyRoom : Stmt := inClass (top 5) 0
abbrev sIsInt : Stmt := top 7
abbrev sIsRoom : Stmt := top 9
abbrev sNb : Stmt := top 10
abbrev sComp : Stmt := top 11
abbrev sSteps : Stmt := top 12
abbrev sRoomOf : Stmt := top 14
abbrev sWith : Stmt := top 15
abbrev sPIn : Stmt := top 16
abbrev sPWi : Stmt := top 17
abbrev sEmp : Stmt := top 18
abbrev sFReg : Stmt := top 20
abbrev sSurp : Stmt := top 21
abbrev sIsTight : Stmt := top 22
abbrev sMove : Stmt := top 24
abbrev sLegal : Stmt := top 25
abbrev sStream : Stmt := top 27
abbrev sNames : Stmt := top 28
abbrev sDraw : Stmt := top 29
abbrev sHouse : Stmt := top 30
abbrev sPl : Stmt := top 31
abbrev sLSurps : Stmt := top 32
abbrev sLSurpHold : Stmt := top 33
abbrev sLaw : Stmt := top 34
end Fw
namespace Fw
open PySem PySem.Spec PyProof.Rows L2
abbrev vi (ns : List Int) : List V := ns.map V.int

theorem same_upd {H : Hp} {p : Addr} {o : HO} (h : H p = none) : Same H (upd H p o) := fun b x e => by
  rw [upd_ne (ne_of_none e h)]
  exact e

/-- the stream of draws: s the list of three, A the great cells, B all cells; c bounds the count -/
structure StreamAt (H : Hp) (s A B : Addr) (c : Nat) : Prop where
  ex : ∃ (big cells : List Int) (cnt : Int), H s = some (.lst [.ref A, .ref B, .int cnt]) ∧ H A = some (.lst (vi big)) ∧ H B = some (.lst (vi cells)) ∧
    (∀ x ∈ big, 0 ≤ x) ∧ (∀ x ∈ cells, 0 ≤ x) ∧ 0 < cells.length ∧ cells.length ≤ 100 ∧ big.length ≤ 100 ∧ 0 ≤ cnt ∧ cnt ≤ c
  nAB : A ≠ B
  nsA : s ≠ A
  nsB : s ≠ B
/-- all but the stream's own lists stands as before -/
def Fr (s A : Addr) (H H' : Hp) : Prop := ∀ b o, b ≠ s → b ≠ A → H b = some o → H' b = some o
theorem Fr.trans {s A : Addr} {H H1 H2 : Hp} (a : Fr s A H H1) (b : Fr s A H1 H2) : Fr s A H H2 := fun c o h1 h2 e => b c o h1 h2 (a c o h1 h2 e)
theorem Fr.of {s A : Addr} {H H1 : Hp} (a : Same H H1) : Fr s A H H1 := fun c o _ _ e => a c o e

theorem same_put {H H1 : Hp} {p : Addr} {o : HO} (s : Same H H1) (h : H p = none) : Same H (upd H1 p o) := fun b x e => by
  rw [upd_ne (ne_of_none e h)]
  exact s _ _ e
theorem get_vi {ns : List Int} {i : Nat} {x : V} (h : (vi ns)[i]? = some x) : ∃ v, ns[i]? = some v ∧ x = .int v := by
  rw [List.getElem?_map] at h
  cases e : ns[i]? with
  | none => rw [e] at h; cases h
  | some v => rw [e] at h; exact ⟨v, rfl, (Option.some.inj h).symm⟩
theorem vi_app (a b : List Int) : vi (a ++ b) = vi a ++ vi b := List.map_append
def absI (i : Int) : Int := if i < 0 then -i else i
theorem absI_pos (i : Int) : 0 ≤ absI i := by unfold absI; split <;> omega
/-- the builtins' names are not taken -/
structure Nm (mg : Str → Option Value) : Prop where
  abs : mg "abs" = none
  len : mg "len" = none
  list : mg "list" = none
  range : mg "range" = none
  min : mg "min" = none
  max : mg "max" = none
  tuple : mg "tuple" = none
  sorted : mg "sorted" = none
  isinstance : mg "isinstance" = none
  all : mg "all" = none
  zip : mg "zip" = none
  bool : mg "bool" = none
  int : mg "int" = none
  str : mg "str" = none
  repr : mg "repr" = none

/-! ### data -/
theorem dp_ints {K : PySem.W.Frag} {H : Hp} : ∀ ns : List Int, DpAll K H (vi ns) (ns.map PyData.int)
  | [] => .nil
  | n :: ns => .cons (.int n) (dp_ints ns)
theorem lay_ints : ∀ ns : List Int, PyData.canLayAll0 (ns.map PyData.int) = true
  | [] => by simp [PyData.canLayAll0]
  | n :: ns => by
    rw [List.map_cons, PyData.canLayAll0, lay_ints ns, PyData.canLay0]
    rfl
theorem deep_ints : ∀ ns : List Int, PyData.depthAll (ns.map PyData.int) = 0
  | [] => by simp [PyData.depthAll]
  | n :: ns => by
    rw [List.map_cons, PyData.depthAll, deep_ints ns, PyData.depth]
    rfl
theorem shaped_list (ns : List Int) : SeqAt.shaped (.list (ns.map PyData.int)) = true := by
  unfold SeqAt.shaped
  rw [PyData.canLay0, lay_ints, PyData.depth, deep_ints]
  decide
theorem shaped_tup (ns : List Int) : SeqAt.shaped (.tuple (ns.map PyData.int)) = true := by
  unfold SeqAt.shaped
  rw [PyData.canLay0, lay_ints, PyData.depth, deep_ints]
  decide
theorem eqv_nil (ns : List Int) : PyData.eqv (.list (ns.map PyData.int)) (.list []) = ns.isEmpty := by
  rw [PyData.eqv]
  cases ns with
  | nil => rw [List.map_nil, PyData.eqvAll]; rfl
  | cons n ns => rw [List.map_cons, PyData.eqvAll]; rfl
theorem ix0 (n : Nat) : ixN (n + 1) 0 = some 0 := by
  unfold ixN
  rw [if_pos (by omega), if_pos (by omega)]
  rfl
theorem atI0 {α : Type} {x : α} {xs : List α} : atI (x :: xs) 0 = some x := atI_nat (j := 0) rfl
theorem atI1 {α : Type} {x y : α} {xs : List α} : atI (x :: y :: xs) 1 = some y := atI_nat (j := 1) rfl
theorem atI2 {α : Type} {x y z : α} {xs : List α} : atI (x :: y :: z :: xs) 2 = some z := atI_nat (j := 2) rfl

section
variable {P : Program} {w : World} {K : PySem.W.Frag} {mg : Str → Option Value} {base : Heap}

def spStream (K : PySem.W.Frag) : Sp := fun vs H Q _ => ∃ (a : Addr) (ns : List Int), vs = [.ref a] ∧ SqL K H a (ns.map V.int) ∧ ns.length ≤ 63 ∧
  ∀ H' s A B, Same H H' → H s = none → H A = none → StreamAt H' s A B 0 → Q (.ref s) H'

theorem scStream : FnScope ["_law_script", "_law_cells", "_law_cell"] ["_law_script"] (defScope sStream) := ⟨rfl, rfl, rfl, by decide +kernel, rfl, by decide +kernel, by decide +kernel⟩
theorem ok_stream {f : Addr} {fd : FuncData} {k : Nat} (F : Fun K "_law_stream" "_law_stream" sStream f fd) (T : Nm mg) : FnOk P w K mg base CX0 (k + 1) f fd ["_law_script"] (spStream K) := by
  refine F.ok scStream (fun vs H Q E h => ?_) (fun cdv A outer s H vs Q E hr h => ?_)
  · obtain ⟨a, ns, rfl, _⟩ := h
    rfl
  · obtain ⟨a, ns, rfl, hS, hlen, q⟩ := h
    refine ⟨_, pss_cons (ps_setLc (i := 1) (own := [("_law_cell", 2)]) (g := gName 2) (by rfl) scStream.nd rfl rfl (sw_true rfl rfl rfl (by decide +kernel)) (pi_list (pv 0))
        (blkOk_by (own := [("_law_cell", 2)]) (N := ["_law_script", "_law_cells", "_law_cell"]) (sc := defScope sStream) (by decide +kernel))
        (fun _ _ _ _ _ => pg_name (i := 2) scStream.nd rfl (Or.inl rfl)) (fun _ _ _ _ _ => pts_nil)
        (fun _ _ _ _ _ => pe_callB call_abs (by rfl) T.abs (by decide +kernel) (pa_cons (pv 2) pa_nil)))
      (pss_one (ps_ret (pe_lst (pa_cons
        (pe_lc (own := [("_law_cell", 2)]) (g := gName 2) (by rfl) scStream.nd (pi_list (pv 1))
          (blkOk_by (own := [("_law_cell", 2)]) (N := ["_law_script", "_law_cells", "_law_cell"]) (sc := defScope sStream) (by decide +kernel))
          (fun _ _ _ _ _ => pg_name (i := 2) scStream.nd rfl (Or.inl rfl)) (fun _ _ _ _ _ => pts_one (pt_cmpR op_ge (pv 2) (pe_op op_pow pe_int pe_int) (nomark _)))
          (fun _ _ _ _ _ => pv 2))
        (pa_cons (pe_op op_cat (pv 1) (pe_lst (pa_cons (pe_op op_add (pe_callB call_len_seq (by rfl) T.len PySem.boot_len (pa_cons (pv 1) pa_nil)) pe_int) pa_nil)))
        (pa_cons pe_int pa_nil)))))), ?_⟩
    refine ⟨.ref a, rfl, a, rfl, ⟨_, hS⟩, fun D hD => lc_list (K := K) (a := a) (xs := vi ns) (fun i H1 => Same H H1 ∧ H1 D = some (.lst (vi ((ns.map absI).take i))))
      ⟨same_upd hD, upd_same⟩ (fun i H1 _ h => h.1.seq hS) ?_ ?_⟩
    · rintro i x H1 hx ⟨s1, e1⟩
      obtain ⟨v, ev, rfl⟩ := get_vi hx
      refine ⟨rfl, ?_⟩
      unfold tYes
      refine iteT ?_
      refine ⟨_, rfl, v, rfl, _, e1, ?_, ?_, ?_⟩
      · rw [List.length_map, List.length_take, List.length_map]
        exact small1000 (by omega)
      · exact same_put s1 hD
      · rw [upd_same, List.take_add_one, List.getElem?_map, ev, vi_app]
        rfl
    · rintro H1 ⟨s1, e1⟩
      rw [List.length_map, ← List.length_map (f := absI), List.take_length] at e1
      refine ⟨_, rfl, D, rfl, ⟨_, SqL.of e1⟩, fun G hG => lc_list (K := K) (a := D) (xs := vi (ns.map absI)) (fun i H2 => Same H1 H2 ∧ H2 G = some (.lst (vi (((ns.map absI).take i).filter fun x => decide (10 ^ 18 ≤ x)))))
        ⟨same_upd hG, upd_same⟩ (fun i H2 _ h => h.1.seq (SqL.of e1)) ?_ ?_⟩
      · rintro i x H2 hx ⟨s2, e2⟩
        obtain ⟨v, ev, rfl⟩ := get_vi hx
        refine ⟨rfl, _, rfl, _, _, rfl, rfl, ⟨by decide, by decide, by decide⟩, _, _, rfl, rfl, _, rfl, ?_⟩
        have et : ((ns.map absI).take (i + 1)).filter (fun x => decide (10 ^ 18 ≤ x)) = ((ns.map absI).take i).filter (fun x => decide (10 ^ 18 ≤ x)) ++ (if 10 ^ 18 ≤ v then [v] else []) := by
          rw [List.take_add_one, ev, List.filter_append]
          congr 1
          by_cases c : (10 : Int) ^ 18 ≤ v
          · rw [if_pos c]
            show List.filter _ [v] = [v]
            rw [List.filter_cons_of_pos (by simpa using c)]
            rfl
          · rw [if_neg c]
            show List.filter _ [v] = []
            rw [List.filter_cons_of_neg (by simpa using c)]
            rfl
        refine ite2 (fun c => ?_) (fun c => ?_)
        · have c : (10 : Int) ^ 18 ≤ v := of_decide_eq_true c
          refine ⟨_, rfl, _, e2, ?_, same_put s2 hG, ?_⟩
          · rw [List.length_map]
            refine small1000 (Nat.le_trans (List.length_filter_le _ _) ?_)
            rw [List.length_take, List.length_map]
            omega
          · rw [upd_same, et, if_pos c, vi_app]
            rfl
        · have c : ¬ (10 : Int) ^ 18 ≤ v := fun e => c (decide_eq_true e)
          refine ⟨s2, ?_⟩
          rw [et, if_neg c, List.append_nil]
          exact e2
      · rintro H2 ⟨s2, e2⟩
        rw [List.length_map, List.take_length] at e2
        have e1' := s2 _ _ e1
        refine ⟨_, rfl, _, rfl, D, _, rfl, .inl (SqL.of e1'), _, _, rfl, rfl, by show 1 ≤ sizeLine; decide, fun O hO => ?_⟩
        have e1'' := same_upd (o := .lst [.int (((vi (ns.map absI)).length : Nat) + 3)]) hO _ _ e1'
        refine ⟨D, O, _, _, rfl, rfl, e1'', upd_same, ?_, fun B hB => ?_⟩
        · simp only [List.length_map, List.length_append, List.length_cons, List.length_nil]
          exact Nat.le_of_lt (small1000 (by omega))
        refine ⟨by show 3 ≤ sizeLine; decide, fun S hS' => ?_⟩
        have nGS : S ≠ G := fun e => by
          rw [e] at hS'
          exact absurd hS' (by rw [same_upd hB _ _ (same_upd hO _ _ e2)]; exact nofun)
        have nBS : S ≠ B := fun e => by
          rw [e, upd_same] at hS'
          cases hS'
        have nGB : G ≠ B := fun e => by
          rw [← e] at hB
          exact absurd hB (by rw [same_upd hO _ _ e2]; exact nofun)
        have sA : Same H (upd (upd H2 O (.lst [.int (((vi (ns.map absI)).length : Nat) + 3)])) B (.lst (vi (ns.map absI) ++ [.int (((vi (ns.map absI)).length : Nat) + 3)]))) := (s1.trans s2).trans ((same_upd hO).trans (same_upd hB))
        refine q _ S G B (sA.trans (same_upd hS')) (sA.free hS') (s1.free hG) ⟨⟨(ns.map absI).filter (fun x => decide (10 ^ 18 ≤ x)), ns.map absI ++ [((ns.length : Nat) : Int) + 3], 0, upd_same, ?_, ?_, ?_, ?_, ?_, ?_, ?_, Int.le_refl _, Int.le_refl _⟩, nGB, nGS, nBS⟩
        · rw [upd_ne nGS.symm, upd_ne nGB, same_upd hO _ _ e2]
        · rw [upd_ne nBS.symm, upd_same, vi_app]
          show some (HO.lst (vi (ns.map absI) ++ [V.int (((vi (ns.map absI)).length : Nat) + 3)])) = _
          rw [List.length_map, List.length_map]
          rfl
        · intro x hx
          obtain ⟨y, _, rfl⟩ := List.mem_map.mp (List.mem_filter.mp hx).1
          exact absI_pos y
        · intro x hx
          rcases List.mem_append.mp hx with hx | hx
          · obtain ⟨y, _, rfl⟩ := List.mem_map.mp hx
            exact absI_pos y
          · rw [List.mem_singleton.mp hx]
            omega
        · simp
        · simp only [List.length_map, List.length_append, List.length_cons, List.length_nil]
          omega
        · refine Nat.le_trans (List.length_filter_le _ _) ?_
          rw [List.length_map]
          omega

theorem lg60 {m : Int} (h0 : 0 < m) (h1 : m < 2 ^ 60) : m.natAbs.log2 < 9000 := by
  have : m.natAbs ≠ 0 := by omega
  have h2 : m.natAbs < 2 ^ 60 := by omega
  have := (Nat.log2_lt this).mpr h2
  omega
def spDraw : Sp := fun vs H Q _ => ∃ (s A B : Addr) (c : Nat) (m : Int), vs = [.ref s, .int m] ∧ StreamAt H s A B c ∧ c < 2 ^ 40 ∧ 0 < m ∧ m < 2 ^ 60 ∧
  ∀ H' r, StreamAt H' s A B (c + 1) → Fr s A H H' → 0 ≤ r → r < m → Q (.int r) H'

theorem scDraw : FnScope ["_law_stream_here", "_law_many", "_law_rest", "_law_turn", "_law_cell", "_law_mixed"] ["_law_stream_here", "_law_many"] (defScope sDraw) := ⟨rfl, rfl, rfl, by decide +kernel, rfl, by decide +kernel, by decide +kernel⟩
theorem ok_draw {f : Addr} {fd : FuncData} {k : Nat} (F : Fun K "_law_draw" "_law_draw" sDraw f fd) (T : Nm mg) : FnOk P w K mg base CX0 (k + 1) f fd ["_law_stream_here", "_law_many"] spDraw := by
  refine F.ok scDraw (fun vs H Q E h => ?_) (fun cdv A outer s H vs Q E hr h => ?_)
  · obtain ⟨s, A, B, c, m, rfl, _⟩ := h
    rfl
  · obtain ⟨s, A, B, c, m, rfl, hS, hc, hm0, hm1, q⟩ := h
    refine ⟨_, pss_cons (ps_while PassesOwn.never (pt_cmpR (op_neD hr.units) (pe_ix ix_list (pv 0) pe_int (fun _ _ => rfl)) (pe_lst pa_nil) (nomark _))
        (pss_cons (ps_set (i := 2) scDraw.nd rfl (.inl rfl) (pe_ix ix_list (pe_ix ix_list (pv 0) pe_int (fun _ _ => rfl)) pe_int (fun _ _ => rfl)))
        (pss_cons (ps_if (pt_cmpR op_gt (pv 2) pe_int (nomark _))
          (pss_cons (ps_asg (pe_op op_fdivW (pv 2) (pv 1)) (pg_sub (pe_ix ix_list (pv 0) pe_int (fun _ _ => rfl)) pe_int set_list))
          (pss_one (ps_ret (pe_op op_modN (pv 2) (pv 1))))) pss_nil)
        (pss_one (ps_expr (pe_bm PySem.F.plainAttrs_list PySem.F.slot_list_pop PySem.F.type_list_pop mt_popAt (pe_ix ix_list (pv 0) pe_int (fun _ _ => rfl)) (pa_cons pe_int pa_nil)))))))
      (pss_cons (ps_set (i := 3) scDraw.nd rfl (.inl rfl) (pe_op op_add (pe_ix ix_list (pv 0) pe_int (fun _ _ => rfl)) pe_int))
      (pss_cons (ps_asg (pv 3) (pg_sub (pv 0) pe_int set_list))
      (pss_cons (ps_set (i := 4) scDraw.nd rfl (.inl rfl) (pe_op op_modN (pe_ix ix_list (pe_ix ix_list (pv 0) pe_int (fun _ _ => rfl)) (pe_op op_modN (pv 3) (pe_callB call_len_seq (by rfl) T.len PySem.boot_len (pa_cons (pe_ix ix_list (pv 0) pe_int (fun _ _ => rfl)) pa_nil))) (fun _ _ => rfl)) pe_int))
      (pss_cons (ps_set (i := 5) scDraw.nd rfl (.inl rfl) (pe_op op_add (pe_op op_add (pe_op op_mul (pv 4) (pe_op op_add pe_int (pe_op op_mul pe_int (pv 3)))) (pe_op op_mul (pe_op op_mul pe_int (pv 3)) (pv 3))) pe_int))
      (pss_cons (ps_set (i := 5) scDraw.nd rfl (.inl rfl) (pe_op op_modN (pv 5) pe_int))
      (pss_one (ps_ret (pe_op op_modN (pe_op op_fdivN (pe_op op_modN (pe_op op_mul (pv 5) (pv 5)) pe_int) pe_int) (pv 1))))))))), ?_⟩
    have fm : ∀ x y : Int, 0 < y → 0 ≤ x.fmod y ∧ x.fmod y < y := fun x y hy => by
      rw [Int.fmod_eq_emod_of_nonneg x (Int.le_of_lt hy)]
      exact ⟨Int.emod_nonneg x (by omega), Int.emod_lt_of_pos x hy⟩
    refine ⟨fun n σ H' => ∃ y2, σ = [some (.ref s), some (.int m), y2, none, none, none] ∧ StreamAt H' s A B c ∧ Fr s A H H' ∧ ∃ big : List Int, H' A = some (.lst (vi big)) ∧ n = big.length, ?_, ?_⟩
    · obtain ⟨big, cells, cnt, _, h2, _⟩ := hS.ex
      exact ⟨_, none, rfl, hS, fun _ _ _ _ e => e, big, h2, rfl⟩
    rintro n σ H1 ⟨y2, rfl, hS1, fr1, big', hb', rfl⟩
    obtain ⟨big, cells, cnt, h1, h2, h3, p1, p2, l0, l1, l2, c0, c1⟩ := hS1.ex
    have eb : vi big' = vi big := by
      rw [h2] at hb'
      injection hb' with hb'
      injection hb' with hb'
      exact hb'.symm
    have el : big'.length = big.length := by
      have := congrArg List.length eb
      simpa using this
    rw [el]
    refine ⟨_, rfl, s, _, _, _, rfl, rfl, SqL.of h1, atI0, Nat.zero_le _, fun e he => ?_⟩
    have n1 : s ≠ e := ne_of_none h1 he
    have n2 : A ≠ e := ne_of_none h2 he
    have n3 : B ≠ e := ne_of_none h3 he
    have h1' : (upd H1 e (.lst [])) s = _ := (upd_ne n1).trans h1
    have h2' : (upd H1 e (.lst [])) A = _ := (upd_ne n2).trans h2
    have h3' : (upd H1 e (.lst [])) B = _ := (upd_ne n3).trans h3
    have sm : Same H1 (upd H1 e (.lst [])) := same_upd he
    refine ⟨.list (big.map .int), .list [], .lst (SqL.of h2') (dp_ints big), .lst (SqL.of upd_same) .nil, shaped_list big, shaped_list [], _, rfl, ?_⟩
    rw [eqv_nil]
    cases big with
    | nil =>
      refine iteF ?_
      -- turn = s[2] + 1; s[2] = turn
      refine ⟨_, rfl, s, _, _, _, rfl, rfl, SqL.of h1', atI2, _, _, rfl, rfl, ?_⟩
      refine ⟨_, rfl, _, rfl, s, _, _, 2, rfl, rfl, h1', rfl, ?_⟩
      have h3s : (upd (upd H1 e (.lst [])) s (.lst ([V.ref A, V.ref B, V.int cnt].set 2 (V.int (cnt + 1))))) B = _ := (upd_ne hS1.nsB.symm).trans h3'
      have h2s : (upd (upd H1 e (.lst [])) s (.lst ([V.ref A, V.ref B, V.int cnt].set 2 (V.int (cnt + 1))))) A = _ := (upd_ne hS1.nsA.symm).trans h2'
      have hS2 : StreamAt (upd (upd H1 e (.lst [])) s (.lst ([V.ref A, V.ref B, V.int cnt].set 2 (V.int (cnt + 1))))) s A B (c + 1) :=
        ⟨⟨[], cells, cnt + 1, upd_same, h2s, h3s, p1, p2, l0, l1, l2, by omega, by omega⟩, hS1.nAB, hS1.nsA, hS1.nsB⟩
      have fr2 : Fr s A H (upd (upd H1 e (.lst [])) s (.lst ([V.ref A, V.ref B, V.int cnt].set 2 (V.int (cnt + 1))))) := fun b o z1 z2 z3 => by
        rw [upd_ne z1]
        exact sm _ _ (fr1 b o z1 z2 z3)
      have h1s : (upd (upd H1 e (.lst [])) s (.lst ([V.ref A, V.ref B, V.int cnt].set 2 (V.int (cnt + 1))))) s = some (.lst [V.ref A, V.ref B, V.int (cnt + 1)]) := upd_same
      have hl : (0 : Int) < (cells.length : Nat) := by omega
      obtain ⟨g0, g1⟩ := fm (cnt + 1) ((cells.length : Nat) : Int) hl
      have hj : ((cnt + 1).fmod ((cells.length : Nat) : Int)).toNat < cells.length := by omega
      have hat : atI (vi cells) ((cnt + 1).fmod (((vi cells).length : Nat) : Int)) = some (V.int cells[((cnt + 1).fmod ((cells.length : Nat) : Int)).toNat]) := by
        rw [List.length_map]
        have := atI_nat (xs := vi cells) (j := ((cnt + 1).fmod ((cells.length : Nat) : Int)).toNat) (v := V.int cells[((cnt + 1).fmod ((cells.length : Nat) : Int)).toNat]) (by rw [List.getElem?_map, List.getElem?_eq_getElem hj]; rfl)
        rw [show ((((cnt + 1).fmod ((cells.length : Nat) : Int)).toNat : Nat) : Int) = (cnt + 1).fmod ((cells.length : Nat) : Int) by omega] at this
        exact this
      refine ⟨_, rfl, s, _, _, _, rfl, rfl, SqL.of h1s, atI1, _, rfl, _, rfl, s, _, _, _, rfl, rfl, SqL.of h1s, atI1, B, _, rfl, .inl (SqL.of h3s), _, _, rfl, rfl, by rw [List.length_map]; omega, B, _, _, _, rfl, rfl, SqL.of h3s, hat, _, _, rfl, rfl, (by show (2147483647 : Int) ≠ 0; decide), ?_⟩
      generalize cells[((cnt + 1).fmod ((cells.length : Nat) : Int)).toNat] = x
      obtain ⟨x0, x1⟩ := fm x 2147483647 (by decide)
      refine ⟨_, rfl, _, rfl, _, _, rfl, rfl, .inl ⟨by decide, by decide⟩, _, _, rfl, rfl, _, _, rfl, rfl, .inl ⟨by omega, by omega⟩, ?_⟩
      refine ⟨_, rfl, _, _, rfl, rfl, .inl ⟨by decide, by decide⟩, _, rfl, _, _, rfl, rfl, .inr ⟨by omega, by omega⟩, _, _, rfl, rfl, _, _, rfl, rfl, ?_⟩
      refine ⟨_, rfl, _, _, rfl, rfl, (by show (2147483629 : Int) ≠ 0; decide), ?_⟩
      refine ⟨_, rfl, _, rfl, _, _, rfl, rfl, .inl ?_, _, _, rfl, rfl, (by show (2147483587 : Int) ≠ 0; decide), _, _, rfl, rfl, ⟨by decide, by decide⟩, _, rfl, _, _, rfl, rfl, by omega, ?_⟩
      · generalize (x.fmod 2147483647 * _ + _ + _ : Int) = y
        obtain ⟨y0, y1⟩ := fm y 2147483629 (by decide)
        exact ⟨by omega, by omega⟩
      · exact q _ _ hS2 fr2 (fm _ m hm0).1 (fm _ m hm0).2
    | cons x r =>
      refine iteT ⟨_, fun _ _ h => h, ?_⟩
      refine ⟨_, rfl, s, _, _, _, rfl, rfl, SqL.of h1', atI0, A, _, _, _, rfl, rfl, SqL.of h2', atI0, ?_⟩
      refine ⟨_, rfl, _, _, rfl, rfl, _, rfl, ?_⟩
      have hx : 0 ≤ x := p1 x (List.mem_cons_self ..)
      have hr' : ∀ y ∈ r, 0 ≤ y := fun y hy => p1 y (List.mem_cons_of_mem _ hy)
      refine ite2 (fun cx => ?_) (fun cx => ?_)
      · refine ⟨_, rfl, _, rfl, _, _, rfl, rfl, ⟨hm0, lg60 hm0 hm1⟩, ?_⟩
        refine ⟨_, rfl, s, _, _, _, rfl, rfl, SqL.of h1', atI0, A, _, _, 0, rfl, rfl, h2', ix0 _, ?_⟩
        refine ⟨_, rfl, _, rfl, _, _, rfl, rfl, by omega, ?_⟩
        refine q _ _ ⟨⟨x / m :: r, cells, cnt, (upd_ne hS1.nsA).trans h1', upd_same, (upd_ne hS1.nAB.symm).trans h3', ?_, p2, l0, l1, l2, c0, by omega⟩, hS1.nAB, hS1.nsA, hS1.nsB⟩ ?_ (fm x m hm0).1 (fm x m hm0).2
        · intro y hy
          rcases List.mem_cons.mp hy with rfl | hy
          · exact Int.ediv_nonneg hx (Int.le_of_lt hm0)
          · exact hr' y hy
        · intro b o z1 z2 z3
          rw [upd_ne z2]
          exact sm _ _ (fr1 b o z1 z2 z3)
      · refine ⟨_, rfl, s, _, _, _, rfl, rfl, SqL.of h1', atI0, .inl ⟨rfl, _, SqL.of h2'⟩, A, _, _, 0, _, rfl, rfl, h2', by decide, by decide, (ixN_seq (ix0 _)).1, rfl, ?_⟩
        refine ⟨r.length, by simp, _, rfl, ⟨⟨r, cells, cnt, (upd_ne hS1.nsA).trans h1', upd_same, (upd_ne hS1.nAB.symm).trans h3', hr', p2, l0, l1, by simp at l2; omega, c0, c1⟩, hS1.nAB, hS1.nsA, hS1.nsB⟩, ?_, r, upd_same, rfl⟩
        intro b o z1 z2 z3
        rw [upd_ne z2]
        exact sm _ _ (fr1 b o z1 z2 z3)
end
end Fw
namespace Fw
open PySem PySem.Spec PyProof.Rows L2

structure Def (K : PySem.W.Frag) (mg : Str → Option Value) (x : Str) (st : Stmt) (f : Addr) (fd : FuncData) (ps : List Str) : Prop where
  F : Fun K x x st f fd
  b : Binds K fd ps []
  g : mg x = some (.ref f)

section
variable {s A B : Addr} {H H1 H2 : Hp} {c : Nat}
theorem StreamAt.ne (hS : StreamAt H s A B c) {L : Addr} (h : H L = none) : s ≠ L ∧ A ≠ L ∧ B ≠ L := by
  obtain ⟨big, cells, cnt, h1, h2, h3, _⟩ := hS.ex
  exact ⟨ne_of_none h1 h, ne_of_none h2 h, ne_of_none h3 h⟩
theorem StreamAt.put (hS : StreamAt H s A B c) {L : Addr} {o : HO} (n : s ≠ L ∧ A ≠ L ∧ B ≠ L) : StreamAt (upd H L o) s A B c := by
  obtain ⟨big, cells, cnt, h1, h2, h3, r⟩ := hS.ex
  exact ⟨⟨big, cells, cnt, (upd_ne n.1).trans h1, (upd_ne n.2.1).trans h2, (upd_ne n.2.2).trans h3, r⟩, hS.nAB, hS.nsA, hS.nsB⟩
theorem StreamAt.mono (hS : StreamAt H s A B c) {c' : Nat} (h : c ≤ c') : StreamAt H s A B c' := by
  obtain ⟨big, cells, cnt, h1, h2, h3, p1, p2, l0, l1, l2, c0, c1⟩ := hS.ex
  exact ⟨⟨big, cells, cnt, h1, h2, h3, p1, p2, l0, l1, l2, c0, by omega⟩, hS.nAB, hS.nsA, hS.nsB⟩
theorem StreamAt.same (hS : StreamAt H s A B c) (e : Same H H1) : StreamAt H1 s A B c := by
  obtain ⟨big, cells, cnt, h1, h2, h3, r⟩ := hS.ex
  exact ⟨⟨big, cells, cnt, e _ _ h1, e _ _ h2, e _ _ h3, r⟩, hS.nAB, hS.nsA, hS.nsB⟩
theorem StreamAt.tup (hS : StreamAt H s A B c) {t : Addr} {xs : List V} (h : H t = some (.tup xs)) : t ≠ s ∧ t ≠ A ∧ t ≠ B := by
  obtain ⟨big, cells, cnt, h1, h2, h3, _⟩ := hS.ex
  exact ⟨ne_of h h1 (by intro q; cases q), ne_of h h2 (by intro q; cases q), ne_of h h3 (by intro q; cases q)⟩
theorem Fr.refl : Fr s A H H := fun _ _ _ _ e => e
theorem Fr.free (f : Fr s A H H1) (hS : StreamAt H1 s A B c) {L : Addr} (h : H1 L = none) : H L = none := by
  obtain ⟨n1, n2, _⟩ := hS.ne h
  cases e : H L with
  | none => rfl
  | some o =>
    rw [f L o n1.symm n2.symm e] at h
    cases h
theorem Fr.put (f : Fr s A H H1) {L : Addr} {o : HO} (h : H L = none) : Fr s A H (upd H1 L o) := fun b u z1 z2 e => by
  rw [upd_ne (ne_of_none e h)]
  exact f b u z1 z2 e
theorem Fr.tup (f : Fr s A H H1) (hS : StreamAt H s A B c) {t : Addr} {xs : List V} (h : H t = some (.tup xs)) : H1 t = some (.tup xs) :=
  f t _ (hS.tup h).1 (hS.tup h).2.1 h
end

/-- a house, as it stands in memory -/
def HouseAt (H : Hp) (h : Addr) (n : Int) (D : List (Int × Int)) : Prop := ∃ (q : Addr) (ps : List (Addr × Int × Int)),
  H h = some (.tup [.int n, .ref q]) ∧ H q = some (.tup (ps.map fun p => V.ref p.1)) ∧ D = ps.map (·.2) ∧ ∀ p ∈ ps, H p.1 = some (.tup [.int p.2.1, .int p.2.2])
theorem HouseAt.same {H H' : Hp} {h : Addr} {n : Int} {D : List (Int × Int)} (x : HouseAt H h n D) (e : Same H H') : HouseAt H' h n D := by
  obtain ⟨q, ps, h1, h2, h3, h4⟩ := x
  exact ⟨q, ps, e _ _ h1, e _ _ h2, h3, fun p hp => e _ _ (h4 p hp)⟩
theorem HouseAt.fr {s A B : Addr} {c : Nat} {H H' : Hp} {h : Addr} {n : Int} {D : List (Int × Int)} (x : HouseAt H h n D) (hS : StreamAt H s A B c) (e : Fr s A H H') : HouseAt H' h n D := by
  obtain ⟨q, ps, h1, h2, h3, h4⟩ := x
  exact ⟨q, ps, e.tup hS h1, e.tup hS h2, h3, fun p hp => e.tup hS (h4 p hp)⟩

theorem perm_map_inv {α β : Type} {f : α → β} : ∀ {ys zs : List β}, ys.Perm zs → ∀ {ps : List α}, zs = ps.map f → ∃ ps' : List α, ps'.Perm ps ∧ ys = ps'.map f := by
  intro ys zs h
  induction h with
  | nil =>
    intro ps e
    cases ps with
    | nil => exact ⟨[], .nil, rfl⟩
    | cons p r => cases e
  | cons x _ ih =>
    intro ps e
    cases ps with
    | nil => cases e
    | cons p r =>
      rw [List.map_cons] at e
      injection e with e1 e2
      obtain ⟨ps', hp, he⟩ := ih e2
      exact ⟨p :: ps', hp.cons p, by rw [he, List.map_cons, e1]⟩
  | swap x y l =>
    intro ps e
    match ps, e with
    | p :: q :: r, e =>
      rw [List.map_cons, List.map_cons] at e
      injection e with e1 e2
      injection e2 with e2 e3
      exact ⟨q :: p :: r, List.Perm.swap p q r, by rw [List.map_cons, List.map_cons, e1, e2, e3]⟩
  | trans _ _ ih1 ih2 =>
    intro ps e
    obtain ⟨p2, h2, e2⟩ := ih2 e
    obtain ⟨p1, h1, e1⟩ := ih1 e2
    exact ⟨p1, h1.trans h2, e1⟩

theorem rg_vi (n : Int) : rgV 0 n = vi ((List.range n.toNat).map fun (i : Nat) => (i : Int)) := by
  unfold rgV vi
  rw [List.map_map, Int.sub_zero]
  refine List.map_congr_left fun i _ => ?_
  show V.int (0 + (i : Int)) = V.int (i : Int)
  rw [Int.zero_add]
def rg (n : Int) : List Int := (List.range n.toNat).map fun (i : Nat) => (i : Int)
theorem mem_rg {n x : Int} : x ∈ rg n ↔ 0 ≤ x ∧ x < n := by
  unfold rg
  rw [List.mem_map]
  constructor
  · rintro ⟨i, hi, rfl⟩
    rw [List.mem_range] at hi
    omega
  · rintro ⟨h0, h1⟩
    exact ⟨x.toNat, List.mem_range.mpr (by omega), by omega⟩
theorem rg_len (n : Int) : (rg n).length = n.toNat := by simp [rg]
theorem rg_nodup (n : Int) : (rg n).Nodup := (range_up n.toNat).imp fun h => by omega

theorem vi_erase (ns : List Int) (i : Nat) : (vi ns).eraseIdx i = vi (ns.eraseIdx i) := by
  induction ns generalizing i with
  | nil => rfl
  | cons n ns ih =>
    cases i with
    | zero => rfl
    | succ i =>
      show V.int n :: (vi ns).eraseIdx i = V.int n :: vi (ns.eraseIdx i)
      rw [ih]
theorem erase_perm : ∀ {ns : List Int} {i : Nat} (h : i < ns.length), (ns[i] :: ns.eraseIdx i).Perm ns
  | n :: ns, 0, _ => List.Perm.refl _
  | n :: ns, i + 1, h => by
    have h' : i < ns.length := by simpa using h
    show (ns[i] :: n :: ns.eraseIdx i).Perm (n :: ns)
    exact (List.Perm.swap _ _ _).trans ((erase_perm (by simpa using h)).cons n)
theorem lacks {r : Int} (h0 : 0 ≤ r) (h1 : r < 3) : ∃ lk : Int, atI [V.int 0, V.int 0, V.int 6] r = some (.int lk) ∧ (lk = 0 ∨ lk = 6) := by
  have : r = 0 ∨ r = 1 ∨ r = 2 := by omega
  rcases this with rfl | rfl | rfl
  · exact ⟨0, atI0, .inl rfl⟩
  · exact ⟨0, atI1, .inl rfl⟩
  · exact ⟨6, atI2, .inr rfl⟩
theorem pick3 {r r1 : Int} {i : Nat} (h0 : 0 ≤ r) (h1 : r < 3) (a0 : 0 ≤ r1) (a1 : r1 < 1 + (i : Int)) : ∃ ix : Int, atI [V.int (1 + (i : Int) - 1), V.int 0, V.int r1] r = some (.int ix) ∧ 0 ≤ ix ∧ ix ≤ i := by
  have : r = 0 ∨ r = 1 ∨ r = 2 := by omega
  rcases this with rfl | rfl | rfl
  · exact ⟨_, atI0, by omega, by omega⟩
  · exact ⟨_, atI1, by omega, by omega⟩
  · exact ⟨_, atI2, by omega, by omega⟩
/-- the two ints of a pair in memory -/
def twoOf (H : Hp) (x : V) : Int × Int := match x with
  | .ref t => match H t with
    | some (.tup [.int i, .int j]) => (i, j)
    | _ => (0, 0)
  | _ => (0, 0)
theorem twoOf_eq {H : Hp} {t : Addr} {d : Int × Int} (h : H t = some (.tup [.int d.1, .int d.2])) : twoOf H (.ref t) = d := by
  unfold twoOf
  simp only [h]
theorem Dlt_of {x y : Int × Int} (h : ¬ (y.1 < x.1 ∨ (y.1 = x.1 ∧ y.2 < x.2))) (n : x ≠ y) : Dlt x y := by
  unfold Dlt
  have : ¬ (x.1 = y.1 ∧ x.2 = y.2) := fun e => n (Prod.ext e.1 e.2)
  omega
/-- what stands while the doors are made -/
structure Mid (H : Hp) (s A B O R : Addr) (ord : List Int) (c : Nat) (ps : List (Addr × Int × Int)) (H' : Hp) : Prop where
  st : StreamAt H' s A B c
  frm : Fr s A H H'
  eO : H' O = some (.lst (vi ord))
  eR : H' R = some (.lst (ps.map fun p => V.ref p.1))
  eP : ∀ p ∈ ps, H' p.1 = some (.tup [.int p.2.1, .int p.2.2])
theorem Mid.fr {H H1 H2 : Hp} {s A B O R : Addr} {ord : List Int} {c c' : Nat} {ps : List (Addr × Int × Int)} (m : Mid H s A B O R ord c ps H1) (hS : StreamAt H2 s A B c') (f : Fr s A H1 H2) (zO : s ≠ O ∧ A ≠ O ∧ B ≠ O) (zR : s ≠ R ∧ A ≠ R ∧ B ≠ R) : Mid H s A B O R ord c' ps H2 :=
  ⟨hS, m.frm.trans f, f _ _ zO.1.symm zO.2.1.symm m.eO, f _ _ zR.1.symm zR.2.1.symm m.eR, fun p hp => f.tup m.st (m.eP p hp)⟩
theorem Mid.new {H H1 : Hp} {s A B O R : Addr} {ord : List Int} {c : Nat} {ps : List (Addr × Int × Int)} (m : Mid H s A B O R ord c ps H1) {N : Addr} {o : HO} (h : H1 N = none) : Mid H s A B O R ord c ps (upd H1 N o) :=
  ⟨m.st.same (same_upd h), m.frm.put (m.frm.free m.st h), same_upd h _ _ m.eO, same_upd h _ _ m.eR, fun p hp => same_upd h _ _ (m.eP p hp)⟩
theorem if_by {t : TT} {tb te : TS} {D : Ends} {σ : L2.St} {H : Hp} (Good : Bool → Hp → Prop) (hb : ∀ H', Good true H' → tb D σ H') (he : ∀ H', Good false H' → te D σ H')
    (h : ∀ Q : Bool → Hp → Prop, (∀ b H', Good b H' → Q b H') → t σ H Q) : tIfS t tb te D σ H := h _ fun b H' g => by
  cases b with
  | true => exact iteT (hb _ g)
  | false => exact iteF (he _ g)
section
variable {P : Program} {w : World} {K : PySem.W.Frag} {mg : Str → Option Value} {base : Heap}
def spHouse : Sp := fun vs H Q _ => ∃ (s A B : Addr) (c : Nat) (least most : Int), vs = [.ref s, .int least, .int most] ∧ StreamAt H s A B c ∧ c < 2 ^ 30 ∧ 1 ≤ least ∧ least ≤ most ∧ most ≤ 8 ∧
  ∀ H' h n D, StreamAt H' s A B (c + 40) → Fr s A H H' → HouseAt H' h n D → Forest n D → least ≤ n → n ≤ most → Q (.ref h) H'

abbrev nHouse : List Str := ["_law_stream_here", "_law_least", "_law_most", "_law_rooms", "_law_left", "_law_order", "_law_doors", "_law_lacks", "_law_k", "_law_on"]
theorem scHouse : FnScope nHouse ["_law_stream_here", "_law_least", "_law_most"] (defScope sHouse) := ⟨rfl, rfl, rfl, by decide +kernel, rfl, by decide +kernel, by decide +kernel⟩
theorem ok_house {f fD : Addr} {fd fdD : FuncData} (F : Fun K "_law_house" "_law_house" sHouse f fd) (T : Nm mg) (D : Def K mg "_law_draw" sDraw fD fdD ["_law_stream_here", "_law_many"]) : FnOk P w K mg base CX0 2 f fd ["_law_stream_here", "_law_least", "_law_most"] spHouse := by
  have GD : FnOk P w K mg base CX0 1 fD fdD ["_law_stream_here", "_law_many"] spDraw := ok_draw D.F T
  refine F.ok scHouse (fun vs H Q E h => ?_) (fun cdv A outer s H vs Q E hr h => ?_)
  · obtain ⟨s, A, B, c, least, most, rfl, _⟩ := h
    rfl
  · obtain ⟨s, A, B, c, least, most, rfl, hS, hc, hl1, hl2, hl3, q⟩ := h
    refine ⟨_, pss_cons (ps_set (i := 3) scHouse.nd rfl (.inl rfl) (pe_op op_add (pv 1) (pe_call GD hr (by rfl) D.g D.F.kp D.b .nil pass0 (pa_cons (pv 0) (pa_cons (pe_op op_add (pe_op op_sub (pv 2) (pv 1)) pe_int) pa_nil)))))
      (pss_cons (ps_par3 (i := 4) (j := 5) (l := 6) (by rfl) scHouse.nd rfl rfl rfl (by decide) (by decide) (by decide) rfl rfl rfl (pa_cons (pe_listRg (by rfl) (by rfl) T.list (prg_1 (by rfl) T.range (pv 3))) (pa_cons (pe_lst pa_nil) (pa_cons (pe_lst pa_nil) pa_nil))) (by rfl))
      (pss_cons (ps_while PassesOwn.never (pt_cmpR (op_neD hr.units) (pv 4) (pe_lst pa_nil) (nomark _))
        (pss_one (ps_expr (pe_bm PySem.F.plainAttrs_list PySem.F.slot_list_append PySem.F.type_list_append mt_append (pv 5) (pa_cons
          (pe_bm PySem.F.plainAttrs_list PySem.F.slot_list_pop PySem.F.type_list_pop mt_popAt (pv 4) (pa_cons
            (pe_call GD hr (by rfl) D.g D.F.kp D.b .nil pass0 (pa_cons (pv 0) (pa_cons (pe_callB call_len_seq (by rfl) T.len PySem.boot_len (pa_cons (pv 4) pa_nil)) pa_nil))) pa_nil)) pa_nil)))))
      (pss_cons (ps_set (i := 7) scHouse.nd rfl (.inl rfl) (pe_ix ix_list (pe_lst (pa_cons pe_int (pa_cons pe_int (pa_cons pe_int pa_nil)))) (pe_call GD hr (by rfl) D.g D.F.kp D.b .nil pass0 (pa_cons (pv 0) (pa_cons pe_int pa_nil))) (fun _ _ => rfl)))
      (pss_cons (ps_for PassesOwn.never rfl (pi_range2 (by rfl) T.range (pa_cons pe_int (pa_cons (pv 3) pa_nil))) (pg_name (i := 8) scHouse.nd rfl (Or.inl rfl))
        (pss_cons (ps_set (i := 9) scHouse.nd rfl (.inl rfl) (pe_ix ix_list (pv 5) (pe_ix ix_list (pe_lst (pa_cons (pe_op op_sub (pv 8) pe_int) (pa_cons pe_int (pa_cons (pe_call GD hr (by rfl) D.g D.F.kp D.b .nil pass0 (pa_cons (pv 0) (pa_cons (pv 8) pa_nil))) pa_nil))))
            (pe_call GD hr (by rfl) D.g D.F.kp D.b .nil pass0 (pa_cons (pv 0) (pa_cons pe_int pa_nil))) (fun _ _ => rfl)) (fun _ _ => rfl)))
        (pss_one (ps_if (PW.pt (pw_or (pt_cmpR op_eq (pv 7) pe_int (nomark _)) (pw_or1 (pt_cmpR op_gt (pe_call GD hr (by rfl) D.g D.F.kp D.b .nil pass0 (pa_cons (pv 0) (pa_cons (pv 7) pa_nil))) pe_int (nomark _)))))
          (pss_one (ps_expr (pe_bm PySem.F.plainAttrs_list PySem.F.slot_list_append PySem.F.type_list_append mt_append (pv 6) (pa_cons (pe_tup
            (pa_cons (pe_callB (call_min2 rfl) (by rfl) T.min (by decide +kernel) (pa_cons (pv 9) (pa_cons (pe_ix ix_list (pv 5) (pv 8) (fun _ _ => rfl)) pa_nil)))
            (pa_cons (pe_callB (call_max2 rfl) (by rfl) T.max (by decide +kernel) (pa_cons (pv 9) (pa_cons (pe_ix ix_list (pv 5) (pv 8) (fun _ _ => rfl)) pa_nil))) pa_nil))) pa_nil))))
          pss_nil))))
      (pss_one (ps_ret (pe_tup (pa_cons (pv 3) (pa_cons (pe_callTy call_tuple_of (by rfl) T.tuple (by decide +kernel) (pa_cons (pe_callB cr_sortedPO (by rfl) T.sorted (by decide +kernel) (pa_cons (pv 6) pa_nil)) pa_nil)) pa_nil))))))))), ?_⟩
    refine ⟨_, rfl, _, rfl, _, rfl, _, rfl, _, _, rfl, rfl, _, _, rfl, rfl, s, A, B, c, _, rfl, hS, by omega, by omega, by omega, fun H1 r hS1 fr1 r0 r1 => ⟨_, _, rfl, rfl, ?_⟩⟩
    show gName 3 (V.int (least + r)) _ _ _
    generalize hn : least + r = n
    have n0 : 1 ≤ n := by omega
    have n1 : n ≤ 8 := by omega
    have n2 : least ≤ n := by omega
    have n3 : n ≤ most := by omega
    clear hn r0 r1
    refine ⟨_, rfl, _, rfl, RgOk.of_le (by omega) (by omega) (by omega) (by omega), fun L hL => ⟨Nat.zero_le _, fun O hO => ⟨Nat.zero_le _, fun R hR => ⟨_, _, _, rfl, ?_⟩⟩⟩⟩
    rw [rg_vi] at hR hO ⊢
    rw [show ((List.range n.toNat).map fun (i : Nat) => (i : Int)) = rg n from rfl] at hR hO ⊢
    have nLO : O ≠ L := fun e => by rw [e, upd_same] at hO; cases hO
    have hO1 : H1 O = none := by rw [upd_ne nLO] at hO; exact hO
    have nOR : R ≠ O := fun e => by rw [e, upd_same] at hR; cases hR
    have nLR : R ≠ L := fun e => by rw [e, upd_ne nLO.symm, upd_same] at hR; cases hR
    have hR1 : H1 R = none := by rw [upd_ne nOR, upd_ne nLR] at hR; exact hR
    have zL := hS1.ne hL
    have zO := hS1.ne hO1
    have zR := hS1.ne hR1
    have gL := fr1.free hS1 hL
    have gO := fr1.free hS1 hO1
    have gR := fr1.free hS1 hR1
    have hS2 : StreamAt (upd (upd (upd H1 L (.lst (vi (rg n)))) O (.lst [])) R (.lst [])) s A B (c + 1) := ((hS1.put zL).put zO).put zR
    have fr2 : Fr s A H (upd (upd (upd H1 L (.lst (vi (rg n)))) O (.lst [])) R (.lst [])) := ((fr1.put gL).put gO).put gR
    -- while left != []: order.append(left.pop(draw(s, len(left))))
    refine ⟨fun m σ H' => ∃ (lft ord : List Int) (c' : Nat), σ = [some (.ref s), some (.int least), some (.int most), some (.int n), some (.ref L), some (.ref O), some (.ref R), none, none, none] ∧ StreamAt H' s A B c' ∧ c' + lft.length ≤ c + 1 + n.toNat ∧
        Fr s A H H' ∧ H' L = some (.lst (vi lft)) ∧ H' O = some (.lst (vi ord)) ∧ H' R = some (.lst []) ∧ (ord ++ lft).Perm (rg n) ∧ m = lft.length,
      ⟨_, rg n, [], c + 1, rfl, hS2, by rw [rg_len]; omega, fr2, ?_, ?_, upd_same, List.Perm.refl _, rfl⟩, ?_⟩
    · rw [upd_ne nLR.symm, upd_ne nLO.symm, upd_same]
    · rw [upd_ne nOR.symm, upd_same]
      rfl
    clear hS2 fr2 hR hO
    rintro m σ H2 ⟨lft, ord, c2, rfl, hS2, hc2, fr2, eL, eO, eR, pm, rfl⟩
    have plen : ord.length + lft.length = n.toNat := by
      have := pm.length_eq
      rw [List.length_append, rg_len] at this
      exact this
    refine ⟨_, rfl, Nat.zero_le _, fun e he => ?_⟩
    have sm : Same H2 (upd H2 e (.lst [])) := same_upd he
    have hS3 := hS2.same sm
    have fr3 := fr2.put (o := .lst []) (fr2.free hS2 he)
    have eL3 := sm _ _ eL
    have eO3 := sm _ _ eO
    have eR3 := sm _ _ eR
    refine ⟨.list (lft.map .int), .list [], .lst (SqL.of eL3) (dp_ints lft), .lst (SqL.of upd_same) .nil, shaped_list lft, shaped_list [], _, rfl, ?_⟩
    clear eL eO eR hS2 fr2
    generalize upd H2 e (.lst []) = H3 at *
    clear sm he
    rw [eqv_nil]
    cases lft with
    | cons x0 lft0 =>
      generalize hlf : x0 :: lft0 = lft at *
      have lpos : 0 < lft.length := by rw [← hlf]; simp
      have lem : lft.isEmpty = false := by rw [← hlf]; rfl
      rw [lem]
      clear lem hlf
      refine iteT ⟨_, fun _ _ h => h, ?_⟩
      refine ⟨_, rfl, .inl ⟨rfl, _, SqL.of eO3⟩, _, rfl, .inl ⟨rfl, _, SqL.of eL3⟩, _, rfl, _, rfl, L, _, rfl, .inl (SqL.of eL3), s, A, B, c2, _, rfl, hS3, by omega, ?_, ?_, fun H4 r hS4 fr4 r0 r1 => ?_⟩
      · rw [List.length_map]; omega
      · rw [List.length_map]; omega
      rw [List.length_map] at r1
      have eL4 := fr4 _ _ zL.1.symm zL.2.1.symm eL3
      have eO4 := fr4 _ _ zO.1.symm zO.2.1.symm eO3
      have eR4 := fr4 _ _ zR.1.symm zR.2.1.symm eR3
      have hj : r.toNat < lft.length := by omega
      have ixr : ixN (vi lft).length r = some r.toNat := by
        unfold ixN
        rw [List.length_map, if_pos r0, if_pos r1]
      have gx : (vi lft)[r.toNat]? = some (V.int lft[r.toNat]) := by
        rw [List.getElem?_map, List.getElem?_eq_getElem hj]
        rfl
      refine ⟨L, _, r, r.toNat, _, rfl, rfl, eL4, by omega, by omega, (ixN_seq ixr).1, gx, ?_⟩
      have eO5 : (upd H4 L (.lst ((vi lft).eraseIdx r.toNat))) O = some (.lst (vi ord)) := (upd_ne nLO).trans eO4
      refine ⟨O, _, _, rfl, rfl, eO5, ?_, ?_⟩
      · rw [List.length_map]
        exact small1000 (by omega)
      have el : (lft.eraseIdx r.toNat).length = lft.length - 1 := by
        rw [List.length_eraseIdx, if_pos hj]
      refine ⟨(lft.eraseIdx r.toNat).length, by omega, lft.eraseIdx r.toNat, ord ++ [lft[r.toNat]], c2 + 1, rfl, ((hS4.put zL).put zO), by omega, ((fr3.trans fr4).put gL).put gO, ?_, ?_, ?_, ?_, rfl⟩
      · rw [upd_ne nLO.symm, upd_same, vi_erase]
      · rw [upd_same, vi_app]
        rfl
      · rw [upd_ne nOR, upd_ne nLR]
        exact eR4
      · refine List.Perm.trans ?_ pm
        rw [List.append_assoc]
        refine List.Perm.append_left ord ?_
        exact erase_perm hj
    | nil =>
      refine iteF ?_
      rw [List.append_nil] at pm
      clear eL3 zL gL hL nLO nLR hS1 fr1 hO1 hR1
      simp only [List.length_nil, Nat.add_zero] at hc2 plen
      have zO3 := zO
      -- lacks = [0, 0, 6][draw(s, 3)]
      refine ⟨by show 3 ≤ sizeLine; decide, fun M hM => ?_⟩
      have sm : Same H3 (upd H3 M (.lst [.int 0, .int 0, .int 6])) := same_upd hM
      refine ⟨_, rfl, s, A, B, c2, 3, rfl, hS3.same sm, by omega, by decide, by decide, fun H4 r hS4 fr4 r0 r1 => ?_⟩
      have zM := hS3.ne hM
      have eM4 := fr4 M _ zM.1.symm zM.2.1.symm upd_same
      have eO4 := fr4 _ _ zO.1.symm zO.2.1.symm (sm _ _ eO3)
      have eR4 := fr4 _ _ zR.1.symm zR.2.1.symm (sm _ _ eR3)
      have fr4' : Fr s A H H4 := (fr3.put (fr3.free hS3 hM)).trans fr4
      obtain ⟨lk, elk, hlk⟩ := lacks r0 r1
      refine ⟨M, _, _, _, rfl, rfl, SqL.of eM4, elk, ?_⟩
      clear eM4 fr4 sm hM zM elk eO3 eR3 fr3 hS3
      -- for k in range(1, rooms)
      refine ⟨_, rfl, 1, n, rfl, ⟨by decide, by decide, by omega, by omega⟩, for_range (lo := 1) (n := (n - 1).toNat) (fun i σ H' => ∃ (cc : Nat) (y8 y9 : Option V) (ps : List (Addr × Int × Int)),
        σ = [some (.ref s), some (.int least), some (.int most), some (.int n), some (.ref L), some (.ref O), some (.ref R), some (.int lk), y8, y9] ∧ cc ≤ c2 + 1 + 3 * i ∧ Mid H s A B O R ord cc ps H' ∧
        ps.length ≤ i ∧ ∃ U E, Grown U E ∧ (∀ x, x ∈ U ↔ x ∈ ord.take (i + 1)) ∧ (ps.map (·.2)).Perm E ∧ U.length = i + 1) ⟨c2 + 1, none, none, [], rfl, by omega, ⟨hS4, fr4', eO4, eR4, fun p hp => nomatch hp⟩, Nat.le_refl _, ?_⟩ ?_ ?_⟩
      · have h0 : 0 < ord.length := by omega
        refine ⟨[ord[0]], [], .room _ .nil (by simp), fun x => ?_, .nil, rfl⟩
        rw [List.take_add_one, List.getElem?_eq_getElem h0]
        simp
      · rintro i σ H5 hi ⟨cc, y8, y9, ps, rfl, hcc, M5, hps, U, E, g, hU, pE, lU⟩
        have hi1 : i + 1 < ord.length := by omega
        refine ⟨_, rfl, _, rfl, _, _, rfl, rfl, _, rfl, _, rfl, s, A, B, cc, _, rfl, M5.st, by omega, by omega, by omega, fun H6 r1 hS6 fr6 r10 r11 => ?_⟩
        have M6 := M5.fr hS6 fr6 zO zR
        refine ⟨by show 3 ≤ sizeLine; decide, fun N hN => ?_⟩
        have M7 := M6.new (o := .lst [.int (1 + (i : Int) - 1), .int 0, .int r1]) hN
        refine ⟨_, rfl, s, A, B, cc + 1, 3, rfl, M7.st, by omega, by decide, by decide, fun H8 r2 hS8 fr8 r20 r21 => ?_⟩
        have M8 := M7.fr hS8 fr8 zO zR
        have zN := M6.st.ne hN
        have eN8 := fr8 N _ zN.1.symm zN.2.1.symm upd_same
        obtain ⟨ix, eix, hix0, hix1⟩ := pick3 (i := i) r20 r21 r10 r11
        have hixl : ix.toNat < ord.length := by omega
        have eon : atI (vi ord) ix = some (V.int ord[ix.toNat]) := by
          have := atI_nat (xs := vi ord) (j := ix.toNat) (v := V.int ord[ix.toNat]) (by rw [List.getElem?_map, List.getElem?_eq_getElem hixl]; rfl)
          rw [show ((ix.toNat : Nat) : Int) = ix by omega] at this
          exact this
        have ekk : atI (vi ord) (1 + (i : Int)) = some (V.int ord[i + 1]) := by
          have := atI_nat (xs := vi ord) (j := i + 1) (v := V.int ord[i + 1]) (by rw [List.getElem?_map, List.getElem?_eq_getElem hi1]; rfl)
          rw [show ((i + 1 : Nat) : Int) = 1 + (i : Int) by omega] at this
          exact this
        refine ⟨N, _, _, _, rfl, rfl, SqL.of eN8, eix, O, _, _, _, rfl, rfl, SqL.of M8.eO, eon, ?_⟩
        clear eN8 fr8 zN hN M7 M6 fr6 eix
        have nd : ord.Nodup := pm.nodup_iff.mpr (rg_nodup n)
        have nv : ord[i + 1] ∉ U := fun m => by
          obtain ⟨j, hj, e⟩ := List.mem_take_iff_getElem.mp ((hU _).mp m)
          exact (List.pairwise_iff_getElem.mp nd) j (i + 1) (by omega) hi1 (by omega) e
        have mu : ord[ix.toNat] ∈ U := (hU _).mpr (List.mem_take_iff_getElem.mpr ⟨ix.toNat, by omega, rfl⟩)
        have hU' : ∀ x, x ∈ (ord[i + 1] :: U) ↔ x ∈ ord.take (i + 1 + 1) := fun x => by
          rw [List.take_add_one (i := i + 1), List.getElem?_eq_getElem hi1, List.mem_append, List.mem_cons, hU]
          simp [or_comm]
        dsimp only [gName]
        refine if_by (fun _ H' => ∃ c9, c9 ≤ cc + 3 ∧ Mid H s A B O R ord c9 ps H') ?_ ?_ ?_
        · rintro H9 ⟨c9, hc9, M9⟩
          refine ⟨_, rfl, .inl ⟨rfl, _, SqL.of M9.eR⟩, _, rfl, _, rfl, _, rfl, O, _, _, _, rfl, rfl, SqL.of M9.eO, ekk, _, _, rfl, _, rfl, _, rfl, _, rfl, O, _, _, _, rfl, rfl, SqL.of M9.eO, ekk, _, _, rfl, by show 2 ≤ sizeLine; decide, fun t ht => ?_⟩
          generalize hu : ord[ix.toNat] = u at *
          generalize hv : ord[i + 1] = v at *
          have M10 := M9.new (o := .tup [.int (if v < u then v else u), .int (if v > u then v else u)]) ht
          refine ⟨R, _, _, rfl, rfl, M10.eR, ?_, ?_⟩
          · rw [List.length_map]
            exact small1000 (by omega)
          refine ⟨c9, _, _, ps ++ [(t, if v < u then v else u, if v > u then v else u)], rfl, by omega, ⟨M10.st.put zR, M10.frm.put gR, ?_, ?_, ?_⟩, ?_, v :: U, _, .door v u (if v < u then v else u) (if v > u then v else u) g nv mu ?_, hU', ?_, ?_⟩
          · rw [upd_ne nOR.symm]
            exact M10.eO
          · rw [upd_same, List.map_append]
            rfl
          · intro p hp
            rcases List.mem_append.mp hp with hp | hp
            · have h1 := M10.eP p hp
              rw [upd_ne (ne_of h1 M10.eR (by intro q; cases q))]
              exact h1
            · rw [List.mem_singleton.mp hp]
              have h1 : (upd H9 t (.tup [.int (if v < u then v else u), .int (if v > u then v else u)])) t = some (.tup [.int (if v < u then v else u), .int (if v > u then v else u)]) := upd_same
              rw [upd_ne (ne_of h1 M10.eR (by intro q; cases q))]
              exact h1
          · rw [List.length_append, List.length_singleton]
            omega
          · constructor
            · split <;> omega
            · split <;> omega
          · rw [List.map_append]
            exact (List.perm_append_comm).trans (pE.cons _)
          · rw [List.length_cons, lU]
        · rintro H9 ⟨c9, hc9, M9⟩
          exact ⟨c9, _, _, ps, rfl, by omega, M9, by omega, _, _, .room _ g nv, hU', pE, by rw [List.length_cons, lU]⟩
        · intro QQ hQ
          refine ⟨_, rfl, rfl, _, rfl, ?_⟩
          refine ite2 (fun _ => ?_) (fun hz => ?_)
          · exact hQ _ _ ⟨cc + 2, by omega, M8⟩
          · have hlk6 : lk = 6 := by
              rcases hlk with e | e
              · subst e
                exact absurd (decide_eq_true rfl) hz
              · exact e
            subst hlk6
            refine ⟨_, rfl, _, rfl, s, A, B, cc + 2, 6, rfl, M8.st, by omega, by decide, by decide, fun H9 r3 hS9 fr9 _ _ => ?_⟩
            exact ⟨_, _, rfl, rfl, _, rfl, hQ _ _ ⟨cc + 3, by omega, M8.fr hS9 fr9 zO zR⟩⟩
      · rintro σ H5 ⟨cc, y8, y9, ps, rfl, hcc, M5, hps, U, E, g, hU, pE, lU⟩
        have kz : ∀ z ∈ ps, twoOf H5 (.ref z.1) = z.2 := fun z hz => twoOf_eq (M5.eP z hz)
        refine ⟨_, rfl, _, rfl, R, _, twoOf H5, rfl, SqL.of M5.eR, ?_, fun ys p hsrt hstb hp => ?_⟩
        · intro x hx
          obtain ⟨z, hz, rfl⟩ := List.mem_map.mp hx
          refine ⟨z.1, rfl, ?_⟩
          rw [kz z hz]
          exact M5.eP z hz
        obtain ⟨ps', pp, rfl⟩ := perm_map_inv hstb.perm rfl
        have upD : (ps'.map (·.2)).Pairwise Dlt := by
          have nd : (ps'.map (·.2)).Nodup := ((pp.map _).trans pE).nodup_iff.mpr g.nodup
          rw [List.nodup_iff_pairwise_ne, List.pairwise_map] at nd
          rw [List.pairwise_map]
          have hs : ps'.Pairwise fun x y => ltP (twoOf H5) (.ref y.1) (.ref x.1) = false := List.pairwise_map.mp hsrt
          refine (hs.and nd).imp_of_mem fun {x y} hx hy h => ?_
          have h1 : SrtO.lexB y.2 x.2 = false := by
            have := h.1
            unfold ltP at this
            rw [kz x (pp.mem_iff.mp hx), kz y (pp.mem_iff.mp hy)] at this
            exact this
          exact Dlt_of (SrtO.lexB_no.mp h1) h.2
        have M6 := M5.new (o := .lst (ps'.map fun p => V.ref p.1)) hp
        refine ⟨p, _, rfl, .inl ⟨SqL.of upd_same, fun d hd => ?_⟩⟩
        have M7 := M6.new (o := .tup (ps'.map fun p => V.ref p.1)) hd
        refine ⟨by show 2 ≤ sizeLine; decide, fun h hh => ?_⟩
        have M8 := M7.new (o := .tup [.int n, .ref d]) hh
        have tk : ord.take ((n - 1).toNat + 1) = ord := List.take_of_length_le (by omega)
        refine q _ h n (ps'.map (·.2)) (M8.st.mono (by omega)) M8.frm ⟨d, ps', upd_same, ?_, rfl, fun z hz => M8.eP z (pp.mem_iff.mp hz)⟩ ⟨U, E, g, fun x => ?_, (pp.map _).trans pE, by omega, upD⟩ n2 n3
        · rw [upd_ne (fun e => ?_), upd_same]
          rw [← e, upd_same] at hh
          cases hh
        · rw [hU, tk, pm.mem_iff, mem_rg]
end
end Fw
namespace Fw
open PySem PySem.Spec PyProof.Rows L2

/-! ### x in a tuple, by data -/
def rInT (K : PySem.W.Frag) : R2 := fun x y H Q => ∃ d ds, Dp K H x d ∧ Dp K H y (.tuple ds) ∧ SeqAt.shaped d = true ∧ SeqAt.shaped (.tuple ds) = true ∧ Q (.bl (ds.any fun z => PyData.eqv z d)) H
theorem op_inT {X : Cx} (hu : X.A.units + 65 < cLine) : OpR X (compareOp .In) (rInT X.K) := by
  intro pins s σ H x y v u Q I rx ry h
  obtain ⟨d, ds, hd, he, sd, se, q⟩ := h
  obtain ⟨as, r1⟩ := Dp.reads I d x v hd rx
  obtain ⟨bs, r2⟩ := Dp.reads I (.tuple ds) y u he ry
  exact SeqAt.in_tuple_reads r2 r1 (SeqAt.canLay_of_shaped se) (SeqAt.canLay_of_shaped sd) (room_in_shaped sd hu) ⟨.bl _, H, I, rfl, q⟩
theorem units65 {k : Nat} {A : Around} (r : Room k A) : A.units + 65 < cLine := by have := r.un; omega

/-- a door as data -/
def pd (d : Int × Int) : PyData := .tuple [.int d.1, .int d.2]
theorem pd_lay : ∀ D : List (Int × Int), PyData.canLayAll0 (D.map pd) = true
  | [] => by simp [PyData.canLayAll0]
  | d :: D => by
    rw [List.map_cons, PyData.canLayAll0, pd_lay D]
    simp [pd, PyData.canLay0, PyData.canLayAll0]
theorem pd_deep : ∀ D : List (Int × Int), PyData.depthAll (D.map pd) ≤ 1
  | [] => by simp [PyData.depthAll]
  | d :: D => by
    rw [List.map_cons, PyData.depthAll]
    have := pd_deep D
    simp [pd, PyData.depth, PyData.depthAll]
    omega
theorem pd_shaped (d : Int × Int) : SeqAt.shaped (pd d) = true := shaped_tup [d.1, d.2]
theorem pds_shaped (D : List (Int × Int)) : SeqAt.shaped (.tuple (D.map pd)) = true := by
  unfold SeqAt.shaped
  rw [PyData.canLay0, pd_lay, PyData.depth]
  have := pd_deep D
  simp
  omega
theorem pd_eqv (a b : Int × Int) : PyData.eqv (pd a) (pd b) = decide (a = b) := by
  obtain ⟨a1, a2⟩ := a
  obtain ⟨b1, b2⟩ := b
  simp only [pd, PyData.eqv, PyData.eqvAll, Bool.and_true]
  rw [Bool.eq_iff_iff]
  simp
theorem any_pd (D : List (Int × Int)) (d : Int × Int) : ((D.map pd).any fun z => PyData.eqv z (pd d)) = decide (d ∈ D) := by
  rw [Bool.eq_iff_iff, List.any_eq_true, decide_eq_true_eq]
  constructor
  · rintro ⟨z, hz, e⟩
    obtain ⟨y, hy, rfl⟩ := List.mem_map.mp hz
    rw [pd_eqv, decide_eq_true_eq] at e
    exact e ▸ hy
  · intro h
    exact ⟨pd d, List.mem_map_of_mem h, by rw [pd_eqv]; simp⟩
theorem dp_pair {K : PySem.W.Frag} {H : Hp} {t : Addr} {d : Int × Int} (h : H t = some (.tup [.int d.1, .int d.2])) : Dp K H (.ref t) (pd d) :=
  .tup (SqT.of h) (.cons (.int _) (.cons (.int _) .nil))
theorem dp_pairs {K : PySem.W.Frag} {H : Hp} : ∀ {ps : List (Addr × Int × Int)}, (∀ p ∈ ps, H p.1 = some (.tup [.int p.2.1, .int p.2.2])) → DpAll K H (ps.map fun p => V.ref p.1) ((ps.map (·.2)).map pd)
  | [], _ => .nil
  | p :: ps, h => .cons (dp_pair (h p (List.mem_cons_self ..))) (dp_pairs fun q hq => h q (List.mem_cons_of_mem _ hq))
theorem tt_by {t : TT} {Q : Bool → Hp → Prop} {σ : L2.St} {H : Hp} (Good : Bool → Hp → Prop) (h : ∀ Q' : Bool → Hp → Prop, (∀ b H', Good b H' → Q' b H') → t σ H Q') (hq : ∀ b H', Good b H' → Q b H') : t σ H Q := h _ hq

def pr (D : List (Int × Int)) (r : Int) : Int → Bool := fun o => decide ((r, o) ∈ D) || decide ((o, r) ∈ D)
def nbk (D : List (Int × Int)) (r : Int) (i : Nat) : List Int := ((List.range i).map fun (j : Nat) => 0 + (j : Int)).filter (pr D r)
theorem nbk_succ (D : List (Int × Int)) (r : Int) (i : Nat) : nbk D r (i + 1) = nbk D r i ++ if pr D r (0 + (i : Int)) = true then [0 + (i : Int)] else [] := by
  unfold nbk
  rw [List.range_succ, List.map_append, List.filter_append]
  congr 1
  by_cases c : pr D r (0 + (i : Int)) = true
  · rw [if_pos c]
    show List.filter (pr D r) [0 + (i : Int)] = _
    rw [List.filter_cons_of_pos c]
    rfl
  · rw [if_neg c]
    show List.filter (pr D r) [0 + (i : Int)] = _
    rw [List.filter_cons_of_neg c]
    rfl
theorem nbk_len (D : List (Int × Int)) (r : Int) (i : Nat) : (nbk D r i).length ≤ i := by
  refine Nat.le_trans (List.length_filter_le _ _) ?_
  simp
theorem nbk_nb (n : Int) (D : List (Int × Int)) (r : Int) : nbk D r n.toNat = nb n D r := by
  unfold nbk nb
  congr 1
  refine List.map_congr_left fun i _ => ?_
  omega

theorem get_ref {ps : List (Addr × Int × Int)} {i : Nat} {x : V} (h : (ps.map fun p => V.ref p.1)[i]? = some x) : ∃ p, ps[i]? = some p ∧ x = .ref p.1 := by
  rw [List.getElem?_map] at h
  cases e : ps[i]? with
  | none => rw [e] at h; cases h
  | some v => rw [e] at h; exact ⟨v, rfl, (Option.some.inj h).symm⟩
theorem outs_succ {D : List (Int × Int)} {r : Int} {i : Nat} {d : Int × Int} (h : D[i]? = some d) : outs (D.take (i + 1)) r = outs (D.take i) r ++ if d.1 = r then [d.2] else [] := by
  unfold outs
  rw [List.take_add_one, h, List.filter_append, List.map_append]
  congr 1
  by_cases c : d.1 = r
  · rw [if_pos c]
    show List.map _ (List.filter _ [d]) = _
    rw [List.filter_cons_of_pos (by simpa using c)]
    rfl
  · rw [if_neg c]
    show List.map _ (List.filter _ [d]) = _
    rw [List.filter_cons_of_neg (by simpa using c)]
    rfl
theorem ins_succ {D : List (Int × Int)} {r : Int} {i : Nat} {d : Int × Int} (h : D[i]? = some d) : ins (D.take (i + 1)) r = ins (D.take i) r ++ if d.2 = r then [d.1] else [] := by
  unfold ins
  rw [List.take_add_one, h, List.filter_append, List.map_append]
  congr 1
  by_cases c : d.2 = r
  · rw [if_pos c]
    show List.map _ (List.filter _ [d]) = _
    rw [List.filter_cons_of_pos (by simpa using c)]
    rfl
  · rw [if_neg c]
    show List.map _ (List.filter _ [d]) = _
    rw [List.filter_cons_of_neg (by simpa using c)]
    rfl
theorem outs_len (D : List (Int × Int)) (r : Int) : (outs D r).length ≤ D.length := by
  unfold outs
  rw [List.length_map]
  exact List.length_filter_le _ _
theorem ins_len (D : List (Int × Int)) (r : Int) : (ins D r).length ≤ D.length := by
  unfold ins
  rw [List.length_map]
  exact List.length_filter_le _ _
section
variable {P : Program} {w : World} {K : PySem.W.Frag} {mg : Str → Option Value} {base : Heap}
def spNb : Sp := fun vs H Q _ => ∃ (h : Addr) (n : Int) (D : List (Int × Int)) (r : Int), vs = [.ref h, .int r] ∧ HouseAt H h n D ∧ Forest n D ∧
  ∀ H' t, Same H H' → H' t = some (.tup (vi (nb n D r))) → Q (.ref t) H'

abbrev nNb : List Str := ["house", "room", "doors", "a", "b"]
abbrev gAB : PySem.W.Frag → TG := fun K => gTup K 2 (gCons (gName 3) (gCons (gName 4) gNil))
theorem scNb : FnScope nNb ["house", "room"] (defScope sNb) := ⟨rfl, rfl, rfl, by decide +kernel, rfl, by decide +kernel, by decide +kernel⟩
theorem ok_nb {f : Addr} {fd : FuncData} {k : Nat} (F : Fun K "neighbors" "neighbors" sNb f fd) (T : Nm mg) : FnOk P w K mg base CX0 (k + 1) f fd ["house", "room"] spNb := by
  refine F.ok scNb (fun vs H Q E h => ?_) (fun cdv A outer s H vs Q E hr h => ?_)
  · obtain ⟨h, n, D, r, rfl, _⟩ := h
    rfl
  · obtain ⟨h, n, D, r, rfl, ⟨q0, ps, h1, h2, h3, h4⟩, hF, q⟩ := h
    refine ⟨_, pss_cons (ps_set (i := 2) scNb.nd rfl (.inl rfl) (pe_ix ix_tup (pv 0) pe_int (fun _ _ => rfl)))
      (pss_one (ps_ret (pe_callTy call_tuple_of (by rfl) T.tuple (by decide +kernel) (pa_cons (pe_op op_cat
        (pe_lc (own := [("a", 3), ("b", 4)]) (g := gAB K) (by rfl) scNb.nd (pi_tup (pv 2))
          (blkOk_by (own := [("a", 3), ("b", 4)]) (N := nNb) (sc := defScope sNb) (by decide +kernel))
          (fun _ _ _ _ _ => pg_tup (by rfl) (pgs_cons (pg_name (i := 3) scNb.nd rfl (Or.inl rfl)) (pgs_cons (pg_name (i := 4) scNb.nd rfl (Or.inl rfl)) pgs_nil)))
          (fun _ _ _ _ _ => pts_one (pt_cmpR op_eq (pv 4) (pv 1) (nomark _)))
          (fun _ _ _ _ _ => pv 3))
        (pe_lc (own := [("a", 3), ("b", 4)]) (g := gAB K) (by rfl) scNb.nd (pi_tup (pv 2))
          (blkOk_by (own := [("a", 3), ("b", 4)]) (N := nNb) (sc := defScope sNb) (by decide +kernel))
          (fun _ _ _ _ _ => pg_tup (by rfl) (pgs_cons (pg_name (i := 3) scNb.nd rfl (Or.inl rfl)) (pgs_cons (pg_name (i := 4) scNb.nd rfl (Or.inl rfl)) pgs_nil)))
          (fun _ _ _ _ _ => pts_one (pt_cmpR op_eq (pv 3) (pv 1) (nomark _)))
          (fun _ _ _ _ _ => pv 4))) pa_nil)))), ?_⟩
    have el := hF.len
    have eD : D.take (ps.map fun p => V.ref p.1).length = D := by
      rw [h3, List.length_map, ← List.length_map (f := fun x : Addr × Int × Int => x.2), List.take_length]
    refine ⟨_, rfl, h, _, _, _, rfl, rfl, SqT.of h1, atI1, ?_⟩
    refine ⟨_, rfl, q0, rfl, ⟨_, SqT.of h2⟩, fun L hL => lc_tup (K := K) (a := q0) (xs := ps.map fun p => V.ref p.1) (fun i H1 => Same H H1 ∧ H1 L = some (.lst (vi (ins (D.take i) r))))
      ⟨same_upd hL, upd_same⟩ (fun i H1 _ hh => SqT.of (hh.1 _ _ h2)) ?_ ?_⟩
    · rintro i x H1 hx ⟨s1, e1⟩
      obtain ⟨p, hp, rfl⟩ := get_ref hx
      have ed : D[i]? = some p.2 := by rw [h3, List.getElem?_map, hp]; rfl
      refine ⟨p.1, _, rfl, SqT.of (s1 _ _ (h4 p (List.mem_of_getElem? hp))), rfl, _, _, rfl, _, _, rfl, rfl, rfl, _, rfl, _, rfl, rfl, _, rfl, ?_⟩
      refine ite2 (fun c => ?_) (fun c => ?_)
      · have c : p.2.2 = r := V.int.inj (of_decide_eq_true c)
        refine ⟨_, rfl, _, e1, ?_, same_put s1 hL, ?_⟩
        · rw [List.length_map]
          exact small1000 (Nat.le_trans (ins_len _ _) (by rw [List.length_take]; omega))
        · rw [upd_same, ins_succ ed, if_pos c, vi_app]
          rfl
      · have c : ¬ p.2.2 = r := fun e => c (decide_eq_true (by rw [e]))
        refine ⟨s1, ?_⟩
        rw [ins_succ ed, if_neg c, List.append_nil]
        exact e1
    · rintro H1 ⟨s1, e1⟩
      rw [eD] at e1
      refine ⟨_, rfl, q0, rfl, ⟨_, SqT.of (s1 _ _ h2)⟩, fun M hM => lc_tup (K := K) (a := q0) (xs := ps.map fun p => V.ref p.1) (fun i H2 => Same H1 H2 ∧ H2 M = some (.lst (vi (outs (D.take i) r))))
        ⟨same_upd hM, upd_same⟩ (fun i H2 _ hh => SqT.of (hh.1 _ _ (s1 _ _ h2))) ?_ ?_⟩
      · rintro i x H2 hx ⟨s2, e2⟩
        obtain ⟨p, hp, rfl⟩ := get_ref hx
        have ed : D[i]? = some p.2 := by rw [h3, List.getElem?_map, hp]; rfl
        refine ⟨p.1, _, rfl, SqT.of (s2 _ _ (s1 _ _ (h4 p (List.mem_of_getElem? hp)))), rfl, _, _, rfl, _, _, rfl, rfl, rfl, _, rfl, _, rfl, rfl, _, rfl, ?_⟩
        refine ite2 (fun c => ?_) (fun c => ?_)
        · have c : p.2.1 = r := V.int.inj (of_decide_eq_true c)
          refine ⟨_, rfl, _, e2, ?_, same_put s2 hM, ?_⟩
          · rw [List.length_map]
            exact small1000 (Nat.le_trans (outs_len _ _) (by rw [List.length_take]; omega))
          · rw [upd_same, outs_succ ed, if_pos c, vi_app]
            rfl
        · have c : ¬ p.2.1 = r := fun e => c (decide_eq_true (by rw [e]))
          refine ⟨s2, ?_⟩
          rw [outs_succ ed, if_neg c, List.append_nil]
          exact e2
      · rintro H2 ⟨s2, e2⟩
        rw [eD] at e2
        refine ⟨L, M, _, _, rfl, rfl, s2 _ _ e1, e2, ?_, fun N hN => ?_⟩
        · rw [List.length_map, List.length_map]
          have h1 := outs_len D r
          have h2 := ins_len D r
          exact Nat.le_of_lt (small1000 (by omega))
        rw [← vi_app, hF.nb_eq r]
        refine ⟨N, _, rfl, .inl ⟨SqL.of upd_same, fun t ht => q _ t ?_ upd_same⟩⟩
        exact ((s1.trans s2).trans (same_upd hN)).trans (same_upd ht)
end
end Fw
namespace Fw
open PySem PySem.Spec PyProof.Rows L2

/-! ### repr, where no repr is under way -/
def rRepr (K : PySem.W.Frag) : List V → Hp → VK → Prop := fun vs H Q => ∃ (a : Addr) (d : PyData), vs = [.ref a] ∧ Dp K H (.ref a) d ∧ d.showable = true ∧ d.hasDict = false ∧ d.depth ≤ 60 ∧ d.shown.length ≤ sizeLine ∧ Q (.str d.shown) H
theorem call_repr {X : Cx} (hg : X.A.guards = some []) (hu : X.A.units + 65 < cLine) : CallR X (.builtin "repr") (rRepr X.K) := by
  intro pins s σ H vs us Q I r h
  obtain ⟨a, d, rfl, hd, hs, hn, hp, hz, q⟩ := h
  obtain ⟨u, rfl, ru⟩ := vals1 r
  obtain rfl : u = Value.ref a := ru
  obtain ⟨as, rd⟩ := Dp.reads I d _ _ hd rfl
  refine repr_of_reads' rd hs (fun z => ?_) hg (by omega) (fun _ _ e => e) (fun h' t tk hk => ?_) hz
  · rw [hn] at z
    cases z
  · exact ⟨.str _, H, I.kept hk, ⟨_, rfl⟩, q⟩

/-! ### a def that is run where no repr is under way -/
structure FnG (P : Program) (w : World) (K : PySem.W.Frag) (mg : Str → Option Value) (base : Heap) (k : Nat) (f : Addr) (fd : FuncData) (ps : List Str) (sp : Sp) : Prop where
  len : ∀ vs H Q E, sp vs H Q E → vs.length = ps.length
  go : ∀ (A : Around) (out : List Env) (st : Shared) (H : Hp) (as : Args) (us : List Value) (vs : List V) (Q : VK), A.guards = some [] → Room k A → Env0 P w K mg base A out st H → BindsTo st fd as (ps.zip us) → Vals vs us → sp vs H Q E0 →
    codeAny (model P w) A (.call (.ref f) as) (CR CX0 out P w H st Q E0) st

section
variable {P : Program} {w : World} {K : PySem.W.Frag} {mg : Str → Option Value} {base : Heap}
theorem Fun.okG {x : Str} {st : Stmt} {f : Addr} {fd : FuncData} {N ps : List Str} {k : Nat} {sp : Sp} (F : Fun K x x st f fd) (S : FnScope N ps (defScope st)) (len : ∀ vs H Q E, sp vs H Q E → vs.length = ps.length)
    (bd : ∀ (c : Value) (A : Around) (out : List Env) (z : Shared) (H : Hp) (vs : List V) (Q : VK), (A.deeper (envOfC x (defScope st) z.heap.objs.size f c)).guards = some [] → Room k (A.deeper (envOfC x (defScope st) z.heap.objs.size f c)) → sp vs H Q E0 →
      ∃ t, PSs (cxOf CX0 P w K mg base N x (defScope st) f c A out z H E0).nox (defBody st) t ∧ t { nx := fun _ H' => Q .non H', rt := Q } (L2.start N vs) H) : FnG P w K mg base (k + 1) f fd ps sp := by
  obtain ⟨oc, od, kV, doc, pm, an, c, ct, osl, rfl, lk, hc⟩ := F.ex
  refine ⟨len, fun A out z H as us vs Q gd room en bi rel hs => ?_⟩
  have kin : K.In z.heap := fun b o e => (en.bs b o (en.mod.kin b o e)).1
  refine codeAny_call_function room.depth (kin _ _ lk) rfl S.co S.gen rfl (PySem.W.codeRec_of kin hc) (bi _ _ _ _ ?_)
  have kinds : ∀ y ∈ ps.zip us, (defScope st).names.lookup y.1 = some .local ∨ ((defScope st).names.lookup y.1 = some .cell ∧ ((cellsFrom (z.heap.objs.size + 1) (defScope st).names []).lookup y.1).isSome = true) := by
    rintro ⟨n, v⟩ hy
    exact (S.par n (List.of_mem_zip hy).1).imp id fun q => ⟨q, PySem.W.cellsFrom_some _ _ _ (.inl q)⟩
  refine wpAny_newFunctionEnv_cells S.kind kinds fun env ee z1 ic => ?_
  subst ee
  refine ⟨(en.mod.nolimit.keeps fun b o e => (en.bs b o e).1).keeps ic.toInCall.keep, codeAny_func ?_⟩
  obtain ⟨t, d, rd⟩ := bd c A out z H vs Q gd (room.deeper _) hs
  have inv := inv_start (CX := CX0) (E := E0) S room.hd en (len _ _ _ _ hs) rel ic
  refine wpAny_mono (d.nox.run [] z1 _ H _ inv rd) (fun fl z2 e => ?_) fun _ _ e => e
  match fl, e with
  | .ret u, ⟨v, σ', H', J, rv, q⟩ => exact ⟨v, H', J.os, J.bare, J.base, J.hok, rv, q⟩
  | .next, ⟨σ', H', J, q⟩ => exact ⟨.non, H', J.os, J.bare, J.base, J.hok, rfl, q⟩
  | .brk, ⟨_, _, _, q⟩ => exact q.elim
  | .cont, ⟨_, _, _, q⟩ => exact q.elim

/-- a call of such a def -/
theorem pe_callG {X : Cx} {k : Nat} {f : Addr} {fd : FuncData} {ps : List Str} {sp : Sp} {x : Str} {p pos : Pos} {e : Expr} {es : List Expr} {t : TA} (F : FnG X.prog X.w X.K X.mg X.base k f fd ps sp) (gd : X.A.guards = some []) (hr : Room k X.A)
    (hg : Gl X x) (hm : X.mg x = some (.ref f)) (hk : PySem.W.keepIn X.K (.ref f) = true) (hb : Binds X.K fd ps []) (ha : PA X (e :: es) t) (hdb : (x == ("__debug__" : Str)) = false := by decide)
    (h1 : starEach (e :: es) X.env = (false, eval e X.env) :: starEach es X.env := by rfl) (h2 : (backTo pos (starEach es X.env)).any (·.1) = false := by rfl) : PE X (.Call (.Name x p) (e :: es) [] pos) (tCall sp [] E0 t) := by
  constructor
  intro pins z σ H Q I h
  refine wpAny_Call_Name_kw (ld_glob I hg hm (PySem.W.callWith_K (h₀ := X.base) I.ok.mod.kin hk (thn (ha.run pos pins z σ H _ I h) ?_) h1 h2) hdb)
  rintro us z1 ⟨vs, H1, I1, r, q⟩
  refine ⟨I1.kIn, wpAny_call (codeAny_mono (F.go X.A X.stack z1 H1 ⟨us, []⟩ (us ++ []) (vs ++ []) Q gd hr I1.env0 (hb z1 us I1.kIn ?_) (r.append .nil) q) fun a z2 hq => ?_)⟩
  · rw [← (r.append .nil).length]
    exact F.len _ _ _ _ q
  · match a, hq with
    | .error _, hq => exact hq.elim
    | .ok (.ret u), hq => exact I1.after hq
    | .ok .next, hq => exact hq.elim
    | .ok .brk, hq => exact hq.elim
    | .ok .cont, hq => exact hq.elim
end
end Fw
namespace Fw
open PySem PySem.Spec PyProof.Rows L2

/-- the state at the law's own call: only the script is tracked -/
theorem top_state {P : Program} {w : World} {K : PySem.W.Frag} {mg mb : Str → Option Value} {a : Addr} {z : Shared} {vs : List Value} {ns : List Int} (kin : K.In z.heap) (gl : z.heap.Ns mainGlobals mg) (bl : z.heap.Ns builtinsNs mb)
    (bb : ∀ x : Str, x ≠ "__name__" → mb x = bootBuiltins x) (lim : z.heap.NoLimit) (ge : z.gens = #[]) (obj : z.heap.get? a = some { cls := .type "list", data := .seq vs.toArray }) (hi : IntsAre vs ns) (hl : ns.length ≤ sizeLine) :
    ∃ (H : Hp) (base : Heap), SqL K H a (vi ns) ∧ K.In base ∧ base.Ns mainGlobals mg ∧ Env0 P w K mg base callerA [] z H ∧ ∀ (H' : Hp) (z' : Shared), Un (frs []) [] H H' z.heap z'.heap → HOk P w H' z'.heap → OldK z.heap z'.heap := by
  have rel : Vals (vi ns) vs := vals_ints hi
  -- what is tracked: nothing, or the script alone
  have pick : ∃ H : Hp, SqL K H a (vi ns) ∧ HOk P w H z.heap ∧ (∀ b, H b = none ∨ (b = a ∧ K.lookup a = none ∧ ∃ xs, H b = some (.frz { cls := .type "list", data := .seq vs.toArray } (.lst xs)))) := by
    cases e : K.lookup a with
    | some o =>
      have e2 : o = { cls := .type "list", data := .seq vs.toArray } := by
        have := kin a o e
        rw [obj] at this
        exact (Option.some.inj this).symm
      subst e2
      refine ⟨fun _ => none, .inr ⟨_, vs.toArray, _, e, rfl, rfl, rfl, ?_, rel⟩, fun b u q => ?_, fun b => .inl rfl⟩
      · rw [List.size_toArray, hi.length]
        exact hl
      · cases (show (none : Option HO) = some u from q)
    | none =>
      refine ⟨upd (fun _ => none) a (.frz { cls := .type "list", data := .seq vs.toArray } (.lst (vi ns))), .inl (.inr ⟨_, upd_same⟩), fun b u q => ?_, fun b => ?_⟩
      · by_cases eb : b = a
        · rw [eb, upd_same] at q
          cases q
          rw [eb]
          exact ⟨obj, by rw [List.length_map]; exact hl, vs, _, rel, obj⟩
        · rw [upd_ne eb] at q
          cases q
      · by_cases eb : b = a
        · exact .inr ⟨eb, rfl, _, by rw [eb]; exact upd_same⟩
        · exact .inl (upd_ne eb)
  obtain ⟨H, hS, hok, only⟩ := pick
  have low : ∀ {b : Addr} {o : Obj}, z.heap.get? b = some o → (b = a → K.lookup a ≠ none) → (hidT z.heap H).get? b = some o := fun {b o} e q => hidT_get e (by
    rcases only b with n | ⟨eb, n, _⟩
    · exact n
    · exact absurd n (q eb))
  have dic : ∀ {b : Addr} {m : Str → Option Value}, z.heap.Ns b m → (hidT z.heap H).Ns b m := fun {b m} h => by
    obtain ⟨o, es, ep, e, d, r⟩ := h
    refine ⟨o, es, ep, hidT_get e ?_, d, r⟩
    rcases only b with n | ⟨eb, _, _⟩
    · exact n
    · rw [eb, obj] at e
      cases e
      cases (show Data.seq vs.toArray _ = Data.dict es ep from d)
  have kb : K.In (hidT z.heap H) := fun b o e => low (kin b o e) fun eb n => by
    rw [eb, n] at e
    cases e
  refine ⟨H, hidT z.heap H, hS, kb, dic gl, ?_, fun H' z' un ok' => OldK.of_keep fun b o e => ?_⟩
  · refine { frames := rfl, mod := ⟨kb, dic gl, ⟨mb, dic bl, bb⟩, ?_⟩, bs := fun b o e => of_hidT e, bsz := Nat.le_of_eq (hidT_size _ _), funs := trivial, frf := fun b hb => ?_, hok := hok, bare := .of_eq ge }
    · obtain ⟨mc, h1, h2⟩ := lim
      exact ⟨mc, dic h1, h2⟩
    · cases (show b ∈ ([] : List Addr) from hb)
  · rcases only b with n | ⟨eb, _, xs, fz⟩
    · refine un.keep b o e n (fun hb => ?_) (fun hb => ?_)
      · cases (show b ∈ ([] : List Addr) from hb)
      · cases hb
    · have f2 := (ok' b _ (un.frzs b _ _ fz)).1
      rw [eb, obj] at e
      cases e
      exact f2

/-- the law's def takes the script alone -/
abbrev Takes1 (fd : FuncData) : Prop := ∀ (z : Shared) (v : Value), BindsTo z fd ⟨[v], []⟩ [("_law_script", v)]
/-- the law's def, at fa, keeps sp over whatever holds the written part -/
def LawAt (P : Program) (w : World) (K : PySem.W.Frag) (mg : Str → Option Value) (k : Nat) (fa : Addr) (sp : Sp) : Prop :=
  ∃ fd, Takes1 fd ∧ ∀ b : Heap, K.In b → b.Ns mainGlobals mg → FnG P w K mg b k fa fd ["_law_script"] sp
/-- a promise that says True of every script -/
def Tells (sp : PySem.W.Frag → Sp) : Prop := ∀ K H a ns, ns.length ≤ 63 → SqL K H a (vi ns) → sp K [.ref a] H (fun v _ => v = .bl true) E0
/-- how a call that keeps such a promise ends -/
structure Told (P : Program) (w : World) (H : Hp) (z : Shared) (r : Result) (z' : Shared) : Prop where
  res : r = .ok (.ret (.bool true))
  os : z'.os = z.os
  bare : AllBare z'.gens
  st : ∃ H', Un (frs []) [] H H' z.heap z'.heap ∧ HOk P w H' z'.heap
theorem told {P : Program} {w : World} {H : Hp} {z z' : Shared} {r : Result} (e : CR CX0 [] P w H z (fun v _ => v = .bl true) E0 r z') : Told P w H z r z' := by
  rcases r with _ | f
  · exact False.elim e
  cases f
  all_goals first | exact False.elim e | skip
  rename_i u
  obtain ⟨v, H', o1, o2, un, ok, rv, qv⟩ := e
  have qv : v = .bl true := qv
  rw [qv] at rv
  exact ⟨by rw [show u = Value.bool true from rv], o1, o2, H', un, ok⟩
/-- the end of a law whose def wants that no repr is under way -/
theorem walkG {l : PySem.W.OpenLaw} {k : Nat} {q : Program} {ls : List Str} {XP : (Str → Option Value) → Heap → Prop} {Y : World → Heap → Prop} {d : DefRec} {K : Params → PySem.W.Frag} {sp : PySem.W.Frag → Sp} (t : Tells sp) (m : l.most = some 63) (nd : d.params.defaults = []) (room : Room k callerA)
    (inK : ∀ w h, Y w h → (K w.params).In h) (L : ∀ w mg fa h, (K w.params).In h → h.Ns mainGlobals mg → mg d.name = some (.ref fa) → LawAt l.prog w (K w.params) mg k fa (sp (K w.params))) :
    PySem.W.WalkO q ls XP Y l.row.toRowW d [] (fun f vs => PySem.call f vs) := by
  apply Att.attach_call m nd
  intro w _ z mg _ fa _ _ _ _ a vs ns G y _ _ _ here obj hi few gens
  obtain ⟨fd, one, keeps⟩ := L w mg fa _ (inK w _ y) G.T.g here
  obtain ⟨H, b, hS, kb, gb, en, old⟩ := top_state (P := l.prog) (w := w) (inK w _ y) G.T.g G.T.b G.T.builtins G.T.nolimit gens obj hi (Nat.le_trans few (by decide))
  have c := (keeps b kb gb).go callerA [] z H ⟨[.ref a], []⟩ [.ref a] [.ref a] (fun v _ => v = .bl true) rfl room en (one z (.ref a)) (.cons rfl .nil) (t _ H a ns few hS)
  exact codeAny_mono c fun r z' e => by
    have e := told e
    obtain ⟨H', un, ok⟩ := e.st
    exact ⟨e.res, old H' z' un ok, e.os, e.bare⟩
end Fw
namespace Fw
open PySem PySem.Spec PyProof.Rows L2
/-- a house as data -/
def hd (n : Int) (D : List (Int × Int)) : PyData := .tuple [.int n, .tuple (D.map pd)]
theorem log_small {i : Int} (h0 : 0 ≤ i) (h1 : i ≤ 100) : i.natAbs.log2 < 1920 := by
  by_cases h : i.natAbs = 0
  · rw [h]; decide
  · exact (Nat.log2_lt h).mpr (Nat.lt_of_le_of_lt (show i.natAbs ≤ 2 ^ 7 by omega) (Nat.pow_lt_pow_right (by decide) (by decide)))
theorem pds_show : ∀ {D : List (Int × Int)}, (∀ d ∈ D, 0 ≤ d.1 ∧ d.1 ≤ 100 ∧ 0 ≤ d.2 ∧ d.2 ≤ 100) → PyData.showableAll (D.map pd) = true ∧ PyData.leavesShortAll 13 (D.map pd) = true
  | [], _ => by simp [PyData.showableAll, PyData.leavesShortAll]
  | d :: D, h => by
    obtain ⟨i1, i2⟩ := pds_show (D := D) fun x hx => h x (List.mem_cons_of_mem _ hx)
    obtain ⟨a0, a1, b0, b1⟩ := h d (List.mem_cons_self ..)
    have s1 := PyData.shown_int_le2 (i := d.1) (by omega) (by omega)
    have s2 := PyData.shown_int_le2 (i := d.2) (by omega) (by omega)
    rw [List.map_cons, PyData.showableAll, PyData.leavesShortAll, i1, i2]
    simp only [pd, PyData.showable, PyData.showableAll, PyData.leavesShort, PyData.leavesShortAll, Bool.and_true]
    exact ⟨by rw [decide_eq_true (log_small a0 a1), decide_eq_true (log_small b0 b1)]; rfl, by rw [decide_eq_true s1, decide_eq_true s2]; rfl⟩
theorem pds_nodict : ∀ D : List (Int × Int), PyData.hasDictAll (D.map pd) = false
  | [] => by simp [PyData.hasDictAll]
  | d :: D => by
    rw [List.map_cons, PyData.hasDictAll, pds_nodict D]
    simp [pd, PyData.hasDict, PyData.hasDictAll]
theorem pds_bulk : ∀ D : List (Int × Int), PyData.bulkAll (D.map pd) = 3 * D.length
  | [] => by simp [PyData.bulkAll]
  | d :: D => by
    rw [List.map_cons, PyData.bulkAll, pds_bulk D]
    simp [pd, PyData.bulk, PyData.bulkAll]
    omega
structure Shows (d : PyData) : Prop where
  s : d.showable = true
  n : d.hasDict = false
  p : d.depth ≤ 60
  z : d.shown.length ≤ sizeLine
theorem hd_shows {n : Int} {D : List (Int × Int)} (n0 : 0 ≤ n) (n1 : n ≤ 100) (h : ∀ d ∈ D, 0 ≤ d.1 ∧ d.1 ≤ 100 ∧ 0 ≤ d.2 ∧ d.2 ≤ 100) (hl : D.length ≤ 100) : Shows (hd n D) := by
  obtain ⟨i1, i2⟩ := pds_show h
  have s1 := PyData.shown_int_le2 (i := n) (by omega) (by omega)
  have dp := pd_deep D
  refine ⟨?_, ?_, ?_, PyData.shown_fits_bulk (B := 13) (by decide) (by decide) ?_ ?_⟩
  · simp only [hd, PyData.showable, PyData.showableAll, Bool.and_true, i1]
    rw [decide_eq_true (log_small n0 n1)]
  · simp only [hd, PyData.hasDict, PyData.hasDictAll, Bool.or_false, Bool.false_or]
    exact pds_nodict D
  · simp only [hd, PyData.depth, PyData.depthAll]
    omega
  · simp only [hd, PyData.leavesShort, PyData.leavesShortAll, Bool.and_true, i2]
    rw [decide_eq_true s1]
  · simp only [hd, PyData.bulk, PyData.bulkAll, pds_bulk]
    omega
theorem Forest.shows {n : Int} {D : List (Int × Int)} (f : Forest n D) (n0 : 0 ≤ n) (n1 : n ≤ 8) : Shows (hd n D) := by
  refine hd_shows n0 (by omega) (fun d hd => ?_) (Nat.le_trans f.len (by decide))
  have := f.ends (a := d.1) (b := d.2) hd
  omega
theorem HouseAt.dp {K : PySem.W.Frag} {H : Hp} {h : Addr} {n : Int} {D : List (Int × Int)} (x : HouseAt H h n D) : Dp K H (.ref h) (hd n D) := by
  obtain ⟨q, ps, h1, h2, h3, h4⟩ := x
  rw [h3]
  exact .tup (SqT.of h1) (.cons (.int n) (.cons (.tup (SqT.of h2) (dp_pairs h4)) .nil))
end Fw
namespace Fw
open PySem PySem.Spec PyProof.Rows L2
/-- a def of the text, wherever it stands -/
def DefE (K : PySem.W.Frag) (mg : Str → Option Value) (x : Str) (st : Stmt) (ps : List Str) : Prop := ∃ f fd, Def K mg x st f fd ps
/-- a def that keeps a promise, by its name -/
def Cal (P : Program) (w : World) (K : PySem.W.Frag) (mg : Str → Option Value) (base : Heap) (k : Nat) (x : Str) (ps : List Str) (sp : Sp) : Prop :=
  ∃ f fd, mg x = some (.ref f) ∧ PySem.W.keepIn K (.ref f) = true ∧ Binds K fd ps [] ∧ FnOk P w K mg base CX0 k f fd ps sp
def CalG (P : Program) (w : World) (K : PySem.W.Frag) (mg : Str → Option Value) (base : Heap) (k : Nat) (x : Str) (ps : List Str) (sp : Sp) : Prop :=
  ∃ f fd, mg x = some (.ref f) ∧ PySem.W.keepIn K (.ref f) = true ∧ Binds K fd ps [] ∧ FnG P w K mg base k f fd ps sp
section
variable {P : Program} {w : World} {K : PySem.W.Frag} {mg : Str → Option Value} {base : Heap}
theorem Def.cal {x : Str} {st : Stmt} {f : Addr} {fd : FuncData} {ps : List Str} {k : Nat} {sp : Sp} (D : Def K mg x st f fd ps) (h : FnOk P w K mg base CX0 k f fd ps sp) : Cal P w K mg base k x ps sp :=
  ⟨f, fd, D.g, D.F.kp, D.b, h⟩
theorem Def.calG {x : Str} {st : Stmt} {f : Addr} {fd : FuncData} {ps : List Str} {k : Nat} {sp : Sp} (D : Def K mg x st f fd ps) (h : FnG P w K mg base k f fd ps sp) : CalG P w K mg base k x ps sp :=
  ⟨f, fd, D.g, D.F.kp, D.b, h⟩
theorem DefE.cal {x : Str} {st : Stmt} {ps : List Str} {k : Nat} {sp : Sp} (D : DefE K mg x st ps) (h : ∀ f fd, Def K mg x st f fd ps → FnOk P w K mg base CX0 k f fd ps sp) : Cal P w K mg base k x ps sp := by
  obtain ⟨f, fd, d⟩ := D
  exact d.cal (h f fd d)
theorem DefE.calG {x : Str} {st : Stmt} {ps : List Str} {k : Nat} {sp : Sp} (D : DefE K mg x st ps) (h : ∀ f fd, Def K mg x st f fd ps → FnG P w K mg base k f fd ps sp) : CalG P w K mg base k x ps sp := by
  obtain ⟨f, fd, d⟩ := D
  exact d.calG (h f fd d)
theorem Cal.imp {x : Str} {ps : List Str} {k : Nat} {sp sp' : Sp} (C : Cal P w K mg base k x ps sp) (h : ∀ vs H Q E, sp' vs H Q E → sp vs H Q E) : Cal P w K mg base k x ps sp' := by
  obtain ⟨f, fd, a, b, c, d⟩ := C
  exact ⟨f, fd, a, b, c, d.imp h⟩
theorem Cal.up {x : Str} {ps : List Str} {j k : Nat} {sp : Sp} (C : Cal P w K mg base j x ps sp) (h : j ≤ k) : Cal P w K mg base k x ps sp := by
  obtain ⟨f, fd, a, b, c, d⟩ := C
  exact ⟨f, fd, a, b, c, d.mono h⟩
theorem pe_cal {X : Cx} {k : Nat} {ps : List Str} {sp : Sp} {x : Str} {p pos : Pos} {e : Expr} {es : List Expr} {t : TA} (C : Cal X.prog X.w X.K X.mg X.base k x ps sp) (hr : Room k X.A) (hg : Gl X x) (ha : PA X (e :: es) t) (hdb : (x == ("__debug__" : Str)) = false := by decide)
    (h1 : starEach (e :: es) X.env = (false, eval e X.env) :: starEach es X.env := by rfl) (h2 : (backTo pos (starEach es X.env)).any (·.1) = false := by rfl) : PE X (.Call (.Name x p) (e :: es) [] pos) (tCall sp [] E0 t) := by
  obtain ⟨f, fd, a, b, c, d⟩ := C
  exact pe_call d hr hg a b c .nil pass0 ha hdb h1 h2
theorem pe_calG {X : Cx} {k : Nat} {ps : List Str} {sp : Sp} {x : Str} {p pos : Pos} {e : Expr} {es : List Expr} {t : TA} (C : CalG X.prog X.w X.K X.mg X.base k x ps sp) (gd : X.A.guards = some []) (hr : Room k X.A) (hg : Gl X x) (ha : PA X (e :: es) t) (hdb : (x == ("__debug__" : Str)) = false := by decide)
    (h1 : starEach (e :: es) X.env = (false, eval e X.env) :: starEach es X.env := by rfl) (h2 : (backTo pos (starEach es X.env)).any (·.1) = false := by rfl) : PE X (.Call (.Name x p) (e :: es) [] pos) (tCall sp [] E0 t) := by
  obtain ⟨f, fd, a, b, c, d⟩ := C
  exact pe_callG d gd hr hg a b c ha hdb h1 h2
end
def tTru (K : PySem.W.Frag) (ta : TE) : TT := fun σ H Q => ta σ H fun x H' => ∃ k, TruV K x H' k ∧ Q k H'
/-! ### the rules with the written part told (so that they can stand in a comprehension) -/
section
variable {X : Cx} (K : PySem.W.Frag) (h : X.K = K)
include h
theorem op_inK : OpR X (compareOp .In) (rIn K false) := by subst h; exact op_in_seq
theorem op_notInK : OpR X (compareOp .NotIn) (rIn K true) := by subst h; exact op_notIn_seq
theorem ix_listK : IxR X (rIxL K) := by subst h; exact ix_list
theorem ix_tupK : IxR X (rIxT K) := by subst h; exact ix_tup
theorem call_lenK : CallR X (.builtin "len") (fun xs H Q => ∃ p ys, xs = [.ref p] ∧ (SqL K H p ys ∨ SqT K H p ys) ∧ Q (.int ys.length) H) := by subst h; exact call_len_seq
theorem call_listK : CallR X (.type "list") (fun xs H Q => ∃ p ys, xs = [.ref p] ∧ (SqL K H p ys ∨ SqT K H p ys) ∧ ∀ l, H l = none → Q (.ref l) (upd H l (.lst ys))) := by subst h; exact call_list_of
theorem call_tupleK : CallR X (.type "tuple") (fun xs H Q => ∃ p ys, xs = [.ref p] ∧ ((SqL K H p ys ∧ ∀ l, H l = none → Q (.ref l) (upd H l (.tup ys))) ∨ (SqT K H p ys ∧ Q (.ref p) H))) := by subst h; exact call_tuple_of
theorem call_tupleF : CallR X (.type "tuple") (fun xs H Q => ∃ p ys, xs = [.ref p] ∧ SqL K H p ys ∧ ∀ (l : Addr) (ob : Obj), H l = none → ob.dict = none → Q (.ref l) (upd H l (.frz ob (.tup ys)))) := by
  subst h
  intro pins s σ H xs us Q I r h
  obtain ⟨p, ys, rfl, hq, q⟩ := h
  obtain ⟨u, rfl, ru⟩ := vals1 r
  cases ru
  obtain ⟨its, rel, pl, hz⟩ := I.list hq
  have hlen := rel.length
  refine call_tuple_list pl.isList (fun h' kp => ?_) (by simp only [List.size_toArray] <;> omega)
  have I1 : Inv X pins σ H { s with heap := h' } := I.kept (t' := s.toks) kp
  have J : Inv X pins σ (upd H h'.objs.size (.frz { cls := .type "tuple", data := .seq its.toArray } (.tup ys))) { s with heap := h'.push { cls := .type "tuple", data := .seq its.toArray } } :=
    I1.laid (t' := s.toks) (fun b o e => Heap.get?_push_of_some _ e) (Nat.le_refl _) (show ObjOk X.prog X.w _ _ _ (.frz _ (.tup ys)) from ⟨Heap.get?_push_size _ rfl, hz, its, rel, IsTup.new _ _⟩)
  exact ⟨.ref h'.objs.size, _, J, rfl, q _ _ (I1.hok.fresh (Nat.le_refl _)) rfl⟩
theorem pi_tupK {tg l : Expr} {tl : TE} (hl : PE X l tl) : PI X tg l (iTup K tl) := by subst h; exact pi_tup hl
theorem pi_listK {tg l : Expr} {tl : TE} (hl : PE X l tl) : PI X tg l (iList K tl) := by subst h; exact pi_list hl
theorem op_eqDK (hu : X.A.units + 64 < cLine) : OpR X (compareOp .Eq) (rEqD K) := by subst h; exact op_eqD hu
theorem op_neDK (hu : X.A.units + 64 < cLine) : OpR X (compareOp .NotEq) (rNeD K) := by subst h; exact op_neD hu
theorem pt_truthK {a : Expr} {ta : TE} (ha : PE X a ta) (he : ∀ whole, isTrue a X.env whole = (do let v ← whole; standAt a.pos; holding [v] (truthy v))) : PT X a (tTru K ta) := by subst h; exact pt_truth ha he
end
end Fw
namespace Fw
open PySem PySem.Spec PyProof.Rows L2
/-! ### names: texts of small letters -/
def Low (m : Nat) (s : Str) : Prop := s.length ≤ m ∧ ∀ c ∈ s.cps.toList, 97 ≤ c ∧ c ≤ 122
def Nam (s : Str) : Prop := 1 ≤ s.length ∧ Low 8 s
def ltS (a b : Str) : Prop := a.cps.toList < b.cps.toList
structure Names (ns : List Str) : Prop where
  nam : ∀ x ∈ ns, Nam x
  up : ns.Pairwise ltS
theorem str_ext {a b : Str} (h : a.cps.toList = b.cps.toList) : a = b := by
  cases a with
  | mk x => cases b with
    | mk y =>
      have : x = y := Array.toList_inj.mp h
      rw [this]
theorem app_list (a b : Str) : (a ++ b).cps.toList = a.cps.toList ++ b.cps.toList := by
  show (a.cps ++ b.cps).toList = _
  rw [Array.toList_append]
theorem app_len (a b : Str) : (a ++ b).length = a.length + b.length := Str.length_append a b
theorem len_list (a : Str) : a.length = a.cps.toList.length := by
  show a.cps.size = _
  rw [Array.length_toList]
theorem Low.app {m n : Nat} {a b : Str} (h : Low m a) (k : Low n b) : Low (m + n) (a ++ b) := by
  refine ⟨by rw [app_len]; have := h.1; have := k.1; omega, fun c hc => ?_⟩
  rw [app_list, List.mem_append] at hc
  exact hc.elim (h.2 c) (k.2 c)
theorem Low.mono {m n : Nat} {a : Str} (h : Low m a) (k : m ≤ n) : Low n a := ⟨Nat.le_trans h.1 k, h.2⟩
def let1 (i : Int) : Str := ⟨#[97 + i.toNat]⟩
theorem let1_low {i : Int} (h0 : 0 ≤ i) (h1 : i < 26) : Low 1 (let1 i) := by
  refine ⟨Nat.le_refl _, fun c hc => ?_⟩
  have : c = 97 + i.toNat := by simpa [let1] using hc
  omega
theorem join_low {sep : Str} (hs : sep.cps.toList = []) : ∀ {ys : List Str}, (∀ y ∈ ys, Low 1 y) → Low ys.length (Txt.join sep ys) := by
  intro ys h
  show Low ys.length (Builtin.Str.glued sep ys)
  rw [StrLaws.glued_eq_join]
  induction ys with
  | nil => exact ⟨Nat.le_refl _, fun c hc => by cases (show c ∈ ([] : List Nat) from hc)⟩
  | cons y r ih =>
    cases r with
    | nil => exact h y (List.mem_cons_self ..)
    | cons z r =>
      have i1 := ih fun x hx => h x (List.mem_cons_of_mem _ hx)
      have i0 := h y (List.mem_cons_self ..)
      have e : Str.join sep (y :: z :: r) = y ++ sep ++ Str.join sep (z :: r) := rfl
      have e2 : y ++ sep = y := str_ext (by rw [app_list, hs, List.append_nil])
      rw [e, e2]
      refine ((i0.app i1).mono ?_)
      simp only [List.length_cons]
      omega
theorem join_fits {sep : Str} (hs : sep.cps.toList = []) {ys : List Str} (h : ∀ y ∈ ys, Low 1 y) (hl : ys.length ≤ 100) : (ys.map (·.length)).sum + ys.length * sep.length ≤ 16777216 := by
  have e : sep.length = 0 := by rw [len_list, hs]; rfl
  rw [e, Nat.mul_zero, Nat.add_zero]
  have : ∀ zs : List Str, (∀ y ∈ zs, Low 1 y) → (zs.map (·.length)).sum ≤ zs.length := by
    intro zs hz
    induction zs with
    | nil => exact Nat.le_refl _
    | cons z r ih =>
      have := ih fun x hx => hz x (List.mem_cons_of_mem _ hx)
      have := (hz z (List.mem_cons_self ..)).1
      simp only [List.map_cons, List.sum_cons, List.length_cons]
      omega
  have := this ys h
  omega
def nmk (h t : Str) (r : Int) (k : Nat) : Str := h ++ let1 ((r + 7 * (0 + (k : Int))).fmod 26) ++ t
theorem fm26 (x : Int) : 0 ≤ x.fmod 26 ∧ x.fmod 26 < 26 := by
  rw [Int.fmod_eq_emod_of_nonneg x (by decide)]
  omega
theorem nmk_nam {h t : Str} {r : Int} {k : Nat} (a : Low 3 h) (b : Low 3 t) : Nam (nmk h t r k) := by
  have l := let1_low (fm26 (r + 7 * (0 + (k : Int)))).1 (fm26 _).2
  have := ((a.app l).app b).mono (show 3 + 1 + 3 ≤ 8 by decide)
  refine ⟨?_, this⟩
  unfold nmk
  rw [app_len, app_len]
  show 1 ≤ h.length + 1 + t.length
  omega
theorem nmk_len {h t : Str} {r : Int} {k : Nat} (a : Low 3 h) (b : Low 3 t) : (nmk h t r k).length ≤ 7 := ((a.app (let1_low (fm26 (r + 7 * (0 + (k : Int)))).1 (fm26 _).2)).app b).1
theorem nmk_inj {h t : Str} {r : Int} {i j : Nat} (hi : i < 26) (hj : j < 26) (e : nmk h t r i = nmk h t r j) : i = j := by
  have e1 := congrArg (fun s : Str => s.cps.toList) e
  simp only [nmk, app_list] at e1
  have e2 := List.append_cancel_right e1
  have e3 := List.append_cancel_left e2
  have e4 : 97 + ((r + 7 * (0 + (i : Int))).fmod 26).toNat = 97 + ((r + 7 * (0 + (j : Int))).fmod 26).toNat := by simpa [let1] using e3
  have a := fm26 (r + 7 * (0 + (i : Int)))
  have b := fm26 (r + 7 * (0 + (j : Int)))
  rw [Int.fmod_eq_emod_of_nonneg _ (by decide)] at a b e4
  rw [Int.fmod_eq_emod_of_nonneg _ (by decide)] at e4
  omega
theorem nmk_nodup {h t : Str} {r : Int} {m : Nat} (hm : m ≤ 26) : ((List.range m).map (nmk h t r)).Nodup := by
  rw [List.nodup_iff_pairwise_ne, List.pairwise_map]
  refine (List.nodup_iff_pairwise_ne.mp List.nodup_range).imp_of_mem fun {a b} ha hb ne e => ne ?_
  rw [List.mem_range] at ha hb
  exact nmk_inj (by omega) (by omega) e
theorem risingS_le : ∀ {ys : List Str} {p : Str}, risingS p ys = true → (∀ x ∈ ys, ¬ ltS x p) ∧ ys.Pairwise (fun a b => ¬ ltS b a)
  | [], _, _ => ⟨fun _ h => absurd h List.not_mem_nil, .nil⟩
  | x :: r, p, h => by
    rw [risingS, Bool.and_eq_true, Bool.not_eq_true', ltCps_eq, decide_eq_false_iff_not] at h
    obtain ⟨h1, h2⟩ := h
    obtain ⟨i1, i2⟩ := risingS_le h2
    refine ⟨fun y hy => ?_, .cons i1 i2⟩
    rcases List.mem_cons.mp hy with rfl | hy
    · exact h1
    · have h3 := i1 y hy
      exact fun z => List.le_trans (α := Nat) (Std.not_lt.mp h1) (Std.not_lt.mp h3) z
theorem sortedS_le {ys : List Str} (h : sortedS ys = true) : ys.Pairwise (fun a b => ¬ ltS b a) := by
  cases ys with
  | nil => exact .nil
  | cons x r => exact .cons (risingS_le h).1 (risingS_le h).2
theorem ltS_of {a b : Str} (h : ¬ ltS b a) (n : a ≠ b) : ltS a b := by
  have h : a.cps.toList ≤ b.cps.toList := Std.not_lt.mp h
  by_cases l : ltS a b
  · exact l
  · exact absurd (str_ext (List.le_antisymm h (Std.not_lt.mp l))) n
theorem sorted_names {ns ys : List Str} (p : ys.Perm ns) (h : sortedS ys = true) (n : ns.Nodup) (a : ∀ x ∈ ns, Nam x) : Names ys := by
  refine ⟨fun x hx => a x (p.mem_iff.mp hx), ?_⟩
  have nd : ys.Nodup := p.nodup_iff.mpr n
  exact ((sortedS_le h).and (List.nodup_iff_pairwise_ne.mp nd)).imp fun {a b} h => ltS_of h.1 h.2
theorem ltS_irr (a : Str) : ¬ ltS a a := fun h => List.lt_irrefl _ h
theorem ltS_trans {a b c : Str} (h : ltS a b) (k : ltS b c) : ltS a c := List.lt_trans h k
theorem Names.nodup {ns : List Str} (h : Names ns) : ns.Nodup := List.nodup_iff_pairwise_ne.mpr (h.up.imp fun {a b} l => fun (e : a = b) => ltS_irr b (by rw [e] at l; exact l))
theorem vs_app (a b : List Str) : (a ++ b).map V.str = a.map V.str ++ b.map V.str := List.map_append
theorem get_vs {ns : List Str} {i : Nat} {x : V} (h : (ns.map V.str)[i]? = some x) : ∃ v, ns[i]? = some v ∧ x = .str v := by
  rw [List.getElem?_map] at h
  cases e : ns[i]? with
  | none => rw [e] at h; cases h
  | some v => rw [e] at h; exact ⟨v, rfl, (Option.some.inj h).symm⟩
theorem abc_at {z : Str} (hz : z.cps.toList = (List.range 26).map (97 + ·)) {i : Int} (h0 : 0 ≤ i) (h1 : i < 26) : atI z.cps.toList i = some (97 + i.toNat) := by
  have := atI_nat (xs := z.cps.toList) (j := i.toNat) (v := 97 + i.toNat) (by rw [hz, List.getElem?_map, List.getElem?_range (by omega)]; rfl)
  rw [show ((i.toNat : Nat) : Int) = i by omega] at this
  exact this

theorem nam_ok {s : Str} (h : Nam s) : PyData.strOk s = true := by
  unfold PyData.strOk
  rw [Array.all_eq_true_iff_forall_mem]
  intro c hc
  have := h.2.2 c (by rw [Array.mem_toList_iff]; exact hc)
  exact decide_eq_true (by omega)
/-! ### a placement, as it stands in memory -/
/-- a tuple that is to be read (the second way: one that is known to have no attributes of its own) -/
def TpAt (H : Hp) (p : Addr) (xs : List V) : Prop := H p = some (.tup xs) ∨ ∃ o : Obj, o.dict = none ∧ H p = some (.frz o (.tup xs))
theorem TpAt.same {H H' : Hp} {p : Addr} {xs : List V} (x : TpAt H p xs) (e : Same H H') : TpAt H' p xs := x.elim (fun h => .inl (e _ _ h)) fun ⟨o, d, h⟩ => .inr ⟨o, d, e _ _ h⟩
theorem TpAt.sq {K : PySem.W.Frag} {H : Hp} {p : Addr} {xs : List V} (x : TpAt H p xs) : SqT K H p xs := x.elim (fun h => SqT.of h) fun ⟨o, _, h⟩ => .inl (.inr ⟨o, h⟩)
def PlAt (H : Hp) (p : Addr) (P : List (Str × Int)) : Prop := ∃ ps : List (Addr × Str × Int), TpAt H p (ps.map fun q => V.ref q.1) ∧ P = ps.map (·.2) ∧ ∀ q ∈ ps, H q.1 = some (.tup [.str q.2.1, .int q.2.2])
theorem PlAt.same {H H' : Hp} {p : Addr} {P : List (Str × Int)} (x : PlAt H p P) (e : Same H H') : PlAt H' p P := by
  obtain ⟨ps, h1, h2, h3⟩ := x
  exact ⟨ps, h1.same e, h2, fun q hq => e _ _ (h3 q hq)⟩
/-- the same, of a tuple of the second way -/
def PlD (H : Hp) (p : Addr) (P : List (Str × Int)) : Prop := ∃ (ps : List (Addr × Str × Int)) (o : Obj), o.dict = none ∧ H p = some (.frz o (.tup (ps.map fun q => V.ref q.1))) ∧ P = ps.map (·.2) ∧ ∀ q ∈ ps, H q.1 = some (.tup [.str q.2.1, .int q.2.2])
theorem PlD.pl {H : Hp} {p : Addr} {P : List (Str × Int)} (x : PlD H p P) : PlAt H p P := by
  obtain ⟨ps, o, d, h1, h2, h3⟩ := x
  exact ⟨ps, .inr ⟨o, d, h1⟩, h2, h3⟩
theorem PlD.same {H H' : Hp} {p : Addr} {P : List (Str × Int)} (x : PlD H p P) (e : Same H H') : PlD H' p P := by
  obtain ⟨ps, o, d, h1, h2, h3⟩ := x
  exact ⟨ps, o, d, e _ _ h1, h2, fun q hq => e _ _ (h3 q hq)⟩
/-- a placement of n rooms -/
structure Pl (n : Int) (P : List (Str × Int)) : Prop where
  nm : Names (P.map (·.1))
  rm : ∀ x ∈ P, 0 ≤ x.2 ∧ x.2 < n
theorem Pl.nodup {n : Int} {P : List (Str × Int)} (h : Pl n P) : (P.map (·.1)).Nodup := h.nm.nodup
/-! ### parameters -/
abbrev pDraw : List Str := ["_law_stream_here", "_law_many"]
abbrev pHP : List Str := ["house", "placement"]
abbrev pIsAsc : List Str := ["sequence"]
abbrev pIsInt : List Str := ["value"]
abbrev pIsRoom : List Str := ["house", "value"]
abbrev pLMoved : List Str := ["_law_placement_here", "_law_name", "_law_room"]
abbrev pLMoves : List Str := ["_law_house_here", "_law_placement_here"]
abbrev pLNb : List Str := ["_law_house_here", "_law_room"]
abbrev pMove : List Str := ["house", "placement", "name", "room"]
abbrev pLeav : List Str := ["placement", "target", "region"]
abbrev pSurp : List Str := ["placement", "region"]
abbrev pLHP : List Str := ["_law_house_here", "_law_placement_here"]
abbrev pFree : List Str := ["house", "placement", "target", "region"]
abbrev pLFree : List Str := ["_law_house_here", "_law_placement_here", "_law_target", "_law_piece"]
abbrev pWith : List Str := ["placement", "name", "room"]
abbrev pNamesOf : List Str := ["placement"]
abbrev pPIn : List Str := ["placement", "room"]
abbrev pPWi : List Str := ["placement", "rooms"]
abbrev pPl : List Str := ["_law_stream_here", "_law_house_here", "_law_most"]
abbrev pRegOf : List Str := ["house", "placement", "room"]
abbrev pRoomOf : List Str := ["placement", "name"]
abbrev pLWithin : List Str := ["_law_one", "_law_others"]
abbrev pLWalk : List Str := ["_law_stream_here", "_law_house_here", "_law_placement_here", "_law_many"]
abbrev pLTarget : List Str := ["_law_stream_here", "_law_house_here", "_law_placement_here"]
abbrev pHPT : List Str := ["house", "placement", "target"]
abbrev pLHPT : List Str := ["_law_house_here", "_law_placement_here", "_law_target"]
abbrev pConn : List Str := ["_law_house_here", "_law_rooms", "_law_room"]
abbrev pPTgt : List Str := ["house", "placement", "target", "name"]
abbrev pPassing : List Str := ["house", "placement", "target", "room"]
abbrev pLPassing : List Str := ["_law_house_here", "_law_placement_here", "_law_target", "_law_room", "_law_some"]
abbrev pSame : List Str := ["_law_found", "_law_expected"]
end Fw
namespace Fw
open PySem PySem.Spec PyProof.Rows L2
section
variable {P : Program} {w : World} {K : PySem.W.Frag} {mg : Str → Option Value} {base : Heap}
theorem cal_draw (D : DefE K mg "_law_draw" sDraw pDraw) (T : Nm mg) : Cal P w K mg base 1 "_law_draw" pDraw spDraw := D.cal fun _ _ d => ok_draw d.F T
theorem StreamAt.frz {s A B : Addr} {c : Nat} {H : Hp} (hS : StreamAt H s A B c) {t : Addr} {o : Obj} {u : HO} (h : H t = some (.frz o u)) : t ≠ s ∧ t ≠ A ∧ t ≠ B := by
  obtain ⟨big, cells, cnt, h1, h2, h3, _⟩ := hS.ex
  exact ⟨ne_of h h1 (by intro q; cases q), ne_of h h2 (by intro q; cases q), ne_of h h3 (by intro q; cases q)⟩
theorem Fr.frz {s A B : Addr} {c : Nat} {H H1 : Hp} (f : Fr s A H H1) (hS : StreamAt H s A B c) {t : Addr} {o : Obj} {u : HO} (h : H t = some (.frz o u)) : H1 t = some (.frz o u) := f t _ (hS.frz h).1 (hS.frz h).2.1 h
theorem TpAt.fr {s A B : Addr} {c : Nat} {H H' : Hp} {p : Addr} {xs : List V} (x : TpAt H p xs) (hS : StreamAt H s A B c) (e : Fr s A H H') : TpAt H' p xs := x.elim (fun h => .inl (e.tup hS h)) fun ⟨o, d, h⟩ => .inr ⟨o, d, e.frz hS h⟩
theorem PlAt.fr {s A B : Addr} {c : Nat} {H H' : Hp} {p : Addr} {P : List (Str × Int)} (x : PlAt H p P) (hS : StreamAt H s A B c) (e : Fr s A H H') : PlAt H' p P := by
  obtain ⟨ps, h1, h2, h3⟩ := x
  exact ⟨ps, h1.fr hS e, h2, fun q hq => e.tup hS (h3 q hq)⟩
theorem PlD.fr {s A B : Addr} {c : Nat} {H H' : Hp} {p : Addr} {P : List (Str × Int)} (x : PlD H p P) (hS : StreamAt H s A B c) (e : Fr s A H H') : PlD H' p P := by
  obtain ⟨ps, o, d, h1, h2, h3⟩ := x
  exact ⟨ps, o, d, e.frz hS h1, h2, fun q hq => e.tup hS (h3 q hq)⟩
def spNames : Sp := fun vs H Q _ => ∃ (s A B : Addr) (c : Nat) (m : Int), vs = [.ref s, .int m] ∧ StreamAt H s A B c ∧ c < 2 ^ 30 ∧ 0 ≤ m ∧ m ≤ 20 ∧
  ∀ H' l ns, StreamAt H' s A B (c + 10) → Fr s A H H' → H l = none → H' l = some (.lst (ns.map V.str)) → ns.length = m.toNat → Names ns → Q (.ref l) H'
/-- the same, with more known of each name -/
def spNamesR (R : Str → Prop) : Sp := fun vs H Q _ => ∃ (s A B : Addr) (c : Nat) (m : Int), vs = [.ref s, .int m] ∧ StreamAt H s A B c ∧ c < 2 ^ 30 ∧ 0 ≤ m ∧ m ≤ 20 ∧
  ∀ H' l ns, StreamAt H' s A B (c + 10) → Fr s A H H' → H l = none → H' l = some (.lst (ns.map V.str)) → ns.length = m.toNat → Names ns → (∀ x ∈ ns, R x) → Q (.ref l) H'
abbrev nNames : List Str := ["_law_stream_here", "_law_many", "_law_letters", "_law_first", "_law_head", "_law_k", "_law_tail"]
theorem scNames : FnScope nNames ["_law_stream_here", "_law_many"] (defScope sNames) := ⟨rfl, rfl, rfl, by decide +kernel, rfl, by decide +kernel, by decide +kernel⟩
theorem ok_names7 {f : Addr} {fd : FuncData} (F : Fun K "_law_names" "_law_names" sNames f fd) (T : Nm mg) (C_law_draw : Cal P w K mg base 1 "_law_draw" pDraw spDraw) : FnOk P w K mg base CX0 2 f fd ["_law_stream_here", "_law_many"] (spNamesR fun x => x.length ≤ 7) := by
  refine F.ok scNames (fun vs H Q E h => ?_) (fun cdv A outer s H vs Q E hr h => ?_)
  · obtain ⟨s, A, B, c, m, rfl, _⟩ := h
    rfl
  · obtain ⟨s, A, B, c, m, rfl, hS, hc, hm0, hm1, q⟩ := h
    refine ⟨_, (pss_cons (ps_set (i := 2) scNames.nd rfl (.inr rfl) pe_str)
      (pss_cons (ps_set (i := 3) scNames.nd rfl (.inr rfl) (pe_cal C_law_draw (hr.mono (by decide)) (by rfl) (pa_cons (pv 0) (pa_cons pe_int pa_nil))))
      (pss_cons (ps_set (i := 4) scNames.nd rfl (.inr rfl) (pe_join pe_str (pe_lc (own := [("_law_k", 5)]) (g := gName 5) (by rfl) scNames.nd (pi_range1 (by rfl) T.range (pa_cons (pe_cal C_law_draw (hr.mono (by decide)) (by rfl) (pa_cons (pv 0) (pa_cons pe_int pa_nil))) pa_nil))
 (blkOk_by (own := [("_law_k", 5)]) (N := nNames) (sc := defScope sNames) (by decide +kernel))
 (fun _ _ _ _ _ => (pg_name (i := 5) scNames.nd rfl (.inl rfl))) (fun _ _ _ _ _ => pts_nil) (fun _ _ _ _ _ => (pe_ix ix_str (pv 2) (pe_cal C_law_draw (hr.mono (by decide)) (by rfl) (pa_cons (pv 0) (pa_cons pe_int pa_nil))) (fun _ _ => rfl))))))
      (pss_cons (ps_set (i := 6) scNames.nd rfl (.inr rfl) (pe_join pe_str (pe_lc (own := [("_law_k", 5)]) (g := gName 5) (by rfl) scNames.nd (pi_range1 (by rfl) T.range (pa_cons (pe_cal C_law_draw (hr.mono (by decide)) (by rfl) (pa_cons (pv 0) (pa_cons pe_int pa_nil))) pa_nil))
 (blkOk_by (own := [("_law_k", 5)]) (N := nNames) (sc := defScope sNames) (by decide +kernel))
 (fun _ _ _ _ _ => (pg_name (i := 5) scNames.nd rfl (.inl rfl))) (fun _ _ _ _ _ => pts_nil) (fun _ _ _ _ _ => (pe_ix ix_str (pv 2) (pe_cal C_law_draw (hr.mono (by decide)) (by rfl) (pa_cons (pv 0) (pa_cons pe_int pa_nil))) (fun _ _ => rfl))))))
      (pss_one (ps_ret (pe_callB cr_sortedS (by rfl) T.sorted (by decide +kernel) (pa_cons (pe_lc (own := [("_law_k", 5)]) (g := gName 5) (by rfl) scNames.nd (pi_range1 (by rfl) T.range (pa_cons (pv 1) pa_nil))
 (blkOk_by (own := [("_law_k", 5)]) (N := nNames) (sc := defScope sNames) (by decide +kernel))
 (fun _ _ _ _ _ => (pg_name (i := 5) scNames.nd rfl (.inl rfl))) (fun _ _ _ _ _ => pts_nil) (fun _ _ _ _ _ => (pe_op op_add_str (pe_op op_add_str (pv 4) (pe_ix ix_str (pv 2) (pe_op op_modN (pe_op op_add (pv 3) (pe_op op_mul pe_int (pv 5))) pe_int) (fun _ _ => rfl))) (pv 6)))) pa_nil)))))))), ?_⟩
    refine ⟨_, rfl, s, A, B, c, _, rfl, hS, by omega, by decide, by decide, fun H1 r hS1 fr1 r0 r1 => ?_⟩
    refine ⟨⟨_, rfl⟩, _, rfl, s, A, B, c + 1, _, rfl, hS1, by omega, by decide, by decide, fun H2 r2 hS2 fr2 r20 r21 => ?_⟩
    have abc : (Str.ofString "abcdefghijklmnopqrstuvwxyz").cps.toList = (List.range 26).map (97 + ·) := by decide +kernel
    have nil : (Str.ofString "").cps.toList = [] := by decide +kernel
    refine ⟨r2, rfl, by omega, by omega, fun L hL => lc_range (lo := 0) (n := r2.toNat) (fun i H' => ∃ ys : List Str, StreamAt H' s A B (c + 1 + 1 + i) ∧ Fr s A H2 H' ∧ H' L = some (.lst (ys.map V.str)) ∧ ys.length = i ∧ ∀ y ∈ ys, Low 1 y)
      ⟨[], hS2.same (same_upd hL), Fr.of (same_upd hL), upd_same, rfl, fun y hy => absurd hy List.not_mem_nil⟩ ?_ ?_⟩
    · rintro i H' hi ⟨ys, hS', fr', e', l', p'⟩
      refine ⟨rfl, ?_⟩
      unfold tYes
      refine iteT ⟨_, rfl, _, rfl, s, A, B, c + 1 + 1 + i, _, rfl, hS', by omega, by decide, by decide, fun H'' x hS'' fr'' x0 x1 => ?_⟩
      have z := hS2.ne hL
      refine ⟨_, x, _, rfl, rfl, by decide +kernel, abc_at abc x0 x1, _, fr'' _ _ z.1.symm z.2.1.symm e', ?_, ys ++ [let1 x], hS''.put z, (fr'.trans fr'').put hL, ?_, ?_, ?_⟩
      · rw [List.length_map]
        exact small1000 (by omega)
      · rw [upd_same, vs_app]
        rfl
      · rw [List.length_append, l']
        rfl
      · intro y hy
        rcases List.mem_append.mp hy with hy | hy
        · exact p' y hy
        · rw [List.mem_singleton.mp hy]
          exact let1_low x0 x1
    rintro H3 ⟨ys, hS3, fr3, e3, l3, p3⟩
    refine ⟨_, L, ys, rfl, rfl, .inl (SqL.of e3), join_fits nil p3 (by omega), ?_⟩
    have hd : Low 3 (Txt.join (Str.ofString "") ys) := (join_low nil p3).mono (by omega)
    generalize Txt.join (Str.ofString "") ys = hd' at *
    have hS3 := hS3.mono (show _ ≤ c + 5 by omega)
    have fr3 : Fr s A H H3 := (fr1.trans fr2).trans fr3
    clear e3 l3 p3 hL fr2 hS2
    refine ⟨⟨_, rfl⟩, _, rfl, s, A, B, c + 5, _, rfl, hS3, by omega, by decide, by decide, fun H4 r4 hS4 fr4 r40 r41 => ?_⟩
    refine ⟨r4, rfl, by omega, by omega, fun M hM => lc_range (lo := 0) (n := r4.toNat) (fun i H' => ∃ ys : List Str, StreamAt H' s A B (c + 5 + 1 + i) ∧ Fr s A H4 H' ∧ H' M = some (.lst (ys.map V.str)) ∧ ys.length = i ∧ ∀ y ∈ ys, Low 1 y)
      ⟨[], hS4.same (same_upd hM), Fr.of (same_upd hM), upd_same, rfl, fun y hy => absurd hy List.not_mem_nil⟩ ?_ ?_⟩
    · rintro i H' hi ⟨ys, hS', fr', e', l', p'⟩
      refine ⟨rfl, ?_⟩
      unfold tYes
      refine iteT ⟨_, rfl, _, rfl, s, A, B, c + 5 + 1 + i, _, rfl, hS', by omega, by decide, by decide, fun H'' x hS'' fr'' x0 x1 => ?_⟩
      have z := hS4.ne hM
      refine ⟨_, x, _, rfl, rfl, by decide +kernel, abc_at abc x0 x1, _, fr'' _ _ z.1.symm z.2.1.symm e', ?_, ys ++ [let1 x], hS''.put z, (fr'.trans fr'').put hM, ?_, ?_, ?_⟩
      · rw [List.length_map]
        exact small1000 (by omega)
      · rw [upd_same, vs_app]
        rfl
      · rw [List.length_append, l']
        rfl
      · intro y hy
        rcases List.mem_append.mp hy with hy | hy
        · exact p' y hy
        · rw [List.mem_singleton.mp hy]
          exact let1_low x0 x1
    rintro H5 ⟨zs, hS5, fr5, e5, l5, p5⟩
    refine ⟨_, M, zs, rfl, rfl, .inl (SqL.of e5), join_fits nil p5 (by omega), ?_⟩
    have td : Low 3 (Txt.join (Str.ofString "") zs) := (join_low nil p5).mono (by omega)
    generalize Txt.join (Str.ofString "") zs = tl' at *
    have hS5 := hS5.mono (show _ ≤ c + 10 by omega)
    have fr5 : Fr s A H H5 := (fr3.trans fr4).trans fr5
    clear e5 l5 p5 hM fr4 hS4 hS3 fr3 fr1 hS1
    refine ⟨_, rfl, m, rfl, by omega, by omega, fun N hN => lc_range (lo := 0) (n := m.toNat) (fun i H' => Same H5 H' ∧ H' N = some (.lst (((List.range i).map (nmk hd' tl' r)).map V.str)))
      ⟨same_upd hN, upd_same⟩ ?_ ?_⟩
    · rintro i H' hi ⟨sm, e'⟩
      refine ⟨rfl, ?_⟩
      unfold tYes
      have g := fm26 (r + 7 * (0 + (i : Int)))
      refine iteT ⟨_, rfl, _, rfl, _, rfl, _, rfl, _, _, rfl, rfl, .inl ⟨by decide, by decide⟩, _, _, rfl, rfl, _, _, rfl, rfl, (by show (26 : Int) ≠ 0; decide), _, _, _, rfl, rfl, by decide +kernel, abc_at abc g.1 g.2, _, _, rfl, rfl, ?_, _, rfl, _, _, rfl, rfl, ?_, _, e', ?_, same_put sm hN, ?_⟩
      · show hd'.length + 1 ≤ sizeLine
        have := hd.1
        exact Nat.le_of_lt (small1000 (by omega))
      · rw [app_len]
        show hd'.length + 1 + tl'.length ≤ sizeLine
        have := hd.1
        have := td.1
        exact Nat.le_of_lt (small1000 (by omega))
      · rw [List.length_map, List.length_map, List.length_range]
        exact small1000 (by omega)
      · rw [upd_same, List.range_succ, List.map_append, vs_app]
        rfl
    rintro H6 ⟨sm6, e6⟩
    refine ⟨N, _, rfl, SqL.of e6, ?_, fun zs p hp hs hpn => ?_⟩
    · rw [List.length_map, List.length_range]
      omega
    have fr7 : Fr s A H (upd H6 p (.lst (zs.map V.str))) := fr5.trans (Fr.of (sm6.trans (same_upd hpn)))
    refine q _ p zs (hS5.same (sm6.trans (same_upd hpn))) fr7 (fr5.free hS5 (sm6.free hpn)) upd_same ?_ (sorted_names hp hs (nmk_nodup (by omega)) ?_) (fun x hx => ?_)
    · rw [hp.length_eq, List.length_map, List.length_range]
    · intro x hx
      obtain ⟨k, _, rfl⟩ := List.mem_map.mp hx
      exact nmk_nam hd td
    · obtain ⟨k, _, rfl⟩ := List.mem_map.mp (hp.mem_iff.mp hx)
      exact nmk_len hd td
theorem names_all {R : Str → Prop} {x : Str} {ps : List Str} {k : Nat} (C : Cal P w K mg base k x ps spNames) (h : ∀ z, R z) : Cal P w K mg base k x ps (spNamesR R) :=
  C.imp fun vs H Q E ⟨s, A, B, c, m, e, hS, hc, m0, m1, q⟩ => ⟨s, A, B, c, m, e, hS, hc, m0, m1, fun H' l ns a b c d e f => q H' l ns a b c d e f fun _ _ => h _⟩
theorem ok_names {f : Addr} {fd : FuncData} (F : Fun K "_law_names" "_law_names" sNames f fd) (T : Nm mg) (C_law_draw : Cal P w K mg base 1 "_law_draw" pDraw spDraw) : FnOk P w K mg base CX0 2 f fd ["_law_stream_here", "_law_many"] spNames :=
  (ok_names7 F T C_law_draw).imp fun vs H Q E ⟨s, A, B, c, m, e, hS, hc, m0, m1, q⟩ => ⟨s, A, B, c, m, e, hS, hc, m0, m1, fun H' l ns a b c d e f _ => q H' l ns a b c d e f⟩
end
end Fw
namespace Fw
open PySem PySem.Spec PyProof.Rows L2
theorem cut_vi (ns : List Int) (lo hi : Option Int) : ∃ ms : List Int, cutV (vi ns) lo hi = vi ms ∧ (∀ x ∈ ms, x ∈ ns) := by
  refine ⟨(ns.drop (HT.sIx (vi ns).length 0 lo)).take (HT.sIx (vi ns).length (vi ns).length hi - HT.sIx (vi ns).length 0 lo), ?_, fun x hx => List.mem_of_mem_drop (List.mem_of_mem_take hx)⟩
  unfold cutV vi
  rw [List.map_take, List.map_drop]
theorem cut_le (xs : List V) {m : Int} (h : 0 ≤ m) : (cutV xs none (some m)).length ≤ m.toNat := by
  unfold cutV
  rw [List.length_take]
  refine Nat.le_trans (Nat.min_le_left _ _) ?_
  show (if m < 0 then _ else min m.toNat xs.length) - 0 ≤ m.toNat
  rw [if_neg (by omega)]
  omega
theorem atI_in {xs : List Int} {r : Int} (h0 : 0 ≤ r) (h1 : r < (xs.length : Nat)) : ∃ x, x ∈ xs ∧ atI (vi xs) r = some (V.int x) := by
  have hj : r.toNat < xs.length := by omega
  refine ⟨xs[r.toNat], List.getElem_mem hj, ?_⟩
  have := atI_nat (xs := vi xs) (j := r.toNat) (v := V.int xs[r.toNat]) (by rw [List.getElem?_map, List.getElem?_eq_getElem hj]; rfl)
  rw [show ((r.toNat : Nat) : Int) = r by omega] at this
  exact this
theorem seq_by {a b : TS} {D : Ends} {σ : L2.St} {H : Hp} (M : L2.St → Hp → Prop) (h1 : ∀ N : L2.St → Hp → Prop, (∀ σ' H', M σ' H' → N σ' H') → a { D with nx := N } σ H) (h2 : ∀ σ' H', M σ' H' → b D σ' H') : tSeq a b D σ H := h1 _ h2
section
variable {P : Program} {w : World} {K : PySem.W.Frag} {mg : Str → Option Value} {base : Heap}
theorem HouseAt.room0 {H : Hp} {h : Addr} {n : Int} {D : List (Int × Int)} (x : HouseAt H h n D) : ∃ q, H h = some (.tup [.int n, .ref q]) := by
  obtain ⟨q, ps, h1, _⟩ := x
  exact ⟨q, h1⟩
def spPl : Sp := fun vs H Q _ => ∃ (s A B h : Addr) (c : Nat) (n : Int) (D : List (Int × Int)) (m : Int), vs = [.ref s, .ref h, .int m] ∧ StreamAt H s A B c ∧ c < 2 ^ 29 ∧ HouseAt H h n D ∧ 1 ≤ n ∧ n ≤ 8 ∧ 0 ≤ m ∧ m ≤ 12 ∧
  ∀ H' p P, StreamAt H' s A B (c + 60) → Fr s A H H' → PlD H' p P → Pl n P → P.length ≤ m.toNat → Q (.ref p) H'
/-- the same, with more known of each name -/
def spPlR (R : Str → Prop) : Sp := fun vs H Q _ => ∃ (s A B h : Addr) (c : Nat) (n : Int) (D : List (Int × Int)) (m : Int), vs = [.ref s, .ref h, .int m] ∧ StreamAt H s A B c ∧ c < 2 ^ 29 ∧ HouseAt H h n D ∧ 1 ≤ n ∧ n ≤ 8 ∧ 0 ≤ m ∧ m ≤ 12 ∧
  ∀ H' p P, StreamAt H' s A B (c + 60) → Fr s A H H' → PlD H' p P → Pl n P → P.length ≤ m.toNat → (∀ x ∈ P, R x.1) → Q (.ref p) H'
abbrev nPl : List Str := ["_law_stream_here", "_law_house_here", "_law_most", "_law_share", "_law_held", "_law_room", "_law_spots", "_law_k", "_law_found", "_law_name"]
theorem scPl : FnScope nPl ["_law_stream_here", "_law_house_here", "_law_most"] (defScope sPl) := ⟨rfl, rfl, rfl, by decide +kernel, rfl, by decide +kernel, by decide +kernel⟩
theorem ok_plR {R : Str → Prop} {f : Addr} {fd : FuncData} (F : Fun K "_law_placement" "_law_placement" sPl f fd) (T : Nm mg) (C_law_draw : Cal P w K mg base 1 "_law_draw" pDraw spDraw) (C_law_names : Cal P w K mg base 2 "_law_names" pDraw (spNamesR R)) : FnOk P w K mg base CX0 3 f fd pPl (spPlR R) := by
  refine F.ok scPl (fun vs H Q E h => ?_) (fun cdv A outer s H vs Q E hr h => ?_)
  · obtain ⟨s, A, B, h, c, n, D, m, rfl, _⟩ := h
    rfl
  · obtain ⟨s, A, B, h, c, n, D, m, rfl, hS, hc, hH, n0, n1, m0, m1, q⟩ := h
    refine ⟨_, (pss_cons (ps_set (i := 3) scPl.nd rfl (.inr rfl) (pe_cal C_law_draw (hr.mono (by decide)) (by rfl) (pa_cons (pv 0) (pa_cons pe_int pa_nil))))
      (pss_cons (ps_set (i := 4) scPl.nd rfl (.inl rfl) (pe_slice sl_list (pe_lc (own := [("_law_room", 5)]) (g := gName 5) (by rfl) scPl.nd (pi_range1 (by rfl) T.range (pa_cons (pe_ix ix_tup (pv 1) pe_int (fun _ _ => rfl)) pa_nil))
 (blkOk_by (own := [("_law_room", 5)]) (N := nPl) (sc := defScope sPl) (by decide +kernel))
 (fun _ _ _ _ _ => (pg_name (i := 5) scPl.nd rfl (.inl rfl))) (fun _ _ _ _ _ => pts_one (PW.pt (pw_or (pt_cmpR op_eq (pv 3) pe_int (nomark _)) (pw_or1 (pt_cmpR op_gt (pe_cal C_law_draw (hr.mono (by decide)) (by rfl) (pa_cons (pv 0) (pa_cons pe_int pa_nil))) pe_int (nomark _)))))) (fun _ _ _ _ _ => (pv 5))) po_none (po_some (pv 2))))
      (pss_cons (ps_set (i := 6) scPl.nd rfl (.inl rfl) (pe_callTy call_list_of (by rfl) T.list (by decide +kernel) (pa_cons (pv 4) pa_nil)))
      (pss_cons (ps_if (PW.pt (pw_and (pt_cmpR (op_neD hr.units) (pv 4) (pe_lst pa_nil) (nomark _)) (pw_and1 (pt_cmpR op_eq (pe_cal C_law_draw (hr.mono (by decide)) (by rfl) (pa_cons (pv 0) (pa_cons pe_int pa_nil))) pe_int (nomark _)))))
      (pss_one (ps_for PassesOwn.never rfl (pi_range1 (by rfl) T.range (pa_cons (pe_cal C_law_draw (hr.mono (by decide)) (by rfl) (pa_cons (pv 0) (pa_cons (pe_op op_add (pe_op op_sub (pv 2) (pe_callB call_len_seq (by rfl) T.len (by decide +kernel) (pa_cons (pv 4) pa_nil))) pe_int) pa_nil))) pa_nil)) (pg_name (i := 7) scPl.nd rfl (.inl rfl))
       (pss_one (ps_expr (pe_bm PySem.F.plainAttrs_list PySem.F.slot_list_append PySem.F.type_list_append mt_append (pv 6) (pa_cons (pe_ix ix_list (pv 4) (pe_cal C_law_draw (hr.mono (by decide)) (by rfl) (pa_cons (pv 0) (pa_cons (pe_callB call_len_seq (by rfl) T.len (by decide +kernel) (pa_cons (pv 4) pa_nil)) pa_nil))) (fun _ _ => rfl)) pa_nil))))))
      pss_nil)
      (pss_cons (ps_set (i := 8) scPl.nd rfl (.inl rfl) (pe_lst pa_nil))
      (pss_cons (ps_for PassesOwn.never rfl (pi_list (pe_cal C_law_names (hr.mono (by decide)) (by rfl) (pa_cons (pv 0) (pa_cons (pe_callB call_len_seq (by rfl) T.len (by decide +kernel) (pa_cons (pv 6) pa_nil)) pa_nil)))) (pg_name (i := 9) scPl.nd rfl (.inl rfl))
      (pss_one (ps_expr (pe_bm PySem.F.plainAttrs_list PySem.F.slot_list_append PySem.F.type_list_append mt_append (pv 8) (pa_cons (pe_tup (pa_cons (pv 9) (pa_cons (pe_bm PySem.F.plainAttrs_list PySem.F.slot_list_pop PySem.F.type_list_pop mt_popAt (pv 6) (pa_cons (pe_cal C_law_draw (hr.mono (by decide)) (by rfl) (pa_cons (pv 0) (pa_cons (pe_callB call_len_seq (by rfl) T.len (by decide +kernel) (pa_cons (pv 6) pa_nil)) pa_nil))) pa_nil)) pa_nil))) pa_nil)))))
      (pss_one (ps_ret (pe_callTy (call_tupleF K rfl) (by rfl) T.tuple (by decide +kernel) (pa_cons (pv 8) pa_nil)))))))))), ?_⟩
    refine ⟨_, rfl, s, A, B, c, _, rfl, hS, by omega, by decide, by decide, fun H1 sh hS1 fr1 _ _ => ?_⟩
    have hH1 := hH.fr hS fr1
    obtain ⟨qd, eh1⟩ := hH1.room0
    -- held
    refine ⟨_, rfl, h, _, _, _, rfl, rfl, SqT.of eh1, atI0, n, rfl, by omega, by omega, fun L hL => lc_range (lo := 0) (n := n.toNat) (fun i H' => ∃ ys : List Int, StreamAt H' s A B (c + 1 + i) ∧ Fr s A H1 H' ∧ H' L = some (.lst (vi ys)) ∧ ys.length ≤ i ∧ ∀ y ∈ ys, 0 ≤ y ∧ y < n)
      ⟨[], hS1.same (same_upd hL), Fr.of (same_upd hL), upd_same, Nat.le_refl _, fun y hy => absurd hy List.not_mem_nil⟩ ?_ ?_⟩
    · rintro i H' hi ⟨ys, hS', fr', e', l', p'⟩
      have z := hS1.ne hL
      refine ⟨rfl, tt_by (fun b H3 => StreamAt H3 s A B (c + 1 + (i + 1)) ∧ Fr s A H' H3) ?_ ?_⟩
      · intro Q' hQ'
        refine ⟨_, rfl, rfl, _, rfl, ?_⟩
        refine ite2 (fun _ => ?_) (fun _ => ?_)
        · exact hQ' _ _ ⟨hS'.mono (by omega), Fr.refl⟩
        · refine ⟨_, rfl, s, A, B, c + 1 + i, _, rfl, hS', by omega, by decide, by decide, fun H'' x hS'' fr'' x0 x1 => ⟨_, _, rfl, rfl, _, rfl, ?_⟩⟩
          exact hQ' _ _ ⟨hS'', fr''⟩
      · rintro b H3 ⟨hS3, fr3⟩
        have e3 := fr3 _ _ z.1.symm z.2.1.symm e'
        refine ite2 (fun _ => ?_) (fun _ => ?_)
        · refine ⟨_, rfl, _, e3, ?_, ys ++ [0 + (i : Int)], hS3.put z, (fr'.trans fr3).put hL, ?_, ?_, ?_⟩
          · rw [List.length_map]
            exact small1000 (by omega)
          · rw [upd_same, vi_app]
            rfl
          · rw [List.length_append, List.length_singleton]
            omega
          · intro y hy
            rcases List.mem_append.mp hy with hy | hy
            · exact p' y hy
            · rw [List.mem_singleton.mp hy]
              omega
        · exact ⟨ys, hS3, fr'.trans fr3, e3, by omega, p'⟩
    rintro H2 ⟨ys, hS2, fr2, e2, l2, p2⟩
    have hS2 := hS2.mono (show _ ≤ c + 9 by omega)
    refine ⟨_, rfl, m, rfl, L, _, rfl, SqL.of e2, fun M hM => ?_⟩
    have zM := hS2.ne hM
    obtain ⟨held, eh, ph⟩ := cut_vi ys none (some m)
    have lh : held.length ≤ m.toNat := by
      have := cut_le (vi ys) m0
      rw [eh, List.length_map] at this
      exact this
    have ph : ∀ y ∈ held, 0 ≤ y ∧ y < n := fun y hy => p2 y (ph y hy)
    rw [show cutV (vi ys) none (some m) = vi held from eh]
    clear eh
    have hS3 := hS2.same (same_upd (o := .lst (vi held)) hM)
    have fr3 : Fr s A H (upd H2 M (.lst (vi held))) := (fr1.trans fr2).trans (Fr.of (same_upd hM))
    have e3 : (upd H2 M (.lst (vi held))) M = some (.lst (vi held)) := upd_same
    generalize upd H2 M (.lst (vi held)) = H3 at *
    clear e2 p2 l2 fr2 hS2
    -- spots
    refine ⟨_, rfl, M, _, rfl, .inl (SqL.of e3), fun S hS' => ?_⟩
    have fS := fr3.free hS3 hS'
    have zS := hS3.ne hS'
    have nMS : M ≠ S := ne_of_none e3 hS'
    have hS4 := hS3.same (same_upd (o := .lst (vi held)) hS')
    have fr4 : Fr s A H (upd H3 S (.lst (vi held))) := fr3.trans (Fr.of (same_upd hS'))
    have e4 : (upd H3 S (.lst (vi held))) M = some (.lst (vi held)) := same_upd hS' _ _ e3
    have es4 : (upd H3 S (.lst (vi held))) S = some (.lst (vi held)) := upd_same
    generalize upd H3 S (.lst (vi held)) = H4 at *
    clear hS' hS3 fr3 e3
    dsimp only [gName]
    refine seq_by (fun σ' H' => ∃ (y5 y7 : Option V) (c' : Nat) (spots : List Int), σ' = [some (.ref s), some (.ref h), some (.int m), some (.int sh), some (.ref M), y5, some (.ref S), y7, none, none] ∧ StreamAt H' s A B c' ∧ c' ≤ c + 30 ∧ Fr s A H H' ∧ H' S = some (.lst (vi spots)) ∧ spots.length ≤ m.toNat ∧ ∀ y ∈ spots, 0 ≤ y ∧ y < n) ?_ ?_
    · intro N hN
      refine if_by (fun b H' => ∃ c', StreamAt H' s A B c' ∧ c' ≤ c + 10 ∧ Fr s A H H' ∧ H' S = some (.lst (vi held)) ∧ H' M = some (.lst (vi held)) ∧ (b = true → held ≠ [])) ?_ ?_ ?_
      · rintro H5 ⟨c5, hS5, hc5, fr5, es5, e5, ne⟩
        have ne := ne rfl
        have l0 : 0 < held.length := List.length_pos_iff.mpr ne
        refine ⟨_, rfl, _, rfl, _, rfl, M, _, rfl, .inl (SqL.of e5), _, _, rfl, rfl, _, _, rfl, rfl, s, A, B, c5, _, rfl, hS5, by omega, ?_, ?_, fun H6 x hS6 fr6 x0 x1 => ?_⟩
        · rw [List.length_map]; omega
        · rw [List.length_map]; omega
        rw [List.length_map] at x1
        refine ⟨x, rfl, by omega, by omega, for_range (lo := 0) (n := x.toNat) (fun i σ' H' => ∃ (y7 : Option V) (c' : Nat) (spots : List Int), σ' = [some (.ref s), some (.ref h), some (.int m), some (.int sh), some (.ref M), none, some (.ref S), y7, none, none] ∧ StreamAt H' s A B c' ∧ c' ≤ c5 + 1 + i ∧ Fr s A H H' ∧ H' S = some (.lst (vi spots)) ∧ H' M = some (.lst (vi held)) ∧ spots.length = held.length + i ∧ ∀ y ∈ spots, 0 ≤ y ∧ y < n)
          ⟨_, c5 + 1, held, rfl, hS6, by omega, fr5.trans fr6, fr6 _ _ zS.1.symm zS.2.1.symm es5, fr6 _ _ zM.1.symm zM.2.1.symm e5, rfl, ph⟩ ?_ ?_⟩
        · rintro i σ' H7 hi ⟨y7, c7, spots, rfl, hS7, hc7, fr7, es7, e7, l7, p7⟩
          refine ⟨_, rfl, .inl ⟨rfl, _, SqL.of es7⟩, _, rfl, _, rfl, _, rfl, M, _, rfl, .inl (SqL.of e7), s, A, B, c7, _, rfl, hS7, by omega, ?_, ?_, fun H8 y hS8 fr8 y0 y1 => ?_⟩
          · rw [List.length_map]; omega
          · rw [List.length_map]; omega
          rw [List.length_map] at y1
          obtain ⟨v, hv, ev⟩ := atI_in y0 y1
          have es8 := fr8 _ _ zS.1.symm zS.2.1.symm es7
          refine ⟨M, _, _, _, rfl, rfl, SqL.of (fr8 _ _ zM.1.symm zM.2.1.symm e7), ev, S, _, _, rfl, rfl, es8, ?_, _, c7 + 1, spots ++ [v], rfl, hS8.put zS, by omega, (fr7.trans fr8).put fS, ?_, ?_, ?_, ?_⟩
          · rw [List.length_map]
            exact small1000 (by omega)
          · rw [upd_same, vi_app]
            rfl
          · rw [upd_ne nMS]
            exact fr8 _ _ zM.1.symm zM.2.1.symm e7
          · rw [List.length_append, List.length_singleton]
            omega
          · intro z hz
            rcases List.mem_append.mp hz with hz | hz
            · exact p7 z hz
            · rw [List.mem_singleton.mp hz]
              exact ph v hv
        · rintro σ' H7 ⟨y7, c7, spots, rfl, hS7, hc7, fr7, es7, e7, l7, p7⟩
          exact hN _ _ ⟨_, _, c7, spots, rfl, hS7, by omega, fr7, es7, by omega, p7⟩
      · rintro H5 ⟨c5, hS5, hc5, fr5, es5, e5, ne⟩
        exact hN _ _ ⟨_, _, c5, held, rfl, hS5, by omega, fr5, es5, lh, ph⟩
      · intro Q' hQ'
        refine ⟨_, rfl, Nat.zero_le _, fun e he => ?_⟩
        have sm : Same H4 (upd H4 e (.lst [])) := same_upd he
        have hS5 := hS4.same sm
        have fr5 := fr4.trans (Fr.of sm)
        have e5 := sm _ _ e4
        have es5 := sm _ _ es4
        refine ⟨.list (held.map .int), .list [], .lst (SqL.of e5) (dp_ints held), .lst (SqL.of upd_same) .nil, shaped_list held, shaped_list [], _, rfl, ?_⟩
        rw [eqv_nil]
        generalize upd H4 e (.lst []) = H5 at *
        cases held with
        | nil => exact iteF (hQ' _ _ ⟨c + 9, hS5, by omega, fr5, es5, e5, fun h => nomatch h⟩)
        | cons x0 hr0 =>
          refine iteT ⟨_, rfl, s, A, B, c + 9, _, rfl, hS5, by omega, by decide, by decide, fun H6 x hS6 fr6 x0 x1 => ⟨rfl, _, rfl, ?_⟩⟩
          exact hQ' _ _ ⟨c + 9 + 1, hS6, by omega, fr5.trans fr6, fr6 _ _ zS.1.symm zS.2.1.symm es5, fr6 _ _ zM.1.symm zM.2.1.symm e5, fun _ => List.cons_ne_nil _ _⟩
    clear e4 es4 fr4 hS4
    rintro σ' H5 ⟨y5, y7, c5, spots, rfl, hS5, hc5, fr5, es5, l5, p5⟩
    refine ⟨Nat.zero_le _, fun R hR => ?_⟩
    have zR := hS5.ne hR
    have gR := fr5.free hS5 hR
    have nSR : S ≠ R := ne_of_none es5 hR
    have hS6 := hS5.same (same_upd (o := .lst []) hR)
    have fr6 := fr5.trans (Fr.of (same_upd (o := .lst []) hR))
    have es6 := same_upd (o := .lst []) hR _ _ es5
    have eR6 : (upd H5 R (.lst [])) R = some (.lst []) := upd_same
    generalize upd H5 R (.lst []) = H6 at *
    clear hS5 fr5 es5 hR
    refine ⟨_, rfl, _, rfl, S, _, rfl, .inl (SqL.of es6), s, A, B, c5, _, rfl, hS6, by omega, by omega, ?_, fun H7 NL ns hS7 fr7 hNL eN lN nN nR => ?_⟩
    · rw [List.length_map]; omega
    have zN := hS6.ne hNL
    have gN := fr6.free hS6 hNL
    have nSN : S ≠ NL := ne_of_none es6 hNL
    have nRN : R ≠ NL := ne_of_none eR6 hNL
    rw [List.length_map] at lN
    have lN : ns.length = spots.length := by omega
    refine ⟨NL, rfl, ⟨_, SqL.of eN⟩, for_list (K := K) (a := NL) (xs := ns.map V.str) (fun i σ' H' => ∃ (y9 : Option V) (sp : List Int) (ps : List (Addr × Str × Int)), σ' = [some (.ref s), some (.ref h), some (.int m), some (.int sh), some (.ref M), y5, some (.ref S), y7, some (.ref R), y9] ∧ StreamAt H' s A B (c5 + 10 + i) ∧ Fr s A H H' ∧ H' NL = some (.lst (ns.map V.str)) ∧ H' S = some (.lst (vi sp)) ∧ sp.length + i = ns.length ∧ (∀ y ∈ sp, 0 ≤ y ∧ y < n) ∧
        H' R = some (.lst (ps.map fun q => V.ref q.1)) ∧ (ps.map (·.2.1)) = ns.take i ∧ (∀ q ∈ ps, H' q.1 = some (.tup [.str q.2.1, .int q.2.2])) ∧ ∀ q ∈ ps, 0 ≤ q.2.2 ∧ q.2.2 < n)
      ⟨_, spots, [], rfl, hS7, fr6.trans fr7, eN, fr7 _ _ zS.1.symm zS.2.1.symm es6, by omega, p5, fr7 _ _ zR.1.symm zR.2.1.symm eR6, rfl, fun q hq => absurd hq List.not_mem_nil, fun q hq => absurd hq List.not_mem_nil⟩ ?_ ?_ ?_⟩
    · rintro i σ' H' _ ⟨y9, sp, ps, _, _, _, e', _⟩
      exact SqL.of e'
    · rintro i x σ' H8 hx ⟨y9, sp, ps, rfl, hS8, fr8, eN8, es8, l8, p8, eR8, en8, ep8, pr8⟩
      obtain ⟨nm, hnm, rfl⟩ := get_vs hx
      have hi : i < ns.length := (List.getElem?_eq_some_iff.mp hnm).1
      have hps : ps.length = i := by
        have := congrArg List.length en8
        rw [List.length_map, List.length_take] at this
        omega
      refine ⟨_, rfl, .inl ⟨rfl, _, SqL.of eR8⟩, _, rfl, _, rfl, .inl ⟨rfl, _, SqL.of es8⟩, _, rfl, _, rfl, S, _, rfl, .inl (SqL.of es8), s, A, B, c5 + 10 + i, _, rfl, hS8, by omega, ?_, ?_, fun H9 r hS9 fr9 r0 r1 => ?_⟩
      · rw [List.length_map]; omega
      · rw [List.length_map]; omega
      rw [List.length_map] at r1
      have hj : r.toNat < sp.length := by omega
      have ixr : ixN (vi sp).length r = some r.toNat := by
        unfold ixN
        rw [List.length_map, if_pos r0, if_pos r1]
      have gx : (vi sp)[r.toNat]? = some (V.int sp[r.toNat]) := by
        rw [List.getElem?_map, List.getElem?_eq_getElem hj]
        rfl
      have es9 := fr9 _ _ zS.1.symm zS.2.1.symm es8
      refine ⟨S, _, r, r.toNat, _, rfl, rfl, es9, by omega, by omega, (ixN_seq ixr).1, gx, by show 2 ≤ sizeLine; decide, fun t ht => ?_⟩
      have zt := (hS9.put (o := .lst ((vi sp).eraseIdx r.toNat)) zS).ne ht
      have hS10 := (hS9.put (o := .lst ((vi sp).eraseIdx r.toNat)) zS)
      have fr10 := (fr8.trans fr9).put (o := .lst ((vi sp).eraseIdx r.toNat)) fS
      have eR10 : (upd H9 S (.lst ((vi sp).eraseIdx r.toNat))) R = _ := (upd_ne nSR.symm).trans (fr9 _ _ zR.1.symm zR.2.1.symm eR8)
      have eN10 : (upd H9 S (.lst ((vi sp).eraseIdx r.toNat))) NL = _ := (upd_ne nSN.symm).trans (fr9 _ _ zN.1.symm zN.2.1.symm eN8)
      have es10 : (upd H9 S (.lst ((vi sp).eraseIdx r.toNat))) S = some (.lst (vi (sp.eraseIdx r.toNat))) := by rw [upd_same, vi_erase]
      have ep10 : ∀ q ∈ ps, (upd H9 S (.lst ((vi sp).eraseIdx r.toNat))) q.1 = some (.tup [.str q.2.1, .int q.2.2]) := fun q hq => by
        have := fr9.tup hS8 (ep8 q hq)
        rw [upd_ne (ne_of this es9 (by intro z; cases z))]
        exact this
      generalize upd H9 S (.lst ((vi sp).eraseIdx r.toNat)) = H10 at *
      have sm := same_upd (o := .tup [.str nm, .int sp[r.toNat]]) ht
      have eR11 := sm _ _ eR10
      have et : (upd H10 t (.tup [.str nm, .int sp[r.toNat]])) t = some (.tup [.str nm, .int sp[r.toNat]]) := upd_same
      have ep11 : ∀ q ∈ ps, (upd H10 t (.tup [.str nm, .int sp[r.toNat]])) q.1 = some (.tup [.str q.2.1, .int q.2.2]) := fun q hq => sm _ _ (ep10 q hq)
      have hS11 := hS10.same sm
      have fr11 := fr10.trans (Fr.of sm)
      have es11 := sm _ _ es10
      have eN11 := sm _ _ eN10
      generalize upd H10 t (.tup [.str nm, .int sp[r.toNat]]) = H11 at *
      refine ⟨R, _, _, rfl, rfl, eR11, ?_, _, sp.eraseIdx r.toNat, ps ++ [(t, nm, sp[r.toNat])], rfl, (hS11.put zR), fr11.put gR, ?_, ?_, ?_, ?_, ?_, ?_, ?_, ?_⟩
      · rw [List.length_map]
        exact small1000 (by omega)
      · rw [upd_ne nRN.symm]
        exact eN11
      · rw [upd_ne nSR]
        exact es11
      · rw [List.length_eraseIdx, if_pos hj]
        omega
      · intro y hy
        exact p8 y (List.mem_of_mem_eraseIdx hy)
      · rw [upd_same, List.map_append]
        rfl
      · rw [List.map_append, List.take_add_one, hnm, en8]
        rfl
      · intro q hq
        rcases List.mem_append.mp hq with hq | hq
        · rw [upd_ne (ne_of (ep11 q hq) eR11 (by intro z; cases z))]
          exact ep11 q hq
        · rw [List.mem_singleton.mp hq]
          rw [upd_ne (ne_of et eR11 (by intro z; cases z))]
          exact et
      · intro q hq
        rcases List.mem_append.mp hq with hq | hq
        · exact pr8 q hq
        · rw [List.mem_singleton.mp hq]
          exact p8 _ (List.getElem_mem hj)
    · rintro σ' H8 ⟨y9, sp, ps, rfl, hS8, fr8, eN8, es8, l8, p8, eR8, en8, ep8, pr8⟩
      rw [List.length_map, List.take_length] at en8
      rw [List.length_map] at hS8 l8
      refine ⟨_, rfl, R, _, rfl, SqL.of eR8, fun t ob ht od => ?_⟩
      have sm := same_upd (o := .frz ob (.tup (ps.map fun q => V.ref q.1))) ht
      refine q _ t (ps.map (·.2)) ((hS8.same sm).mono (by omega)) (fr8.trans (Fr.of sm)) ⟨ps, ob, od, upd_same, rfl, fun q hq => sm _ _ (ep8 q hq)⟩ ⟨?_, ?_⟩ ?_ (fun x hx => nR _ ?_)
      · rw [List.map_map]
        show Names (ps.map (·.2.1))
        rw [en8]
        exact nN
      · intro x hx
        obtain ⟨q, hq, rfl⟩ := List.mem_map.mp hx
        exact pr8 q hq
      · have := congrArg List.length en8
        rw [List.length_map] at this
        rw [List.length_map]
        omega
      · obtain ⟨q, hq, rfl⟩ := List.mem_map.mp hx
        rw [← en8]
        exact List.mem_map_of_mem (f := (·.2.1)) hq
theorem ok_pl {f : Addr} {fd : FuncData} (F : Fun K "_law_placement" "_law_placement" sPl f fd) (T : Nm mg) (C_law_draw : Cal P w K mg base 1 "_law_draw" pDraw spDraw) (C_law_names : Cal P w K mg base 2 "_law_names" pDraw spNames) : FnOk P w K mg base CX0 3 f fd pPl spPl :=
  (ok_plR (R := fun _ => True) F T C_law_draw (names_all C_law_names fun _ => trivial)).imp fun vs H Q E ⟨s, A, B, h, c, n, D, m, e, hS, hc, hH, n0, n1, m0, m1, q⟩ => ⟨s, A, B, h, c, n, D, m, e, hS, hc, hH, n0, n1, m0, m1, fun H' p P a b c d e _ => q H' p P a b c d e⟩
end
end Fw
namespace Fw
open PySem PySem.Spec PyProof.Rows L2
/-! ### what a walk over a placement needs: tuples stay -/
structure Tk (H H' : Hp) : Prop where
  t : ∀ {b : Addr} {xs : List V}, H b = some (.tup xs) → H' b = some (.tup xs)
  f : ∀ {b : Addr} {o : Obj} {xs : List V}, H b = some (.frz o (.tup xs)) → H' b = some (.frz o (.tup xs))
theorem Tk.refl {H : Hp} : Tk H H := ⟨fun e => e, fun e => e⟩
theorem Tk.of {H H' : Hp} (h : Same H H') : Tk H H' := ⟨fun e => h _ _ e, fun e => h _ _ e⟩
theorem Tk.trans {H H1 H2 : Hp} (a : Tk H H1) (b : Tk H1 H2) : Tk H H2 := ⟨fun e => b.t (a.t e), fun e => b.f (a.f e)⟩
theorem Tk.fr {s A B : Addr} {c : Nat} {H H' : Hp} (f : Fr s A H H') (hS : StreamAt H s A B c) : Tk H H' := ⟨fun e => f.tup hS e, fun e => f.frz hS e⟩
theorem Tk.put {H H' : Hp} (a : Tk H H') {L : Addr} {xs : List V} {o : HO} (h : H' L = some (.lst xs)) : Tk H (upd H' L o) := by
  refine ⟨fun e => ?_, fun e => ?_⟩
  · rw [upd_ne (ne_of (a.t e) h (by intro z; cases z))]
    exact a.t e
  · rw [upd_ne (ne_of (a.f e) h (by intro z; cases z))]
    exact a.f e
theorem Tk.putD {H H' : Hp} (a : Tk H H') {L : Addr} {xs : List (Key × V)} {o : HO} (h : H' L = some (.dK xs)) : Tk H (upd H' L o) := by
  refine ⟨fun e => ?_, fun e => ?_⟩
  · rw [upd_ne (ne_of (a.t e) h (by intro z; cases z))]
    exact a.t e
  · rw [upd_ne (ne_of (a.f e) h (by intro z; cases z))]
    exact a.f e
theorem Tk.new {H H' : Hp} (a : Tk H H') {L : Addr} {o : HO} (h : H' L = none) : Tk H (upd H' L o) := a.trans (Tk.of (same_upd h))
theorem HouseAt.tk {H H' : Hp} {h : Addr} {n : Int} {D : List (Int × Int)} (x : HouseAt H h n D) (e : Tk H H') : HouseAt H' h n D := by
  obtain ⟨q, ps, h1, h2, h3, h4⟩ := x
  exact ⟨q, ps, e.t h1, e.t h2, h3, fun p hp => e.t (h4 p hp)⟩
theorem TpAt.tk {H H' : Hp} {p : Addr} {xs : List V} (x : TpAt H p xs) (e : Tk H H') : TpAt H' p xs := x.elim (fun h => .inl (e.t h)) fun ⟨o, d, h⟩ => .inr ⟨o, d, e.f h⟩
theorem PlAt.tk {H H' : Hp} {p : Addr} {P : List (Str × Int)} (x : PlAt H p P) (e : Tk H H') : PlAt H' p P := by
  obtain ⟨ps, h1, h2, h3⟩ := x
  exact ⟨ps, h1.tk e, h2, fun q hq => e.t (h3 q hq)⟩
theorem PlD.tk {H H' : Hp} {p : Addr} {P : List (Str × Int)} (x : PlD H p P) (e : Tk H H') : PlD H' p P := by
  obtain ⟨ps, o, d, h1, h2, h3⟩ := x
  exact ⟨ps, o, d, e.f h1, h2, fun q hq => e.t (h3 q hq)⟩
theorem get_pl {ps : List (Addr × Str × Int)} {i : Nat} {x : V} (h : (ps.map fun p => V.ref p.1)[i]? = some x) : ∃ p, ps[i]? = some p ∧ x = .ref p.1 := by
  rw [List.getElem?_map] at h
  cases e : ps[i]? with
  | none => rw [e] at h; cases h
  | some v => rw [e] at h; exact ⟨v, rfl, (Option.some.inj h).symm⟩
/-- a comprehension over a placement -/
theorem lc_pl {K : PySem.W.Frag} {p : Addr} {P : List (Str × Int)} {i j : Nat} {tt : TT} {te : TE} {vs : List Nat} {σ : L2.St} {H1 : Hp} {D : Addr} {Qd : Hp → Prop} (x : PlAt H1 p P) (Pv : Nat → Hp → Prop) (h0 : Pv 0 (upd H1 D (.lst []))) (hl : ∀ k H, Pv k H → Tk H1 H)
    (hs : ∀ k nm r H, P[k]? = some (nm, r) → Pv k H → wipe (((wipe σ vs).set i (some (.str nm))).set j (some (.int r))) vs = wipe σ vs ∧ tt (((wipe σ vs).set i (some (.str nm))).set j (some (.int r))) H fun b H3 =>
      if b = true then te (((wipe σ vs).set i (some (.str nm))).set j (some (.int r))) H3 fun y H4 => ∃ acc, H4 D = some (.lst acc) ∧ acc.length < sizeLine ∧ Pv (k + 1) (upd H4 D (.lst (acc ++ [y]))) else Pv (k + 1) H3) (hd : ∀ H, Pv P.length H → Qd H) :
    ∃ W : Nat → Nat → Hp → Prop, (∃ m, W 0 m (upd H1 D (.lst []))) ∧ ∀ k m H, W k m H →
      ((Itt K p).stop k H ∧ Qd H) ∨ ((Itt K p).go k H ∧ ∃ Nx : Hp → Prop, (∀ H', Nx H' → ∃ m', m' < m ∧ W (k + 1) m' H') ∧ ∀ x H', (Itt K p).yld k H x H' → gTup K 2 (gCons (gName i) (gCons (gName j) gNil)) x (wipe σ vs) H' fun σ2 H2 => wipe σ2 vs = wipe σ vs ∧ tt σ2 H2 fun b H3 =>
        if b = true then te σ2 H3 fun y H4 => ∃ acc, H4 D = some (.lst acc) ∧ acc.length < sizeLine ∧ Nx (upd H4 D (.lst (acc ++ [y]))) else Nx H3) := by
  obtain ⟨ps, h1, rfl, h3⟩ := x
  refine lc_tup (K := K) (a := p) (xs := ps.map fun q => V.ref q.1) Pv h0 (fun i H _ hp => (h1.tk (hl i H hp)).sq) (fun k x H hx hp => ?_) (fun H hp => hd H (by rw [List.length_map] at hp ⊢; exact hp))
  obtain ⟨q, hq, rfl⟩ := get_pl hx
  refine ⟨q.1, _, rfl, SqT.of ((hl k H hp).t (h3 q (List.mem_of_getElem? hq))), rfl, _, _, rfl, _, _, rfl, rfl, ?_⟩
  exact hs k q.2.1 q.2.2 H (by rw [List.getElem?_map, hq]; rfl) hp
/-- a loop over a placement -/
theorem for_pl {K : PySem.W.Frag} {p : Addr} {P : List (Str × Int)} {i j : Nat} {tb : TS} {D : Ends} {σ : L2.St} {H0 H : Hp} (x : PlAt H0 p P) (Pv : Nat → L2.St → Hp → Prop) (h0 : Pv 0 σ H) (hl : ∀ k σ H, Pv k σ H → Tk H0 H)
    (hs : ∀ k nm r σ H, P[k]? = some (nm, r) → Pv k σ H → tb { D with nx := Pv (k + 1), ct := Pv (k + 1), bk := D.nx } ((σ.set i (some (.str nm))).set j (some (.int r))) H) (hd : ∀ σ H, Pv P.length σ H → D.nx σ H) :
    ∃ W : Nat → Nat → L2.St → Hp → Prop, (∃ m, W 0 m σ H) ∧ ∀ k m σ H, W k m σ H →
      ((Itt K p).stop k H ∧ D.nx σ H) ∨ ((Itt K p).go k H ∧ ∃ N : L2.St → Hp → Prop, (∀ σ' H', N σ' H' → ∃ m', m' < m ∧ W (k + 1) m' σ' H') ∧ ∀ x H', (Itt K p).yld k H x H' → gTup K 2 (gCons (gName i) (gCons (gName j) gNil)) x σ H' fun σ2 H2 => tb { D with nx := N, ct := N, bk := D.nx } σ2 H2) := by
  obtain ⟨ps, h1, rfl, h3⟩ := x
  refine for_tup (K := K) (a := p) (xs := ps.map fun q => V.ref q.1) Pv h0 (fun i σ H _ hp => (h1.tk (hl i σ H hp)).sq) (fun k x σ H hx hp => ?_) (fun σ H hp => hd σ H (by rw [List.length_map] at hp ⊢; exact hp))
  obtain ⟨q, hq, rfl⟩ := get_pl hx
  refine ⟨q.1, _, rfl, SqT.of ((hl k σ H hp).t (h3 q (List.mem_of_getElem? hq))), rfl, _, _, rfl, _, _, rfl, rfl, ?_⟩
  exact hs k q.2.1 q.2.2 σ H (by rw [List.getElem?_map, hq]; rfl) hp
theorem PlAt.sq {K : PySem.W.Frag} {H : Hp} {p : Addr} {P : List (Str × Int)} (x : PlAt H p P) : ∃ xs, SqT K H p xs := by
  obtain ⟨ps, h1, _⟩ := x
  exact ⟨_, h1.sq⟩
theorem inV_vi (x : Int) (R : List Int) : inV (.int x) (vi R) = decide (x ∈ R) := by
  unfold inV
  rw [Bool.eq_iff_iff, List.any_eq_true, decide_eq_true_eq]
  constructor
  · rintro ⟨y, hy, e⟩
    obtain ⟨z, hz, rfl⟩ := List.mem_map.mp hy
    have : z = x := by simpa [eqV] using e
    exact this ▸ hz
  · intro h
    exact ⟨.int x, List.mem_map_of_mem h, by simp [eqV]⟩
theorem flat_vi (R : List Int) : (vi R).all flatV = true := by
  rw [List.all_eq_true]
  intro x hx
  obtain ⟨z, _, rfl⟩ := List.mem_map.mp hx
  rfl
theorem take_snoc {α : Type} {xs : List α} {k : Nat} {x : α} (h : xs[k]? = some x) : xs.take (k + 1) = xs.take k ++ [x] := by
  rw [List.take_add_one, h]
  rfl
theorem filter_snoc {α : Type} (f : α → Bool) (xs : List α) (x : α) : (xs ++ [x]).filter f = xs.filter f ++ if f x = true then [x] else [] := by
  rw [List.filter_append]
  congr 1
  by_cases c : f x = true
  · rw [if_pos c, List.filter_cons_of_pos c]
    rfl
  · rw [if_neg c, List.filter_cons_of_neg c]
    rfl
theorem lt_of_get {α : Type} {xs : List α} {k : Nat} {x : α} (h : xs[k]? = some x) : k < xs.length := (List.getElem?_eq_some_iff.mp h).1
theorem sqT_same {K : PySem.W.Frag} {H H' : Hp} {a : Addr} {xs : List V} (e : Same H H') (h : SqT K H a xs) : SqT K H' a xs :=
  h.imp (Or.imp (e a _) fun ⟨o, x⟩ => ⟨o, e a _ x⟩) id
end Fw
namespace Fw
open PySem PySem.Spec PyProof.Rows L2
/-- who is in the rooms R -/
def inside (P : List (Str × Int)) (R : List Int) : List Str := (P.filter fun x => decide (x.2 ∈ R)).map (·.1)
theorem inside_snoc {P : List (Str × Int)} {R : List Int} {k : Nat} {nm : Str} {r : Int} (h : P[k]? = some (nm, r)) : inside (P.take (k + 1)) R = inside (P.take k) R ++ if r ∈ R then [nm] else [] := by
  unfold inside
  rw [take_snoc h, filter_snoc, List.map_append]
  congr 1
  by_cases c : r ∈ R
  · rw [if_pos c, if_pos (by simpa using c)]
    rfl
  · rw [if_neg c, if_neg (by simpa using c)]
    rfl
theorem inside_len (P : List (Str × Int)) (R : List Int) : (inside P R).length ≤ P.length := by
  unfold inside
  rw [List.length_map]
  exact List.length_filter_le _ _
theorem inside_nil {P : List (Str × Int)} {R : List Int} : inside P R = [] ↔ ∀ x ∈ P, x.2 ∉ R := by
  unfold inside
  rw [List.map_eq_nil_iff, List.filter_eq_nil_iff]
  simp
theorem key_uniq {P : List (Str × Int)} (nd : (P.map (·.1)).Nodup) {x y : Str × Int} (hx : x ∈ P) (hy : y ∈ P) (e : x.1 = y.1) : x = y := by
  induction P with
  | nil => cases hx
  | cons z P ih =>
    rw [List.map_cons, List.nodup_cons] at nd
    rcases List.mem_cons.mp hx with h1 | h1 <;> rcases List.mem_cons.mp hy with h2 | h2
    · rw [h1, h2]
    · exact absurd (List.mem_map_of_mem (f := (·.1)) h2) (by rw [← e, h1]; exact nd.1)
    · exact absurd (List.mem_map_of_mem (f := (·.1)) h1) (by rw [e, h2]; exact nd.1)
    · exact ih nd.2 h1 h2
section
variable {P : Program} {w : World} {K : PySem.W.Frag} {mg : Str → Option Value} {base : Heap}
def spPWi (K : PySem.W.Frag) : Sp := fun vs H Q _ => ∃ (p t : Addr) (P : List (Str × Int)) (R : List Int), vs = [.ref p, .ref t] ∧ PlAt H p P ∧ SqT K H t (vi R) ∧ P.length ≤ 100 ∧
  ∀ H' u, Same H H' → H' u = some (.tup ((inside P R).map V.str)) → Q (.ref u) H'
abbrev nPWi : List Str := ["placement", "rooms", "name", "room"]
theorem scPWi : FnScope nPWi ["placement", "rooms"] (defScope sPWi) := ⟨rfl, rfl, rfl, by decide +kernel, rfl, by decide +kernel, by decide +kernel⟩
theorem ok_pwi {f : Addr} {fd : FuncData} {k : Nat} (F : Fun K "people_within" "people_within" sPWi f fd) (T : Nm mg) : FnOk P w K mg base CX0 (k + 1) f fd pPWi (spPWi K) := by
  refine F.ok scPWi (fun vs H Q E h => ?_) (fun cdv A outer s H vs Q E hr h => ?_)
  · obtain ⟨p, t, P, R, rfl, _⟩ := h
    rfl
  · obtain ⟨p, t, P, R, rfl, hP, hR, hl, q⟩ := h
    refine ⟨_, (pss_one (ps_ret (pe_callTy call_tuple_of (by rfl) T.tuple (by decide +kernel) (pa_cons (pe_lc (own := [("name", 2), ("room", 3)]) (g := gTup K 2 (gCons (gName 2) (gCons (gName 3) gNil))) (by rfl) scPWi.nd (pi_tup (pv 0))
 (blkOk_by (own := [("name", 2), ("room", 3)]) (N := nPWi) (sc := defScope sPWi) (by decide +kernel))
 (fun _ _ _ _ _ => (pg_tup (by rfl) (pgs_cons (pg_name (i := 2) scPWi.nd rfl (.inl rfl)) (pgs_cons (pg_name (i := 3) scPWi.nd rfl (.inl rfl)) pgs_nil)))) (fun _ _ _ _ _ => pts_one (pt_cmpR (op_inK K rfl) (pv 3) (pv 1) (by rfl))) (fun _ _ _ _ _ => (pv 2))) pa_nil)))), ?_⟩
    refine ⟨_, rfl, p, rfl, hP.sq, fun L hL => lc_pl hP (fun i H1 => Same H H1 ∧ H1 L = some (.lst ((inside (P.take i) R).map V.str))) ⟨same_upd hL, upd_same⟩ (fun _ _ h => Tk.of h.1) ?_ ?_⟩
    · rintro k nm r H1 hk ⟨s1, e1⟩
      refine ⟨rfl, _, rfl, _, rfl, t, _, rfl, .inr (sqT_same s1 hR), rfl, flat_vi R, _, rfl, ?_⟩
      rw [if_neg (by decide), inV_vi, inside_snoc hk]
      refine ite2 (fun c => ?_) (fun c => ?_)
      · rw [if_pos (of_decide_eq_true c)]
        refine ⟨_, rfl, _, e1, ?_, same_put s1 hL, ?_⟩
        · rw [List.length_map]
          have h1 := inside_len (P.take k) R
          rw [List.length_take] at h1
          exact small1000 (by omega)
        · rw [upd_same, vs_app]
          rfl
      · rw [if_neg (fun z => c (decide_eq_true z)), List.append_nil]
        exact ⟨s1, e1⟩
    · rintro H1 ⟨s1, e1⟩
      rw [List.take_length] at e1
      exact ⟨L, _, rfl, .inl ⟨SqL.of e1, fun t ht => q _ t (s1.trans (same_upd ht)) upd_same⟩⟩

def spPIn : Sp := fun vs H Q _ => ∃ (p : Addr) (P : List (Str × Int)) (r : Int), vs = [.ref p, .int r] ∧ PlAt H p P ∧ P.length ≤ 100 ∧
  ∀ H' u, Same H H' → H' u = some (.tup ((inside P [r]).map V.str)) → Q (.ref u) H'
abbrev nPIn : List Str := ["placement", "room"]
theorem scPIn : FnScope nPIn ["placement", "room"] (defScope sPIn) := ⟨rfl, rfl, rfl, by decide +kernel, rfl, by decide +kernel, by decide +kernel⟩
theorem ok_pin {f : Addr} {fd : FuncData} {k : Nat} (F : Fun K "people_in" "people_in" sPIn f fd) (T : Nm mg) (Cpeople_within : Cal P w K mg base (k + 1) "people_within" pPWi (spPWi K)) : FnOk P w K mg base CX0 (k + 2) f fd pPIn spPIn := by
  refine F.ok scPIn (fun vs H Q E h => ?_) (fun cdv A outer s H vs Q E hr h => ?_)
  · obtain ⟨p, P, r, rfl, _⟩ := h
    rfl
  · obtain ⟨p, P, r, rfl, hP, hl, q⟩ := h
    refine ⟨_, (pss_one (ps_ret (pe_cal Cpeople_within hr (by rfl) (pa_cons (pv 0) (pa_cons (pe_tup (pa_cons (pv 1) pa_nil)) pa_nil))))), ?_⟩
    refine ⟨_, rfl, _, rfl, by show 1 ≤ sizeLine; decide, fun t ht => ⟨p, t, P, [r], rfl, hP.same (same_upd ht), SqT.of upd_same, hl, fun H' u s1 e1 => q _ u ((same_upd ht).trans s1) e1⟩⟩

def spRoomOf : Sp := fun vs H Q _ => ∃ (p : Addr) (P : List (Str × Int)) (nm : Str) (r : Int), vs = [.ref p, .str nm] ∧ PlAt H p P ∧ (nm, r) ∈ P ∧ (P.map (·.1)).Nodup ∧ Q (.int r) H
abbrev nRoomOf : List Str := ["placement", "name", "person", "room"]
theorem scRoomOf : FnScope nRoomOf ["placement", "name"] (defScope sRoomOf) := ⟨rfl, rfl, rfl, by decide +kernel, rfl, by decide +kernel, by decide +kernel⟩
theorem ok_roomof {f : Addr} {fd : FuncData} {k : Nat} (F : Fun K "room_of" "room_of" sRoomOf f fd) : FnOk P w K mg base CX0 (k + 1) f fd pRoomOf spRoomOf := by
  refine F.ok scRoomOf (fun vs H Q E h => ?_) (fun cdv A outer s H vs Q E hr h => ?_)
  · obtain ⟨p, P, nm, r, rfl, _⟩ := h
    rfl
  · obtain ⟨p, P, nm, r, rfl, hP, hm, nd, q⟩ := h
    refine ⟨_, (pss_cons (ps_for PassesOwn.never rfl (pi_tup (pv 0)) (pg_tup (by rfl) (pgs_cons (pg_name (i := 2) scRoomOf.nd rfl (.inl rfl)) (pgs_cons (pg_name (i := 3) scRoomOf.nd rfl (.inl rfl)) pgs_nil)))
      (pss_one (ps_if (pt_cmpR op_eq (pv 2) (pv 1) (nomark _))
       (pss_one (ps_ret (pv 3)))
       pss_nil)))
      pss_never), ?_⟩
    refine ⟨_, rfl, p, rfl, hP.sq, for_pl hP (fun i σ' H' => ∃ y2 y3, σ' = [some (.ref p), some (.str nm), y2, y3] ∧ H' = H ∧ ∀ x ∈ P.take i, x.1 ≠ nm) ⟨_, _, rfl, rfl, fun x hx => by cases hx⟩ ?_ ?_ ?_⟩
    · rintro k σ' H' ⟨_, _, _, rfl, _⟩
      exact Tk.refl
    · rintro k n' r' σ' H' hk ⟨y2, y3, rfl, rfl, hn⟩
      refine ⟨_, rfl, _, rfl, rfl, _, rfl, ?_⟩
      refine ite2 (fun c => ?_) (fun c => ?_)
      · have c : n' = nm := V.str.inj (of_decide_eq_true c)
        subst c
        have := key_uniq nd (List.mem_of_getElem? hk) hm rfl
        cases this
        exact ⟨_, rfl, q⟩
      · refine ⟨_, _, rfl, rfl, fun x hx => ?_⟩
        rw [take_snoc hk, List.mem_append] at hx
        rcases hx with hx | hx
        · exact hn x hx
        · rw [List.mem_singleton.mp hx]
          exact fun e => c (decide_eq_true (by rw [show n' = nm from e]))
    · rintro σ' H' ⟨y2, y3, rfl, rfl, hn⟩
      rw [List.take_length] at hn
      exact absurd rfl (hn _ hm)
end
end Fw
namespace Fw
open PySem PySem.Spec PyProof.Rows L2
/-! ### a list of pairs (name, room) -/
def LsAt (H : Hp) (l : Addr) (X : List (Str × Int)) : Prop := ∃ ps : List (Addr × Str × Int), H l = some (.lst (ps.map fun q => V.ref q.1)) ∧ X = ps.map (·.2) ∧ ∀ q ∈ ps, H q.1 = some (.tup [.str q.2.1, .int q.2.2])
theorem LsAt.nil {H : Hp} {l : Addr} (h : H l = some (.lst [])) : LsAt H l [] := ⟨[], h, rfl, fun q hq => absurd hq List.not_mem_nil⟩
theorem LsAt.same {H H' : Hp} {l : Addr} {X : List (Str × Int)} (x : LsAt H l X) (e : Same H H') : LsAt H' l X := by
  obtain ⟨ps, h1, h2, h3⟩ := x
  exact ⟨ps, e _ _ h1, h2, fun q hq => e _ _ (h3 q hq)⟩
theorem LsAt.fr {s A B : Addr} {c : Nat} {H H' : Hp} {l : Addr} {X : List (Str × Int)} (x : LsAt H l X) (hS : StreamAt H s A B c) (e : Fr s A H H') (z : s ≠ l ∧ A ≠ l ∧ B ≠ l) : LsAt H' l X := by
  obtain ⟨ps, h1, h2, h3⟩ := x
  exact ⟨ps, e _ _ z.1.symm z.2.1.symm h1, h2, fun q hq => e.tup hS (h3 q hq)⟩
theorem LsAt.snoc {H : Hp} {l t : Addr} {X : List (Str × Int)} {a : Str} {b : Int} (x : LsAt H l X) (ht : H t = some (.tup [.str a, .int b])) : ∃ acc, H l = some (.lst acc) ∧ acc.length = X.length ∧ LsAt (upd H l (.lst (acc ++ [.ref t]))) l (X ++ [(a, b)]) := by
  obtain ⟨ps, h1, h2, h3⟩ := x
  refine ⟨_, h1, by rw [h2, List.length_map, List.length_map], ps ++ [(t, a, b)], ?_, by rw [h2, List.map_append]; rfl, fun q hq => ?_⟩
  · rw [upd_same, List.map_append]
    rfl
  · have : H q.1 = some (.tup [.str q.2.1, .int q.2.2]) := by
      rcases List.mem_append.mp hq with hq | hq
      · exact h3 q hq
      · rw [List.mem_singleton.mp hq]
        exact ht
    rw [upd_ne (ne_of this h1 (by intro z; cases z))]
    exact this
theorem LsAt.tup {H : Hp} {l : Addr} {X : List (Str × Int)} (x : LsAt H l X) : ∃ xs, H l = some (.lst xs) ∧ ∀ (t : Addr) (ob : Obj), H t = none → ob.dict = none → PlD (upd H t (.frz ob (.tup xs))) t X := by
  obtain ⟨ps, h1, h2, h3⟩ := x
  exact ⟨_, h1, fun t ob ht od => ⟨ps, ob, od, upd_same, h2, fun q hq => same_upd ht _ _ (h3 q hq)⟩⟩
/-- the placement after a move -/
def mvd (P : List (Str × Int)) (nm : Str) (r : Int) : List (Str × Int) := P.map fun x => (x.1, if x.1 = nm then r else x.2)
theorem mvd_len (P : List (Str × Int)) (nm : Str) (r : Int) : (mvd P nm r).length = P.length := by unfold mvd; rw [List.length_map]
theorem mvd_names (P : List (Str × Int)) (nm : Str) (r : Int) : (mvd P nm r).map (·.1) = P.map (·.1) := by
  unfold mvd
  rw [List.map_map]
  rfl
theorem mvd_get {P : List (Str × Int)} {nm : Str} {r : Int} {k : Nat} {n' : Str} {r' : Int} (h : P[k]? = some (n', r')) : (mvd P nm r)[k]? = some (n', if n' = nm then r else r') := by
  unfold mvd
  rw [List.getElem?_map, h]
  rfl
theorem Pl.mvd {n : Int} {P : List (Str × Int)} (h : Pl n P) {nm : Str} {r : Int} (h0 : 0 ≤ r) (h1 : r < n) : Pl n (mvd P nm r) := by
  refine ⟨by rw [mvd_names]; exact h.nm, fun x hx => ?_⟩
  obtain ⟨y, hy, rfl⟩ := List.mem_map.mp hx
  show 0 ≤ (if y.1 = nm then r else y.2) ∧ (if y.1 = nm then r else y.2) < n
  split
  · exact ⟨h0, h1⟩
  · exact h.rm y hy
/-- all moves -/
def mvs (n : Int) (D : List (Int × Int)) (P : List (Str × Int)) (X : List (Str × Int)) : List (Str × Int) := X.flatMap fun x => ((nb n D x.2).filter fun t => decide (t ∈ P.map (·.2))).map fun t => (x.1, t)
theorem str_dec (a b : Str) : decide (V.str a = V.str b) = decide (a = b) := by
  rw [Bool.eq_iff_iff, decide_eq_true_eq, decide_eq_true_eq]
  exact ⟨V.str.inj, fun e => by rw [e]⟩
theorem k_ii' : kitB "int" "int" = some true := by decide +kernel
theorem k_ib' : kitB "int" "bool" = some false := by decide +kernel
section
variable {P : Program} {w : World} {K : PySem.W.Frag} {mg : Str → Option Value} {base : Heap}
def spIsIntI : Sp := fun vs H Q _ => ∃ (i : Int), vs = [.int i] ∧ Q (.bl true) H
abbrev nIsInt : List Str := ["value"]
theorem scIsInt : FnScope nIsInt ["value"] (defScope sIsInt) := ⟨rfl, rfl, rfl, by decide +kernel, rfl, by decide +kernel, by decide +kernel⟩
theorem ok_isint {f : Addr} {fd : FuncData} {k : Nat} (F : Fun K "is_integer" "is_integer" sIsInt f fd) (T : Nm mg) : FnOk P w K mg base CX0 (k + 1) f fd pIsInt spIsIntI := by
  refine F.ok scIsInt (fun vs H Q E h => ?_) (fun cdv A outer s H vs Q E hr h => ?_)
  · obtain ⟨i, rfl, _⟩ := h
    rfl
  · obtain ⟨i, rfl, q⟩ := h
    refine ⟨_, (pss_one (ps_ret (pe_and (pe_callB call_isi (by rfl) T.isinstance (by decide +kernel) (pa_cons (pv 0) (pa_cons (pe_bltn (v := .ty "int") (by rfl) T.int (by decide +kernel) rfl) pa_nil))) (pe_one (pe_not (pe_callB call_isi (by rfl) T.isinstance (by decide +kernel) (pa_cons (pv 0) (pa_cons (pe_bltn (v := .ty "bool") (by rfl) T.bool (by decide +kernel) rfl) pa_nil)))))))), ?_⟩
    exact ⟨_, rfl, _, _, _, _, _, rfl, .ty _, .base (.int _), kit_ty k_ii', _, rfl, iteT ⟨_, rfl, _, _, _, _, _, rfl, .ty _, .base (.int _), kit_ty k_ib', _, rfl, q⟩⟩
def spIsRoom : Sp := fun vs H Q _ => ∃ (h : Addr) (n : Int) (D : List (Int × Int)) (i : Int), vs = [.ref h, .int i] ∧ HouseAt H h n D ∧ Q (.bl (decide (0 ≤ i ∧ i < n))) H
abbrev nIsRoom : List Str := ["house", "value"]
theorem scIsRoom : FnScope nIsRoom ["house", "value"] (defScope sIsRoom) := ⟨rfl, rfl, rfl, by decide +kernel, rfl, by decide +kernel, by decide +kernel⟩
theorem ok_isroom {f : Addr} {fd : FuncData} {k : Nat} (F : Fun K "is_room" "is_room" sIsRoom f fd) (T : Nm mg) (Cis_integer : Cal P w K mg base (k + 1) "is_integer" pIsInt spIsIntI) : FnOk P w K mg base CX0 (k + 2) f fd pIsRoom spIsRoom := by
  refine F.ok scIsRoom (fun vs H Q E h => ?_) (fun cdv A outer s H vs Q E hr h => ?_)
  · obtain ⟨h, n, D, i, rfl, _⟩ := h
    rfl
  · obtain ⟨h, n, D, i, rfl, hH, q⟩ := h
    refine ⟨_, (pss_one (ps_ret (pe_and (pe_cal Cis_integer hr (by rfl) (pa_cons (pv 1) pa_nil)) (pe_one (pe_chain op_le op_lt pe_int (pv 1) (pe_ix (ix_tupK K rfl) (pv 0) pe_int (fun _ _ => rfl))))))), ?_⟩
    obtain ⟨qd, eh⟩ := hH.room0
    refine ⟨_, rfl, i, rfl, _, rfl, iteT ⟨_, rfl, _, _, rfl, rfl, _, rfl, ?_⟩⟩
    refine ite2 (fun c => ?_) (fun c => ?_)
    · refine ⟨_, rfl, h, _, _, _, rfl, rfl, SqT.of eh, atI0, _, _, rfl, rfl, ?_⟩
      have c : 0 ≤ i := of_decide_eq_true c
      rw [show decide (0 ≤ i ∧ i < n) = decide (i < n) by simp [c]] at q
      exact q
    · have c : ¬ 0 ≤ i := fun e => c (decide_eq_true e)
      rw [show decide (0 ≤ i ∧ i < n) = false by simp [c]] at q
      exact q
def spWith : Sp := fun vs H Q _ => ∃ (p : Addr) (P : List (Str × Int)) (nm : Str) (r : Int), vs = [.ref p, .str nm, .int r] ∧ PlAt H p P ∧ P.length ≤ 100 ∧ ∀ H' u, Same H H' → PlD H' u (mvd P nm r) → Q (.ref u) H'
abbrev nWith : List Str := ["placement", "name", "room", "person", "other"]
theorem scWith : FnScope nWith ["placement", "name", "room"] (defScope sWith) := ⟨rfl, rfl, rfl, by decide +kernel, rfl, by decide +kernel, by decide +kernel⟩
theorem ok_with {f : Addr} {fd : FuncData} {k : Nat} (F : Fun K "with_person_in" "with_person_in" sWith f fd) (T : Nm mg) : FnOk P w K mg base CX0 (k + 1) f fd pWith spWith := by
  refine F.ok scWith (fun vs H Q E h => ?_) (fun cdv A outer s H vs Q E hr h => ?_)
  · obtain ⟨p, P, nm, r, rfl, _⟩ := h
    rfl
  · obtain ⟨p, P, nm, r, rfl, hP, lP, q⟩ := h
    refine ⟨_, (pss_one (ps_ret (pe_callTy (call_tupleF K rfl) (by rfl) T.tuple (by decide +kernel) (pa_cons (pe_lc (own := [("person", 3), ("other", 4)]) (g := gTup K 2 (gCons (gName 3) (gCons (gName 4) gNil))) (by rfl) scWith.nd (pi_tup (pv 0))
 (blkOk_by (own := [("person", 3), ("other", 4)]) (N := nWith) (sc := defScope sWith) (by decide +kernel))
 (fun _ _ _ _ _ => (pg_tup (by rfl) (pgs_cons (pg_name (i := 3) scWith.nd rfl (.inl rfl)) (pgs_cons (pg_name (i := 4) scWith.nd rfl (.inl rfl)) pgs_nil)))) (fun _ _ _ _ _ => pts_nil) (fun _ _ _ _ _ => (pe_tup (pa_cons (pv 3) (pa_cons (pe_ifExp (pt_cmpR op_eq (pv 3) (pv 1) (nomark _)) (pv 2) (pv 4)) pa_nil))))) pa_nil)))), ?_⟩
    refine ⟨_, rfl, p, rfl, hP.sq, fun L hL => lc_pl hP (fun i H1 => Same H H1 ∧ LsAt H1 L ((mvd P nm r).take i)) ⟨same_upd hL, .nil upd_same⟩ (fun _ _ h => Tk.of h.1) ?_ ?_⟩
    · rintro k n' r' H3 hk ⟨s3, e3⟩
      refine ⟨rfl, ?_⟩
      unfold tYes
      refine iteT ⟨_, rfl, _, rfl, _, rfl, rfl, _, rfl, ?_⟩
      rw [str_dec]
      have go : ∀ (v : Int), v = (if n' = nm then r else r') → ∀ t, H3 t = none → ∃ acc, (upd H3 t (.tup [.str n', .int v])) L = some (.lst acc) ∧ acc.length < sizeLine ∧ Same H (upd (upd H3 t (.tup [.str n', .int v])) L (.lst (acc ++ [.ref t]))) ∧ LsAt (upd (upd H3 t (.tup [.str n', .int v])) L (.lst (acc ++ [.ref t]))) L ((mvd P nm r).take (k + 1)) := by
        rintro v rfl t ht
        have sm := (same_upd (o := .tup [V.str n', V.int (if n' = nm then r else r')]) ht)
        obtain ⟨acc, e4, l4, e5⟩ := (e3.same sm).snoc (t := t) upd_same
        refine ⟨acc, e4, ?_, same_put (s3.trans sm) hL, ?_⟩
        · rw [l4, List.length_take, mvd_len]
          exact small1000 (by omega)
        · rw [take_snoc (mvd_get hk)]
          exact e5
      refine ite2 (fun c => ?_) (fun c => ?_)
      · have c : n' = nm := of_decide_eq_true c
        exact ⟨_, rfl, by show 2 ≤ sizeLine; decide, fun t ht => go r (by rw [if_pos c]) t ht⟩
      · have c : ¬ n' = nm := fun e => c (decide_eq_true e)
        exact ⟨_, rfl, by show 2 ≤ sizeLine; decide, fun t ht => go r' (by rw [if_neg c]) t ht⟩
    · rintro H3 ⟨s3, e3⟩
      rw [← mvd_len P nm r, List.take_length] at e3
      obtain ⟨xs, e4, e5⟩ := e3.tup
      exact ⟨L, _, rfl, SqL.of e4, fun t ob ht od => q _ t (s3.trans (same_upd ht)) (e5 t ob ht od)⟩
def spMove : Sp := fun vs H Q _ => ∃ (h p : Addr) (n : Int) (D : List (Int × Int)) (P : List (Str × Int)) (nm : Str) (r c : Int), vs = [.ref h, .ref p, .str nm, .int r] ∧ HouseAt H h n D ∧ Forest n D ∧ 0 ≤ n ∧ n ≤ 8 ∧ PlAt H p P ∧ Pl n P ∧ P.length ≤ 100 ∧ (nm, c) ∈ P ∧ r ∈ nb n D c ∧ r ∈ P.map (·.2) ∧
  ∀ H' u, Same H H' → PlD H' u (mvd P nm r) → Q (.ref u) H'
abbrev nMove : List Str := ["house", "placement", "name", "room", "current"]
theorem scMove : FnScope nMove ["house", "placement", "name", "room"] (defScope sMove) := ⟨rfl, rfl, rfl, by decide +kernel, rfl, by decide +kernel, by decide +kernel⟩
theorem ok_move {f : Addr} {fd : FuncData} {k : Nat} (F : Fun K "move_person" "move_person" sMove f fd) (T : Nm mg) (Croom_of : Cal P w K mg base (k + 2) "room_of" pRoomOf spRoomOf) (Cis_room : Cal P w K mg base (k + 2) "is_room" pIsRoom spIsRoom)
    (Cneighbors : Cal P w K mg base (k + 2) "neighbors" ["house", "room"] spNb) (Cpeople_in : Cal P w K mg base (k + 2) "people_in" pPIn spPIn) (Cwith : Cal P w K mg base (k + 2) "with_person_in" pWith spWith) : FnOk P w K mg base CX0 (k + 3) f fd pMove spMove := by
  refine F.ok scMove (fun vs H Q E h => ?_) (fun cdv A outer s H vs Q E hr h => ?_)
  · obtain ⟨h, p, n, D, P, nm, r, c, rfl, _⟩ := h
    rfl
  · obtain ⟨h, p, n, D, P, nm, r, c, rfl, hH, hF, n0, n1, hP, pl, lP, hm, hr1, hr2, q⟩ := h
    refine ⟨_, (pss_cons (ps_set (i := 4) scMove.nd rfl (.inl rfl) (pe_cal Croom_of hr (by rfl) (pa_cons (pv 1) (pa_cons (pv 2) pa_nil))))
      (pss_cons (ps_if (pt_not (pt_val (pe_cal Cis_room hr (by rfl) (pa_cons (pv 0) (pa_cons (pv 3) pa_nil)))))
      pss_never
      pss_nil)
      (pss_cons (ps_if (pt_cmpR (op_notInK K rfl) (pv 3) (pe_cal Cneighbors hr (by rfl) (pa_cons (pv 0) (pa_cons (pv 4) pa_nil))) (by rfl))
      pss_never
      pss_nil)
      (pss_cons (ps_if (pt_not (pt_truthK K rfl (pe_cal Cpeople_in hr (by rfl) (pa_cons (pv 1) (pa_cons (pv 3) pa_nil))) (by intro _; rfl)))
      pss_never
      pss_nil)
      (pss_one (ps_ret (pe_cal Cwith hr (by rfl) (pa_cons (pv 1) (pa_cons (pv 2) (pa_cons (pv 3) pa_nil)))))))))), ?_⟩
    obtain ⟨y, hy, ey⟩ := List.mem_map.mp hr2
    have rr : 0 ≤ r ∧ r < n := by rw [← ey]; exact pl.rm y hy
    refine ⟨_, rfl, _, rfl, p, P, nm, c, rfl, hP, hm, pl.nodup, ?_⟩
    refine ⟨_, rfl, _, rfl, h, n, D, r, rfl, hH, _, rfl, ?_⟩
    rw [decide_eq_true rr]
    refine iteF ⟨_, rfl, _, rfl, _, rfl, h, n, D, c, rfl, hH, hF, fun H1 t s1 e1 => ⟨t, _, rfl, .inr (SqT.of e1), rfl, flat_vi _, _, rfl, ?_⟩⟩
    rw [if_pos rfl, inV_vi, decide_eq_true hr1]
    refine iteF ⟨_, rfl, _, rfl, p, P, r, rfl, hP.same s1, lP, fun H2 u s2 e2 => ⟨_, .inr (.inl ⟨_, SqT.of e2, rfl⟩), ?_⟩⟩
    have ne : inside P [r] ≠ [] := fun e => (inside_nil.mp e) y hy (by rw [ey]; exact List.mem_singleton.mpr rfl)
    have ne' : ((inside P [r]).map V.str).isEmpty = false := by
      rw [List.isEmpty_eq_false_iff]
      exact fun e => ne (List.map_eq_nil_iff.mp e)
    rw [ne']
    have s2 := s1.trans s2
    exact iteF ⟨_, rfl, _, rfl, _, rfl, p, P, nm, r, rfl, hP.same s2, lP, fun H3 u s3 e3 => q _ u (s2.trans s3) e3⟩
end
end Fw
namespace Fw
open PySem PySem.Spec PyProof.Rows L2
theorem mvs_snoc {n : Int} {D : List (Int × Int)} {P X : List (Str × Int)} {k : Nat} {nm : Str} {r : Int} (h : X[k]? = some (nm, r)) : mvs n D P (X.take (k + 1)) = mvs n D P (X.take k) ++ ((nb n D r).filter fun t => decide (t ∈ P.map (·.2))).map fun t => (nm, t) := by
  unfold mvs
  rw [take_snoc h, List.flatMap_append]
  congr 1
  show List.flatMap _ [(nm, r)] = _
  rw [List.flatMap_cons, List.flatMap_nil, List.append_nil]
theorem mvs_len (n : Int) (D : List (Int × Int)) (P X : List (Str × Int)) (n1 : n ≤ 8) : (mvs n D P X).length ≤ 8 * X.length := by
  unfold mvs
  induction X with
  | nil => exact Nat.le_refl _
  | cons x X ih =>
    rw [List.flatMap_cons, List.length_append, List.length_map, List.length_cons]
    have h1 := List.length_filter_le (fun t => decide (t ∈ P.map (·.2))) (nb n D x.2)
    have h2 := nb_len n D x.2
    omega
theorem LsAt.app {H : Hp} {l m : Addr} {X Y : List (Str × Int)} (x : LsAt H l X) (y : LsAt H m Y) : ∃ xs ys, H l = some (.lst xs) ∧ H m = some (.lst ys) ∧ xs.length = X.length ∧ ys.length = Y.length ∧ LsAt (upd H l (.lst (xs ++ ys))) l (X ++ Y) := by
  obtain ⟨ps, h1, h2, h3⟩ := x
  obtain ⟨qs, g1, g2, g3⟩ := y
  refine ⟨_, _, h1, g1, by rw [h2, List.length_map, List.length_map], by rw [g2, List.length_map, List.length_map], ps ++ qs, ?_, by rw [h2, g2, List.map_append], fun q hq => ?_⟩
  · rw [upd_same, List.map_append]
  · have : H q.1 = some (.tup [.str q.2.1, .int q.2.2]) := by
      rcases List.mem_append.mp hq with hq | hq
      · exact h3 q hq
      · exact g3 q hq
    rw [upd_ne (ne_of this h1 (by intro z; cases z))]
    exact this
theorem rooms_snoc {P : List (Str × Int)} {k : Nat} {nm : Str} {r : Int} (h : P[k]? = some (nm, r)) : (P.take (k + 1)).map (·.2) = (P.take k).map (·.2) ++ [r] := by
  rw [take_snoc h, List.map_append]
  rfl
theorem mvs_mem {n : Int} {D : List (Int × Int)} {P X : List (Str × Int)} {nm : Str} {t : Int} (h : (nm, t) ∈ mvs n D P X) : ∃ c, (nm, c) ∈ X ∧ t ∈ nb n D c ∧ t ∈ P.map (·.2) := by
  unfold mvs at h
  obtain ⟨x, hx, h⟩ := List.mem_flatMap.mp h
  obtain ⟨t', ht, e⟩ := List.mem_map.mp h
  cases e
  obtain ⟨h1, h2⟩ := List.mem_filter.mp ht
  exact ⟨x.2, hx, h1, of_decide_eq_true h2⟩
/-- a loop over a list of pairs -/
theorem for_ls {K : PySem.W.Frag} {l : Addr} {X : List (Str × Int)} {i j : Nat} {tb : TS} {D : Ends} {σ : L2.St} {H0 H : Hp} (x : LsAt H0 l X) (Pv : Nat → L2.St → Hp → Prop) (h0 : Pv 0 σ H) (hl : ∀ k σ H, Pv k σ H → Same H0 H)
    (hs : ∀ k nm r σ H, X[k]? = some (nm, r) → Pv k σ H → tb { D with nx := Pv (k + 1), ct := Pv (k + 1), bk := D.nx } ((σ.set i (some (.str nm))).set j (some (.int r))) H) (hd : ∀ σ H, Pv X.length σ H → D.nx σ H) :
    ∃ W : Nat → Nat → L2.St → Hp → Prop, (∃ m, W 0 m σ H) ∧ ∀ k m σ H, W k m σ H →
      ((Itl K l).stop k H ∧ D.nx σ H) ∨ ((Itl K l).go k H ∧ ∃ N : L2.St → Hp → Prop, (∀ σ' H', N σ' H' → ∃ m', m' < m ∧ W (k + 1) m' σ' H') ∧ ∀ x H', (Itl K l).yld k H x H' → gTup K 2 (gCons (gName i) (gCons (gName j) gNil)) x σ H' fun σ2 H2 => tb { D with nx := N, ct := N, bk := D.nx } σ2 H2) := by
  obtain ⟨ps, h1, rfl, h3⟩ := x
  refine for_list (K := K) (a := l) (xs := ps.map fun q => V.ref q.1) Pv h0 (fun i σ H _ hp => SqL.of (hl i σ H hp _ _ h1)) (fun k x σ H hx hp => ?_) (fun σ H hp => hd σ H (by rw [List.length_map] at hp ⊢; exact hp))
  obtain ⟨q, hq, rfl⟩ := get_pl hx
  refine ⟨q.1, _, rfl, SqT.of (hl k σ H hp _ _ (h3 q (List.mem_of_getElem? hq))), rfl, _, _, rfl, _, _, rfl, rfl, ?_⟩
  exact hs k q.2.1 q.2.2 σ H (by rw [List.getElem?_map, hq]; rfl) hp
theorem LsAt.sq {K : PySem.W.Frag} {H : Hp} {l : Addr} {X : List (Str × Int)} (x : LsAt H l X) : ∃ xs, SqL K H l xs ∧ xs.length = X.length := by
  obtain ⟨ps, h1, h2, _⟩ := x
  exact ⟨_, SqL.of h1, by rw [h2, List.length_map, List.length_map]⟩
theorem LsAt.at {K : PySem.W.Frag} {H : Hp} {l : Addr} {X : List (Str × Int)} (x : LsAt H l X) {r : Int} (h0 : 0 ≤ r) (h1 : r < (X.length : Nat)) : ∃ xs t nm v, SqL K H l xs ∧ atI xs r = some (.ref t) ∧ H t = some (.tup [.str nm, .int v]) ∧ (nm, v) ∈ X := by
  obtain ⟨ps, e1, e2, e3⟩ := x
  have hj : r.toNat < ps.length := by rw [e2, List.length_map] at h1; omega
  have hm := List.getElem_mem hj
  refine ⟨_, ps[r.toNat].1, ps[r.toNat].2.1, ps[r.toNat].2.2, SqL.of e1, ?_, e3 _ hm, by rw [e2]; exact List.mem_map_of_mem (f := (·.2)) hm⟩
  have := atI_nat (xs := ps.map fun q => V.ref q.1) (j := r.toNat) (v := V.ref ps[r.toNat].1) (by rw [List.getElem?_map, List.getElem?_eq_getElem hj]; rfl)
  rw [show ((r.toNat : Nat) : Int) = r by omega] at this
  exact this
end Fw
namespace Fw
open PySem PySem.Spec PyProof.Rows L2

/-- what a dict of rooms holds at a room -/
def lk (kvs : List (Key × V)) (v : Int) : Option V := valV kvs (Sum.inl v)
theorem lk_put (kvs : List (Key × V)) (k j : Int) (y : V) : lk (putK kvs (Sum.inl k) y) j = if j = k then some y else lk kvs j := by
  unfold lk
  rw [valV_put]
  by_cases e : j = k
  · rw [if_pos e, if_pos (by rw [e])]
  · rw [if_neg e, if_neg (fun z => e (Sum.inl.inj z))]
def isK (kvs : List (Key × V)) (v : Int) : Bool := (lk kvs v).isSome
theorem isK_put (kvs : List (Key × V)) (k j : Int) (y : V) : isK (putK kvs (Sum.inl k) y) j = (decide (j = k) || isK kvs j) := by
  unfold isK
  rw [lk_put]
  by_cases e : j = k
  · rw [if_pos e, decide_eq_true e]; rfl
  · rw [if_neg e, decide_eq_false e]; rfl

/-- the way from a room along the steps -/
inductive Ch (D : List (Int × Int)) (L : Int → Option V) (g : Int) : Int → List Int → Prop
  | goal : L g = some .non → Ch D L g g [g]
  | step {v u : Int} {p : List Int} : L v = some (.int u) → adj D v u → Ch D L g u p → v ∉ p → Ch D L g v (v :: p)
theorem Ch.mono {D : List (Int × Int)} {L L' : Int → Option V} {g v : Int} {p : List Int} (h : Ch D L g v p) (m : ∀ y x, L y = some x → L' y = some x) : Ch D L' g v p := by
  induction h with
  | goal e => exact .goal (m _ _ e)
  | step e a _ n ih => exact .step (m _ _ e) a ih n
theorem Ch.keys {D : List (Int × Int)} {L : Int → Option V} {g v : Int} {p : List Int} (h : Ch D L g v p) : ∀ y ∈ p, (L y).isSome = true := by
  induction h with
  | goal e =>
    intro y hy
    rw [List.mem_singleton.mp hy, e]
    rfl
  | step e _ _ _ ih =>
    intro y hy
    rcases List.mem_cons.mp hy with rfl | hy
    · rw [e]; rfl
    · exact ih y hy
theorem Ch.sp {D : List (Int × Int)} {L : Int → Option V} {g v : Int} {p : List Int} (h : Ch D L g v p) : SP (adj D) v g p := by
  induction h with
  | goal _ => exact .one _
  | step _ a _ n ih => exact .cons a ih n

/-- the dict of steps, at any time -/
structure SInv (n : Int) (D : List (Int × Int)) (R : List Int) (g : Int) (kvs : List (Key × V)) : Prop where
  goal : lk kvs g = some .non
  way : ∀ v x, lk kvs v = some x → ∃ p, Ch D (lk kvs) g v p
  rng : ∀ v, isK kvs v = true → v = g ∨ v ∈ R
  keys : ∃ ks : List Int, kvs.map (·.1) = ks.map Sum.inl ∧ ks.Nodup ∧ ∀ v, v ∈ ks ↔ isK kvs v = true
  len : kvs.length + left n.toNat (isK kvs) ≤ n.toNat + 1
theorem SInv.start {n g : Int} {D : List (Int × Int)} {R : List Int} : SInv n D R g [(Sum.inl g, V.non)] := by
  have e0 : ∀ v, lk [(Sum.inl g, V.non)] v = if v = g then some .non else none := fun v => by
    unfold lk
    by_cases e : v = g
    · rw [if_pos e, e]; exact valV_pos rfl
    · rw [if_neg e, valV_neg (fun z => e (Sum.inl.inj z).symm)]; rfl
  have e1 : lk [(Sum.inl g, V.non)] g = some .non := by rw [e0, if_pos rfl]
  have e2 : ∀ v, isK [(Sum.inl g, V.non)] v = true → v = g := fun v h => by
    unfold isK at h
    rw [e0] at h
    by_cases e : v = g
    · exact e
    · rw [if_neg e] at h; cases h
  refine ⟨e1, fun v x h => ?_, fun v h => .inl (e2 v h), ⟨[g], rfl, by simp, fun v => ⟨fun h => ?_, fun h => ?_⟩⟩, ?_⟩
  · have : isK [(Sum.inl g, V.non)] v = true := by unfold isK; rw [h]; rfl
    rw [e2 v this]
    exact ⟨[g], .goal e1⟩
  · rw [List.mem_singleton.mp h]; unfold isK; rw [e1]; rfl
  · rw [e2 v h]; simp
  · have := left_le n.toNat (isK [(Sum.inl g, V.non)])
    simp only [List.length_cons, List.length_nil]
    omega
theorem SInv.put {n g o v : Int} {D : List (Int × Int)} {R : List Int} {kvs : List (Key × V)} (S : SInv n D R g kvs) (hv : isK kvs v = true) (ho : isK kvs o = false) (a : adj D v o) (hR : o ∈ R) (h0 : 0 ≤ o) (h1 : o < n) :
    SInv n D R g (putK kvs (Sum.inl o) (.int v)) ∧ left n.toNat (isK (putK kvs (Sum.inl o) (.int v))) < left n.toNat (isK kvs) := by
  have eo : lk kvs o = none := by
    unfold isK at ho
    cases e : lk kvs o with
    | none => rfl
    | some x => rw [e] at ho; cases ho
  have m : ∀ y x, lk kvs y = some x → lk (putK kvs (Sum.inl o) (.int v)) y = some x := fun y x h => by
    rw [lk_put, if_neg (fun e => ?_)]
    · exact h
    · rw [e, eo] at h; cases h
  have hl : left n.toNat (isK (putK kvs (Sum.inl o) (.int v))) < left n.toNat (isK kvs) := by
    refine left_lt (o := o) (fun x hx => ?_) h0 (by omega) ho ?_
    · rw [isK_put, hx, Bool.or_true]
    · rw [isK_put, decide_eq_true rfl, Bool.true_or]
  refine ⟨⟨m _ _ S.goal, fun y x h => ?_, fun y h => ?_, ?_, ?_⟩, hl⟩
  · rw [lk_put] at h
    by_cases e : y = o
    · subst e
      cases hx : lk kvs v with
      | none => unfold isK at hv; rw [hx] at hv; cases hv
      | some z =>
        obtain ⟨p, hp⟩ := S.way v z hx
        refine ⟨y :: p, .step (by rw [lk_put, if_pos rfl]) (adj_symm a) (hp.mono m) fun hm => ?_⟩
        have := hp.keys y hm
        rw [eo] at this
        cases this
    · rw [if_neg e] at h
      obtain ⟨p, hp⟩ := S.way y x h
      exact ⟨p, hp.mono m⟩
  · rw [isK_put, Bool.or_eq_true, decide_eq_true_eq] at h
    rcases h with h | h
    · exact .inr (h ▸ hR)
    · exact S.rng y h
  · obtain ⟨ks, e1, e2, e3⟩ := S.keys
    refine ⟨ks ++ [o], ?_, ?_, fun y => ?_⟩
    · rw [putK_new _ eo, List.map_append, e1, List.map_append]; rfl
    · rw [List.nodup_append]
      refine ⟨e2, by simp, fun x hx y hy e => ?_⟩
      rw [List.mem_singleton.mp hy] at e
      rw [e, e3, ho] at hx
      cases hx
    · rw [List.mem_append, List.mem_singleton, e3, isK_put, Bool.or_eq_true, decide_eq_true_eq]
      exact or_comm
  · have := length_putK kvs (Sum.inl o) (V.int v)
    have := S.len
    omega

theorem inV_ints (x : Int) (R : List Int) : inV (.int x) (vi R) = decide (x ∈ R) := by
  unfold inV
  rw [Bool.eq_iff_iff, List.any_eq_true, decide_eq_true_eq]
  constructor
  · rintro ⟨y, hy, e⟩
    obtain ⟨z, hz, rfl⟩ := List.mem_map.mp hy
    have e : (z == x) = true := e
    rw [beq_iff_eq] at e
    exact e ▸ hz
  · intro h
    exact ⟨.int x, List.mem_map_of_mem h, by show (x == x) = true; simp⟩
theorem flat_ints (R : List Int) : (vi R).all flatV = true := by
  rw [List.all_eq_true]
  intro y hy
  obtain ⟨z, hz, rfl⟩ := List.mem_map.mp hy
  rfl
theorem vi_snoc_last {xs : List Int} {x : Int} : (vi (xs ++ [x]))[(vi (xs ++ [x])).length - 1]? = some (.int x) := by
  rw [vi_app, List.length_append]
  show (vi xs ++ [V.int x])[(vi xs).length + 1 - 1]? = _
  rw [Nat.add_sub_cancel, List.getElem?_append_right (Nat.le_refl _), Nat.sub_self]
  rfl
theorem vi_dropLast {xs : List Int} {x : Int} : (vi (xs ++ [x])).dropLast = vi xs := by
  rw [vi_app]
  show (vi xs ++ [V.int x]).dropLast = _
  rw [List.dropLast_concat]
theorem snoc_cases : ∀ (xs : List Int), xs = [] ∨ ∃ ys y, xs = ys ++ [y]
  | [] => .inl rfl
  | x :: xs => by
    rcases snoc_cases xs with rfl | ⟨ys, y, rfl⟩
    · exact .inr ⟨[], x, rfl⟩
    · exact .inr ⟨x :: ys, y, rfl⟩

section
variable {P : Program} {w : World} {K : PySem.W.Frag} {mg : Str → Option Value} {base : Heap}
/-- what the finished steps are -/
structure SDone (n : Int) (D : List (Int × Int)) (R : List Int) (g : Int) (kvs : List (Key × V)) : Prop where
  inv : SInv n D R g kvs
  closed : ∀ v o, isK kvs v = true → adj D v o → o ∈ R → isK kvs o = true
theorem Same.sqT {K : PySem.W.Frag} {H H' : Hp} {a : Addr} {xs : List V} (e : Same H H') (h : SqT K H a xs) : SqT K H' a xs :=
  h.imp (Or.imp (e a _) fun ⟨o, x⟩ => ⟨o, e a _ x⟩) id
def spSteps (K : PySem.W.Frag) : Sp := fun vs H Q _ => ∃ (h rl : Addr) (n : Int) (D : List (Int × Int)) (g : Int) (R : List Int), vs = [.ref h, .int g, .ref rl] ∧ HouseAt H h n D ∧ Forest n D ∧ 0 ≤ n ∧ n ≤ 8 ∧
  (SqL K H rl (vi R) ∨ SqT K H rl (vi R)) ∧ ∀ H' d kvs, Same H H' → H d = none → H' d = some (.dK kvs) → SDone n D R g kvs → Q (.ref d) H'

structure SAt (H : Hp) (d wl : Addr) (n : Int) (D : List (Int × Int)) (R : List Int) (g : Int) (kvs : List (Key × V)) (wt : List Int) (H' : Hp) : Prop where
  sm : Same H H'
  ed : H' d = some (.dK kvs)
  ew : H' wl = some (.lst (vi wt))
  inv : SInv n D R g kvs
  wk : ∀ v ∈ wt, isK kvs v = true
  wlen : wt.length + left n.toNat (isK kvs) ≤ n.toNat + 1
theorem SAt.same {H : Hp} {d wl : Addr} {n : Int} {D : List (Int × Int)} {R : List Int} {g : Int} {kvs : List (Key × V)} {wt : List Int} {H1 H2 : Hp} (S : SAt H d wl n D R g kvs wt H1) (e : Same H1 H2) : SAt H d wl n D R g kvs wt H2 :=
  ⟨S.sm.trans e, e _ _ S.ed, e _ _ S.ew, S.inv, S.wk, S.wlen⟩
abbrev nSteps : List Str := ["house", "goal", "rooms", "steps", "waiting", "room", "other"]
theorem scSteps : FnScope nSteps ["house", "goal", "rooms"] (defScope sSteps) := ⟨rfl, rfl, rfl, by decide +kernel, rfl, by decide +kernel, by decide +kernel⟩
theorem ok_steps {f fN : Addr} {fd fdN : FuncData} (F : Fun K "steps_toward" "steps_toward" sSteps f fd) (T : Nm mg) (DN : Def K mg "neighbors" sNb fN fdN ["house", "room"]) : FnOk P w K mg base CX0 2 f fd ["house", "goal", "rooms"] (spSteps K) := by
  have GN : FnOk P w K mg base CX0 1 fN fdN ["house", "room"] spNb := ok_nb DN.F T
  refine F.ok scSteps (fun vs H Q E h => ?_) (fun cdv A outer s H vs Q E hr h => ?_)
  · obtain ⟨h, rl, n, D, g, R, rfl, _⟩ := h
    rfl
  · obtain ⟨h, rl, n, D, g, R, rfl, hH, hF, hn0, hn1, hR, q⟩ := h
    have hu := hu_of hr
    refine ⟨_, pss_cons (ps_set (i := 3) scSteps.nd rfl (.inl rfl) (pe_disp (pps_cons (pv 1) pe_non pps_nil) (by rfl) (by rfl) (fun z => by cases z) (by decide)))
      (pss_cons (ps_set (i := 4) scSteps.nd rfl (.inl rfl) (pe_lst (pa_cons (pv 1) pa_nil)))
      (pss_cons (ps_while PassesOwn.never (pt_truth (pv 4) (by intro _; rfl))
        (pss_cons (ps_set (i := 5) scSteps.nd rfl (.inl rfl) (pe_bm0 PySem.F.plainAttrs_list PySem.F.slot_list_pop PySem.F.type_list_pop mt_pop (pv 4)))
        (pss_one (ps_for PassesOwn.never rfl (pi_tup (pe_call GN hr (by rfl) DN.g DN.F.kp DN.b .nil pass0 (pa_cons (pv 0) (pa_cons (pv 5) pa_nil)))) (pg_name (i := 6) scSteps.nd rfl (Or.inl rfl))
          (pss_one (ps_if (PW.pt (pw_and (pt_cmpR op_in_seq (pv 6) (pv 2) (by rfl)) (pw_and1 (pt_cmp (pc_dnotin hu (pv 6) (pv 3))))))
            (pss_cons (ps_dput hu (pv 3) (pv 6) (pv 5) rfl)
            (pss_one (ps_expr (pe_bm PySem.F.plainAttrs_list PySem.F.slot_list_append PySem.F.type_list_append mt_append (pv 4) (pa_cons (pv 6) pa_nil)))))
            pss_nil))))))
      (pss_one (ps_ret (pv 3))))), ?_⟩
    refine fun d hd => ⟨_, rfl, upd_same, [(Sum.inl g, .non)], rfl, by show 1 ≤ 15; decide, ?_⟩
    rw [upd_upd]
    refine ⟨_, rfl, by show 1 ≤ sizeLine; decide, fun wl hw => ?_⟩
    have ed0 : (upd H d (.dK (mergeK [] [(Sum.inl g, V.non)]))) d = some (.dK [(Sum.inl g, V.non)]) := upd_same
    have nwd : d ≠ wl := ne_of_none ed0 hw
    have gw : H wl = none := (same_upd hd).free hw
    have clos0 : ∀ v o, isK [(Sum.inl g, V.non)] v = true → v ∉ [g] → adj D v o → o ∈ R → isK [(Sum.inl g, V.non)] o = true := fun v o hv hn _ _ => by
      obtain ⟨ks, e1, _, e3⟩ := (SInv.start (n := n) (D := D) (R := R) (g := g)).keys
      have e4 : ks = [g] := by
        cases ks with
        | nil => cases e1
        | cons k r =>
          cases r with
          | nil =>
            injection e1 with e1 _
            rw [← Sum.inl.inj e1]
          | cons k2 r =>
            injection e1 with _ e1
            cases e1
      rw [e4] at e3
      exact absurd ((e3 v).mpr hv) hn
    refine ⟨fun m σ H' => ∃ (kvs : List (Key × V)) (wt : List Int) (y5 y6 : Option V), σ = [some (.ref h), some (.int g), some (.ref rl), some (.ref d), some (.ref wl), y5, y6] ∧ SAt H d wl n D R g kvs wt H' ∧
        (∀ v o, isK kvs v = true → v ∉ wt → adj D v o → o ∈ R → isK kvs o = true) ∧ m = 2 * left n.toNat (isK kvs) + wt.length, ⟨_, [(Sum.inl g, V.non)], [g], none, none, rfl, ⟨?_, ?_, upd_same, SInv.start, ?_, ?_⟩, clos0, rfl⟩, ?_⟩
    · exact (same_upd hd).trans (same_upd hw)
    · rw [upd_ne nwd]
      exact ed0
    · intro v hv
      rw [List.mem_singleton.mp hv]
      unfold isK
      rw [SInv.start (n := n) (D := D) (R := R) |>.goal]
      rfl
    · have := left_le n.toNat (isK [(Sum.inl g, V.non)])
      simp only [List.length_cons, List.length_nil]
      omega
    clear clos0 ed0
    rintro m σ H1 ⟨kvs, wt, y5, y6, rfl, S1, clos, rfl⟩
    refine ⟨_, rfl, _, .inl ⟨_, SqL.of S1.ew, rfl⟩, ?_⟩
    rcases snoc_cases wt with rfl | ⟨ys, v, rfl⟩
    · refine iteF ?_
      exact ⟨_, rfl, q _ d kvs S1.sm hd S1.ed ⟨S1.inv, fun v o h1 h2 h3 => clos v o h1 (by simp) h2 h3⟩⟩
    · have ne : (!(vi (ys ++ [v])).isEmpty) = true := by
        cases ys <;> rfl
      rw [ne]
      refine iteT ⟨_, fun _ _ hh => hh, ?_⟩
      have hv : isK kvs v = true := S1.wk v (by simp)
      refine ⟨_, rfl, .inl ⟨rfl, _, SqL.of S1.ew⟩, wl, _, _, rfl, rfl, S1.ew, vi_snoc_last, ?_⟩
      rw [vi_dropLast]
      have l1 := S1.wlen
      rw [List.length_append, List.length_singleton] at l1
      have S2 : SAt H d wl n D R g kvs ys (upd H1 wl (.lst (vi ys))) := ⟨same_put S1.sm gw, (upd_ne nwd).trans S1.ed, upd_same, S1.inv, fun x hx => S1.wk x (List.mem_append_left _ hx), by omega⟩
      refine ⟨_, rfl, _, rfl, h, n, D, v, rfl, hH.same S2.sm, hF, fun H3 t s3 et => ?_⟩
      have S3 := S2.same s3
      refine ⟨t, rfl, ⟨_, SqT.of et⟩, for_tup (K := K) (a := t) (xs := vi (nb n D v)) (fun i σ H' => ∃ (kvs' : List (Key × V)) (wt : List Int) (y6 : Option V), σ = [some (.ref h), some (.int g), some (.ref rl), some (.ref d), some (.ref wl), some (.int v), y6] ∧
          SAt H d wl n D R g kvs' wt H' ∧ H' t = some (.tup (vi (nb n D v))) ∧ isK kvs' v = true ∧ (∀ x o, isK kvs' x = true → x ∉ wt → x ≠ v → adj D x o → o ∈ R → isK kvs' o = true) ∧
          (∀ o ∈ (nb n D v).take i, o ∈ R → isK kvs' o = true) ∧ 2 * left n.toNat (isK kvs') + wt.length < 2 * left n.toNat (isK kvs) + (ys ++ [v]).length) ⟨kvs, ys, y6, rfl, S3, et, hv, ?_, ?_, ?_⟩ ?_ ?_ ?_⟩
      · intro x o h1 h2 h3 h4 h5
        exact clos x o h1 (by simp [h2, h3]) h4 h5
      · intro o ho
        simp at ho
      · rw [List.length_append, List.length_singleton]
        omega
      · rintro i σ H' _ ⟨kvs', wt, y6, rfl, _, et', _⟩
        exact SqT.of et'
      · rintro i x σ H4 hx ⟨kvs', wt, y6, rfl, S4, et4, hv4, cl4, pre4, lt4⟩
        obtain ⟨o, eo, rfl⟩ := get_vi hx
        have mo := List.mem_of_getElem? eo
        have ao : adj D v o := hF.mem_nb.mp mo
        have ro := hF.adj ao
        have pre5 : ∀ kvs2 : List (Key × V), (∀ y, isK kvs' y = true → isK kvs2 y = true) → (o ∈ R → isK kvs2 o = true) → ∀ z ∈ (nb n D v).take (i + 1), z ∈ R → isK kvs2 z = true := fun kvs2 hm ho z hz hzR => by
          rw [List.take_add_one, eo, List.mem_append] at hz
          rcases hz with hz | hz
          · exact hm _ (pre4 z hz hzR)
          · have : z = o := by simpa using hz
            rw [this] at hzR ⊢
            exact ho hzR
        dsimp only [gName]
        refine if_by (fun b H5 => H5 = H4 ∧ (b = true → o ∈ R ∧ isK kvs' o = false) ∧ (b = false → o ∈ R → isK kvs' o = true)) ?_ ?_ ?_
        · rintro H5 ⟨rfl, hb, _⟩
          obtain ⟨oR, ok⟩ := hb rfl
          obtain ⟨I5, lt5⟩ := S4.inv.put hv4 ok ao oR ro.2.2.1 ro.2.2.2
          have lk4 := S4.inv.len
          have lw4 := S4.wlen
          refine ⟨_, rfl, _, rfl, _, rfl, d, _, rfl, DPut.k (k := Sum.inl o) S4.ed (small1000 (by omega)), ?_⟩
          have ew5 : (upd H5 d (.dK (putK kvs' (Sum.inl o) (V.int v)))) wl = some (.lst (vi wt)) := (upd_ne nwd.symm).trans S4.ew
          refine ⟨_, rfl, .inl ⟨rfl, _, SqL.of ew5⟩, _, rfl, wl, _, _, rfl, rfl, ew5, by rw [List.length_map]; exact small1000 (by omega), ?_⟩
          refine ⟨putK kvs' (Sum.inl o) (V.int v), wt ++ [o], _, rfl, ⟨same_put (same_put S4.sm hd) gw, (upd_ne nwd).trans upd_same, ?_, I5, ?_, ?_⟩, ?_, ?_, ?_, ?_, ?_⟩
          · rw [upd_same, vi_app]
            rfl
          · intro y hy
            rw [isK_put]
            rcases List.mem_append.mp hy with hy | hy
            · rw [S4.wk y hy, Bool.or_true]
            · rw [List.mem_singleton.mp hy, decide_eq_true rfl, Bool.true_or]
          · rw [List.length_append, List.length_singleton]
            omega
          · rw [upd_ne (ne_of et4 S4.ew (by intro z; cases z)), upd_ne (ne_of et4 S4.ed (by intro z; cases z))]
            exact et4
          · rw [isK_put, hv4, Bool.or_true]
          · intro y z h1 h2 h3 h4 h5
            rw [isK_put, Bool.or_eq_true, decide_eq_true_eq] at h1
            rw [List.mem_append, not_or, List.mem_singleton] at h2
            rcases h1 with h1 | h1
            · exact absurd h1 h2.2
            · rw [isK_put, cl4 y z h1 h2.1 h3 h4 h5, Bool.or_true]
          · refine pre5 _ (fun y hy => by rw [isK_put, hy, Bool.or_true]) fun _ => ?_
            rw [isK_put, decide_eq_true rfl, Bool.true_or]
          · rw [List.length_append, List.length_singleton]
            omega
        · rintro H5 ⟨rfl, _, hb⟩
          exact ⟨kvs', wt, _, rfl, S4, et4, hv4, cl4, pre5 kvs' (fun _ hh => hh) (hb rfl), lt4⟩
        · intro QQ hQ
          have hR4 : SqL K H4 rl (vi R) ∨ SqT K H4 rl (vi R) := hR.imp (fun z => S4.sm.seq z) (fun z => Same.sqT S4.sm z)
          refine ⟨_, rfl, _, rfl, rl, _, rfl, hR4, rfl, flat_ints R, _, rfl, ?_⟩
          show if (inV (.int o) (vi R)) = true then _ else _
          rw [inV_ints]
          refine ite2 (fun c => ?_) (fun c => ?_)
          · have c : o ∈ R := of_decide_eq_true c
            refine ⟨_, rfl, _, rfl, d, _, rfl, DGet.k (k := Sum.inl o) S4.ed, _, rfl, ?_⟩
            refine hQ _ _ ⟨rfl, fun e => ⟨c, ?_⟩, fun e _ => ?_⟩
            · show isK kvs' o = false
              unfold isK lk
              simpa using e
            · show isK kvs' o = true
              unfold isK lk
              simpa using e
          · exact hQ _ _ ⟨rfl, fun e => (by cases e), fun _ e => absurd (decide_eq_true e) c⟩
      · rintro σ H4 ⟨kvs', wt, y6, rfl, S4, et4, hv4, cl4, pre4, lt4⟩
        rw [List.length_map, List.take_length] at pre4
        refine ⟨_, lt4, kvs', wt, _, _, rfl, S4, fun x o h1 h2 h3 h4 => ?_, rfl⟩
        by_cases e : x = v
        · subst e
          exact pre4 o (hF.mem_nb.mpr h3) h4
        · exact cl4 x o h1 h2 e h3 h4
end
end Fw
namespace Fw
open PySem PySem.Spec PyProof.Rows L2
theorem HouseAt.top {H : Hp} {h : Addr} {n : Int} {D : List (Int × Int)} (x : HouseAt H h n D) : ∃ q, H h = some (.tup [.int n, .ref q]) := by
  obtain ⟨q, ps, h1, _⟩ := x
  exact ⟨q, h1⟩

/-- a nodup list of rooms below n is no longer than n -/
theorem short {n : Nat} : ∀ {p : List Int}, p.Nodup → (∀ x ∈ p, 0 ≤ x ∧ x < n) → p.length ≤ n := by
  induction n with
  | zero =>
    intro p _ h
    cases p with
    | nil => exact Nat.le_refl _
    | cons x r => have := h x (List.mem_cons_self ..); omega
  | succ n ih =>
    intro p nd h
    have h2 : (p.erase (n : Int)).length ≤ n := by
      refine ih (nd.erase _) fun x hx => ?_
      have hm := List.mem_of_mem_erase hx
      have hne : x ≠ (n : Int) := fun e => by
        subst e
        exact (List.Nodup.not_mem_erase nd) hx
      have := h x hm
      omega
    have h3 : p.length - 1 ≤ (p.erase (n : Int)).length := List.le_length_erase
    omega
theorem SP.all {R : Int → Int → Prop} {S : Int → Prop} (hs : ∀ x y, R x y → S y) {a b : Int} {p : List Int} (h : SP R a b p) (e : S a) : ∀ x ∈ p, S x := by
  induction h with
  | one a =>
    intro x hx
    rw [List.mem_singleton.mp hx]
    exact e
  | cons r _ _ ih =>
    intro x hx
    rcases List.mem_cons.mp hx with rfl | hx
    · exact e
    · exact ih (hs _ _ r) x hx
theorem Forest.short {n a b : Int} {D : List (Int × Int)} (f : Forest n D) (h8 : n ≤ 8) (h0 : 0 ≤ a) (h1 : a < n) {p : List Int} (h : SP (Fw.adj D) a b p) : p.length ≤ 8 := by
  have h2 : p.length ≤ n.toNat := Fw.short h.nodup fun x hx => by
    have := h.all (S := fun x => 0 ≤ x ∧ x < n) (fun x y r => ⟨(f.adj r).2.2.1, (f.adj r).2.2.2⟩) ⟨h0, h1⟩ x hx
    omega
  omega

end Fw
namespace Fw
open PySem PySem.Spec PyProof.Rows L2 SrtO

section
variable {P : Program} {w : World} {A : Around} {E : Value → Shared → Prop} {s : Shared}
/-- sorted of anything that can be collected, by an order -/
theorem sorted_any {a : Addr} {ltv : Value → Value → Bool} {Q : Value → Shared → Prop} (O : Swo ltv) (good : List Value → Shared → Prop) (col : wpAny (model P w) A.in1 (collect (.ref a)) good E s) (hz : ∀ vs z, good vs z → vs.length ≤ sizeLine)
    (hS : ∀ vs z, good vs z → 2 ≤ vs.length → SortableO P w A.in1.in1 { z with heap := z.heap.push (seqObj "list" vs.toArray 0) } z.heap.objs.size vs ltv)
    (fin : ∀ vs z out, good vs z → Srtd ltv out → Stb ltv out vs → Q (.ref z.heap.objs.size) { z with heap := sortedHeap (z.heap.push (seqObj "list" vs.toArray 0)) z.heap.objs.size vs out.toArray }) :
    wpAny (model P w) A (call (.builtin "sorted") [.ref a]) Q E s := by
  refine Calls.call_function_entry kind_sorted plain_sorted entry_sorted (args_sorted1 _) ?_
  show wpAny (model P w) A.in1 (Builtin.«sorted» _) _ _ _
  unfold Builtin.«sorted»
  refine wpAny_bind (m := checkCount "sorted" 1 1 _) (wpAny_pure (wpAny_bind (wpAny_mono col (fun vs z g => ?_) fun _ _ e => e)))
  refine wpAny_bind (wpAny_newList ?_ (hz vs z g))
  have at0 : (z.heap.push (seqObj "list" vs.toArray 0)).get? z.heap.objs.size = some (seqObj "list" vs.toArray 0) := Heap.get?_push_size _ rfl
  refine wpAny_bind (wpAny_holding (wpAny_call_entry slot_list_sort ⟨_, at0, rfl⟩ entry_list_sort (list_sort_ord O at0 (hz vs z g) (hS vs z g) fun out h1 h2 => ?_) (args_list_sort _)))
  exact ⟨_, rfl, wpAny_pure ⟨_, rfl, fin vs z out g h1 h2⟩⟩
end

/-- sorted(d), the keys of d ints -/
def rSortedDI : List V → Hp → VK → Prop := fun xs H Q => ∃ (a : Addr) (kvs : List (Key × V)) (ks : List Int), xs = [.ref a] ∧ H a = some (.dK kvs) ∧ kvs.map (·.1) = ks.map Sum.inl ∧
  ∀ (ys : List Int) (p : Addr), ys.Perm ks → ys.Pairwise (· ≤ ·) → H p = none → Q (.ref p) (upd H p (.lst (vi ys)))
theorem cr_sortedDI {X : Cx} (hc : X.calm = true) : CallR X (.builtin "sorted") rSortedDI := by
  intro pins s σ H xs us Q I r h
  obtain ⟨a, kvs, ks, rfl, ha, hk, q⟩ := h
  rw [Vals.ref1 r]
  obtain ⟨len, lo, vs, rel, dd⟩ := dk_of I.hok ha
  obtain ⟨ep, hat⟩ := dd.dictAt
  have ek : vs.map (·.1) = ks.map Sum.inl := rel.keys.symm.trans hk
  have el : vs.length = ks.length := by simpa using congrArg List.length ek
  have ez : ks.length ≤ sizeLine := by
    have := congrArg List.length hk
    rw [List.length_map, List.length_map] at this
    omega
  refine sorted_any swo_int (fun us z => IntsAre us ks ∧ Inv X pins σ H z ∧ z = { s with heap := z.heap, toks := z.toks }) ?_ ?_ ?_ ?_
  · refine PySem.W.kdu_collect (PySem.W.kdl_dict (knd := mixKind X.prog X.w) (kvs := vs) (ep := ep) lo) (I.ok.hd hc) hat (by omega) fun h' tk acc keep items => ⟨?_, I.kept keep, rfl⟩
    have lena : acc.toList.length = vs.length := by
      rw [Array.length_toList]
      exact items.1
    have rv := keys_at (us := acc.toList) (vs := vs) lena fun j v e => by
      obtain ⟨k, x, e1, e2⟩ := items.2 j v (by rw [← Array.getElem?_toList]; exact e)
      exact ⟨k, x, e1, e2⟩
    have e3 : (vs.map fun p => kV p.1) = ks.map V.int := by
      have := congrArg (List.map kV) ek
      rw [List.map_map, List.map_map] at this
      exact this
    rw [e3] at rv
    exact rv.ints
  · intro us z g
    rw [g.1.length]
    exact ez
  · intro us z g h2
    exact ints_sortable g.1 h2
  · rintro us z out ⟨hi, J, ez'⟩ h1 h2
    obtain ⟨k1, k2, k3⟩ := ints_out hi h1 h2
    have at0 : (z.heap.push (seqObj "list" us.toArray 0)).get? z.heap.objs.size = some (seqObj "list" us.toArray 0) := Heap.get?_push_size _ rfl
    obtain ⟨e', he'⟩ := sortedHeap_at (vs := us) (out := out.toArray) at0
    refine ⟨.ref z.heap.objs.size, upd H z.heap.objs.size (.lst (vi (out.map iv))), J.laid (t' := z.toks) (fun b u e => ?_) (Nat.le_refl _) ⟨?_, out, e', vals_of_ints k1, he'⟩, rfl, q _ _ k2 k3 (J.hok.fresh (Nat.le_refl _))⟩
    · have lt := Heap.lt_size e
      rw [sortedHeap_old (Nat.ne_of_lt lt) (by rw [size_push']; exact Nat.lt_succ_of_lt lt)]
      exact Heap.get?_push_of_some _ e
    · rw [List.length_map, k2.length_eq]
      exact ez
end Fw
namespace Fw
open PySem PySem.Spec PyProof.Rows L2 SrtO

/-! ### lists of ints in the order of tuples -/
def lexI : List Int → List Int → Bool
  | [], [] => false
  | [], _ :: _ => true
  | _ :: _, [] => false
  | x :: xs, y :: ys => if x = y then lexI xs ys else decide (x < y)
theorem lexI_asym : ∀ {xs ys : List Int}, lexI xs ys = true → lexI ys xs = false
  | [], [], h => by cases h
  | [], _ :: _, _ => rfl
  | _ :: _, [], h => by cases h
  | x :: xs, y :: ys, h => by
    unfold lexI at h ⊢
    by_cases e : x = y
    · rw [if_pos e] at h
      rw [if_pos e.symm]
      exact lexI_asym h
    · rw [if_neg e, decide_eq_true_eq] at h
      rw [if_neg (fun z => e z.symm)]
      exact decide_eq_false (by omega)
theorem lexI_tr : ∀ {xs ys zs : List Int}, lexI ys xs = false → lexI zs ys = false → lexI zs xs = false
  | [], [], [], _, _ => rfl
  | [], [], _ :: _, _, _ => rfl
  | [], _ :: _, [], _, h => by cases h
  | [], _ :: _, _ :: _, _, _ => rfl
  | _ :: _, [], _, h, _ => by cases h
  | _ :: _, _ :: _, [], _, h => by cases h
  | x :: xs, y :: ys, z :: zs, h1, h2 => by
    unfold lexI at h1 h2 ⊢
    by_cases e1 : y = x
    · rw [if_pos e1] at h1
      by_cases e2 : z = y
      · rw [if_pos e2] at h2
        rw [if_pos (e2.trans e1)]
        exact lexI_tr h1 h2
      · rw [if_neg e2, decide_eq_false_iff_not] at h2
        rw [if_neg (fun q => e2 (q.trans e1.symm))]
        exact decide_eq_false (by omega)
    · rw [if_neg e1, decide_eq_false_iff_not] at h1
      by_cases e2 : z = y
      · rw [if_neg (fun q => e1 (e2.symm.trans q))]
        exact decide_eq_false (by omega)
      · rw [if_neg e2, decide_eq_false_iff_not] at h2
        rw [if_neg (by omega)]
        exact decide_eq_false (by omega)
theorem lexI_total : ∀ {xs ys : List Int}, lexI xs ys = false → xs ≠ ys → lexI ys xs = true
  | [], [], _, h => absurd rfl h
  | [], _ :: _, h, _ => by cases h
  | _ :: _, [], _, _ => rfl
  | x :: xs, y :: ys, h, n => by
    unfold lexI at h ⊢
    by_cases e : x = y
    · rw [if_pos e] at h
      rw [if_pos e.symm]
      exact lexI_total h fun z => n (by rw [e, z])
    · rw [if_neg e, decide_eq_false_iff_not] at h
      rw [if_neg (fun z => e z.symm)]
      exact decide_eq_true (by omega)
theorem lexI_head {x y : Int} {xs ys : List Int} (h : x < y) : lexI (x :: xs) (y :: ys) = true := by
  unfold lexI
  rw [if_neg (by omega)]
  exact decide_eq_true h
/-- two lists that rise strictly, with the same members, are one -/
theorem rise_ext {α : Type} {lt : α → α → Prop} (as : ∀ a b, lt a b → ¬ lt b a) : ∀ {xs ys : List α}, xs.Pairwise lt → ys.Pairwise lt → (∀ x, x ∈ xs ↔ x ∈ ys) → xs = ys
  | [], [], _, _, _ => rfl
  | [], y :: ys, _, _, h => absurd ((h y).mpr (List.mem_cons_self ..)) (by simp)
  | x :: xs, [], _, _, h => absurd ((h x).mp (List.mem_cons_self ..)) (by simp)
  | x :: xs, y :: ys, hx, hy, h => by
    obtain ⟨hx1, hx2⟩ := List.pairwise_cons.mp hx
    obtain ⟨hy1, hy2⟩ := List.pairwise_cons.mp hy
    have e : x = y := by
      rcases List.mem_cons.mp ((h x).mp (List.mem_cons_self ..)) with h1 | h1
      · exact h1
      · rcases List.mem_cons.mp ((h y).mpr (List.mem_cons_self ..)) with h2 | h2
        · exact h2.symm
        · exact absurd (hy1 _ h1) (as _ _ (hx1 _ h2))
    subst e
    rw [rise_ext as hx2 hy2 fun z => ?_]
    constructor
    · intro m
      rcases List.mem_cons.mp ((h z).mp (List.mem_cons_of_mem _ m)) with e | e
      · subst e; exact absurd (hx1 _ m) (as _ _ (hx1 _ m))
      · exact e
    · intro m
      rcases List.mem_cons.mp ((h z).mpr (List.mem_cons_of_mem _ m)) with e | e
      · subst e; exact absurd (hy1 _ m) (as _ _ (hy1 _ m))
      · exact e

/-! ### the machine's comparison of two tuples of ints -/
def lexF (fin : Bool) : List Int → List Int → Bool
  | x :: xs, y :: ys => if x = y then lexF fin xs ys else decide (x < y)
  | _, _ => fin
theorem lexF_eq : ∀ (xs ys : List Int), lexF (decide (xs.length < ys.length)) xs ys = lexI xs ys
  | [], [] => rfl
  | [], _ :: _ => by unfold lexF lexI; simp
  | _ :: _, [] => by unfold lexF lexI; simp
  | x :: xs, y :: ys => by
    unfold lexF lexI
    have e : decide ((x :: xs).length < (y :: ys).length) = decide (xs.length < ys.length) := by simp
    rw [e, lexF_eq xs ys]
section
variable {P : Program} {w : World} {A : Around} {s : Shared}
theorem kat_ints {fin : Bool} : ∀ {xs ys : List Value} {ns ms : List Int} (i : Nat), IntsAre xs ns → IntsAre ys ms → PySem.W.KatLex P w A true fin (fun r s' => s' = s ∧ r = lexF fin ns ms) (xs.zip ys) i s := by
  intro xs ys ns ms i hx
  induction hx generalizing ys ms i with
  | nil => intro _; exact PySem.W.kat_nil ⟨rfl, by cases ms <;> rfl⟩
  | cons x t hx ih =>
    intro hy
    cases hy with
    | nil => exact PySem.W.kat_nil ⟨rfl, rfl⟩
    | cons y u hy =>
      refine PySem.W.kat_cons (SeqAt.EqAt.int_int x t y u P w _ _ (PySem.W.kat_go (fun e => ?_) fun e => ?_))
      · have e : x = y := by simpa using e
        subst e
        unfold lexF
        rw [if_pos rfl]
        exact PySem.W.kat_yes (ih (i + 1) hy)
      · have e : ¬ x = y := by simpa using e
        unfold lexF
        rw [if_neg e]
        refine PySem.W.kat_no ?_
        cases hb : (true && i == 0) with
        | true => exact oneLt_int ⟨rfl, rfl⟩
        | false => exact PySem.W.kat_one _ _ (PyProof.Rows.lt_int (show s = s ∧ decide (x < y) = decide (x < y) from ⟨rfl, rfl⟩))
theorem swo_lexI (k : Value → List Int) : Swo fun v u => lexI (k v) (k u) := ⟨fun _ _ h => lexI_asym h, fun _ _ _ h1 h2 => lexI_tr h1 h2⟩
/-- tuples of ints, none empty, sort by their order -/
theorem tups_sortable {a : Addr} {vs : List Value} {k : Value → List Int} (h0 : 0 < vs.length) (hp : ∀ v ∈ vs, TS.TupInts s.heap v (k v) ∧ k v ≠ []) (ha : ∀ o, s.heap.get? a = some o → o.cls ≠ .type "tuple") : SortableO P w A s a vs fun v u => lexI (k v) (k u) := by
  intro h' keep
  have hp' : ∀ v ∈ vs, TS.TupInts h' v (k v) := fun v hv => (hp v hv).1.keeps fun b o e c => keep b o (fun z => ha o (z ▸ e) c) e
  have firsts : ∀ us : List Value, (∀ v ∈ us, v ∈ vs) → ∃ fs : List Value, PySem.W.KatTups h' us fs ∧ fs.length = us.length ∧ ∀ f ∈ fs, ∃ x t, f = Value.int x t := by
    intro us
    induction us with
    | nil => exact fun _ => ⟨[], PySem.W.KatTups.nil, rfl, fun _ hm => nomatch hm⟩
    | cons v us ih =>
      intro hu
      obtain ⟨fs, g1, g2, g3⟩ := ih fun z hz => hu z (List.mem_cons_of_mem _ hz)
      have hv := hu v (List.mem_cons_self ..)
      obtain ⟨b, xs, rfl, ⟨o, ho, hc, n, hd⟩, hi⟩ := hp' v hv
      have ne := (hp _ hv).2
      generalize k (.ref b) = kb at hi ne
      obtain ⟨l⟩ := xs
      cases l with
      | nil =>
        have hi : IntsAre [] kb := hi
        cases hi
        exact absurd rfl ne
      | cons f l =>
        have hf : ∃ x t, f = Value.int x t := by
          have hi : IntsAre (f :: l) kb := hi
          cases hi
          exact ⟨_, _, rfl⟩
        refine ⟨f :: fs, PySem.W.KatTups.cons ho hc hd rfl g1, by rw [List.length_cons, List.length_cons, g2], fun z hz => ?_⟩
        rcases List.mem_cons.mp hz with rfl | hz
        · exact hf
        · exact g3 z hz
  obtain ⟨fs, g1, g2, g3⟩ := firsts vs fun _ h => h
  refine ⟨tuples' true, fun Q E hq => ?_, fun p q hm hm' => ?_⟩
  · refine PySem.W.kat_kind (T := .type "int") g1 (by omega) (fun f hf => ?_) (by rfl) ?_
    · obtain ⟨x, t, rfl⟩ := g3 f hf
      exact PySem.W.Looks.now
    · rw [show (Value.type "int" != Value.type "tuple") = true by decide +kernel]
      exact hq
  · obtain ⟨b, xs, e1, ⟨o, ho, hc, n, hd⟩, hi⟩ := hp' p.1 hm
    obtain ⟨b2, xs2, e2, ⟨o2, ho2, hc2, n2, hd2⟩, hi2⟩ := hp' q.1 hm'
    have fe : (lt2 fun v u => lexI (k v) (k u)) p q = lexI (k p.1) (k q.1) := rfl
    rw [fe, ← lexF_eq]
    have l1 : (k p.1).length = xs.size := by rw [← hi.length]; simp
    have l2 : (k q.1).length = xs2.size := by rw [← hi2.length]; simp
    rw [l1, l2]
    generalize k p.1 = ns at hi
    generalize k q.1 = ms at hi2
    rw [e1, e2]
    exact PySem.W.kat_lt ho hd ho2 hd2 (kat_ints 0 hi hi2)
end

/-- sorted(set), the members tuples of ints, none empty -/
def rSortedTV (K : PySem.W.Frag) (P : Program) (w : World) : List V → Hp → VK → Prop := fun vs H Q => ∃ (a : Addr) (L : List (Addr × List Int)), vs = [V.ref a] ∧ H a = some (SetTO P w a L) ∧ (∀ p ∈ L, SqT K H p.1 (vi p.2) ∧ p.2 ≠ []) ∧
  ∀ (L' : List (Addr × List Int)) (p : Addr), (∀ q, q ∈ L' ↔ q ∈ L) → (L'.map (·.2)).Pairwise (fun x y => lexI x y = true) → H p = none → Q (.ref p) (upd H p (.lst (L'.map fun q => V.ref q.1)))
theorem cr_sortedTV {X : Cx} (hc : X.calm = true) : CallR X (.builtin "sorted") (rSortedTV X.K X.prog X.w) := by
  intro pins s σ H vs us Q I r h
  obtain ⟨a, L, rfl, ha, hk, q⟩ := h
  rw [Vals.ref1 r]
  have R0 : SetT0 X.prog X.w s.heap a L := (I.hok a _ ha).1
  obtain ⟨es, ep, t, R⟩ := R0.full fun p hp => I.isT (hk p hp).1
  have few := R.few
  have rows : es.toList.map (·.2) = L.map fun q => Value.ref q.1 := by
    rw [R.rows]
    unfold rowsOf
    rw [List.map_map]
    rfl
  have one : ∀ q ∈ L, ∀ r ∈ L, q.1 = r.1 → q = r := fun q hq r hr e => by
    have a1 := R.tup q hq
    rw [e] at a1
    exact Prod.ext e (a1.inj (R.tup r hr))
  have tup : ∀ (h' : Heap), (∀ b o, s.heap.get? b = some o → h'.get? b = some o) → ∀ q ∈ L, TS.TupInts h' (.ref q.1) q.2 := fun h' kk q hq => tupInts_of (P := X.prog) (w := X.w) (isT_keep (R.tup q hq) kk)
  obtain ⟨o, ho, hex, hd⟩ := R.ob
  have hsz := R.size
  refine sorted_any (swo_lexI (TS.intsOf s.heap)) (fun us z => (∀ b o, s.heap.get? b = some o → z.heap.get? b = some o) ∧ s.heap.objs.size ≤ z.heap.objs.size ∧ z.gens = s.gens ∧ z.os = s.os ∧ us.Perm (L.map fun q => Value.ref q.1))
    (collect_set (A := X.A.in1) (I.ok.hd hc) ⟨o, ho, hex.1, hd⟩ R.fits (by unfold scanBound; omega) R.tab.ris R.led fun z out k1 k2 k3 k4 k5 => ⟨k1, k2, k3, k4, by rw [← rows]; exact k5⟩) ?_ ?_ ?_
  · rintro us z ⟨_, _, _, _, pm⟩
    rw [pm.length_eq, List.length_map, sizeLine_eq]
    omega
  · rintro us z ⟨k1, _, _, _, pm⟩ h2
    refine tups_sortable (by omega) (fun v hv => ?_) fun o' e => ?_
    · obtain ⟨p, hp, rfl⟩ := List.mem_map.mp (pm.mem_iff.mp hv)
      have e0 : TS.intsOf s.heap (.ref p.1) = p.2 := (tup s.heap (fun _ _ e => e) p hp).ints
      rw [e0]
      exact ⟨tup _ (fun b o e => Heap.get?_push_of_some _ (k1 b o e)) p hp, (hk p hp).2⟩
    · have e' : some o' = some (seqObj "list" us.toArray 0) := e.symm.trans (Heap.get?_push_size _ rfl)
      cases e'
      intro c
      exact absurd (Value.type.inj c) (by decide)
  · rintro us z out ⟨k1, k2, k3, k4, pm⟩ h1 h2
    have pm2 := h2.perm.trans pm
    obtain ⟨L', pL, eL⟩ := perm_map_inv pm2 rfl
    have at0 : (z.heap.push (seqObj "list" us.toArray 0)).get? z.heap.objs.size = some (seqObj "list" us.toArray 0) := Heap.get?_push_size _ rfl
    obtain ⟨e', he'⟩ := sortedHeap_at (vs := us) (out := out.toArray) at0
    have hn : H z.heap.objs.size = none := I.hok.fresh k2
    have kk : ∀ b o, s.heap.get? b = some o → (sortedHeap (z.heap.push (seqObj "list" us.toArray 0)) z.heap.objs.size us out.toArray).get? b = some o := fun b o e => by
      have lt := Heap.lt_size (k1 b o e)
      rw [sortedHeap_old (Nat.ne_of_lt lt) (by rw [size_push']; exact Nat.lt_succ_of_lt lt)]
      exact Heap.get?_push_of_some _ (k1 b o e)
    have rise : (L'.map (·.2)).Pairwise (fun x y => lexI x y = true) := by
      rw [eL] at h1
      have p1 := List.pairwise_map.mp h1
      have nd : (L'.map (·.2)).Nodup := (pL.map _).nodup_iff.mpr R.nd
      refine List.pairwise_map.mpr (List.Pairwise.imp_of_mem ?_ (p1.and (List.pairwise_map.mp nd)))
      rintro q r hq hr ⟨g1, g2⟩
      have f1 : TS.intsOf s.heap (.ref q.1) = q.2 := (tup s.heap (fun _ _ e => e) q (pL.mem_iff.mp hq)).ints
      have f2 : TS.intsOf s.heap (.ref r.1) = r.2 := (tup s.heap (fun _ _ e => e) r (pL.mem_iff.mp hr)).ints
      have g1 : lexI (TS.intsOf s.heap (.ref r.1)) (TS.intsOf s.heap (.ref q.1)) = false := g1
      rw [f1, f2] at g1
      exact lexI_total g1 fun e => g2 e.symm
    have J : Inv X pins σ (upd H z.heap.objs.size (.lst (L'.map fun q => V.ref q.1))) { s with heap := sortedHeap (z.heap.push (seqObj "list" us.toArray 0)) z.heap.objs.size us out.toArray, gens := z.gens, drawn := z.drawn, toks := z.toks } :=
      I.call (ch := []) (Un.laid kk k2 hn) (I.hok.laid kk k2 ⟨by rw [List.length_map, pL.length_eq, sizeLine_eq]; omega, out, e', by rw [eL]; exact vals_of_refs L', he'⟩) (by rw [k3]; exact I.bare) (fun _ z => nomatch z)
    have ez : ({ z with heap := sortedHeap (z.heap.push (seqObj "list" us.toArray 0)) z.heap.objs.size us out.toArray } : Shared) = { s with heap := sortedHeap (z.heap.push (seqObj "list" us.toArray 0)) z.heap.objs.size us out.toArray, gens := z.gens, drawn := z.drawn, toks := z.toks } := by
      cases z
      cases k4
      rfl
    rw [ez]
    exact ⟨.ref z.heap.objs.size, _, J, rfl, q L' _ (fun x => pL.mem_iff) rise hn⟩
end Fw
namespace Fw
open PySem PySem.Spec PyProof.Rows L2

/-- what can be reached from g over rooms of R -/
inductive Wk (D : List (Int × Int)) (R : List Int) (g : Int) : Int → Prop
  | base : Wk D R g g
  | step {v o : Int} : Wk D R g v → adj D v o → o ∈ R → Wk D R g o
section
variable {D : List (Int × Int)} {R : List Int} {g : Int}
theorem Wk.mem {v : Int} (h : Wk D R g v) : v = g ∨ v ∈ R := by
  cases h with
  | base => exact .inl rfl
  | step _ _ m => exact .inr m
theorem Wk.trans {a b c : Int} (h : Wk D R a b) (k : Wk D R b c) : Wk D R a c := by
  induction k with
  | base => exact h
  | step _ r m ih => exact .step ih r m
theorem Wk.symm {v : Int} (hg : g ∈ R) (h : Wk D R g v) : Wk D R v g := by
  induction h with
  | base => exact .base
  | @step v o k r m ih =>
    have mv : v ∈ R := by
      rcases k.mem with e | e
      · rw [e]; exact hg
      · exact e
    exact (Wk.step .base (adj_symm r) mv).trans ih
theorem SDone.wk {n : Int} {kvs : List (Key × V)} (S : SDone n D R g kvs) (v : Int) : isK kvs v = true ↔ Wk D R g v := by
  constructor
  · intro h
    unfold isK at h
    cases e : lk kvs v with
    | none => rw [e] at h; cases h
    | some x =>
      obtain ⟨p, c⟩ := S.inv.way v x e
      clear e h
      induction c with
      | goal _ => exact .base
      | @step v u p e a _ _ ih =>
        rcases S.inv.rng v (by unfold isK; rw [e]; rfl) with e2 | m
        · rw [e2]; exact .base
        · exact .step ih (adj_symm a) m
  · intro h
    induction h with
    | base => unfold isK; rw [S.inv.goal]; rfl
    | step _ r m ih => exact S.closed _ _ ih r m
/-- the component of g, ascending -/
structure IsC (D : List (Int × Int)) (R : List Int) (g : Int) (l : List Int) : Prop where
  up : l.Pairwise (· < ·)
  mem : ∀ v, v ∈ l ↔ Wk D R g v
theorem IsC.one {l l' : List Int} (a : IsC D R g l) (b : IsC D R g l') : l = l' := up_ext a.up b.up fun v => (a.mem v).trans (b.mem v).symm
theorem IsC.of {l ks : List Int} (p : l.Perm ks) (s : l.Pairwise (· ≤ ·)) (n : ks.Nodup) (m : ∀ v, v ∈ ks ↔ Wk D R g v) : IsC D R g l := ⟨up_of s (p.nodup_iff.mpr n), fun v => by rw [p.mem_iff]; exact m v⟩
end
theorem rg_filter_len {n : Int} {p : Int → Bool} : ((rg n).filter p).length ≤ n.toNat := by
  refine Nat.le_trans (List.length_filter_le _ _) ?_
  rw [rg_len]
  exact Nat.le_refl _

end Fw
namespace Fw
open PySem PySem.Spec PyProof.Rows L2
/-- the components of the first i rooms -/
structure CInv (D : List (Int × Int)) (R : List Int) (i : Nat) (Cs : List (Addr × List Int)) : Prop where
  a : ∀ c ∈ Cs, ∃ r ∈ R.take i, IsC D R r c.2
  b : ∀ r ∈ R.take i, ∃ c ∈ Cs, r ∈ c.2
  up : (Cs.map (·.2)).Pairwise (fun x y => lexI x y = true)
  n : Cs.length ≤ i
section
variable {D : List (Int × Int)} {R : List Int}
theorem IsC.has {g : Int} {l : List Int} (h : IsC D R g l) : g ∈ l := (h.mem g).mpr .base
theorem take_succ_mem {R : List Int} {i : Nat} {r x : Int} (e : R[i]? = some r) : x ∈ R.take (i + 1) ↔ x ∈ R.take i ∨ x = r := by
  rw [List.take_add_one, e, List.mem_append]
  simp
theorem CInv.skip {i : Nat} {Cs : List (Addr × List Int)} (C : CInv D R i Cs) {r : Int} (e : R[i]? = some r) (h : ∃ c ∈ Cs, r ∈ c.2) : CInv D R (i + 1) Cs := by
  refine ⟨fun c hc => ?_, fun x hx => ?_, C.up, Nat.le_succ_of_le C.n⟩
  · obtain ⟨r', h1, h2⟩ := C.a c hc
    exact ⟨r', (take_succ_mem e).mpr (.inl h1), h2⟩
  · rcases (take_succ_mem e).mp hx with hx | hx
    · exact C.b x hx
    · rw [hx]; exact h
theorem CInv.add {i : Nat} {Cs : List (Addr × List Int)} (C : CInv D R i Cs) {r : Int} (e : R[i]? = some r) (upR : R.Pairwise (· < ·)) (no : ∀ c ∈ Cs, r ∉ c.2) {t : Addr} {l : List Int} (hl : IsC D R r l) : CInv D R (i + 1) (Cs ++ [(t, l)]) := by
  have hi : i < R.length := (List.getElem?_eq_some_iff.mp e).1
  have er : R[i] = r := (List.getElem?_eq_some_iff.mp e).2
  have mr : r ∈ R := List.mem_of_getElem? e
  have low : ∀ v ∈ R, v < r → v ∈ R.take i := fun v hv hlt => by
    obtain ⟨j, hj, ej⟩ := List.mem_iff_getElem.mp hv
    refine List.mem_take_iff_getElem.mpr ⟨j, ?_, ej⟩
    have : ¬ i ≤ j := fun hij => by
      rcases Nat.lt_or_eq_of_le hij with h | h
      · have := (List.pairwise_iff_getElem.mp upR) i j hi hj h
        omega
      · subst h; omega
    omega
  have least : ∀ v ∈ l, r ≤ v := fun v hv => by
    by_cases hlt : v < r
    · have wv := (hl.mem v).mp hv
      have mv : v ∈ R := by
        rcases wv.mem with z | z
        · omega
        · exact z
      obtain ⟨c, hc, hvc⟩ := C.b v (low v mv hlt)
      obtain ⟨r', h1, h2⟩ := C.a c hc
      have w2 : Wk D R r' r := ((h2.mem v).mp hvc).trans (wv.symm mr)
      exact absurd ((h2.mem r).mpr w2) (no c hc)
    · omega
  refine ⟨fun c hc => ?_, fun x hx => ?_, ?_, ?_⟩
  · rcases List.mem_append.mp hc with hc | hc
    · obtain ⟨r', h1, h2⟩ := C.a c hc
      exact ⟨r', (take_succ_mem e).mpr (.inl h1), h2⟩
    · rw [List.mem_singleton.mp hc]
      exact ⟨r, (take_succ_mem e).mpr (.inr rfl), hl⟩
  · rcases (take_succ_mem e).mp hx with hx | hx
    · obtain ⟨c, hc, h⟩ := C.b x hx
      exact ⟨c, List.mem_append_left _ hc, h⟩
    · exact ⟨(t, l), List.mem_append_right _ (List.mem_singleton.mpr rfl), by rw [hx]; exact hl.has⟩
  · rw [List.map_append, List.pairwise_append]
    refine ⟨C.up, List.pairwise_singleton _ _, fun x hx y hy => ?_⟩
    have ey : y = l := List.mem_singleton.mp hy
    obtain ⟨c, hc, ec⟩ := List.mem_map.mp hx
    obtain ⟨r', h1, h2⟩ := C.a c hc
    have rr : r' < r := by
      obtain ⟨j, hj, ej⟩ := List.mem_take_iff_getElem.mp h1
      have := (List.pairwise_iff_getElem.mp upR) j i (by omega) hi (by omega)
      omega
    subst ey
    subst ec
    have hr' := h2.has
    have u2 := h2.up
    have hr := hl.has
    revert hr' u2 hr least
    cases c.2 with
    | nil => intro _ h; cases h
    | cons a as =>
      cases y with
      | nil => intro _ _ _ h; cases h
      | cons b bs =>
        intro ls hr' u2 _
        refine lexI_head ?_
        have h1 : r ≤ b := ls b (List.mem_cons_self ..)
        have h2 : a ≤ r' := by
          rcases List.mem_cons.mp hr' with z | z
          · omega
          · exact Int.le_of_lt ((List.pairwise_cons.mp u2).1 r' z)
        omega
  · rw [List.length_append, List.length_singleton]
    exact Nat.succ_le_succ C.n
theorem CInv.done {Cs : List (Addr × List Int)} (C : CInv D R R.length Cs) (l : List Int) : l ∈ Cs.map (·.2) ↔ ∃ r ∈ R, IsC D R r l := by
  have ha := C.a
  have hb := C.b
  rw [List.take_length] at ha hb
  constructor
  · intro h
    obtain ⟨c, hc, e⟩ := List.mem_map.mp h
    subst e
    exact ha c hc
  · rintro ⟨r, hr, h⟩
    obtain ⟨c, hc, hrc⟩ := hb r hr
    obtain ⟨r', h1, h2⟩ := ha c hc
    have w := (h2.mem r).mp hrc
    have : c.2 = l := up_ext h2.up h.up fun v => by
      rw [h2.mem, h.mem]
      exact ⟨fun k => (w.symm h1).trans k, fun k => w.trans k⟩
    exact this ▸ List.mem_map_of_mem hc
end

section
variable {P : Program} {w : World} {K : PySem.W.Frag} {mg : Str → Option Value} {base : Heap}
def refs (Cs : List (Addr × List Int)) : List V := Cs.map fun c => V.ref c.1
def TupsAt (H : Hp) (Cs : List (Addr × List Int)) : Prop := ∀ c ∈ Cs, H c.1 = some (.tup (vi c.2)) ∧ c.2.length ≤ 20
theorem TupsAt.same {H H' : Hp} {Cs : List (Addr × List Int)} (h : TupsAt H Cs) (e : Same H H') : TupsAt H' Cs := fun c hc => ⟨e _ _ (h c hc).1, (h c hc).2⟩
theorem get_refs {Cs : List (Addr × List Int)} {i : Nat} {x : V} (h : (refs Cs)[i]? = some x) : ∃ c, Cs[i]? = some c ∧ x = .ref c.1 := by
  unfold refs at h
  rw [List.getElem?_map] at h
  cases e : Cs[i]? with
  | none => rw [e] at h; cases h
  | some v => rw [e] at h; exact ⟨v, rfl, (Option.some.inj h).symm⟩
def spComp (K : PySem.W.Frag) : Sp := fun vs H Q _ => ∃ (h rl : Addr) (n : Int) (D : List (Int × Int)) (R : List Int), vs = [.ref h, .ref rl] ∧ HouseAt H h n D ∧ Forest n D ∧ 0 ≤ n ∧ n ≤ 8 ∧ H rl = some (.tup (vi R)) ∧ R.Pairwise (· < ·) ∧ R.length ≤ 8 ∧
  ∀ H' t Cs, Same H H' → H' t = some (.tup (refs Cs)) → TupsAt H' Cs → (Cs.map (·.2)).Pairwise (fun x y => lexI x y = true) → (∀ l, l ∈ Cs.map (·.2) ↔ ∃ r ∈ R, IsC D R r l) → Cs.length ≤ 8 → Q (.ref t) H'
abbrev nComp : List Str := ["house", "rooms", "found", "room", "component"]
theorem scComp : FnScope nComp ["house", "rooms"] (defScope sComp) := ⟨rfl, rfl, rfl, by decide +kernel, rfl, by decide +kernel, by decide +kernel⟩
theorem ok_comp {f fN fS : Addr} {fd fdN fdS : FuncData} (F : Fun K "components" "components" sComp f fd) (T : Nm mg) (Tany : mg "any" = none) (DN : Def K mg "neighbors" sNb fN fdN ["house", "room"]) (DS : Def K mg "steps_toward" sSteps fS fdS ["house", "goal", "rooms"]) : FnOk P w K mg base CX0 3 f fd ["house", "rooms"] (spComp K) := by
  have GS : FnOk P w K mg base CX0 2 fS fdS ["house", "goal", "rooms"] (spSteps K) := ok_steps DS.F T DN
  refine F.ok scComp (fun vs H Q E h => ?_) (fun cdv A outer s H vs Q E hr h => ?_)
  · obtain ⟨h, rl, n, D, R, rfl, _⟩ := h
    rfl
  · obtain ⟨h, rl, n, D, R, rfl, hH, hF, n0, n1, eR, upR, lR, q⟩ := h
    refine ⟨_, pss_cons (ps_set (i := 2) scComp.nd rfl (.inl rfl) (pe_lst pa_nil))
      (pss_cons (ps_for PassesOwn.never rfl (pi_tup (pv 1)) (pg_name (i := 3) scComp.nd rfl (Or.inr rfl))
        (pss_one (ps_if (pt_not (pt_val (pe_callB (cr_any rfl) (by rfl) Tany (by decide +kernel) (pa_cons
            (pe_lc (own := [("component", 4)]) (g := gName 4) (tt := tYes) (te := tOp (rIn K false) (tVar 3) (tVar 4)) (by rfl) scComp.nd (pi_list (pv 2)) (blkOk_by (own := [("component", 4)]) (N := nComp) (sc := defScope sComp) (by decide +kernel))
              (fun _ _ _ _ _ => pg_name (i := 4) scComp.nd rfl (Or.inl rfl)) (fun _ _ _ _ _ => pts_nil) (fun _ _ _ _ _ => pe_cmpR op_in_seq (pv 3) (pv 4) (by rfl))) pa_nil))))
          (pss_one (ps_expr (pe_bm PySem.F.plainAttrs_list PySem.F.slot_list_append PySem.F.type_list_append mt_append (pv 2) (pa_cons (pe_callTy call_tuple_of (by rfl) T.tuple (by decide +kernel) (pa_cons
            (pe_callB (cr_sortedDI rfl) (by rfl) T.sorted (by decide +kernel) (pa_cons (pe_call GS hr (by rfl) DS.g DS.F.kp DS.b .nil pass0 (pa_cons (pv 0) (pa_cons (pv 3) (pa_cons (pv 1) pa_nil)))) pa_nil)) pa_nil)) pa_nil))))
          pss_nil)))
      (pss_one (ps_ret (pe_callTy call_tuple_of (by rfl) T.tuple (by decide +kernel) (pa_cons (pv 2) pa_nil))))), ?_⟩
    refine ⟨Nat.zero_le _, fun fl hfl => ?_⟩
    have t0 : TupsAt (upd H fl (.lst [])) [] := fun c hc => by cases hc
    have c0 : CInv D R 0 [] := ⟨fun c hc => (by cases hc), fun r hr => (by simp at hr), List.Pairwise.nil, Nat.le_refl _⟩
    refine ⟨_, rfl, rl, rfl, ⟨_, SqT.of (same_upd hfl _ _ eR)⟩, for_tup (K := K) (a := rl) (xs := vi R) (fun i σ H' => ∃ (Cs : List (Addr × List Int)) (y3 y4 : Option V), σ = [some (.ref h), some (.ref rl), some (.ref fl), y3, y4] ∧ Same H H' ∧ H' fl = some (.lst (refs Cs)) ∧ TupsAt H' Cs ∧ CInv D R i Cs)
      ⟨[], none, none, rfl, same_upd hfl, upd_same, t0, c0⟩ (fun i σ H' _ ⟨_, _, _, _, sm, _⟩ => SqT.of (sm _ _ eR)) ?_ ?_⟩
    · rintro i x σ H1 hx ⟨Cs, y3, y4, rfl, s1, ef, hT, C⟩
      obtain ⟨r, er, rfl⟩ := get_vi hx
      have hi : i < R.length := (List.getElem?_eq_some_iff.mp er).1
      have Cn := C.n
      dsimp only [gName]
      refine if_by (fun b H2 => Same H1 H2 ∧ (b = true → ∀ c ∈ Cs, r ∉ c.2) ∧ (b = false → ∃ c ∈ Cs, r ∈ c.2)) ?_ ?_ ?_
      · rintro H2 ⟨s2, no, _⟩
        have no := no rfl
        have ef2 := s2 _ _ ef
        refine ⟨_, rfl, .inl ⟨rfl, _, SqL.of ef2⟩, _, rfl, _, rfl, _, rfl, h, rl, n, D, r, R, rfl, hH.same (s1.trans s2), hF, n0, n1, .inr (SqT.of (s2 _ _ (s1 _ _ eR))), fun H3 d kvs s3 hd ed S => ?_⟩
        obtain ⟨ks, k1, k2, k3⟩ := S.inv.keys
        have sl := S.inv.len
        have kl : ks.length = kvs.length := by simpa using (congrArg List.length k1).symm
        refine ⟨d, kvs, ks, rfl, ed, k1, fun ys p pm up hp => ⟨p, _, rfl, .inl ⟨SqL.of upd_same, fun t ht => ?_⟩⟩⟩
        have sA : Same H2 (upd (upd H3 p (.lst (vi ys))) t (.tup (vi ys))) := s3.trans ((same_upd hp).trans (same_upd ht))
        have ef4 := sA _ _ ef2
        have hl : IsC D R r ys := IsC.of pm up k2 fun v => (k3 v).trans (S.wk v)
        refine ⟨fl, _, _, rfl, rfl, ef4, by unfold refs; rw [List.length_map]; exact small1000 (by omega), ?_⟩
        refine ⟨Cs ++ [(t, ys)], _, _, rfl, same_put (s1.trans (s2.trans sA)) hfl, ?_, fun c hc => ?_, C.add er upR no hl⟩
        · rw [upd_same]
          unfold refs
          rw [List.map_append]
          rfl
        · rcases List.mem_append.mp hc with hc | hc
          · have h1 := hT.same (s2.trans sA) c hc
            exact ⟨(upd_ne (ne_of h1.1 ef4 (by intro z; cases z))).trans h1.1, h1.2⟩
          · rw [List.mem_singleton.mp hc]
            have h1 : (upd (upd H3 p (.lst (vi ys))) t (.tup (vi ys))) t = some (.tup (vi ys)) := upd_same
            exact ⟨(upd_ne (ne_of h1 ef4 (by intro z; cases z))).trans h1, by show ys.length ≤ 20; rw [pm.length_eq]; omega⟩
      · rintro H2 ⟨s2, _, yes⟩
        exact ⟨Cs, _, _, rfl, s1.trans s2, s2 _ _ ef, hT.same s2, C.skip er (yes rfl)⟩
      · intro QQ hQ
        refine ⟨_, rfl, fl, rfl, ⟨_, SqL.of ef⟩, fun L hL => lc_list (K := K) (a := fl) (xs := refs Cs) (fun j H2 => Same H1 H2 ∧ H2 L = some (.lst ((Cs.take j).map fun c => V.bl (decide (r ∈ c.2))))) ⟨same_upd hL, upd_same⟩ (fun j H2 _ hh => SqL.of (hh.1 _ _ ef)) ?_ ?_⟩
        · rintro j x H2 hx ⟨s2, e2⟩
          obtain ⟨c, ec, rfl⟩ := get_refs hx
          have hc := hT.same s2 c (List.mem_of_getElem? ec)
          have hj : j < Cs.length := (List.getElem?_eq_some_iff.mp ec).1
          refine ⟨rfl, ?_⟩
          unfold tYes
          refine iteT ?_
          refine ⟨_, rfl, _, rfl, c.1, _, rfl, .inr (SqT.of hc.1), rfl, flat_ints c.2, _, e2, ?_, same_put s2 hL, ?_⟩
          · rw [List.length_map, List.length_take]
            exact small1000 (by omega)
          · rw [upd_same, List.take_add_one, ec, List.map_append]
            show some (HO.lst (_ ++ [V.bl (inV (.int r) (vi c.2))])) = _
            rw [inV_ints]
            rfl
        · rintro H2 ⟨s2, e2⟩
          have el : (refs Cs).length = Cs.length := by unfold refs; rw [List.length_map]
          rw [el, List.take_length] at e2
          refine ⟨L, Cs.map fun c => decide (r ∈ c.2), rfl, SqL.of (by rw [List.map_map]; exact e2), _, rfl, hQ _ _ ⟨s2, fun e c hc m => ?_, fun e => ?_⟩⟩
          · have : ((Cs.map fun c => decide (r ∈ c.2)).any id) = true := List.any_eq_true.mpr ⟨true, List.mem_map.mpr ⟨c, hc, decide_eq_true m⟩, rfl⟩
            rw [this] at e
            cases e
          · have e : ((Cs.map fun c => decide (r ∈ c.2)).any id) = true := by simpa using e
            obtain ⟨b, hb, hb2⟩ := List.any_eq_true.mp e
            obtain ⟨c, hc, e3⟩ := List.mem_map.mp hb
            have hb2 : b = true := hb2
            rw [hb2] at e3
            exact ⟨c, hc, of_decide_eq_true e3⟩
    · rintro σ H1 ⟨Cs, y3, y4, rfl, s1, ef, hT, C⟩
      rw [List.length_map] at C
      have Cn := C.n
      refine ⟨_, rfl, fl, _, rfl, .inl ⟨SqL.of ef, fun t ht => ?_⟩⟩
      exact q _ t Cs (s1.trans (same_upd ht)) upd_same (hT.same (same_upd ht)) C.up C.done (by omega)
end
end Fw
namespace Fw
open PySem PySem.Spec PyProof.Rows L2

/-- the rooms with people; the rooms without -/
def occ (n : Int) (P : List (Str × Int)) : List Int := (rg n).filter fun r => decide (r ∈ P.map (·.2))
def emp (n : Int) (P : List (Str × Int)) : List Int := (rg n).filter fun r => !decide (r ∈ P.map (·.2))
theorem rg_snoc (i : Nat) : (List.range (i + 1)).map (fun (j : Nat) => 0 + (j : Int)) = (List.range i).map (fun (j : Nat) => 0 + (j : Int)) ++ [0 + (i : Int)] := by
  rw [List.range_succ, List.map_append]
  rfl
theorem rg0 (n : Int) : (List.range n.toNat).map (fun (j : Nat) => 0 + (j : Int)) = rg n := List.map_congr_left fun i _ => by omega
theorem mem_occ {n : Int} {P : List (Str × Int)} {r : Int} : r ∈ occ n P ↔ (0 ≤ r ∧ r < n) ∧ r ∈ P.map (·.2) := by
  unfold occ
  rw [List.mem_filter, mem_rg, decide_eq_true_eq]
theorem mem_emp {n : Int} {P : List (Str × Int)} {r : Int} : r ∈ emp n P ↔ (0 ≤ r ∧ r < n) ∧ r ∉ P.map (·.2) := by
  unfold emp
  rw [List.mem_filter, mem_rg, Bool.not_eq_true', decide_eq_false_iff_not]
theorem Pl.mem_occ {n : Int} {P : List (Str × Int)} (h : Pl n P) {r : Int} : r ∈ occ n P ↔ r ∈ P.map (·.2) := by
  rw [Fw.mem_occ]
  refine ⟨fun x => x.2, fun x => ⟨?_, x⟩⟩
  obtain ⟨y, hy, e⟩ := List.mem_map.mp x
  rw [← e]
  exact h.rm y hy
theorem rg_up (n : Int) : (rg n).Pairwise (· < ·) := range_up n.toNat
theorem occ_up (n : Int) (P : List (Str × Int)) : (occ n P).Pairwise (· < ·) := (rg_up n).filter _
theorem emp_up (n : Int) (P : List (Str × Int)) : (emp n P).Pairwise (· < ·) := (rg_up n).filter _
theorem occ_len (n : Int) (P : List (Str × Int)) : (occ n P).length ≤ n.toNat := rg_filter_len
theorem emp_len (n : Int) (P : List (Str × Int)) : (emp n P).length ≤ n.toNat := rg_filter_len
theorem in_empty (P : List (Str × Int)) (r : Int) : ((inside P [r]).map V.str).isEmpty = !decide (r ∈ P.map (·.2)) := by
  rw [Bool.eq_iff_iff, List.isEmpty_iff, List.map_eq_nil_iff, inside_nil, Bool.not_eq_true', decide_eq_false_iff_not]
  constructor
  · intro h m
    obtain ⟨y, hy, e⟩ := List.mem_map.mp m
    exact h y hy (List.mem_singleton.mpr e)
  · intro h x hx m
    rw [List.mem_singleton] at m
    exact h (m ▸ List.mem_map_of_mem (f := (·.2)) hx)
/-- the regions of the rooms R -/
structure Regs (D : List (Int × Int)) (R : List Int) (Ls : List (List Int)) : Prop where
  up : Ls.Pairwise (fun x y => lexI x y = true)
  mem : ∀ l, l ∈ Ls ↔ ∃ r ∈ R, IsC D R r l
def RegsAt (H : Hp) (t : Addr) (D : List (Int × Int)) (R : List Int) (Cs : List (Addr × List Int)) : Prop := H t = some (.tup (refs Cs)) ∧ TupsAt H Cs ∧ Cs.length ≤ 8 ∧ Regs D R (Cs.map (·.2))
theorem RegsAt.same {H H' : Hp} {t : Addr} {D : List (Int × Int)} {R : List Int} {Cs : List (Addr × List Int)} (x : RegsAt H t D R Cs) (e : Same H H') : RegsAt H' t D R Cs := ⟨e _ _ x.1, x.2.1.same e, x.2.2⟩
theorem RegsAt.tk {H H' : Hp} {t : Addr} {D : List (Int × Int)} {R : List Int} {Cs : List (Addr × List Int)} (x : RegsAt H t D R Cs) (e : Tk H H') : RegsAt H' t D R Cs := ⟨e.t x.1, fun c hc => ⟨e.t (x.2.1 c hc).1, (x.2.1 c hc).2⟩, x.2.2⟩
theorem Wk.mono {D : List (Int × Int)} {R R' : List Int} {g v : Int} (h : Wk D R g v) (m : ∀ x ∈ R, x ∈ R') : Wk D R' g v := by
  induction h with
  | base => exact .base
  | step _ a o ih => exact .step ih a (m _ o)
theorem Wk.congr {D : List (Int × Int)} {R R' : List Int} (h : ∀ x, x ∈ R ↔ x ∈ R') {g v : Int} : Wk D R g v ↔ Wk D R' g v := ⟨fun w => w.mono fun x hx => (h x).mp hx, fun w => w.mono fun x hx => (h x).mpr hx⟩
theorem IsC.congr {D : List (Int × Int)} {R R' : List Int} (h : ∀ x, x ∈ R ↔ x ∈ R') {g : Int} {l : List Int} (i : IsC D R g l) : IsC D R' g l := ⟨i.up, fun v => (i.mem v).trans (Wk.congr h)⟩
theorem IsC.re {D : List (Int × Int)} {R : List Int} {g r : Int} {l : List Int} (h : IsC D R g l) (hg : g ∈ R) (hr : r ∈ l) : IsC D R r l := by
  refine ⟨h.up, fun v => ?_⟩
  have w := (h.mem r).mp hr
  rw [h.mem]
  exact ⟨fun k => (w.symm hg).trans k, fun k => w.trans k⟩
theorem IsC.sub {D : List (Int × Int)} {R : List Int} {g : Int} {l : List Int} (h : IsC D R g l) (hg : g ∈ R) : ∀ x ∈ l, x ∈ R := fun x hx => by
  rcases ((h.mem x).mp hx).mem with e | e
  · rw [e]; exact hg
  · exact e
section
variable {D : List (Int × Int)} {R : List Int} {Ls : List (List Int)}
theorem Regs.has (h : Regs D R Ls) {l : List Int} (hl : l ∈ Ls) {r : Int} (hr : r ∈ l) : r ∈ R ∧ IsC D R r l := by
  obtain ⟨g, hg, hc⟩ := (h.mem l).mp hl
  exact ⟨hc.sub hg r hr, hc.re hg hr⟩
theorem Regs.one (h : Regs D R Ls) {l m : List Int} (hl : l ∈ Ls) (hm : m ∈ Ls) {r : Int} (h1 : r ∈ l) (h2 : r ∈ m) : l = m := (h.has hl h1).2.one (h.has hm h2).2
/-- the list of the component of a room: by what can be reached -/
theorem isC_ex (D : List (Int × Int)) {R : List Int} (upR : R.Pairwise (· < ·)) {r : Int} (hr : r ∈ R) : ∃ l, IsC D R r l := by
  classical
  refine ⟨R.filter fun v => decide (Wk D R r v), upR.filter _, fun v => ?_⟩
  rw [List.mem_filter, decide_eq_true_eq]
  refine ⟨fun h => h.2, fun h => ⟨?_, h⟩⟩
  rcases h.mem with e | e
  · rw [e]; exact hr
  · exact e
theorem Regs.ex (h : Regs D R Ls) (upR : R.Pairwise (· < ·)) {r : Int} (hr : r ∈ R) : ∃ l ∈ Ls, r ∈ l := by
  obtain ⟨l, hl⟩ := isC_ex D upR hr
  exact ⟨l, (h.mem l).mpr ⟨r, hr, hl⟩, hl.has⟩
end
theorem IsC.len {D : List (Int × Int)} {n : Int} {P : List (Str × Int)} {r : Int} {l : List Int} (h : IsC D (occ n P) r l) (hr : r ∈ occ n P) (n1 : n ≤ 8) : l.length ≤ 8 := by
  have h1 : l.length ≤ n.toNat := short (h.up.imp fun {a b} z => by omega) fun x hx => by
    have := (Fw.mem_occ.mp (h.sub hr x hx)).1
    omega
  omega
section
variable {P : Program} {w : World} {K : PySem.W.Frag} {mg : Str → Option Value} {base : Heap}

def spEmp : Sp := fun vs H Q _ => ∃ (h p : Addr) (n : Int) (D : List (Int × Int)) (P : List (Str × Int)), vs = [.ref h, .ref p] ∧ HouseAt H h n D ∧ 0 ≤ n ∧ n ≤ 8 ∧ PlAt H p P ∧ P.length ≤ 100 ∧ ∀ H' t, Same H H' → H' t = some (.tup (vi (emp n P))) → Q (.ref t) H'
abbrev nEmp : List Str := ["house", "placement", "room"]
theorem scEmp : FnScope nEmp ["house", "placement"] (defScope sEmp) := ⟨rfl, rfl, rfl, by decide +kernel, rfl, by decide +kernel, by decide +kernel⟩
theorem ok_emp {f : Addr} {fd : FuncData} {k : Nat} (F : Fun K "empty_rooms" "empty_rooms" sEmp f fd) (T : Nm mg) (Cpeople_in : Cal P w K mg base (k + 2) "people_in" pPIn spPIn) : FnOk P w K mg base CX0 (k + 3) f fd pHP spEmp := by
  refine F.ok scEmp (fun vs H Q E h => ?_) (fun cdv A outer s H vs Q E hr h => ?_)
  · obtain ⟨h, p, n, D, P, rfl, _⟩ := h
    rfl
  · obtain ⟨h, p, n, D, P, rfl, hH, n0, n1, hP, lP, q⟩ := h
    refine ⟨_, (pss_one (ps_ret (pe_callTy (call_tupleK K rfl) (by rfl) T.tuple (by decide +kernel) (pa_cons (pe_lc (own := [("room", 2)]) (g := gName 2) (by rfl) scEmp.nd (pi_range1 (by rfl) T.range (pa_cons (pe_ix (ix_tupK K rfl) (pv 0) pe_int (fun _ _ => rfl)) pa_nil))
 (blkOk_by (own := [("room", 2)]) (N := nEmp) (sc := defScope sEmp) (by decide +kernel))
 (fun _ _ _ _ _ => (pg_name (i := 2) scEmp.nd rfl (.inl rfl))) (fun _ _ _ _ _ => pts_one (pt_not (pt_truthK K rfl (pe_cal Cpeople_in hr (by rfl) (pa_cons (pv 1) (pa_cons (pv 2) pa_nil))) (by intro _; rfl)))) (fun _ _ _ _ _ => (pv 2))) pa_nil)))), ?_⟩
    obtain ⟨qd, eh⟩ := hH.room0
    refine ⟨_, rfl, h, _, _, _, rfl, rfl, SqT.of eh, atI0, n, rfl, by omega, by omega, fun L hL => lc_range (lo := 0) (n := n.toNat) (fun i H1 => Same H H1 ∧ H1 L = some (.lst (vi (((List.range i).map fun (j : Nat) => 0 + (j : Int)).filter fun r => !decide (r ∈ P.map (·.2))))))
      ⟨same_upd hL, upd_same⟩ ?_ ?_⟩
    · rintro i H1 hi ⟨s1, e1⟩
      refine ⟨rfl, _, rfl, _, rfl, p, P, _, rfl, hP.same s1, lP, fun H2 u s2 e2 => ⟨_, .inr (.inl ⟨_, SqT.of e2, rfl⟩), ?_⟩⟩
      rw [in_empty, rg_snoc, filter_snoc]
      refine ite2 (fun c => ?_) (fun c => ?_)
      · rw [if_pos (by simpa using c)]
        refine ⟨_, rfl, _, s2 _ _ e1, ?_, same_put (s1.trans s2) hL, ?_⟩
        · rw [List.length_map]
          refine small1000 (Nat.le_trans (List.length_filter_le _ _) ?_)
          rw [List.length_map, List.length_range]
          omega
        · rw [upd_same, vi_app]
          rfl
      · rw [if_neg (by simpa using c), List.append_nil]
        exact ⟨s1.trans s2, s2 _ _ e1⟩
    · rintro H1 ⟨s1, e1⟩
      rw [rg0] at e1
      exact ⟨L, _, rfl, .inl ⟨SqL.of e1, fun t ht => q _ t (s1.trans (same_upd ht)) upd_same⟩⟩
def spFReg : Sp := fun vs H Q _ => ∃ (h p : Addr) (n : Int) (D : List (Int × Int)) (P : List (Str × Int)), vs = [.ref h, .ref p] ∧ HouseAt H h n D ∧ Forest n D ∧ 0 ≤ n ∧ n ≤ 8 ∧ PlAt H p P ∧ P.length ≤ 100 ∧ ∀ H' t Cs, Same H H' → RegsAt H' t D (occ n P) Cs → Q (.ref t) H'
abbrev nFReg : List Str := ["house", "placement", "occupied", "room"]
theorem scFReg : FnScope nFReg ["house", "placement"] (defScope sFReg) := ⟨rfl, rfl, rfl, by decide +kernel, rfl, by decide +kernel, by decide +kernel⟩
theorem ok_freg {f : Addr} {fd : FuncData} {k : Nat} (F : Fun K "find_regions" "find_regions" sFReg f fd) (T : Nm mg) (Cpeople_in : Cal P w K mg base (k + 3) "people_in" pPIn spPIn) (Ccomponents : Cal P w K mg base (k + 3) "components" ["house", "rooms"] (spComp K)) : FnOk P w K mg base CX0 (k + 4) f fd pHP spFReg := by
  refine F.ok scFReg (fun vs H Q E h => ?_) (fun cdv A outer s H vs Q E hr h => ?_)
  · obtain ⟨h, p, n, D, P, rfl, _⟩ := h
    rfl
  · obtain ⟨h, p, n, D, P, rfl, hH, hF, n0, n1, hP, lP, q⟩ := h
    refine ⟨_, (pss_cons (ps_set (i := 2) scFReg.nd rfl (.inl rfl) (pe_callTy (call_tupleK K rfl) (by rfl) T.tuple (by decide +kernel) (pa_cons (pe_lc (own := [("room", 3)]) (g := gName 3) (by rfl) scFReg.nd (pi_range1 (by rfl) T.range (pa_cons (pe_ix (ix_tupK K rfl) (pv 0) pe_int (fun _ _ => rfl)) pa_nil))
 (blkOk_by (own := [("room", 3)]) (N := nFReg) (sc := defScope sFReg) (by decide +kernel))
 (fun _ _ _ _ _ => (pg_name (i := 3) scFReg.nd rfl (.inl rfl))) (fun _ _ _ _ _ => pts_one (pt_truthK K rfl (pe_cal Cpeople_in hr (by rfl) (pa_cons (pv 1) (pa_cons (pv 3) pa_nil))) (by intro _; rfl))) (fun _ _ _ _ _ => (pv 3))) pa_nil)))
      (pss_one (ps_ret (pe_cal Ccomponents hr (by rfl) (pa_cons (pv 0) (pa_cons (pv 2) pa_nil)))))), ?_⟩
    obtain ⟨qd, eh⟩ := hH.room0
    refine ⟨_, rfl, h, _, _, _, rfl, rfl, SqT.of eh, atI0, n, rfl, by omega, by omega, fun L hL => lc_range (lo := 0) (n := n.toNat) (fun i H1 => Same H H1 ∧ H1 L = some (.lst (vi (((List.range i).map fun (j : Nat) => 0 + (j : Int)).filter fun r => decide (r ∈ P.map (·.2))))))
      ⟨same_upd hL, upd_same⟩ ?_ ?_⟩
    · rintro i H1 hi ⟨s1, e1⟩
      refine ⟨rfl, _, rfl, _, rfl, p, P, _, rfl, hP.same s1, lP, fun H2 u s2 e2 => ⟨_, .inr (.inl ⟨_, SqT.of e2, rfl⟩), ?_⟩⟩
      rw [in_empty, rg_snoc, filter_snoc]
      refine ite2 (fun c => ?_) (fun c => ?_)
      · rw [if_pos (by simpa using c)]
        refine ⟨_, rfl, _, s2 _ _ e1, ?_, same_put (s1.trans s2) hL, ?_⟩
        · rw [List.length_map]
          refine small1000 (Nat.le_trans (List.length_filter_le _ _) ?_)
          rw [List.length_map, List.length_range]
          omega
        · rw [upd_same, vi_app]
          rfl
      · rw [if_neg (by simpa using c), List.append_nil]
        exact ⟨s1.trans s2, s2 _ _ e1⟩
    · rintro H1 ⟨s1, e1⟩
      rw [rg0] at e1
      refine ⟨L, _, rfl, .inl ⟨SqL.of e1, fun t ht => ?_⟩⟩
      have s2 := s1.trans (same_upd (o := .tup (vi (occ n P))) ht)
      have lo := occ_len n P
      exact ⟨_, rfl, _, rfl, h, t, n, D, occ n P, rfl, hH.same s2, hF, n0, n1, upd_same, occ_up n P, by omega, fun H' u Cs s' a1 a2 a3 a4 a5 => q _ u Cs (s2.trans s') ⟨a1, a2, a5, a3, a4⟩⟩
def spLegal : Sp := fun vs H Q _ => ∃ (h p : Addr) (n : Int) (D : List (Int × Int)) (P : List (Str × Int)), vs = [.ref h, .ref p] ∧ HouseAt H h n D ∧ Forest n D ∧ 0 ≤ n ∧ n ≤ 8 ∧ PlAt H p P ∧ P.length ≤ 100 ∧ ∀ H' t, Same H H' → PlD H' t (mvs n D P P) → Q (.ref t) H'
abbrev nLegal : List Str := ["house", "placement", "found", "name", "current", "room"]
theorem scLegal : FnScope nLegal ["house", "placement"] (defScope sLegal) := ⟨rfl, rfl, rfl, by decide +kernel, rfl, by decide +kernel, by decide +kernel⟩
theorem ok_legal {f : Addr} {fd : FuncData} {k : Nat} (F : Fun K "legal_moves" "legal_moves" sLegal f fd) (T : Nm mg) (Cneighbors : Cal P w K mg base (k + 2) "neighbors" ["house", "room"] spNb) (Cpeople_in : Cal P w K mg base (k + 2) "people_in" pPIn spPIn) : FnOk P w K mg base CX0 (k + 3) f fd pHP spLegal := by
  refine F.ok scLegal (fun vs H Q E h => ?_) (fun cdv A outer s H vs Q E hr h => ?_)
  · obtain ⟨h, p, n, D, P, rfl, _⟩ := h
    rfl
  · obtain ⟨h, p, n, D, P, rfl, hH, hF, n0, n1, hP, lP, q⟩ := h
    refine ⟨_, (pss_cons (ps_set (i := 2) scLegal.nd rfl (.inl rfl) (pe_lst pa_nil))
      (pss_cons (ps_for PassesOwn.never rfl (pi_tup (pv 1)) (pg_tup (by rfl) (pgs_cons (pg_name (i := 3) scLegal.nd rfl (.inl rfl)) (pgs_cons (pg_name (i := 4) scLegal.nd rfl (.inl rfl)) pgs_nil)))
      (pss_one (ps_for PassesOwn.never rfl (pi_tup (pe_cal Cneighbors hr (by rfl) (pa_cons (pv 0) (pa_cons (pv 4) pa_nil)))) (pg_name (i := 5) scLegal.nd rfl (.inl rfl))
       (pss_one (ps_if (pt_truthK K rfl (pe_cal Cpeople_in hr (by rfl) (pa_cons (pv 1) (pa_cons (pv 5) pa_nil))) (by intro _; rfl))
        (pss_one (ps_expr (pe_bm PySem.F.plainAttrs_list PySem.F.slot_list_append PySem.F.type_list_append mt_append (pv 2) (pa_cons (pe_tup (pa_cons (pv 3) (pa_cons (pv 5) pa_nil))) pa_nil))))
        pss_nil)))))
      (pss_one (ps_ret (pe_callTy (call_tupleF K rfl) (by rfl) T.tuple (by decide +kernel) (pa_cons (pv 2) pa_nil)))))), ?_⟩
    refine ⟨Nat.zero_le _, fun R hR => ?_⟩
    have sm := same_upd (o := .lst []) hR
    refine ⟨_, rfl, p, rfl, (hP.same sm).sq, for_pl hP (fun i σ' H' => ∃ y3 y4 y5, σ' = [some (.ref h), some (.ref p), some (.ref R), y3, y4, y5] ∧ Same H H' ∧ LsAt H' R (mvs n D P (P.take i)))
      ⟨_, _, _, rfl, sm, .nil upd_same⟩ ?_ ?_ ?_⟩
    · rintro k σ' H' ⟨_, _, _, _, s', _⟩
      exact Tk.of s'
    · rintro k nm r σ' H2 hk ⟨y3, y4, y5, rfl, s2, x2⟩
      refine ⟨_, rfl, _, rfl, h, n, D, r, rfl, hH.same s2, hF, fun H3 u s3 e3 => ?_⟩
      refine ⟨u, rfl, ⟨_, SqT.of e3⟩, for_tup (K := K) (a := u) (xs := vi (nb n D r)) (fun j σ' H' => ∃ y5, σ' = [some (.ref h), some (.ref p), some (.ref R), some (.str nm), some (.int r), y5] ∧ Same H H' ∧ H' u = some (.tup (vi (nb n D r))) ∧ LsAt H' R (mvs n D P (P.take k) ++ (((nb n D r).take j).filter fun t => decide (t ∈ P.map (·.2))).map fun t => (nm, t)))
        ⟨_, rfl, s2.trans s3, e3, by rw [List.take_zero, List.filter_nil, List.map_nil, List.append_nil]; exact x2.same s3⟩ ?_ ?_ ?_⟩
      · rintro j σ' H' _ ⟨_, _, _, e', _⟩
        exact SqT.of e'
      · rintro j x σ' H4 hx ⟨z5, rfl, s4, e4, x4⟩
        obtain ⟨t, ht, rfl⟩ := get_vi hx
        have ef : (((nb n D r).take (j + 1)).filter fun t => decide (t ∈ P.map (·.2))).map (fun t => (nm, t)) = (((nb n D r).take j).filter fun t => decide (t ∈ P.map (·.2))).map (fun t => (nm, t)) ++ if t ∈ P.map (·.2) then [(nm, t)] else [] := by
          rw [take_snoc ht, filter_snoc, List.map_append]
          congr 1
          by_cases c : t ∈ P.map (·.2)
          · rw [if_pos c, if_pos (decide_eq_true c)]
            rfl
          · rw [if_neg c, if_neg (by simpa using c)]
            rfl
        refine ⟨_, rfl, _, rfl, p, P, t, rfl, hP.same s4, lP, fun H5 v s5 e5 => ⟨_, .inr (.inl ⟨_, SqT.of e5, rfl⟩), ?_⟩⟩
        rw [in_empty, Bool.not_not]
        refine ite2 (fun c => ?_) (fun c => ?_)
        · rw [if_pos (of_decide_eq_true c)] at ef
          obtain ⟨xs5, er5, _⟩ := (x4.same s5).tup
          refine ⟨_, rfl, .inl ⟨rfl, _, SqL.of er5⟩, _, rfl, _, rfl, by show 2 ≤ sizeLine; decide, fun a ha => ?_⟩
          have s6 := same_upd (o := .tup [.str nm, .int t]) ha
          obtain ⟨acc, a1, a2, a3⟩ := ((x4.same s5).same s6).snoc (t := a) upd_same
          refine ⟨R, _, _, rfl, rfl, a1, ?_, _, rfl, same_put (s4.trans (s5.trans s6)) hR, ?_, ?_⟩
          · rw [a2, List.length_append, List.length_map]
            have h1 := List.length_filter_le (fun t => decide (t ∈ P.map (·.2))) ((nb n D r).take j)
            have h2 := nb_len n D r
            rw [List.length_take] at h1
            have h3 := mvs_len n D P (P.take k) n1
            rw [List.length_take] at h3
            exact small1000 (by omega)
          · have e6 := s6 _ _ (s5 _ _ e4)
            rw [upd_ne (ne_of e6 a1 (by intro z; cases z))]
            exact e6
          · rw [ef, ← List.append_assoc]
            exact a3
        · rw [if_neg (fun z => c (decide_eq_true z)), List.append_nil] at ef
          refine ⟨_, rfl, s4.trans s5, s5 _ _ e4, ?_⟩
          rw [ef]
          exact x4.same s5
      · rintro σ' H4 ⟨z5, rfl, s4, e4, x4⟩
        rw [List.length_map, List.take_length] at x4
        refine ⟨_, _, _, rfl, s4, ?_⟩
        rw [mvs_snoc hk]
        exact x4
    · rintro σ' H2 ⟨y3, y4, y5, rfl, s2, x2⟩
      rw [List.take_length] at x2
      obtain ⟨xs, e2, e3⟩ := x2.tup
      exact ⟨_, rfl, R, _, rfl, SqL.of e2, fun t ob ht od => q _ t (s2.trans (same_upd ht)) (e3 t ob ht od)⟩
end
end Fw
namespace Fw
open PySem PySem.Spec PyProof.Rows L2
theorem upS_ext : ∀ {xs ys : List Str}, xs.Pairwise ltS → ys.Pairwise ltS → (∀ x, x ∈ xs ↔ x ∈ ys) → xs = ys
  | [], [], _, _, _ => rfl
  | [], y :: ys, _, _, h => absurd ((h y).mpr (List.mem_cons_self ..)) List.not_mem_nil
  | x :: xs, [], _, _, h => absurd ((h x).mp (List.mem_cons_self ..)) List.not_mem_nil
  | x :: xs, y :: ys, hx, hy, h => by
    obtain ⟨hx1, hx2⟩ := List.pairwise_cons.mp hx
    obtain ⟨hy1, hy2⟩ := List.pairwise_cons.mp hy
    have e : x = y := by
      rcases List.mem_cons.mp ((h x).mp (List.mem_cons_self ..)) with e | m
      · exact e
      · rcases List.mem_cons.mp ((h y).mpr (List.mem_cons_self ..)) with e | m'
        · exact e.symm
        · exact absurd (ltS_trans (hy1 x m) (hx1 y m')) (ltS_irr y)
    subst e
    rw [upS_ext hx2 hy2 fun z => ?_]
    constructor
    · intro m
      rcases List.mem_cons.mp ((h z).mp (List.mem_cons_of_mem _ m)) with e | m'
      · rw [e] at m
        exact absurd (hx1 x m) (ltS_irr x)
      · exact m'
    · intro m
      rcases List.mem_cons.mp ((h z).mpr (List.mem_cons_of_mem _ m)) with e | m'
      · rw [e] at m
        exact absurd (hy1 x m) (ltS_irr x)
      · exact m'
theorem sorted_same {ns ys : List Str} (h : Names ns) (p : ys.Perm ns) (s : sortedS ys = true) : ys = ns :=
  upS_ext (sorted_names p s h.nodup h.nam).up h.up fun x => p.mem_iff
theorem subset_len {α : Type} [DecidableEq α] : ∀ {xs ys : List α}, xs.Nodup → (∀ x ∈ xs, x ∈ ys) → xs.length ≤ ys.length
  | [], _, _, _ => Nat.zero_le _
  | x :: xs, ys, nd, h => by
    obtain ⟨h1, h2⟩ := List.nodup_cons.mp nd
    have hx := h x (List.mem_cons_self ..)
    have := subset_len (ys := ys.erase x) h2 fun z hz => (List.mem_erase_of_ne (show z ≠ x from fun e => h1 (e ▸ hz))).mpr (h z (List.mem_cons_of_mem _ hz))
    rw [List.length_erase_of_mem hx] at this
    have := List.length_pos_of_mem hx
    simp only [List.length_cons]
    omega
theorem split_len {α : Type} (p : α → Bool) : ∀ xs : List α, (xs.filter p).length + (xs.filter fun x => !p x).length = xs.length
  | [] => rfl
  | x :: xs => by
    have := split_len p xs
    cases h : p x with
    | true =>
      rw [List.filter_cons_of_pos h, List.filter_cons_of_neg (by simp [h])]
      simp only [List.length_cons]
      omega
    | false =>
      rw [List.filter_cons_of_neg (by simp [h]), List.filter_cons_of_pos (by simp [h])]
      simp only [List.length_cons]
      omega
theorem occ_emp (n : Int) (P : List (Str × Int)) : (occ n P).length + (emp n P).length = n.toNat := by
  have := split_len (fun r => decide (r ∈ P.map (·.2))) (rg n)
  rw [rg_len] at this
  exact this
section
variable {D : List (Int × Int)} {R : List Int} {Ls : List (List Int)}
theorem up_nodup {l : List Int} (h : l.Pairwise (· < ·)) : l.Nodup := List.nodup_iff_pairwise_ne.mpr (h.imp fun {a b} z => by omega)
theorem lex_irr : ∀ l : List Int, lexI l l = false
  | [] => rfl
  | x :: l => by
    rw [lexI, if_pos rfl]
    exact lex_irr l
theorem Regs.flat_nodup (h : Regs D R Ls) : Ls.flatten.Nodup := by
  rw [List.nodup_iff_pairwise_ne, List.pairwise_flatten]
  refine ⟨fun l hl => ?_, ?_⟩
  · obtain ⟨g, _, hc⟩ := (h.mem l).mp hl
    exact List.nodup_iff_pairwise_ne.mp (up_nodup hc.up)
  · refine h.up.imp_of_mem fun {a b} ha hb lt x hx y hy e => ?_
    subst e
    have := h.one ha hb hx hy
    subst this
    rw [lex_irr] at lt
    cases lt
theorem Regs.flat_mem (h : Regs D R Ls) (upR : R.Pairwise (· < ·)) (x : Int) : x ∈ Ls.flatten ↔ x ∈ R := by
  rw [List.mem_flatten]
  constructor
  · rintro ⟨l, hl, hx⟩
    exact (h.has hl hx).1
  · intro hx
    exact h.ex upR hx
theorem Regs.total (h : Regs D R Ls) (upR : R.Pairwise (· < ·)) : (Ls.map List.length).sum = R.length := by
  rw [← List.length_flatten]
  have h1 := subset_len h.flat_nodup fun x hx => (h.flat_mem upR x).mp hx
  have h2 := subset_len (up_nodup upR) fun x hx => (h.flat_mem upR x).mpr hx
  omega
theorem lex_ext : ∀ {xs ys : List (List Int)}, xs.Pairwise (fun a b => lexI a b = true) → ys.Pairwise (fun a b => lexI a b = true) → (∀ x, x ∈ xs ↔ x ∈ ys) → xs = ys
  | [], [], _, _, _ => rfl
  | [], y :: ys, _, _, h => absurd ((h y).mpr (List.mem_cons_self ..)) List.not_mem_nil
  | x :: xs, [], _, _, h => absurd ((h x).mp (List.mem_cons_self ..)) List.not_mem_nil
  | x :: xs, y :: ys, hx, hy, h => by
    obtain ⟨hx1, hx2⟩ := List.pairwise_cons.mp hx
    obtain ⟨hy1, hy2⟩ := List.pairwise_cons.mp hy
    have e : x = y := by
      rcases List.mem_cons.mp ((h x).mp (List.mem_cons_self ..)) with e | m
      · exact e
      · rcases List.mem_cons.mp ((h y).mpr (List.mem_cons_self ..)) with e | m'
        · exact e.symm
        · have a := lexI_asym (hy1 x m)
          rw [hx1 y m'] at a
          cases a
    subst e
    rw [lex_ext hx2 hy2 fun z => ?_]
    constructor
    · intro m
      rcases List.mem_cons.mp ((h z).mp (List.mem_cons_of_mem _ m)) with e | m'
      · rw [e] at m
        have a := hx1 x m
        rw [lex_irr] at a
        cases a
      · exact m'
    · intro m
      rcases List.mem_cons.mp ((h z).mpr (List.mem_cons_of_mem _ m)) with e | m'
      · rw [e] at m
        have a := hy1 x m
        rw [lex_irr] at a
        cases a
      · exact m'
theorem Regs.uniq {Ls' : List (List Int)} (h : Regs D R Ls) (k : Regs D R Ls') : Ls = Ls' := lex_ext h.up k.up fun l => (h.mem l).trans (k.mem l).symm
end
/-- a move takes nobody to an empty room -/
theorem mvd_rooms {P : List (Str × Int)} {nm : Str} {t r : Int} (ht : t ∈ P.map (·.2)) (h : r ∈ (mvd P nm t).map (·.2)) : r ∈ P.map (·.2) := by
  obtain ⟨x, hx, e⟩ := List.mem_map.mp h
  obtain ⟨y, hy, rfl⟩ := List.mem_map.mp hx
  have e : (if y.1 = nm then t else y.2) = r := e
  by_cases c : y.1 = nm
  · rw [if_pos c] at e
    rw [← e]
    exact ht
  · rw [if_neg c] at e
    rw [← e]
    exact List.mem_map_of_mem (f := (·.2)) hy
theorem nil_ne {K : PySem.W.Frag} {σ : L2.St} {L : Addr} {H : Hp} {Q : Bool → Hp → Prop} (e : H L = some (.lst [])) (h : ∀ H', Same H H' → Q false H') : tLst tNil σ H fun y H2 => rNeD K (.ref L) y H2 fun x H3 => ∃ k, x = .bl k ∧ Q k H3 :=
  ⟨Nat.zero_le _, fun p hp => ⟨.list [], .list [], .lst (SqL.of (same_upd hp _ _ e)) .nil, .lst (SqL.of upd_same) .nil, shaped_list [], shaped_list [], false, rfl, h _ (same_upd hp)⟩⟩
theorem nil_eq {K : PySem.W.Frag} {σ : L2.St} {L : Addr} {H : Hp} {Q : Bool → Hp → Prop} (e : H L = some (.lst [])) (h : ∀ H', Same H H' → Q true H') : tLst tNil σ H fun y H2 => rEqD K (.ref L) y H2 fun x H3 => ∃ k, x = .bl k ∧ Q k H3 :=
  ⟨Nat.zero_le _, fun p hp => ⟨.list [], .list [], .lst (SqL.of (same_upd hp _ _ e)) .nil, .lst (SqL.of upd_same) .nil, shaped_list [], shaped_list [], true, rfl, h _ (same_upd hp)⟩⟩
/-- texts as data -/
theorem dp_strs {K : PySem.W.Frag} {H : Hp} : ∀ ns : List Str, DpAll K H (ns.map V.str) (ns.map PyData.str)
  | [] => .nil
  | n :: ns => .cons (.str n) (dp_strs ns)
theorem strs_lay {ns : List Str} (h : ∀ x ∈ ns, PyData.strOk x = true) : PyData.canLayAll0 (ns.map PyData.str) = true := by
  rw [canLayAll_strs', List.all_eq_true]
  exact h
theorem strs_deep : ∀ ns : List Str, PyData.depthAll (ns.map PyData.str) = 0
  | [] => by simp [PyData.depthAll]
  | n :: ns => by
    rw [List.map_cons, PyData.depthAll, strs_deep ns, PyData.depth]
    rfl
theorem strs_shaped {ns : List Str} (h : ∀ x ∈ ns, PyData.strOk x = true) : SeqAt.shaped (.list (ns.map PyData.str)) = true := by
  unfold SeqAt.shaped
  rw [PyData.canLay0, strs_lay h, PyData.depth, strs_deep]
  decide
/-- tuples of ints as data -/
theorem dpR {K : PySem.W.Frag} {H : Hp} : ∀ {Cs : List (Addr × List Int)}, (∀ c ∈ Cs, H c.1 = some (.tup (vi c.2))) → DpAll K H (refs Cs) (Cs.map fun c => PyData.tuple (c.2.map PyData.int))
  | [], _ => .nil
  | c :: Cs, h => .cons (.tup (SqT.of (h c (List.mem_cons_self ..))) (dp_ints _)) (dpR fun q hq => h q (List.mem_cons_of_mem _ hq))
theorem layR : ∀ Cs : List (Addr × List Int), PyData.canLayAll0 (Cs.map fun c => PyData.tuple (c.2.map PyData.int)) = true ∧ PyData.depthAll (Cs.map fun c => PyData.tuple (c.2.map PyData.int)) ≤ 1
  | [] => by simp [PyData.canLayAll0, PyData.depthAll]
  | c :: Cs => by
    obtain ⟨h1, h2⟩ := layR Cs
    rw [List.map_cons, PyData.canLayAll0, PyData.depthAll, h1, PyData.canLay0, lay_ints, PyData.depth, deep_ints]
    exact ⟨rfl, by omega⟩
theorem shapedR (Cs : List (Addr × List Int)) : SeqAt.shaped (.tuple (Cs.map fun c => PyData.tuple (c.2.map PyData.int))) = true := by
  obtain ⟨h1, h2⟩ := layR Cs
  unfold SeqAt.shaped
  rw [PyData.canLay0, h1, PyData.depth]
  simp
  omega
theorem shapedRL (Cs : List (Addr × List Int)) : SeqAt.shaped (.list (Cs.map fun c => PyData.tuple (c.2.map PyData.int))) = true := by
  obtain ⟨h1, h2⟩ := layR Cs
  unfold SeqAt.shaped
  rw [PyData.canLay0, h1, PyData.depth]
  simp
  omega
end Fw
namespace Fw
open PySem PySem.Spec PyProof.Rows L2
section
variable {P : Program} {w : World} {K : PySem.W.Frag} {mg : Str → Option Value} {base : Heap}
end
end Fw
namespace Fw
open PySem PySem.Spec PyProof.Rows L2
theorem int_dec (a b : Int) : decide (V.int a = V.int b) = decide (a = b) := by
  rw [Bool.eq_iff_iff, decide_eq_true_eq, decide_eq_true_eq]
  exact ⟨V.int.inj, fun e => by rw [e]⟩
section
variable {P : Program} {w : World} {K : PySem.W.Frag} {mg : Str → Option Value} {base : Heap}
def spSurp (K : PySem.W.Frag) : Sp := fun vs H Q _ => ∃ (p t : Addr) (P : List (Str × Int)) (R : List Int), vs = [.ref p, .ref t] ∧ PlAt H p P ∧ SqT K H t (vi R) ∧ P.length ≤ 100 ∧ ∀ H', Same H H' → Q (.int (((inside P R).length : Int) - (R.length : Int))) H'
abbrev nSurp : List Str := ["placement", "region"]
theorem scSurp : FnScope nSurp ["placement", "region"] (defScope sSurp) := ⟨rfl, rfl, rfl, by decide +kernel, rfl, by decide +kernel, by decide +kernel⟩
theorem ok_surp {f : Addr} {fd : FuncData} {k : Nat} (F : Fun K "surplus" "surplus" sSurp f fd) (T : Nm mg) (Cpeople_within : Cal P w K mg base (k + 1) "people_within" pPWi (spPWi K)) : FnOk P w K mg base CX0 (k + 2) f fd pSurp (spSurp K) := by
  refine F.ok scSurp (fun vs H Q E h => ?_) (fun cdv A outer s H vs Q E hr h => ?_)
  · obtain ⟨p, t, P, R, rfl, _⟩ := h
    rfl
  · obtain ⟨p, t, P, R, rfl, hP, hR, lP, q⟩ := h
    refine ⟨_, (pss_one (ps_ret (pe_op op_sub (pe_callB (call_lenK K rfl) (by rfl) T.len (by decide +kernel) (pa_cons (pe_cal Cpeople_within hr (by rfl) (pa_cons (pv 0) (pa_cons (pv 1) pa_nil))) pa_nil)) (pe_callB (call_lenK K rfl) (by rfl) T.len (by decide +kernel) (pa_cons (pv 1) pa_nil))))), ?_⟩
    refine ⟨_, rfl, _, rfl, p, t, P, R, rfl, hP, hR, lP, fun H1 u s1 e1 => ⟨u, _, rfl, .inr (SqT.of e1), _, rfl, t, _, rfl, .inr (sqT_same s1 hR), _, _, rfl, rfl, ?_⟩⟩
    have q := q H1 s1
    simp only [List.length_map]
    exact q
def spTight (K : PySem.W.Frag) : Sp := fun vs H Q _ => ∃ (p t : Addr) (P : List (Str × Int)) (R : List Int), vs = [.ref p, .ref t] ∧ PlAt H p P ∧ SqT K H t (vi R) ∧ P.length ≤ 100 ∧ ∀ H', Same H H' → Q (.bl (decide ((inside P R).length = R.length))) H'
abbrev nIsTight : List Str := ["placement", "region"]
theorem scIsTight : FnScope nIsTight ["placement", "region"] (defScope sIsTight) := ⟨rfl, rfl, rfl, by decide +kernel, rfl, by decide +kernel, by decide +kernel⟩
theorem ok_tight {f : Addr} {fd : FuncData} {k : Nat} (F : Fun K "is_tight" "is_tight" sIsTight f fd) (Csurplus : Cal P w K mg base (k + 2) "surplus" pSurp (spSurp K)) : FnOk P w K mg base CX0 (k + 3) f fd pSurp (spTight K) := by
  refine F.ok scIsTight (fun vs H Q E h => ?_) (fun cdv A outer s H vs Q E hr h => ?_)
  · obtain ⟨p, t, P, R, rfl, _⟩ := h
    rfl
  · obtain ⟨p, t, P, R, rfl, hP, hR, lP, q⟩ := h
    refine ⟨_, (pss_one (ps_ret (pe_cmpR op_eq (pe_cal Csurplus hr (by rfl) (pa_cons (pv 0) (pa_cons (pv 1) pa_nil))) pe_int (nomark _)))), ?_⟩
    refine ⟨_, rfl, _, rfl, p, t, P, R, rfl, hP, hR, lP, fun H1 s1 => ⟨rfl, ?_⟩⟩
    rw [int_dec, show decide (((inside P R).length : Int) - (R.length : Int) = 0) = decide ((inside P R).length = R.length) from by
      rw [Bool.eq_iff_iff, decide_eq_true_eq, decide_eq_true_eq]; omega]
    exact q H1 s1
end
end Fw
namespace Fw
open PySem PySem.Spec PyProof.Rows L2
theorem rooms_get {P : List (Str × Int)} {k : Nat} {nm : Str} {r : Int} (h : P[k]? = some (nm, r)) : (P.take (k + 1)).map (·.2) = (P.take k).map (·.2) ++ [r] := by
  rw [take_snoc h, List.map_append]
  rfl
theorem nodup_le {α : Type} [DecidableEq α] {xs ys : List α} (nd : xs.Nodup) (h : ∀ x ∈ xs, x ∈ ys) : xs.length ≤ ys.length := by
  induction xs generalizing ys with
  | nil => exact Nat.zero_le _
  | cons x xs ih =>
    rw [List.nodup_cons] at nd
    have hx := h x (List.mem_cons_self ..)
    have := ih (ys := ys.erase x) nd.2 fun z hz => (List.mem_erase_of_ne (fun e : z = x => nd.1 (by rw [← e]; exact hz))).mpr (h z (List.mem_cons_of_mem _ hz))
    rw [List.length_erase_of_mem hx] at this
    have : 0 < ys.length := List.length_pos_of_mem hx
    simp only [List.length_cons]
    omega
/-- no surplus is negative -/
theorem Regs.full {n : Int} {D : List (Int × Int)} {P : List (Str × Int)} {Ls : List (List Int)} (h : Regs D (occ n P) Ls) (pl : Pl n P) {C : List Int} (hC : C ∈ Ls) : C.length ≤ (inside P C).length := by
  obtain ⟨r, hr, ic⟩ := (h.mem C).mp hC
  have := nodup_le (ys := (P.filter fun x => decide (x.2 ∈ C)).map (·.2)) (ic.up.imp fun {a b} z => by omega) fun x hx => by
    have m := pl.mem_occ.mp (ic.sub hr x hx)
    obtain ⟨y, hy, e⟩ := List.mem_map.mp m
    exact List.mem_map.mpr ⟨y, List.mem_filter.mpr ⟨hy, decide_eq_true (by rw [e]; exact hx)⟩, e⟩
  unfold inside
  rw [List.length_map] at this ⊢
  exact this
theorem Regs.small {n : Int} {D : List (Int × Int)} {P : List (Str × Int)} {Ls : List (List Int)} (h : Regs D (occ n P) Ls) (n1 : n ≤ 8) {C : List Int} (hC : C ∈ Ls) : C.length ≤ 8 := by
  obtain ⟨r, hr, ic⟩ := (h.mem C).mp hC
  exact ic.len hr n1
theorem sum_ge : ∀ Xs : List (List Int), (∀ C ∈ Xs, 0 < C.length) → Xs.length ≤ (Xs.map List.length).sum
  | [], _ => Nat.zero_le _
  | C :: Xs, hx => by
    have := sum_ge Xs fun C' hC' => hx C' (List.mem_cons_of_mem _ hC')
    have := hx C (List.mem_cons_self ..)
    simp only [List.length_cons, List.map_cons, List.sum_cons]
    omega
theorem Regs.few {n : Int} {D : List (Int × Int)} {P : List (Str × Int)} {Ls : List (List Int)} (h : Regs D (occ n P) Ls) (n1 : n ≤ 8) : Ls.length ≤ 8 := by
  have h1 := h.total (occ_up n P)
  have h2 := occ_len n P
  have h4 := sum_ge Ls fun C hC => by
    obtain ⟨r, hr', ic⟩ := (h.mem C).mp hC
    exact List.length_pos_of_mem ic.has
  omega
theorem refsL_lay : ∀ Cs : List (Addr × List Int), PyData.canLayAll0 (Cs.map fun c => PyData.tuple (c.2.map PyData.int)) = true ∧ PyData.depthAll (Cs.map fun c => PyData.tuple (c.2.map PyData.int)) ≤ 1
  | [] => by simp [PyData.canLayAll0, PyData.depthAll]
  | c :: Cs => by
    obtain ⟨h1, h2⟩ := refsL_lay Cs
    rw [List.map_cons, PyData.canLayAll0, PyData.depthAll, h1, PyData.canLay0, lay_ints, PyData.depth, deep_ints]
    exact ⟨rfl, by omega⟩
theorem refsL_shaped (Cs : List (Addr × List Int)) : SeqAt.shaped (.list (Cs.map fun c => PyData.tuple (c.2.map PyData.int))) = true := by
  obtain ⟨h1, h2⟩ := refsL_lay Cs
  unfold SeqAt.shaped
  rw [PyData.canLay0, h1, PyData.depth]
  simp
  omega
theorem refs_ne {K : PySem.W.Frag} {σ : L2.St} {L : Addr} {H : Hp} {Q : Bool → Hp → Prop} {c : Addr × List Int} {Cs : List (Addr × List Int)} (e : H L = some (.lst (refs (c :: Cs)))) (t : ∀ x ∈ c :: Cs, H x.1 = some (.tup (vi x.2))) (h : ∀ H', Same H H' → Q true H') :
    tLst tNil σ H fun y H2 => rNeD K (.ref L) y H2 fun x H3 => ∃ k, x = .bl k ∧ Q k H3 := by
  refine ⟨Nat.zero_le _, fun p hp => ⟨_, .list [], .lst (SqL.of (same_upd hp _ _ e)) (dpR fun x hx => same_upd hp _ _ (t x hx)), .lst (SqL.of upd_same) .nil, refsL_shaped (c :: Cs), shaped_list [], _, rfl, ?_⟩⟩
  have ee : PyData.eqv (.list ((c :: Cs).map fun c => PyData.tuple (c.2.map PyData.int))) (.list []) = false := by
    rw [PyData.eqv, List.map_cons, PyData.eqvAll]
  rw [ee]
  exact h _ (same_upd hp)
section
variable {P : Program} {w : World} {K : PySem.W.Frag} {mg : Str → Option Value} {base : Heap}
end
end Fw
namespace Fw
open PySem PySem.Spec PyProof.Rows L2
open RZ
/-- the same value, to a depth -/
inductive Eqs (H : Hp) : Nat → V → V → Prop
  | non (k : Nat) : Eqs H k .non .non
  | int (k : Nat) (i : Int) : Eqs H k (.int i) (.int i)
  | bl (k : Nat) (b : Bool) : Eqs H k (.bl b) (.bl b)
  | str (k : Nat) (z : Str) : Eqs H k (.str z) (.str z)
  | tup {k : Nat} {a b : Addr} {xs ys : List V} : TpAt H a xs → TpAt H b ys → xs.length = ys.length → xs.length ≤ 500 → (∀ (i : Nat) x y, xs[i]? = some x → ys[i]? = some y → Eqs H k x y) → Eqs H (k + 1) (.ref a) (.ref b)
theorem Eqs.same {H H' : Hp} {k : Nat} {x y : V} (h : Eqs H k x y) (e : Same H H') : Eqs H' k x y := by
  induction h with
  | non k => exact .non k
  | int k i => exact .int k i
  | bl k i => exact .bl k i
  | str k i => exact .str k i
  | tup h1 h2 h3 h4 _ ih => exact .tup (h1.same e) (h2.same e) h3 h4 ih
theorem Eqs.ints {H : Hp} {k : Nat} {a b : Addr} {ns : List Int} (h1 : H a = some (.tup (vi ns))) (h2 : H b = some (.tup (vi ns))) (hl : ns.length ≤ 500) : Eqs H (k + 1) (.ref a) (.ref b) :=
  .tup (.inl h1) (.inl h2) rfl (by rw [List.length_map]; exact hl) fun i x y hx hy => by
    obtain ⟨v, _, rfl⟩ := get_vi hx
    rw [hx] at hy
    cases hy
    exact .int _ v
theorem Eqs.strs {H : Hp} {k : Nat} {a b : Addr} {ns : List Str} (h1 : H a = some (.tup (ns.map V.str))) (h2 : H b = some (.tup (ns.map V.str))) (hl : ns.length ≤ 500) : Eqs H (k + 1) (.ref a) (.ref b) :=
  .tup (.inl h1) (.inl h2) rfl (by rw [List.length_map]; exact hl) fun i x y hx hy => by
    obtain ⟨v, _, rfl⟩ := get_vs hx
    rw [hx] at hy
    cases hy
    exact .str _ v
theorem Eqs.pl {H : Hp} {k : Nat} {a b : Addr} {P : List (Str × Int)} (h1 : PlAt H a P) (h2 : PlAt H b P) (hl : P.length ≤ 500) : Eqs H (k + 2) (.ref a) (.ref b) := by
  obtain ⟨ps, e1, e2, e3⟩ := h1
  obtain ⟨qs, f1, f2, f3⟩ := h2
  have el : ps.length = qs.length := by
    have := congrArg List.length (e2.symm.trans f2)
    rw [List.length_map, List.length_map] at this
    exact this
  refine .tup e1 f1 (by rw [List.length_map, List.length_map, el]) (by rw [List.length_map]; rw [e2, List.length_map] at hl; exact hl) fun i x y hx hy => ?_
  rw [List.getElem?_map] at hx hy
  cases u : ps[i]? with
  | none => rw [u] at hx; cases hx
  | some p =>
    cases v : qs[i]? with
    | none => rw [v] at hy; cases hy
    | some q =>
      rw [u] at hx
      rw [v] at hy
      cases hx
      cases hy
      have e : p.2 = q.2 := by
        have h1 : P[i]? = some p.2 := by rw [e2, List.getElem?_map, u]; rfl
        have h2 : P[i]? = some q.2 := by rw [f2, List.getElem?_map, v]; rfl
        rw [h1] at h2
        exact Option.some.inj h2
      have g1 := e3 p (List.mem_of_getElem? u)
      have g2 := f3 q (List.mem_of_getElem? v)
      rw [← e] at g2
      refine .tup (.inl g1) (.inl g2) rfl (by show 2 ≤ 500; decide) fun j x y hx hy => ?_
      rw [hx] at hy
      cases hy
      match j, hx with
      | 0, hx => cases hx; exact .str _ _
      | 1, hx => cases hx; exact .int _ _
/-- how a zip of two tuples of one length walks -/
theorem both_walk {K : PySem.W.Frag} {a b : Addr} {xs ys : List V} (same : ys.length = xs.length) : Walk (ItzT K a b) xs.length (fun H => SqT K H a xs ∧ SqT K H b ys) (YPair (fun i => xs[i]?) fun i => ys[i]?) where
  goes i H lt q := ⟨_, _, _, _, q.1, q.2, List.getElem?_eq_getElem lt, List.getElem?_eq_getElem (same ▸ lt)⟩
  stops H q := ⟨_, _, q.1, q.2, .inl (Nat.le_refl _)⟩
  yields i H v H' _ q y := by
    obtain ⟨t, x, z, e1, e2, e3, e4, e5⟩ := y
    exact ⟨t, x, z, e1, e2, e3, e4 _ q.1, e5 _ q.2⟩

section
variable {P : Program} {w : World} {K : PySem.W.Frag} {mg : Str → Option Value} {base : Heap}
theorem tp_tyS {K : PySem.W.Frag} {H : Hp} {p : Addr} {xs : List V} (h : TpAt H p xs) : TyX K H (.ref p) (.type "tuple") := h.elim (fun h => .base (.tup h)) fun ⟨_, _, h⟩ => .fTuple h
theorem k_it : kitB "int" "tuple" = some false := by decide +kernel
theorem k_ib : kitB "int" "bool" = some false := by decide +kernel
theorem k_ii : kitB "int" "int" = some true := by decide +kernel
theorem k_nt : kitB "NoneType" "tuple" = some false := by decide +kernel
theorem k_tt : kitB "tuple" "tuple" = some true := by decide +kernel
theorem k_bt : kitB "bool" "tuple" = some false := by decide +kernel
theorem k_bb : kitB "bool" "bool" = some true := by decide +kernel
theorem k_st : kitB "str" "tuple" = some false := by decide +kernel
theorem k_sb : kitB "str" "bool" = some false := by decide +kernel
theorem k_si : kitB "str" "int" = some false := by decide +kernel
theorem k_ss2 : kitB "str" "str" = some true := by decide +kernel
end
end Fw
namespace Fw
open PySem PySem.Spec PyProof.Rows L2
/-- data that can be shown -/
structure Sw (b : Nat) (d : PyData) : Prop where
  s : d.showable = true
  n : d.hasDict = false
  p : d.depth ≤ 10
  l : d.leavesShort 13 = true
  k : d.bulk ≤ b
theorem Sw.shows {b : Nat} {d : PyData} (h : Sw b d) (hb : b ≤ 2 ^ 20) : Shows d := ⟨h.s, h.n, Nat.le_trans h.p (by decide), PyData.shown_fits_bulk (B := 13) (by decide) (by decide) h.l (Nat.le_trans h.k hb)⟩
def pp (x : Str × Int) : PyData := .tuple [.str x.1, .int x.2]
def pld (P : List (Str × Int)) : PyData := .tuple (P.map pp)
theorem pps_all {P : List (Str × Int)} (h : ∀ x ∈ P, Nam x.1 ∧ 0 ≤ x.2 ∧ x.2 ≤ 100) : PyData.showableAll (P.map pp) = true ∧ PyData.hasDictAll (P.map pp) = false ∧ PyData.depthAll (P.map pp) ≤ 1 ∧ PyData.leavesShortAll 13 (P.map pp) = true ∧ PyData.bulkAll (P.map pp) ≤ 20 * P.length := by
  induction P with
  | nil => simp [PyData.showableAll, PyData.hasDictAll, PyData.depthAll, PyData.leavesShortAll, PyData.bulkAll]
  | cons x P ih =>
    obtain ⟨i1, i2, i3, i4, i5⟩ := ih fun y hy => h y (List.mem_cons_of_mem _ hy)
    obtain ⟨hn, a0, a1⟩ := h x (List.mem_cons_self ..)
    have s1 := PyData.shown_int_le2 (i := x.2) (by omega) (by omega)
    have sz : x.1.cps.size ≤ 8 := hn.2.1
    have al : (x.1.cps.toList.all fun c => decide (c < 16 ^ 8)) = true := by
      rw [List.all_eq_true]
      intro c hc
      have := hn.2.2 c hc
      exact decide_eq_true (by omega)
    rw [List.map_cons]
    refine ⟨?_, ?_, ?_, ?_, ?_⟩
    · simp only [pp, PyData.showableAll, PyData.showable, i1, Bool.and_true]
      rw [decide_eq_true (log_small a0 a1)]
      rfl
    · simp only [pp, PyData.hasDictAll, PyData.hasDict, i2, Bool.or_false]
    · simp only [pp, PyData.depthAll, PyData.depth]
      omega
    · simp only [pp, PyData.leavesShortAll, PyData.leavesShort, i4, Bool.and_true]
      rw [decide_eq_true s1, al]
      rfl
    · simp only [pp, PyData.bulkAll, PyData.bulk, List.length_cons]
      omega
theorem pld_sw {P : List (Str × Int)} (h : ∀ x ∈ P, Nam x.1 ∧ 0 ≤ x.2 ∧ x.2 ≤ 100) : Sw (20 * P.length) (pld P) := by
  obtain ⟨i1, i2, i3, i4, i5⟩ := pps_all h
  exact ⟨by simp only [pld, PyData.showable, i1], by simp only [pld, PyData.hasDict, i2], by simp only [pld, PyData.depth]; omega, by simp only [pld, PyData.leavesShort, i4], by simp only [pld, PyData.bulk]; exact i5⟩
theorem Pl.sw {n : Int} {P : List (Str × Int)} (h : Pl n P) (hn : n ≤ 8) (lP : P.length ≤ 100) : Sw 2000 (pld P) := by
  have := pld_sw (P := P) fun x hx => ⟨h.nm.nam _ (List.mem_map_of_mem (f := (·.1)) hx), (h.rm x hx).1, by have := (h.rm x hx).2; omega⟩
  exact ⟨this.s, this.n, this.p, this.l, Nat.le_trans this.k (by omega)⟩
theorem hd_sw {n : Int} {D : List (Int × Int)} (f : Forest n D) (n0 : 0 ≤ n) (n1 : n ≤ 8) : Sw 100 (hd n D) := by
  have h : ∀ d ∈ D, 0 ≤ d.1 ∧ d.1 ≤ 100 ∧ 0 ≤ d.2 ∧ d.2 ≤ 100 := fun d hd => by
    have := f.ends (a := d.1) (b := d.2) hd
    omega
  have hl : D.length ≤ 8 := f.len
  obtain ⟨i1, i2⟩ := pds_show h
  have s1 := PyData.shown_int_le2 (i := n) (by omega) (by omega)
  have dp := pd_deep D
  refine ⟨?_, ?_, ?_, ?_, ?_⟩
  · simp only [hd, PyData.showable, PyData.showableAll, Bool.and_true, i1]
    rw [decide_eq_true (log_small n0 (by omega))]
  · simp only [hd, PyData.hasDict, PyData.hasDictAll, Bool.or_false, Bool.false_or]
    exact pds_nodict D
  · simp only [hd, PyData.depth, PyData.depthAll]
    omega
  · simp only [hd, PyData.leavesShort, PyData.leavesShortAll, Bool.and_true, i2]
    rw [decide_eq_true s1]
  · simp only [hd, PyData.bulk, PyData.bulkAll, pds_bulk]
    omega
theorem sw2 {b c : Nat} {d e : PyData} (x : Sw b d) (y : Sw c e) (h1 : d.depth ≤ 8) (h2 : e.depth ≤ 8) : Sw (b + c + 2) (.list [d, e]) := by
  refine ⟨?_, ?_, ?_, ?_, ?_⟩
  · simp only [PyData.showable, PyData.showableAll, x.s, y.s, Bool.and_true]
  · simp only [PyData.hasDict, PyData.hasDictAll, x.n, y.n, Bool.or_false]
  · simp only [PyData.depth, PyData.depthAll]
    omega
  · simp only [PyData.leavesShort, PyData.leavesShortAll, x.l, y.l, Bool.and_true]
  · simp only [PyData.bulk, PyData.bulkAll]
    have := x.k
    have := y.k
    omega
theorem sw3 {a b c : Nat} {d e f : PyData} (x : Sw a d) (y : Sw b e) (z : Sw c f) (h1 : d.depth ≤ 8) (h2 : e.depth ≤ 8) (h3 : f.depth ≤ 8) : Sw (a + b + c + 3) (.list [d, e, f]) := by
  refine ⟨?_, ?_, ?_, ?_, ?_⟩
  · simp only [PyData.showable, PyData.showableAll, x.s, y.s, z.s, Bool.and_true]
  · simp only [PyData.hasDict, PyData.hasDictAll, x.n, y.n, z.n, Bool.or_false]
  · simp only [PyData.depth, PyData.depthAll]
    omega
  · simp only [PyData.leavesShort, PyData.leavesShortAll, x.l, y.l, z.l, Bool.and_true]
  · simp only [PyData.bulk, PyData.bulkAll]
    have := x.k
    have := y.k
    have := z.k
    omega
theorem hd_deep (n : Int) (D : List (Int × Int)) : (hd n D).depth ≤ 8 := by
  have dp := pd_deep D
  simp only [hd, PyData.depth, PyData.depthAll]
  omega
theorem pps_deep (P : List (Str × Int)) : PyData.depthAll (P.map pp) ≤ 1 := by
  induction P with
  | nil => simp [PyData.depthAll]
  | cons x P ih =>
    rw [List.map_cons]
    simp only [pp, PyData.depthAll, PyData.depth]
    omega
theorem pld_deep (P : List (Str × Int)) : (pld P).depth ≤ 8 := by
  have := pps_deep P
  simp only [pld, PyData.depth]
  omega
theorem dp_pps {K : PySem.W.Frag} {H : Hp} : ∀ {ps : List (Addr × Str × Int)}, (∀ p ∈ ps, H p.1 = some (.tup [.str p.2.1, .int p.2.2])) → DpAll K H (ps.map fun p => V.ref p.1) ((ps.map (·.2)).map pp)
  | [], _ => .nil
  | p :: ps, h => .cons (.tup (SqT.of (h p (List.mem_cons_self ..))) (.cons (.str _) (.cons (.int _) .nil))) (dp_pps fun q hq => h q (List.mem_cons_of_mem _ hq))
theorem PlAt.dp {K : PySem.W.Frag} {H : Hp} {p : Addr} {P : List (Str × Int)} (x : PlAt H p P) : Dp K H (.ref p) (pld P) := by
  obtain ⟨ps, h1, h2, h3⟩ := x
  rw [h2]
  exact .tup h1.sq (dp_pps h3)
theorem sw2T {b c : Nat} {d e : PyData} (x : Sw b d) (y : Sw c e) (h1 : d.depth ≤ 8) (h2 : e.depth ≤ 8) : Sw (b + c + 2) (.tuple [d, e]) := by
  refine ⟨?_, ?_, ?_, ?_, ?_⟩
  · simp only [PyData.showable, PyData.showableAll, x.s, y.s, Bool.and_true]
  · simp only [PyData.hasDict, PyData.hasDictAll, x.n, y.n, Bool.or_false]
  · simp only [PyData.depth, PyData.depthAll]
    omega
  · simp only [PyData.leavesShort, PyData.leavesShortAll, x.l, y.l, Bool.and_true]
  · simp only [PyData.bulk, PyData.bulkAll]
    have := x.k
    have := y.k
    omega
/-- (house, placement) -/
def hpT (n : Int) (D : List (Int × Int)) (P : List (Str × Int)) : PyData := .tuple [hd n D, pld P]
theorem hpT_shows {n : Int} {D : List (Int × Int)} {P : List (Str × Int)} (f : Forest n D) (n0 : 0 ≤ n) (n1 : n ≤ 8) (h : Pl n P) (lP : P.length ≤ 100) : Shows (hpT n D P) :=
  (sw2T (hd_sw f n0 n1) (h.sw n1 lP) (hd_deep _ _) (pld_deep _)).shows (by decide)
theorem hpT_dp {K : PySem.W.Frag} {H : Hp} {l h p : Addr} {n : Int} {D : List (Int × Int)} {P : List (Str × Int)} (e : H l = some (.tup [.ref h, .ref p])) (x : HouseAt H h n D) (y : PlAt H p P) : Dp K H (.ref l) (hpT n D P) :=
  .tup (SqT.of e) (.cons x.dp (.cons y.dp .nil))
/-- [house, placement] -/
def hpd (n : Int) (D : List (Int × Int)) (P : List (Str × Int)) : PyData := .list [hd n D, pld P]
theorem hp_shows {n : Int} {D : List (Int × Int)} {P : List (Str × Int)} (f : Forest n D) (n0 : 0 ≤ n) (n1 : n ≤ 8) (h : Pl n P) (lP : P.length ≤ 100) : Shows (hpd n D P) :=
  (sw2 (hd_sw f n0 n1) (h.sw n1 lP) (hd_deep _ _) (pld_deep _)).shows (by decide)
theorem hp_dp {K : PySem.W.Frag} {H : Hp} {l h p : Addr} {n : Int} {D : List (Int × Int)} {P : List (Str × Int)} (e : H l = some (.lst [.ref h, .ref p])) (x : HouseAt H h n D) (y : PlAt H p P) : Dp K H (.ref l) (hpd n D P) :=
  .lst (SqL.of e) (.cons x.dp (.cons y.dp .nil))
theorem pps_lay : ∀ {X : List (Str × Int)}, (∀ x ∈ X, Nam x.1) → PyData.canLayAll0 (X.map pp) = true
  | [], _ => by simp [PyData.canLayAll0]
  | x :: X, h => by
    rw [List.map_cons, PyData.canLayAll0, pps_lay fun y hy => h y (List.mem_cons_of_mem _ hy)]
    simp [pp, PyData.canLay0, PyData.canLayAll0, nam_ok (h x (List.mem_cons_self ..))]
theorem pps_shapedL {X : List (Str × Int)} (h : ∀ x ∈ X, Nam x.1) : SeqAt.shaped (.list (X.map pp)) = true := by
  unfold SeqAt.shaped
  rw [PyData.canLay0, pps_lay h, PyData.depth]
  have := pps_deep X
  simp
  omega
theorem pld_shaped {X : List (Str × Int)} (h : ∀ x ∈ X, Nam x.1) : SeqAt.shaped (pld X) = true := by
  unfold SeqAt.shaped pld
  rw [PyData.canLay0, pps_lay h, PyData.depth]
  have := pps_deep X
  simp
  omega
theorem Pl.nams {n : Int} {P : List (Str × Int)} (h : Pl n P) : ∀ x ∈ P, Nam x.1 := fun x hx => h.nm.nam _ (List.mem_map_of_mem (f := (·.1)) hx)
theorem eqv_nilP (X : List (Str × Int)) : PyData.eqv (.list (X.map pp)) (.list []) = X.isEmpty := by
  rw [PyData.eqv]
  cases X with
  | nil => rw [List.map_nil, PyData.eqvAll]; rfl
  | cons n ns => rw [List.map_cons, PyData.eqvAll]; rfl
/-- [house, placement, target] -/
def hptd (n : Int) (D : List (Int × Int)) (P G : List (Str × Int)) : PyData := .list [hd n D, pld P, pld G]
theorem hpt_shows {n : Int} {D : List (Int × Int)} {P G : List (Str × Int)} (f : Forest n D) (n0 : 0 ≤ n) (n1 : n ≤ 8) (h : Pl n P) (lP : P.length ≤ 100) (k : Pl n G) (lG : G.length ≤ 100) : Shows (hptd n D P G) :=
  (sw3 (hd_sw f n0 n1) (h.sw n1 lP) (k.sw n1 lG) (hd_deep _ _) (pld_deep _) (pld_deep _)).shows (by decide)
theorem hpt_dp {K : PySem.W.Frag} {H : Hp} {l h p g : Addr} {n : Int} {D : List (Int × Int)} {P G : List (Str × Int)} (e : H l = some (.lst [.ref h, .ref p, .ref g])) (x : HouseAt H h n D) (y : PlAt H p P) (z : PlAt H g G) : Dp K H (.ref l) (hptd n D P G) :=
  .lst (SqL.of e) (.cons x.dp (.cons y.dp (.cons z.dp .nil)))
end Fw
namespace Fw
open PySem PySem.Spec PyProof.Rows L2
/-! ### dicts by names -/
def dk (F : List (Str × V)) : List (Key × V) := F.map fun x => (Sum.inr x.1, x.2)
theorem valV_none {F : List (Str × V)} {nm : Str} (h : nm ∉ F.map (·.1)) : valV (dk F) (Sum.inr nm) = none := by
  induction F with
  | nil => rfl
  | cons x F ih =>
    rw [List.map_cons, List.mem_cons, not_or] at h
    show valV ((Sum.inr x.1, x.2) :: dk F) _ = none
    rw [valV_neg (fun e => h.1 (Sum.inr.inj e).symm)]
    exact ih h.2
theorem valV_dk {F : List (Str × V)} (nd : (F.map (·.1)).Nodup) {nm : Str} {v : V} (h : (nm, v) ∈ F) : valV (dk F) (Sum.inr nm) = some v := by
  induction F with
  | nil => cases h
  | cons x F ih =>
    rw [List.map_cons, List.nodup_cons] at nd
    rcases List.mem_cons.mp h with e | m
    · subst e
      exact valV_pos rfl
    · show valV ((Sum.inr x.1, x.2) :: dk F) _ = _
      rw [valV_neg (fun e => nd.1 (by rw [Sum.inr.inj e]; exact List.mem_map_of_mem (f := (·.1)) m))]
      exact ih nd.2 m
theorem merge_app : ∀ {F G : List (Str × V)}, ((F ++ G).map (·.1)).Nodup → mergeK (dk F) (dk G) = dk (F ++ G)
  | F, [], _ => by rw [List.append_nil]; rfl
  | F, x :: G, nd => by
    have n1 : x.1 ∉ F.map (·.1) := fun m => by
      rw [List.map_append, List.map_cons, List.nodup_append] at nd
      exact nd.2.2 x.1 m x.1 (List.mem_cons_self ..) rfl
    show mergeK (putK (dk F) (Sum.inr x.1) x.2) (dk G) = _
    rw [putK_new _ (valV_none n1)]
    have e : dk F ++ [(Sum.inr x.1, x.2)] = dk (F ++ [x]) := by unfold dk; rw [List.map_append]; rfl
    rw [e, merge_app (by rw [List.append_assoc]; exact nd), List.append_assoc]
    rfl
theorem merge_dk {F : List (Str × V)} (nd : (F.map (·.1)).Nodup) : mergeK [] (dk F) = dk F := merge_app (F := []) nd
theorem dk_keys (F : List (Str × V)) : (dk F).map (·.1) = (F.map (·.1)).map Sum.inr := by
  unfold dk
  rw [List.map_map, List.map_map]
  rfl
theorem dk_len (F : List (Str × V)) : (dk F).length = F.length := by unfold dk; rw [List.length_map]
/-- dict(list of pairs) -/
theorem call_dictK {X : Cx} (K : PySem.W.Frag) (h : X.K = K) (hc : X.calm = true) : CallR X (.type "dict") (fun xs H Q => ∃ (a : Addr) (ps : List Addr) (kvs : List (Key × V)), xs = [.ref a] ∧ SqL K H a (ps.map V.ref) ∧ Paired (fun p kv => SqT K H p [kV kv.1, kv.2]) ps kvs ∧
    ∀ p, H p = none → Q (.ref p) (upd H p (.dK (mergeK [] kvs)))) := by subst h; exact call_dictP hc
theorem paired_of {K : PySem.W.Frag} {H : Hp} : ∀ {ps : List (Addr × Str × V)}, (∀ q ∈ ps, H q.1 = some (.tup [.str q.2.1, q.2.2])) → Paired (fun p kv => SqT K H p [kV kv.1, kv.2]) (ps.map (·.1)) (dk (ps.map (·.2)))
  | [], _ => .nil
  | p :: ps, h => .cons (SqT.of (h p (List.mem_cons_self ..))) (paired_of fun q hq => h q (List.mem_cons_of_mem _ hq))
theorem eqv_nilT (X : List (Str × Int)) : PyData.eqv (pld X) (.tuple []) = X.isEmpty := by
  unfold pld
  rw [PyData.eqv]
  cases X with
  | nil => rw [List.map_nil, PyData.eqvAll]; rfl
  | cons n ns => rw [List.map_cons, PyData.eqvAll]; rfl
theorem PlAt.at {K : PySem.W.Frag} {H : Hp} {l : Addr} {X : List (Str × Int)} (x : PlAt H l X) {r : Int} (h0 : 0 ≤ r) (h1 : r < (X.length : Nat)) : ∃ xs t nm v, SqT K H l xs ∧ atI xs r = some (.ref t) ∧ H t = some (.tup [.str nm, .int v]) ∧ (nm, v) ∈ X := by
  obtain ⟨ps, e1, e2, e3⟩ := x
  have hj : r.toNat < ps.length := by rw [e2, List.length_map] at h1; omega
  have hm := List.getElem_mem hj
  refine ⟨_, ps[r.toNat].1, ps[r.toNat].2.1, ps[r.toNat].2.2, e1.sq, ?_, e3 _ hm, by rw [e2]; exact List.mem_map_of_mem (f := (·.2)) hm⟩
  have := atI_nat (xs := ps.map fun q => V.ref q.1) (j := r.toNat) (v := V.ref ps[r.toNat].1) (by rw [List.getElem?_map, List.getElem?_eq_getElem hj]; rfl)
  rw [show ((r.toNat : Nat) : Int) = r by omega] at this
  exact this
theorem PlAt.sq' {K : PySem.W.Frag} {H : Hp} {l : Addr} {X : List (Str × Int)} (x : PlAt H l X) : ∃ xs, SqT K H l xs ∧ xs.length = X.length := by
  obtain ⟨ps, h1, h2, _⟩ := x
  exact ⟨_, h1.sq, by rw [h2, List.length_map, List.length_map]⟩
/-! ### dict(placement) -/
def dkI (P : List (Str × Int)) : List (Key × V) := dk (P.map fun x => (x.1, V.int x.2))
theorem dkI_keys (P : List (Str × Int)) : (P.map fun x => (x.1, V.int x.2)).map (·.1) = P.map (·.1) := by
  rw [List.map_map]
  rfl
theorem valV_dkI {P : List (Str × Int)} (nd : (P.map (·.1)).Nodup) {nm : Str} {r : Int} (h : (nm, r) ∈ P) : valV (dkI P) (Sum.inr nm) = some (.int r) :=
  valV_dk (by rw [dkI_keys]; exact nd) (List.mem_map.mpr ⟨(nm, r), h, rfl⟩)
theorem valV_dkI_none {P : List (Str × Int)} {nm : Str} (h : nm ∉ P.map (·.1)) : valV (dkI P) (Sum.inr nm) = none := valV_none (by rw [dkI_keys]; exact h)
theorem pairs_in {X : Cx} {pins : List (Addr × Obj)} {σ : L2.St} {H : Hp} {s : Shared} (I : Inv X pins σ H s) : ∀ {ps : List (Addr × Str × Int)}, (∀ q ∈ ps, H q.1 = some (.tup [.str q.2.1, .int q.2.2])) →
    ∃ (vs : List (Value × Value)) (kv : List (Key × Value)), vs.length = ps.length ∧ KV (dkI (ps.map (·.2))) kv ∧ kv.length = ps.length ∧
      ∀ (j : Nat) (u v : Value), vs[j]? = some (u, v) → ∃ q k, ps[j]? = some q ∧ PairAt s.heap q.1 u v ∧ kv[j]? = some (k, v) ∧ (mixKind X.prog X.w).is k u = true
  | [], _ => ⟨[], [], rfl, .nil, rfl, fun j u v e => by cases e⟩
  | p :: ps, h => by
    obtain ⟨vs, kv, l1, rel, l2, f⟩ := pairs_in I fun q hq => h q (List.mem_cons_of_mem _ hq)
    obtain ⟨its, rv, ht, _⟩ := I.tuple (SqT.of (h p (List.mem_cons_self ..)))
    obtain ⟨u, y, ei, ru, ry⟩ := vals2 rv
    subst ei
    refine ⟨(u, y) :: vs, (Sum.inr p.2.1, y) :: kv, by rw [List.length_cons, List.length_cons, l1], .cons ⟨rfl, ry⟩ rel, by rw [List.length_cons, List.length_cons, l2], fun j u' v' e => ?_⟩
    cases j with
    | zero =>
      cases e
      exact ⟨p, _, rfl, .inl ht, rfl, kV_is (P := X.prog) (w := X.w) (k := Sum.inr p.2.1) ru⟩
    | succ j => exact f j u' v' (by simpa using e)
theorem call_dictT {X : Cx} (hcalm : X.calm = true) : CallR X (.type "dict") (fun xs H Q => ∃ (a : Addr) (P : List (Str × Int)), xs = [.ref a] ∧ PlD H a P ∧ (P.map (·.1)).Nodup ∧ P.length ≤ 1000 ∧ ∀ p, H p = none → Q (.ref p) (upd H p (.dK (dkI P)))) := by
  intro pins s σ H xs us Q I r q
  obtain ⟨a, P, rfl, ⟨ps, ob, od, hp, eP, hps⟩, nd, lP, q⟩ := q
  obtain ⟨u, rfl, ru⟩ := vals1 r
  obtain rfl : u = Value.ref a := ru
  obtain ⟨ho, hz, its, rel, ⟨o2, ho2, hc2, n2, hd2⟩⟩ := (show ObjOk X.prog X.w H s.heap a (.frz ob (.tup (ps.map fun q => V.ref q.1))) from I.hok a _ hp)
  have e2 : o2 = ob := by
    rw [ho] at ho2
    exact (Option.some.inj ho2).symm
  subst e2
  have ei : its = (ps.map (·.1)).map Value.ref := refs_at (by rw [List.map_map]; exact rel)
  obtain ⟨vs, kv, l1, rk, l2, f⟩ := pairs_in I hps
  have lp : ps.length = P.length := by rw [eP, List.length_map]
  have hlen : (dkI P).length ≤ sizeLine := by
    unfold dkI
    rw [dk_len, List.length_map]
    exact Nat.le_of_lt (small1000 lP)
  have hsz : vs.length ≤ sizeLine := by
    rw [l1, lp]
    exact Nat.le_of_lt (small1000 lP)
  refine PySem.call_dict_pairs (knd := mixKind X.prog X.w) (kvs := kv) (PairArg.tuple a its.toArray (fun j => (ps.map (·.1)).getD j 0) vs) (I.ok.hd hcalm) ⟨⟨o2, n2, ho, hc2, od, hd2⟩, ?_, fun j k v e => ?_⟩ ⟨by rw [l2, l1], fun j key v e => ?_⟩ hsz fun h' tk hd' k => ?_
  · rw [ei, List.size_toArray, List.length_map, List.length_map, l1]
  · obtain ⟨q', k', hq, hpa, _, _⟩ := f j k v e
    have hg : (ps.map (·.1))[j]? = some q'.1 := by rw [List.getElem?_map, hq]; rfl
    have hT : (ps.map (·.1)).getD j 0 = q'.1 := by rw [List.getD_eq_getElem?_getD, hg]; rfl
    show its.toArray[j]? = some (Value.ref ((ps.map (·.1)).getD j 0)) ∧ PairAt s.heap ((ps.map (·.1)).getD j 0) k v
    rw [hT]
    refine ⟨?_, hpa⟩
    rw [ei, List.getElem?_toArray, List.getElem?_map, hg]
    rfl
  · obtain ⟨q', k', _, _, hk, hi⟩ := f j key v e
    exact ⟨k', hk, hi⟩
  · have hm : (s.heap.objs.size == sysModules) = false := beq_eq_false_iff_ne.mpr (Nat.ne_of_gt I.big)
    have em : mergeK [] (dkI P) = dkI P := merge_dk (by rw [dkI_keys]; exact nd)
    have rk' : KV (dkI P) (merged [] kv) := by
      have := KV.merge (kvs := []) (vs := []) rk .nil
      rw [← eP, em] at this
      exact this
    exact ⟨.ref s.heap.objs.size, upd H s.heap.objs.size (.dK (dkI P)), I.laid (t' := tk) (fun b o e => k b o List.not_mem_nil e) (Nat.le_refl _) (show ObjOk X.prog X.w _ _ _ (.dK (dkI P)) from ⟨hlen, hm, merged [] kv, rk', hd'⟩), rfl, q _ (I.hok.fresh (Nat.le_refl _))⟩
end Fw
namespace Fw
open PySem PySem.Spec PyProof.Rows L2
/-! sum of lists -/
section
variable {prog : Program} {w : World} {A : Around} {R : Result → Shared → Prop}
theorem joins (hh : A.handled = none) {h0 : Heap} {I ax S : Addr} (bs : List Addr) (ls : List (List Value)) (lb : bs.length = ls.length) (hl : ∀ (i : Nat) (b : Addr) (l : List Value), bs[i]? = some b → ls[i]? = some l → ∃ n, PySem.IsL h0 b l.toArray n)
    (hI : h0.objs.size ≤ I) (hS : h0.objs.size ≤ S) (IS : I ≠ S) (hax : ax < h0.objs.size) (W : Walks prog w A.in1 I [I, ax] [I] (bs.map Value.ref).toArray.size (fun i v => (bs.map Value.ref).toArray[i]? = some v) (fun i h => h.IsListIter I ax i ∧ h.IsList ax (bs.map Value.ref).toArray)) :
    ∀ (k i : Nat) (s : Shared) (T : Addr) (xs : List Value) (n c : Nat), ls.length - i = k → i ≤ ls.length → (s.heap.IsListIter I ax i ∧ s.heap.IsList ax (bs.map Value.ref).toArray) → (∀ b o, h0.get? b = some o → s.heap.get? b = some o) →
      PySem.IsL s.heap S #[.ref T] c → PySem.IsL s.heap T xs.toArray n → T ≠ S → T ≠ I → xs.length + ((ls.drop i).map (·.length)).sum ≤ sizeLine →
      (∀ h' tk T' m, (∀ b o, h0.get? b = some o → h'.get? b = some o) → PySem.IsL h' T' (xs ++ (ls.drop i).flatten).toArray m → (h0.objs.size ≤ T' ∨ (T' = T ∧ i = ls.length)) → R (.ok (.ret (.ref T'))) { s with heap := h', toks := tk }) →
      codeAny (model prog w) A (.builtin "sum.loop" ⟨[.ref I, .ref S, rawInt 2, rawInt 0], []⟩) R s := by
  have sz : (bs.map Value.ref).toArray.size = ls.length := by rw [List.size_toArray, List.length_map, lb]
  intro k
  induction k with
  | zero =>
    intro i s T xs n c hk hi st old hTS hT nTS nTI hz hR
    have ei : i = ls.length := by omega
    subst ei
    refine codeAny_builtin F.entry_sum_loop ?_
    rw [Around.under_plainId F.plain_sum_loop _]
    show wpAny _ A.in1 (seqItems? (.ref S) >>= _) _ _ s
    refine wpAny_bind (wpAny_seqItems hTS rfl ?_)
    show wpAny _ A.in1 (tryCatch (pyNext (.ref I)) _ >>= _) _ _ s
    rw [← sz] at st
    refine wpAny_bind (wpAny_tryCatch (W.done s _ _ st fun h' tk hk' => ?_))
    refine wpAny_pure (hR h' tk T n (fun b o e => hk' b o (fun m => ?_) (old b o e)) ?_ (.inr ⟨rfl, rfl⟩))
    · rw [List.mem_singleton] at m
      exact Nat.lt_irrefl _ (Nat.lt_of_lt_of_le (Heap.lt_size e) (Nat.le_trans hI (Nat.le_of_eq m.symm)))
    · rw [List.drop_length, List.flatten_nil, List.append_nil]
      exact hk' T _ (fun m => nTI (List.mem_singleton.mp m)) hT
  | succ k ih =>
    intro i s T xs n c hk hi st old hTS hT nTS nTI hz hR
    have hlt : i < ls.length := by omega
    refine codeAny_builtin F.entry_sum_loop ?_
    rw [Around.under_plainId F.plain_sum_loop _]
    show wpAny _ A.in1 (seqItems? (.ref S) >>= _) _ _ s
    refine wpAny_bind (wpAny_seqItems hTS rfl ?_)
    show wpAny _ A.in1 (tryCatch (pyNext (.ref I)) _ >>= _) _ _ s
    refine wpAny_bind (wpAny_tryCatch (W.item i s _ _ (by rw [sz]; exact hlt) st fun v h' tk hP hst' hk' => ?_))
    have hb : i < bs.length := by omega
    have ev : v = .ref bs[i] := by
      have hP : (bs.map Value.ref).toArray[i]? = some v := hP
      rw [List.getElem?_toArray, List.getElem?_map, List.getElem?_eq_getElem hb] at hP
      exact (Option.some.inj hP).symm
    subst ev
    obtain ⟨m, hlm⟩ := hl i bs[i] ls[i] (List.getElem?_eq_getElem hb) (List.getElem?_eq_getElem hlt)
    have old' : ∀ b o, h0.get? b = some o → h'.get? b = some o := fun b o e => hk' b o (fun m => by
      rw [List.mem_singleton] at m
      exact Nat.lt_irrefl _ (Nat.lt_of_lt_of_le (Heap.lt_size e) (Nat.le_trans hI (Nat.le_of_eq m.symm)))) (old b o e)
    have hB : PySem.IsL h' bs[i] (ls[i]).toArray m := old' _ _ hlm
    have hT' : PySem.IsL h' T xs.toArray n := hk' T _ (fun m => nTI (List.mem_singleton.mp m)) hT
    have hS' : PySem.IsL h' S #[.ref T] c := hk' S _ (fun m => IS (List.mem_singleton.mp m).symm) hTS
    have ltS := Heap.lt_size hS'
    have ltI : Nat.lt I h'.objs.size := by obtain ⟨o, e, _⟩ := hst'.1; exact Heap.lt_size e
    have lt0 : h0.objs.size ≤ h'.objs.size := Nat.le_of_lt (Nat.lt_of_le_of_lt hI ltI)
    have drop : ls.drop i = ls[i] :: ls.drop (i + 1) := List.drop_eq_getElem_cons hlt
    rw [drop, List.map_cons, List.sum_cons] at hz
    show wpAny _ A.in1 ((holding [Value.ref bs[i]] (binaryOp .Add (.ref T) (.ref bs[i]))).attempt >>= _) _ _ _
    refine wpAny_bind (wpAny_attempt (wpAny_holding (P.add_list hT' hB ?_ (by rw [List.size_toArray, List.size_toArray]; omega))))
    have eap : xs.toArray ++ (ls[i]).toArray = (xs ++ ls[i]).toArray := by simp
    rw [eap]
    have hS2 : PySem.IsL (h'.push { cls := .type "list", data := .seq (xs ++ ls[i]).toArray }) S #[.ref T] c := Heap.get?_push_of_some _ hS'
    show wpAny _ A.in1 (updateSeq S (fun _ => #[.ref h'.objs.size]) >>= _) _ _ _
    refine wpAny_bind (wpAny_updateSeq hS2 rfl ?_)
    have hS3 := hS2.update fun _ => #[Value.ref h'.objs.size]
    refine wpAny_bind (wpAny_letGo ?_)
    refine wpAny_bind (wpAny_updateSeq hS3 rfl (wpAny_pure ⟨plainId_quiet F.plain_sum_loop _, ih (i + 1) _ h'.objs.size (xs ++ ls[i]) 0 _ (by omega) hlt ?_ (fun b o e => ?_) (hS3.update fun _ => #[Value.ref h'.objs.size]) ?_ ?_ ?_ ?_ fun h'' tk'' T'' m'' o2 e2 f2 => ?_⟩))
    · refine ⟨hst'.1.at fun o e => ?_, hst'.2.at fun o e => ?_⟩
      · exact (Heap.get?_update_other _ _ (Ne.symm IS)).trans ((Heap.get?_update_other _ _ (Ne.symm IS)).trans (Heap.get?_push_of_some _ e))
      · have na : S ≠ ax := Nat.ne_of_gt (Nat.lt_of_lt_of_le hax hS)
        exact (Heap.get?_update_other _ _ na).trans ((Heap.get?_update_other _ _ na).trans (Heap.get?_push_of_some _ e))
    · have nb : S ≠ b := Nat.ne_of_gt (Nat.lt_of_lt_of_le (Heap.lt_size e) hS)
      exact (Heap.get?_update_other _ _ nb).trans ((Heap.get?_update_other _ _ nb).trans (Heap.get?_push_of_some _ (old' b o e)))
    · have nb : S ≠ h'.objs.size := Nat.ne_of_lt ltS
      exact (Heap.get?_update_other _ _ nb).trans ((Heap.get?_update_other _ _ nb).trans (Heap.get?_push_size _ rfl))
    · exact Nat.ne_of_gt ltS
    · exact Nat.ne_of_gt ltI
    · rw [List.length_append]
      omega
    · refine hR h'' tk'' T'' m'' o2 ?_ (.inl ?_)
      · rw [drop, List.flatten_cons, ← List.append_assoc]
        exact e2
      · rcases f2 with f2 | ⟨f2, _⟩
        · exact f2
        · rw [f2]
          exact lt0
end
section
variable {prog : Program} {w : World} {A : Around} {E : Value → Shared → Prop} {s : Shared}
theorem args_sum2 (a b : Value) : argsOk "sum" ⟨[a, b], []⟩ := by unfold argsOk; kernel_rfl
theorem sum_lists_raw (hh : A.handled = none) {l e : Addr} {ne : Nat} {bs : List Addr} {ls : List (List Value)} {Q : Value → Shared → Prop} (hl : s.heap.IsList l (bs.map Value.ref).toArray) (he : PySem.IsL s.heap e #[] ne) (lb : bs.length = ls.length) (hb : ∀ (i : Nat) (b : Addr) (l : List Value), bs[i]? = some b → ls[i]? = some l → ∃ n, PySem.IsL s.heap b l.toArray n)
    (hz : (ls.map (·.length)).sum ≤ sizeLine) (h : ∀ h' tk T m, (∀ b o, s.heap.get? b = some o → h'.get? b = some o) → PySem.IsL h' T ls.flatten.toArray m → (s.heap.objs.size ≤ T ∨ (T = e ∧ ls = [])) → Q (.ref T) { s with heap := h', toks := tk }) :
    wpAny (model prog w) A (call (.builtin "sum") [.ref l, .ref e]) Q E s := by
  have ll : Nat.lt l s.heap.objs.size := by obtain ⟨_, x, _⟩ := hl; exact Heap.lt_size x
  have le := Heap.lt_size he
  refine call_function_tree F.kind_sum F.plain_sum F.entry_sum (args_sum2 _ _) ?_
  unfold Builtin.«sum»
  simp only [List.length_cons, List.length_nil]
  rw [if_neg (by decide)]
  refine wpAny_bind (wpAny_of_eq (show Builtin.Builtins.bindParams "sum" ["start"] 0 ⟨[.ref e], []⟩ = pure [some (.ref e)] from rfl) ?_)
  refine wpAny_bind (wpAny_pyIter_list hl ?_)
  have he2 : PySem.IsL (s.heap.push { cls := .type "list_iterator", data := .fields #[.ref l, .int 0 0] }) e #[] ne := Heap.get?_push_of_some _ he
  have ty : ∀ s2 : Shared, s2.heap = s.heap.push { cls := .type "list_iterator", data := .fields #[.ref l, .int 0 0] } → Shared.TypeIs s2 (.ref e) "list" := fun s2 e2 => ⟨_, by rw [e2]; exact he2, rfl⟩
  refine wpAny_bind (wpAny_pure ?_)
  simp only [List.forIn_cons, List.forIn_nil]
  refine wpAny_bind ?_
  iterate 3
    (refine wpAny_bind (wpAny_bind (wpAny_isInstance (T := "list") (b := false) (ty _ rfl) (by rw [isSubtype_type]; kernel_rfl) ?_))
     simp only [Bool.false_eq_true, if_false]
     refine wpAny_pure ?_)
  refine wpAny_pure ?_
  refine wpAny_bind (wpAny_newObj_type ?_)
  have sz1 : (s.heap.push { cls := .type "list_iterator", data := .fields #[.ref l, .int 0 0] }).objs.size = s.heap.objs.size + 1 := Heap.size_push _ _
  refine wpAny_pure ⟨plainId_quiet F.plain_sum_loop _, joins hh (h0 := s.heap) (I := s.heap.objs.size) (ax := l) (S := (s.heap.push { cls := .type "list_iterator", data := .fields #[.ref l, .int 0 0] }).objs.size) bs ls lb hb (Nat.le_refl _) (by rw [sz1]; exact Nat.le_succ _) (by rw [sz1]; exact Nat.ne_of_lt (Nat.lt_succ_self _)) ll (Walks.list (A := A.in1) hh _ l (Nat.ne_of_lt ll) _) ls.length 0 _ e [] ne 0 (Nat.sub_zero _) (Nat.zero_le _) ⟨⟨_, Heap.get?_push_of_some _ (Heap.get?_push_size _ rfl), rfl, rfl⟩, (hl.push _).push _⟩ (fun b o x => Heap.get?_push_of_some _ (Heap.get?_push_of_some _ x)) (Heap.get?_push_size _ rfl) (Heap.get?_push_of_some _ he2) (by rw [sz1]; exact Nat.ne_of_lt (Nat.lt_succ_of_lt le)) (Nat.ne_of_lt le) (by simpa using hz) fun h' tk T' m o1 e1 f1 => ?_⟩
  refine h h' tk T' m o1 ?_ (f1.imp id fun ⟨x, y⟩ => ⟨x, List.eq_nil_of_length_eq_zero y.symm⟩)
  simpa using e1
end
/-- sum(lists, []) -/
theorem cr_sumL {X : Cx} (hc : X.calm = true) (K : PySem.W.Frag) (hK : X.K = K) : CallR X (.builtin "sum") (fun xs H Q => ∃ (a e : Addr) (ls : List (Addr × List Int)), xs = [.ref a, .ref e] ∧ SqL K H a (ls.map fun q => V.ref q.1) ∧ (∀ q ∈ ls, H q.1 = some (.lst (vi q.2))) ∧ H e = some (.lst []) ∧ (ls.map (·.2)).flatten.length ≤ 1000 ∧
    ∀ p H', Same H H' → H' p = some (.lst (vi (ls.map (·.2)).flatten)) → Q (.ref p) H') := by
  subst hK
  rintro pins s σ H vs us Q I r ⟨a, e, ls, rfl, hs, hl, he, lz, q⟩
  obtain ⟨ua, ub, rfl, ra, rb⟩ := vals2 r
  cases (show ua = Value.ref a from ra)
  cases (show ub = Value.ref e from rb)
  obtain ⟨its, rv, pl, zL⟩ := I.list hs
  clear zL
  have ei : its = (ls.map (·.1)).map Value.ref := by
    clear pl r q he lz hs
    induction ls generalizing its with
    | nil => cases rv; rfl
    | cons d ls ih =>
      cases rv with
      | cons r1 r2 =>
        cases r1
        rw [List.map_cons, List.map_cons]
        congr 1
        exact ih (fun q hq => hl q (List.mem_cons_of_mem _ hq)) _ r2
  subst ei
  obtain ⟨_, its0, n0, rv0, l0, he0⟩ := I.lstM he
  have e0 : its0 = [] := List.eq_nil_of_length_eq_zero (by rw [← l0]; rfl)
  subst e0
  -- the lists' values
  have ex : ∃ vls : List (List Value), vls.length = ls.length ∧ ∀ (i : Nat) (q : Addr × List Int) (l : List Value), ls[i]? = some q → vls[i]? = some l → Vals (vi q.2) l ∧ ∃ n, PySem.IsL s.heap q.1 l.toArray n := by
    clear pl r q he lz hs rv
    induction ls with
    | nil => exact ⟨[], rfl, fun i q l h => by cases h⟩
    | cons d ls ih =>
      obtain ⟨vls, h1, h2⟩ := ih fun q hq => hl q (List.mem_cons_of_mem _ hq)
      obtain ⟨_, it, n, rr, _, hh⟩ := I.lstM (hl d (List.mem_cons_self ..))
      refine ⟨it :: vls, by rw [List.length_cons, List.length_cons, h1], fun i q l e1 e2 => ?_⟩
      cases i with
      | zero => cases e1; cases e2; exact ⟨rr, n, hh⟩
      | succ i => exact h2 i q l e1 e2
  obtain ⟨vls, lv, hv⟩ := ex
  have flat : Vals (vi (ls.map (·.2)).flatten) vls.flatten ∧ (vls.map (·.length)).sum = (ls.map (·.2)).flatten.length := by
    clear pl r q he lz hs rv hl
    induction ls generalizing vls with
    | nil => rw [List.eq_nil_of_length_eq_zero lv]; exact ⟨.nil, rfl⟩
    | cons d ls ih =>
      cases vls with
      | nil => cases lv
      | cons v vls =>
        obtain ⟨i1, i2⟩ := ih vls (by simpa using lv) fun i q l e1 e2 => hv (i + 1) q l e1 e2
        obtain ⟨r1, _⟩ := hv 0 d v rfl rfl
        have := r1.length
        rw [List.length_map] at this
        refine ⟨?_, ?_⟩
        · rw [List.map_cons, List.flatten_cons, List.flatten_cons, vi_app]
          exact r1.append i1
        · rw [List.map_cons, List.sum_cons, List.map_cons, List.flatten_cons, List.length_append, i2, this]
  have zz := sizeLine_eq
  refine sum_lists_raw (I.ok.hd hc) pl.isList he0 (bs := ls.map (·.1)) (ls := vls) (by rw [List.length_map, lv]) (fun i b l h1 h2 => ?_) (by rw [flat.2]; omega) fun h' tk T m o1 e1 f1 => ?_
  · rw [List.getElem?_map] at h1
    cases e2 : ls[i]? with
    | none => rw [e2] at h1; cases h1
    | some q =>
      rw [e2] at h1
      cases h1
      exact (hv i q l e2 h2).2
  · rcases f1 with f1 | ⟨f1, f2⟩
    · refine ⟨.ref T, upd H T (.lst (vi (ls.map (·.2)).flatten)), I.laid (t' := tk) (o := .lst (vi (ls.map (·.2)).flatten)) o1 f1 ⟨?_, vls.flatten, m, flat.1, e1⟩, rfl, q _ _ (same_upd (I.hok.fresh f1)) upd_same⟩
      rw [List.length_map]
      omega
    · subst f1
      have f3 : ls = [] := by
        rw [f2] at lv
        exact List.eq_nil_of_length_eq_zero lv.symm
      subst f3
      exact ⟨.ref T, H, I.kept (t' := tk) o1, rfl, q _ _ (Same.refl _) he⟩
end Fw
set_option maxHeartbeats 2000000
namespace Fw
open PySem PySem.Spec PyProof.Rows L2
/-! surpluses after a move: mathematics -/
def srp (P : List (Str × Int)) (C : List Int) : Int := ((inside P C).length : Int) - (C.length : Int)
abbrev rowsOf (P : List (Str × Int)) (Ls : List (List Int)) : List (List Int × Int) := Ls.map fun C => (C, srp P C)
/-- one step of a person -/
structure Stp (n : Int) (D : List (Int × Int)) (P : List (Str × Int)) (nm : Str) (here t : Int) : Prop where
  pl : Pl n P
  at' : (nm, here) ∈ P
  ht : t ∈ P.map (·.2)
  ad : adj D here t
section
variable {n : Int} {D : List (Int × Int)} {P : List (Str × Int)} {nm : Str} {here t : Int}
theorem Stp.hh (s : Stp n D P nm here t) : here ∈ P.map (·.2) := List.mem_map_of_mem (f := (·.2)) s.at'
theorem Stp.one (s : Stp n D P nm here t) {x : Str × Int} (hx : x ∈ P) (e : x.1 = nm) : x.2 = here := by
  have := key_uniq s.pl.nodup hx s.at' e
  rw [this]
theorem Stp.side (s : Stp n D P nm here t) {R C : List Int} {r : Int} (h : IsC D R r C) (h1 : here ∈ R) (h2 : t ∈ R) : here ∈ C ↔ t ∈ C := by
  rw [h.mem, h.mem]
  exact ⟨fun w => .step w s.ad h2, fun w => .step w (adj_symm s.ad) h1⟩
theorem Stp.ins (s : Stp n D P nm here t) {C : List Int} (h : here ∈ C ↔ t ∈ C) : inside (mvd P nm t) C = inside P C := by
  unfold inside mvd
  rw [List.filter_map, List.map_map]
  have e : (P.filter ((fun x : Str × Int => decide (x.2 ∈ C)) ∘ fun x => (x.1, if x.1 = nm then t else x.2))) = P.filter fun x => decide (x.2 ∈ C) := by
    refine List.filter_congr fun x hx => ?_
    show decide ((if x.1 = nm then t else x.2) ∈ C) = decide (x.2 ∈ C)
    by_cases c : x.1 = nm
    · rw [if_pos c, s.one hx c]
      exact decide_eq_decide.mpr h.symm
    · rw [if_neg c]
  rw [e]
  exact List.map_congr_left fun _ _ => rfl
theorem Stp.rooms (s : Stp n D P nm here t) (r : Int) : r ∈ (mvd P nm t).map (·.2) ↔ r ∈ P.map (·.2) ∧ (r = here → here ∈ (mvd P nm t).map (·.2)) := by
  constructor
  · intro h
    exact ⟨mvd_rooms s.ht h, fun e => by rw [← e]; exact h⟩
  · rintro ⟨h1, h2⟩
    by_cases e : r = here
    · rw [e]
      exact h2 e
    · obtain ⟨y, hy, rfl⟩ := List.mem_map.mp h1
      have ny : y.1 ≠ nm := fun c => e (s.one hy c)
      unfold mvd
      rw [List.map_map]
      refine List.mem_map.mpr ⟨y, hy, ?_⟩
      show (if y.1 = nm then t else y.2) = y.2
      rw [if_neg ny]
theorem Stp.plP (s : Stp n D P nm here t) : Pl n (mvd P nm t) := by
  obtain ⟨y, hy, e⟩ := List.mem_map.mp s.ht
  have := s.pl.rm y hy
  rw [e] at this
  exact s.pl.mvd this.1 this.2
/-- somebody stays -/
theorem Stp.stay (s : Stp n D P nm here t) (h : here ∈ (mvd P nm t).map (·.2)) : occ n (mvd P nm t) = occ n P := by
  unfold occ
  refine List.filter_congr fun r _ => decide_eq_decide.mpr ?_
  rw [s.rooms]
  exact ⟨fun z => z.1, fun z => ⟨z, fun _ => h⟩⟩
theorem Stp.stayRows (s : Stp n D P nm here t) {Ls : List (List Int)} (rg : Regs D (occ n P) Ls) : rowsOf (mvd P nm t) Ls = rowsOf P Ls := by
  refine List.map_congr_left fun C hC => ?_
  obtain ⟨r, hr, ic⟩ := (rg.mem C).mp hC
  unfold srp
  rw [s.ins (s.side ic (s.pl.mem_occ.mpr s.hh) (s.pl.mem_occ.mpr s.ht))]
/-- nobody stays -/
theorem Stp.gone (s : Stp n D P nm here t) (h : here ∉ (mvd P nm t).map (·.2)) (r : Int) : r ∈ occ n (mvd P nm t) ↔ r ∈ occ n P ∧ r ≠ here := by
  rw [s.plP.mem_occ, s.pl.mem_occ, s.rooms]
  exact ⟨fun z => ⟨z.1, fun e => h (z.2 e)⟩, fun z => ⟨z.1, fun e => absurd e z.2⟩⟩
end
theorem isC_less {D : List (Int × Int)} {R R' C : List Int} {here r : Int} (hR : ∀ x, x ∈ R' ↔ x ∈ R ∧ x ≠ here) (h : IsC D R r C) (hr : r ∈ R) (no : here ∉ C) : IsC D R' r C := by
  refine ⟨h.up, fun v => ?_⟩
  rw [h.mem]
  constructor
  · intro w
    induction w with
    | base => exact .base
    | @step x y k ad m ih => exact .step ih ad ((hR y).mpr ⟨m, fun e => no ((h.mem here).mpr (e ▸ .step k ad m))⟩)
  · intro w
    exact w.mono fun x hx => ((hR x).mp hx).1
theorem ins_split (P : List (Str × Int)) {C F : List Int} (h : ∀ x ∈ C, x ∉ F) : (inside P (C ++ F)).length = (inside P C).length + (inside P F).length := by
  unfold inside
  rw [List.length_map, List.length_map, List.length_map]
  induction P with
  | nil => rfl
  | cons p P ih =>
    rw [List.filter_cons, List.filter_cons, List.filter_cons]
    by_cases c : p.2 ∈ C
    · rw [if_pos (decide_eq_true (List.mem_append_left _ c)), if_pos (decide_eq_true c), if_neg (by rw [decide_eq_false (h _ c)]; decide)]
      simp only [List.length_cons]
      omega
    · by_cases f : p.2 ∈ F
      · rw [if_pos (decide_eq_true (List.mem_append_right _ f)), if_neg (by rw [decide_eq_false c]; decide), if_pos (decide_eq_true f)]
        simp only [List.length_cons]
        omega
      · have nn : p.2 ∉ C ++ F := fun z => (List.mem_append.mp z).elim c f
        rw [if_neg (by rw [decide_eq_false nn]; decide), if_neg (by rw [decide_eq_false c]; decide), if_neg (by rw [decide_eq_false f]; decide)]
        exact ih
theorem ins_flat (P : List (Str × Int)) : ∀ {Xs : List (List Int)}, Xs.flatten.Nodup → (Xs.map fun C => srp P C).sum = ((inside P Xs.flatten).length : Int) - (Xs.flatten.length : Int)
  | [], _ => by
    have : inside P ([] : List Int) = [] := inside_nil.mpr fun _ _ h => by cases h
    show (0 : Int) = ((inside P []).length : Int) - 0
    rw [this]
    rfl
  | C :: Xs, nd => by
    rw [List.flatten_cons, List.nodup_append] at nd
    rw [List.map_cons, List.sum_cons, List.flatten_cons, ins_flat P nd.2.1, ins_split P fun x hx hy => nd.2.2 x hx x hy rfl, List.length_append]
    unfold srp
    omega
theorem ins_congr {P : List (Str × Int)} {C F : List Int} (h : ∀ x ∈ P, x.2 ∈ C ↔ x.2 ∈ F) : inside P C = inside P F := by
  unfold inside
  rw [List.filter_congr fun x hx => decide_eq_decide.mpr (h x hx)]
theorem flat_sub {Xs Ls : List (List Int)} (s : Xs.Sublist Ls) (nd : Ls.flatten.Nodup) : Xs.flatten.Nodup := by
  induction s with
  | slnil => exact nd
  | cons a _ ih =>
    rw [List.flatten_cons, List.nodup_append] at nd
    exact ih nd.2.1
  | @cons_cons l1 l2 a s ih =>
    rw [List.flatten_cons, List.nodup_append] at nd ⊢
    refine ⟨nd.1, ih nd.2.1, fun x hx y hy => nd.2.2 x hx y ?_⟩
    obtain ⟨C, hC, hyC⟩ := List.mem_flatten.mp hy
    exact List.mem_flatten.mpr ⟨C, s.subset hC, hyC⟩
/-- a room has become empty: the regions before and after -/
structure Spl (n : Int) (D : List (Int × Int)) (P : List (Str × Int)) (nm : Str) (here t : Int) (Ls Ls' : List (List Int)) (O : List Int) : Prop where
  s : Stp n D P nm here t
  no : here ∉ (mvd P nm t).map (·.2)
  rg : Regs D (occ n P) Ls
  rg' : Regs D (occ n (mvd P nm t)) Ls'
  hO : O ∈ Ls
  hi : here ∈ O
section
variable {n : Int} {D : List (Int × Int)} {P : List (Str × Int)} {nm : Str} {here t : Int} {Ls Ls' : List (List Int)} {O : List Int}
theorem Spl.keep (z : Spl n D P nm here t Ls Ls' O) {C : List Int} (hC : C ∈ Ls) (ne : C ≠ O) : C ∈ Ls' ∧ srp (mvd P nm t) C = srp P C := by
  have nh : here ∉ C := fun e => ne (z.rg.one hC z.hO e z.hi)
  obtain ⟨r, hr, ic⟩ := (z.rg.mem C).mp hC
  have rr : r ≠ here := fun e => nh (e ▸ ic.has)
  refine ⟨(z.rg'.mem C).mpr ⟨r, (z.s.gone z.no r).mpr ⟨hr, rr⟩, isC_less (z.s.gone z.no) ic hr nh⟩, ?_⟩
  unfold srp
  rw [z.s.ins (z.s.side ic (z.s.pl.mem_occ.mpr z.s.hh) (z.s.pl.mem_occ.mpr z.s.ht))]
theorem Spl.oldNo (z : Spl n D P nm here t Ls Ls' O) : O ∉ Ls' := fun h => by
  have := (z.rg'.has h z.hi).1
  exact ((z.s.gone z.no here).mp this).2 rfl
theorem Spl.new (z : Spl n D P nm here t Ls Ls' O) {C : List Int} (hC : C ∈ Ls') (no : C ∉ Ls) : ∀ x ∈ C, x ∈ O := by
  obtain ⟨r, hr, ic⟩ := (z.rg'.mem C).mp hC
  obtain ⟨hr0, nr⟩ := (z.s.gone z.no r).mp hr
  obtain ⟨L, hL, hrL⟩ := z.rg.ex (occ_up n P) hr0
  have ic0 := (z.rg.has hL hrL).2
  by_cases h : here ∈ L
  · have e := z.rg.one hL z.hO h z.hi
    intro x hx
    rw [← e, ic0.mem]
    exact ((ic.mem x).mp hx).mono fun y hy => ((z.s.gone z.no y).mp hy).1
  · have := isC_less (z.s.gone z.no) ic0 hr0 h
    rw [ic.one this] at no
    exact absurd hL no
/-- the fresh regions -/
def frs (Ls Ls' : List (List Int)) : List (List Int) := Ls'.filter fun C => !decide (C ∈ Ls)
theorem Spl.nd (z : Spl n D P nm here t Ls Ls' O) : (frs Ls Ls').flatten.Nodup := flat_sub List.filter_sublist z.rg'.flat_nodup
theorem Spl.mem (z : Spl n D P nm here t Ls Ls' O) (x : Int) : x ∈ (frs Ls Ls').flatten ↔ x ∈ O ∧ x ≠ here := by
  rw [List.mem_flatten]
  constructor
  · rintro ⟨C, hC, hx⟩
    obtain ⟨h1, h2⟩ := List.mem_filter.mp hC
    have h2 : C ∉ Ls := by simpa using h2
    exact ⟨z.new h1 h2 x hx, ((z.s.gone z.no x).mp (z.rg'.has h1 hx).1).2⟩
  · rintro ⟨h1, h2⟩
    have h0 := (z.rg.has z.hO h1).1
    obtain ⟨C, hC, hx⟩ := z.rg'.ex (occ_up n _) ((z.s.gone z.no x).mpr ⟨h0, h2⟩)
    refine ⟨C, List.mem_filter.mpr ⟨hC, ?_⟩, hx⟩
    rw [decide_eq_false fun m => z.oldNo (z.rg.one m z.hO hx h1 ▸ hC)]
    rfl
theorem Spl.upO (z : Spl n D P nm here t Ls Ls' O) : O.Pairwise (· < ·) := by
  obtain ⟨r, _, ic⟩ := (z.rg.mem O).mp z.hO
  exact ic.up
theorem Spl.sorted (z : Spl n D P nm here t Ls Ls' O) {ys : List Int} (p : ys.Perm (frs Ls Ls').flatten) (so : ys.Pairwise (· ≤ ·)) : ys = O.filter fun x => !decide (x = here) := by
  refine up_ext (up_of so (p.nodup_iff.mpr z.nd)) (z.upO.filter _) fun x => ?_
  rw [p.mem_iff, z.mem, List.mem_filter]
  simp
theorem Spl.sum (z : Spl n D P nm here t Ls Ls' O) : ((frs Ls Ls').map fun C => srp (mvd P nm t) C).sum = srp P O + 1 := by
  rw [ins_flat _ z.nd]
  have e1 : inside (mvd P nm t) (frs Ls Ls').flatten = inside P O := by
    rw [← z.s.ins (z.s.side (z.rg.has z.hO z.hi).2 (z.s.pl.mem_occ.mpr z.s.hh) (z.s.pl.mem_occ.mpr z.s.ht))]
    refine ins_congr fun x hx => ?_
    rw [z.mem]
    exact ⟨fun y => y.1, fun y => ⟨y, fun e => z.no (e ▸ List.mem_map_of_mem (f := (·.2)) hx)⟩⟩
  have e2 : (frs Ls Ls').flatten.length + 1 = O.length := by
    have p : (here :: (frs Ls Ls').flatten).Perm O := by
      refine (List.perm_ext_iff_of_nodup (List.nodup_cons.mpr ⟨fun m => ((z.mem here).mp m).2 rfl, z.nd⟩) (up_nodup z.upO)).mpr fun x => ?_
      rw [List.mem_cons, z.mem]
      constructor
      · rintro (e | e)
        · rw [e]; exact z.hi
        · exact e.1
      · intro m
        by_cases e : x = here
        · exact .inl e
        · exact .inr ⟨m, e⟩
    have := p.length_eq
    rwa [List.length_cons] at this
  rw [e1]
  unfold srp
  omega
end
/-! loose regions -/
/-- the people of the first regions, later -/
structure Lsr (n : Int) (D : List (Int × Int)) (P0 P : List (Str × Int)) (Ls0 : List (List Int)) : Prop where
  rg0 : Regs D (occ n P0) Ls0
  sub : ∀ r ∈ occ n P, r ∈ occ n P0
  cnt : ∀ O ∈ Ls0, (inside P O).length = (inside P0 O).length
theorem Lsr.start {n : Int} {D : List (Int × Int)} {P : List (Str × Int)} {Ls : List (List Int)} (h : Regs D (occ n P) Ls) : Lsr n D P P Ls := ⟨h, fun _ h => h, fun _ _ => rfl⟩
theorem Lsr.step {n : Int} {D : List (Int × Int)} {P0 P : List (Str × Int)} {Ls0 : List (List Int)} {nm : Str} {here t : Int} (x : Lsr n D P0 P Ls0) (s : Stp n D P nm here t) : Lsr n D P0 (mvd P nm t) Ls0 := by
  refine ⟨x.rg0, fun r hr => x.sub r (s.pl.mem_occ.mpr (mvd_rooms s.ht (s.plP.mem_occ.mp hr))), fun O hO => ?_⟩
  obtain ⟨r, hr, ic⟩ := (x.rg0.mem O).mp hO
  rw [s.ins (s.side ic (x.sub _ (s.pl.mem_occ.mpr s.hh)) (x.sub _ (s.pl.mem_occ.mpr s.ht)))]
  exact x.cnt O hO
theorem Lsr.loose {n : Int} {D : List (Int × Int)} {P0 P : List (Str × Int)} {Ls0 Ls : List (List Int)} (x : Lsr n D P0 P Ls0) (pl : Pl n P) (rg : Regs D (occ n P) Ls) {O : List Int} (hO : O ∈ Ls0) (lo : O.length < (inside P0 O).length) : ∃ C ∈ Ls, (inside P C).length ≠ C.length ∧ ∀ y ∈ C, y ∈ O := by
  refine Classical.byContradiction fun none => ?_
  have tight : ∀ C ∈ Ls, (∀ y ∈ C, y ∈ O) → (inside P C).length = C.length := fun C hC h => Classical.byContradiction fun e => none ⟨C, hC, e, h⟩
  let Xs := Ls.filter fun C => decide (∀ y ∈ C, y ∈ O)
  have nd : Xs.flatten.Nodup := flat_sub List.filter_sublist rg.flat_nodup
  have sub : ∀ y ∈ Xs.flatten, y ∈ O := fun y hy => by
    obtain ⟨C, hC, hyC⟩ := List.mem_flatten.mp hy
    exact of_decide_eq_true (List.mem_filter.mp hC).2 y hyC
  have e1 : inside P Xs.flatten = inside P O := ins_congr fun p hp => by
    refine ⟨sub _, fun m => ?_⟩
    have ho : p.2 ∈ occ n P := pl.mem_occ.mpr (List.mem_map_of_mem (f := (·.2)) hp)
    obtain ⟨C, hC, hpC⟩ := rg.ex (occ_up n P) ho
    refine List.mem_flatten.mpr ⟨C, List.mem_filter.mpr ⟨hC, decide_eq_true fun y hy => ?_⟩, hpC⟩
    have ic := (rg.has hC hpC).2
    have ic0 := (x.rg0.has hO m).2
    exact (ic0.mem y).mpr (((ic.mem y).mp hy).mono x.sub)
  have e2 : (Xs.map fun C => srp P C).sum = 0 := by
    have : ∀ Ys : List (List Int), (∀ C ∈ Ys, C ∈ Xs) → (Ys.map fun C => srp P C).sum = 0 := fun Ys => by
      induction Ys with
      | nil => exact fun _ => rfl
      | cons C Ys ih =>
        intro h
        obtain ⟨h1, h2⟩ := List.mem_filter.mp (h C (List.mem_cons_self ..))
        have := tight C h1 (of_decide_eq_true h2)
        rw [List.map_cons, List.sum_cons, ih fun y hy => h y (List.mem_cons_of_mem _ hy)]
        unfold srp
        omega
    exact this Xs fun _ h => h
  have e3 := ins_flat P nd
  rw [e2, e1, x.cnt O hO] at e3
  have e4 := nodup_len nd sub
  omega
where nodup_len {xs ys : List Int} (nd : xs.Nodup) (h : ∀ x ∈ xs, x ∈ ys) : xs.length ≤ ys.length := subset_len nd h
/-! rows -/
def rowD (r : List Int × Int) : PyData := .tuple [.tuple (r.1.map .int), .int r.2]
theorem intsT_eqv : ∀ xs ys : List Int, PyData.eqvAll (xs.map PyData.int) (ys.map PyData.int) = decide (xs = ys)
  | [], [] => by simp [PyData.eqvAll]
  | [], y :: ys => by simp [PyData.eqvAll]
  | x :: xs, [] => by simp [PyData.eqvAll]
  | x :: xs, y :: ys => by
    rw [List.map_cons, List.map_cons, PyData.eqvAll, intsT_eqv xs ys, Bool.eq_iff_iff]
    simp [PyData.eqv]
theorem rowD_eqv (a b : List Int × Int) : PyData.eqv (rowD a) (rowD b) = decide (a = b) := by
  obtain ⟨a1, a2⟩ := a
  obtain ⟨b1, b2⟩ := b
  unfold rowD
  have e : PyData.eqv (.tuple (a1.map PyData.int)) (.tuple (b1.map PyData.int)) = decide (a1 = b1) := by rw [PyData.eqv, intsT_eqv]
  show PyData.eqv (.tuple [.tuple (a1.map PyData.int), .int a2]) (.tuple [.tuple (b1.map PyData.int), .int b2]) = _
  rw [PyData.eqv, PyData.eqvAll, PyData.eqvAll, PyData.eqvAll, e, PyData.eqv, Bool.and_true, Bool.eq_iff_iff]
  simp
theorem rowsD_eqv : ∀ xs ys : List (List Int × Int), PyData.eqvAll (xs.map rowD) (ys.map rowD) = decide (xs = ys)
  | [], [] => by simp [PyData.eqvAll]
  | [], y :: ys => by simp [PyData.eqvAll]
  | x :: xs, [] => by simp [PyData.eqvAll]
  | x :: xs, y :: ys => by
    rw [List.map_cons, List.map_cons, PyData.eqvAll, rowsD_eqv xs ys, rowD_eqv]
    simp [Bool.decide_and]
theorem any_rowD (xs : List (List Int × Int)) (r : List Int × Int) : ((xs.map rowD).any fun z => PyData.eqv z (rowD r)) = decide (r ∈ xs) := by
  rw [Bool.eq_iff_iff, List.any_eq_true, decide_eq_true_eq]
  constructor
  · rintro ⟨z, hz, e⟩
    obtain ⟨y, hy, rfl⟩ := List.mem_map.mp hz
    rw [rowD_eqv, decide_eq_true_eq] at e
    exact e ▸ hy
  · intro h
    exact ⟨rowD r, List.mem_map_of_mem h, by rw [rowD_eqv]; simp⟩
theorem rowD_lay (r : List Int × Int) : PyData.canLay0 (rowD r) = true ∧ (rowD r).depth ≤ 3 := by
  unfold rowD
  constructor
  · simp [PyData.canLay0, PyData.canLayAll0, lay_ints]
  · simp [PyData.depth, PyData.depthAll, deep_ints]
theorem rowsD_lay : ∀ xs : List (List Int × Int), PyData.canLayAll0 (xs.map rowD) = true ∧ PyData.depthAll (xs.map rowD) ≤ 3
  | [] => by simp [PyData.canLayAll0, PyData.depthAll]
  | x :: xs => by
    obtain ⟨h1, h2⟩ := rowsD_lay xs
    obtain ⟨h3, h4⟩ := rowD_lay x
    rw [List.map_cons, PyData.canLayAll0, PyData.depthAll, h1, h3]
    exact ⟨rfl, by omega⟩
theorem rowD_shaped (r : List Int × Int) : SeqAt.shaped (rowD r) = true := by
  obtain ⟨h1, h2⟩ := rowD_lay r
  unfold SeqAt.shaped
  rw [h1]
  simp
  omega
theorem rowsD_shaped (xs : List (List Int × Int)) : SeqAt.shaped (.list (xs.map rowD)) = true := by
  obtain ⟨h1, h2⟩ := rowsD_lay xs
  unfold SeqAt.shaped
  rw [PyData.canLay0, h1, PyData.depth]
  simp
  omega
/-- rows at addresses: the row's, the region's, the row -/
abbrev Rwt := Addr × Addr × List Int × Int
def RwAt (H : Hp) (rs : List Rwt) : Prop := ∀ q ∈ rs, H q.1 = some (.tup [.ref q.2.1, .int q.2.2.2]) ∧ H q.2.1 = some (.tup (vi q.2.2.1)) ∧ q.2.2.1.length ≤ 8
abbrev rwr (rs : List Rwt) : List V := rs.map fun q => V.ref q.1
abbrev rwd (rs : List Rwt) : List (List Int × Int) := rs.map fun q => q.2.2
theorem RwAt.same {H H' : Hp} {rs : List Rwt} (h : RwAt H rs) (e : Same H H') : RwAt H' rs := fun q hq => ⟨e _ _ (h q hq).1, e _ _ (h q hq).2.1, (h q hq).2.2⟩
theorem RwAt.one {K : PySem.W.Frag} {H : Hp} {rs : List Rwt} (h : RwAt H rs) {q : Rwt} (hq : q ∈ rs) : Dp K H (.ref q.1) (rowD q.2.2) :=
  .tup (SqT.of (h q hq).1) (.cons (.tup (SqT.of (h q hq).2.1) (dp_ints _)) (.cons (.int _) .nil))
theorem RwAt.dp {K : PySem.W.Frag} {H : Hp} : ∀ {rs : List Rwt}, RwAt H rs → DpAll K H (rwr rs) ((rwd rs).map rowD)
  | [], _ => .nil
  | q :: rs, h => .cons (h.one (List.mem_cons_self ..)) (RwAt.dp fun x hx => h x (List.mem_cons_of_mem _ hx))
theorem RwAt.put {H : Hp} {rs : List Rwt} (h : RwAt H rs) {L : Addr} {xs ys : List V} (e : H L = some (.lst xs)) : RwAt (upd H L (.lst ys)) rs := fun q hq =>
  ⟨(upd_ne (ne_of (h q hq).1 e (by intro z; cases z))).trans (h q hq).1, (upd_ne (ne_of (h q hq).2.1 e (by intro z; cases z))).trans (h q hq).2.1, (h q hq).2.2⟩
theorem RwAt.sub {H : Hp} {rs qs : List Rwt} (h : RwAt H rs) (s : ∀ q ∈ qs, q ∈ rs) : RwAt H qs := fun q hq => h q (s q hq)
end Fw
set_option maxHeartbeats 4000000
namespace Fw
open PySem PySem.Spec PyProof.Rows L2
/-! the law's rows of regions and surpluses -/
theorem get_mapR {α : Type} {f : α → V} {xs : List α} {i : Nat} {x : V} (h : (xs.map f)[i]? = some x) : ∃ q, xs[i]? = some q ∧ x = f q := by
  rw [List.getElem?_map] at h
  cases e : xs[i]? with
  | none => rw [e] at h; cases h
  | some q => rw [e] at h; cases h; exact ⟨q, rfl, rfl⟩
theorem op_notInDK {X : Cx} (K : PySem.W.Frag) (h : X.K = K) (hu : X.A.units + 65 < cLine) : OpR X (compareOp .NotIn) (rNotInD K) := by subst h; exact op_notInD hu
theorem row_in {K : PySem.W.Frag} {H : Hp} {l : Addr} {rs qs : List Rwt} {q : Rwt} {Q : VK} (rq : RwAt H qs) (hq : q ∈ qs) (e : H l = some (.lst (rwr rs))) (r : RwAt H rs) (h : Q (.bl (!decide (q.2.2 ∈ rwd rs))) H) : rNotInD K (.ref q.1) (.ref l) H Q :=
  ⟨rowD q.2.2, (rwd rs).map rowD, rq.one hq, .lst (SqL.of e) r.dp, rowD_shaped _, rowsD_shaped _, by rw [any_rowD]; exact h⟩
theorem rows_one {D : List (Int × Int)} {R : List Int} {Ls : List (List Int)} {P : List (Str × Int)} {O : List Int} {here : Int} {rs : List Rwt} (rg : Regs D R Ls) (hO : O ∈ Ls) (hi : here ∈ O) (w : rwd rs = rowsOf P Ls) :
    ∃ (q0 : Rwt) (qs : List Rwt), (rs.filter fun q => decide (here ∈ q.2.2.1)) = q0 :: qs ∧ q0 ∈ rs ∧ q0.2.2 = (O, srp P O) := by
  have m : (O, srp P O) ∈ rwd rs := by rw [w]; exact List.mem_map_of_mem (f := fun C => (C, srp P C)) hO
  obtain ⟨q, hq, e⟩ := List.mem_map.mp m
  have hf : q ∈ rs.filter fun q => decide (here ∈ q.2.2.1) := List.mem_filter.mpr ⟨hq, decide_eq_true (by rw [e]; exact hi)⟩
  cases ef : rs.filter fun q => decide (here ∈ q.2.2.1) with
  | nil => rw [ef] at hf; cases hf
  | cons q0 qs =>
    have h0 : q0 ∈ rs.filter fun q => decide (here ∈ q.2.2.1) := by rw [ef]; exact List.mem_cons_self ..
    obtain ⟨h1, h2⟩ := List.mem_filter.mp h0
    have h2 := of_decide_eq_true h2
    have m1 : q0.2.2 ∈ rowsOf P Ls := by rw [← w]; exact List.mem_map_of_mem (f := fun q : Rwt => q.2.2) h1
    obtain ⟨C, hC, eC⟩ := List.mem_map.mp m1
    have : C = O := rg.one hC hO (by rw [← eC] at h2; exact h2) hi
    exact ⟨q0, qs, rfl, h1, by rw [← eC, this]⟩
section
variable {P : Program} {w : World} {K : PySem.W.Frag} {mg : Str → Option Value} {base : Heap}
def spLSu : Sp := fun vs H Q _ => ∃ (h p : Addr) (n : Int) (D : List (Int × Int)) (P : List (Str × Int)), vs = [.ref h, .ref p] ∧ HouseAt H h n D ∧ Forest n D ∧ 0 ≤ n ∧ n ≤ 8 ∧ PlAt H p P ∧ P.length ≤ 100 ∧
  ∀ H' l rs Ls, Same H H' → H' l = some (.lst (rwr rs)) → RwAt H' rs → Regs D (occ n P) Ls → rwd rs = rowsOf P Ls → rs.length ≤ 8 → Q (.ref l) H'
abbrev nLSurps : List Str := ["_law_house_here", "_law_placement_here", "_law_region"]
theorem scLSurps : FnScope nLSurps ["_law_house_here", "_law_placement_here"] (defScope sLSurps) := ⟨rfl, rfl, rfl, by decide +kernel, rfl, by decide +kernel, by decide +kernel⟩
theorem ok_lsu {f : Addr} {fd : FuncData} {k : Nat} (F : Fun K "_law_surpluses" "_law_surpluses" sLSurps f fd) (Cfind_regions : Cal P w K mg base (k + 4) "find_regions" pHP spFReg) (Csurplus : Cal P w K mg base (k + 4) "surplus" pSurp (spSurp K)) : FnOk P w K mg base CX0 (k + 5) f fd ["_law_house_here", "_law_placement_here"] spLSu := by
  refine F.ok scLSurps (fun vs H Q E h => ?_) (fun cdv A outer s H vs Q E hr h => ?_)
  · obtain ⟨h, p, n, D, P, rfl, _⟩ := h
    rfl
  · obtain ⟨h, p, n, D, P, rfl, hH, hF, n0, n1, hP, lP, q⟩ := h
    refine ⟨_, (pss_one (ps_ret (pe_lc (own := [("_law_region", 2)]) (g := gName 2) (by rfl) scLSurps.nd (pi_tupK K rfl (pe_cal Cfind_regions hr (by rfl) (pa_cons (pv 0) (pa_cons (pv 1) pa_nil))))
 (blkOk_by (own := [("_law_region", 2)]) (N := nLSurps) (sc := defScope sLSurps) (by decide +kernel))
 (fun _ _ _ _ _ => (pg_name (i := 2) scLSurps.nd rfl (.inl rfl))) (fun _ _ _ _ _ => pts_nil) (fun _ _ _ _ _ => (pe_tup (pa_cons (pv 2) (pa_cons (pe_cal Csurplus hr (by rfl) (pa_cons (pv 1) (pa_cons (pv 2) pa_nil))) pa_nil))))))), ?_⟩
    refine ⟨_, rfl, _, rfl, h, p, n, D, P, rfl, hH, hF, n0, n1, hP, lP, fun H1 t Cs s1 rg => ?_⟩
    refine ⟨t, rfl, ⟨_, SqT.of rg.1⟩, fun L hL => lc_tup (K := K) (a := t) (xs := refs Cs) (fun i H' => ∃ rs : List Rwt, Same H1 H' ∧ H' L = some (.lst (rwr rs)) ∧ RwAt H' rs ∧ rwd rs = rowsOf P ((Cs.take i).map (·.2)) ∧ rs.length ≤ i) ⟨[], same_upd hL, upd_same, fun q hq => (by cases hq), rfl, Nat.le_refl _⟩ (fun i H' _ hh => ?_) ?_ ?_⟩
    · obtain ⟨_, s', _⟩ := hh
      exact SqT.of (s' _ _ rg.1)
    · rintro i x H2 hx ⟨rs, s2, e2, r2, w2, l2⟩
      obtain ⟨c, hc, rfl⟩ := get_refs hx
      have mc := List.mem_of_getElem? hc
      have hi := lt_of_get hc
      have lC := rg.2.2.1
      have tc := s2 _ _ (rg.2.1 c mc).1
      have lc : c.2.length ≤ 8 := by
        have m := List.mem_map_of_mem (f := (·.2)) mc
        obtain ⟨r, hr', ic⟩ := (rg.2.2.2.mem c.2).mp m
        exact ic.len hr' n1
      refine ⟨rfl, ?_⟩
      unfold tYes
      refine iteT ⟨_, rfl, _, rfl, _, rfl, p, c.1, P, c.2, rfl, (hP.same s1).same s2, SqT.of tc, lP, fun H3 s3 => ⟨by show 2 ≤ sizeLine; decide, fun u hu => ?_⟩⟩
      have su := s3.trans (same_upd (o := .tup [.ref c.1, .int (((inside P c.2).length : Int) - (c.2.length : Int))]) hu)
      have e3 := su _ _ e2
      refine ⟨_, e3, by rw [List.length_map]; exact small1000 (by omega), rs ++ [(u, c.1, c.2, srp P c.2)], same_put (s2.trans su) hL, ?_, fun q hq => ?_, ?_, ?_⟩
      · rw [upd_same]
        unfold rwr
        rw [List.map_append]
        rfl
      · rcases List.mem_append.mp hq with hq | hq
        · exact (r2.same su).put e3 q hq
        · rw [List.mem_singleton.mp hq]
          have eu : (upd H3 u (.tup [.ref c.1, .int (((inside P c.2).length : Int) - (c.2.length : Int))])) u = some (.tup [.ref c.1, .int (((inside P c.2).length : Int) - (c.2.length : Int))]) := upd_same
          have ec := su _ _ tc
          exact ⟨(upd_ne (ne_of eu e3 (by intro z; cases z))).trans eu, (upd_ne (ne_of ec e3 (by intro z; cases z))).trans ec, lc⟩
      · unfold rwd at w2 ⊢
        rw [List.map_append, w2, take_snoc hc, List.map_append, rowsOf, rowsOf, List.map_append]
        rfl
      · rw [List.length_append, List.length_singleton]
        omega
    · rintro H2 ⟨rs, s2, e2, r2, w2, l2⟩
      have lr : (refs Cs).length = Cs.length := by unfold refs; rw [List.length_map]
      rw [lr, List.take_length] at w2
      have lC := rg.2.2.1
      exact q _ L rs _ (s1.trans s2) e2 r2 rg.2.2.2 w2 (by omega)
def spLSH : Sp := fun vs H Q _ => ∃ (h p b : Addr) (n : Int) (D : List (Int × Int)) (P : List (Str × Int)) (nm : Str) (here t : Int), vs = [.ref h, .ref p, .ref b, .int here] ∧ HouseAt H h n D ∧ Forest n D ∧ 0 ≤ n ∧ n ≤ 8 ∧ PlAt H p P ∧ P.length ≤ 100 ∧ PlAt H b (mvd P nm t) ∧ Stp n D P nm here t ∧ ∀ H', Same H H' → Q (.bl true) H'
abbrev nLSurpHold : List Str := ["_law_house_here", "_law_placement_here", "_law_behind", "_law_here", "_law_ahead_of_it", "_law_now", "_law_old", "_law_row", "_law_others", "_law_fresh", "_law_rooms", "_law_room"]
theorem scLSurpHold : FnScope nLSurpHold ["_law_house_here", "_law_placement_here", "_law_behind", "_law_here"] (defScope sLSurpHold) := ⟨rfl, rfl, rfl, by decide +kernel, rfl, by decide +kernel, by decide +kernel⟩
theorem ok_lsh {f : Addr} {fd : FuncData} {k : Nat} (F : Fun K "_law_surplus_holds" "_law_surplus_holds" sLSurpHold f fd) (T : Nm mg) (Tsum : mg "sum" = none) (C_law_surpluses : Cal P w K mg base (k + 5) "_law_surpluses" ["_law_house_here", "_law_placement_here"] spLSu) (Cempty_rooms : Cal P w K mg base (k + 5) "empty_rooms" pHP spEmp) : FnOk P w K mg base CX0 (k + 6) f fd ["_law_house_here", "_law_placement_here", "_law_behind", "_law_here"] spLSH := by
  refine F.ok scLSurpHold (fun vs H Q E h => ?_) (fun cdv A outer s H vs Q E hr h => ?_)
  · obtain ⟨h, p, b, n, D, P, nm, here, t, rfl, _⟩ := h
    rfl
  · obtain ⟨h, p, b, n, D, P, nm, here, t, rfl, hH, hF, n0, n1, hP, lP, hB, sp, q⟩ := h
    refine ⟨_, (pss_cons (ps_asg (pe_tup (pa_cons (pe_cal C_law_surpluses hr (by rfl) (pa_cons (pv 0) (pa_cons (pv 1) pa_nil))) (pa_cons (pe_cal C_law_surpluses hr (by rfl) (pa_cons (pv 0) (pa_cons (pv 2) pa_nil))) pa_nil))) (pg_tup (by rfl) (pgs_cons (pg_name (i := 4) scLSurpHold.nd rfl (.inl rfl)) (pgs_cons (pg_name (i := 5) scLSurpHold.nd rfl (.inr rfl)) pgs_nil))))
      (pss_cons (ps_if (pt_cmpR (op_eqDK K rfl hr.units) (pe_cal Cempty_rooms hr (by rfl) (pa_cons (pv 0) (pa_cons (pv 1) pa_nil))) (pe_cal Cempty_rooms hr (by rfl) (pa_cons (pv 0) (pa_cons (pv 2) pa_nil))) (nomark _))
      (pss_one (ps_ret (pe_cmpR (op_eqDK K rfl hr.units) (pv 4) (pv 5) (nomark _))))
      pss_nil)
      (pss_cons (ps_set (i := 6) scLSurpHold.nd rfl (.inr rfl) (pe_ix (ix_listK K rfl) (pe_lc (own := [("_law_row", 7)]) (g := gName 7) (by rfl) scLSurpHold.nd (pi_listK K rfl (pv 4))
 (blkOk_by (own := [("_law_row", 7)]) (N := nLSurpHold) (sc := defScope sLSurpHold) (by decide +kernel))
 (fun _ _ _ _ _ => (pg_name (i := 7) scLSurpHold.nd rfl (.inl rfl))) (fun _ _ _ _ _ => pts_one (pt_cmpR (op_inK K rfl) (pv 3) (pe_ix (ix_tupK K rfl) (pv 7) pe_int (fun _ _ => rfl)) (by rfl))) (fun _ _ _ _ _ => (pv 7))) pe_int (fun _ _ => rfl)))
      (pss_cons (ps_set (i := 8) scLSurpHold.nd rfl (.inr rfl) (pe_lc (own := [("_law_row", 7)]) (g := gName 7) (by rfl) scLSurpHold.nd (pi_listK K rfl (pv 4))
 (blkOk_by (own := [("_law_row", 7)]) (N := nLSurpHold) (sc := defScope sLSurpHold) (by decide +kernel))
 (fun _ _ _ _ _ => (pg_name (i := 7) scLSurpHold.nd rfl (.inl rfl))) (fun _ _ _ _ _ => pts_one (pt_cmpR (op_neDK K rfl hr.units) (pv 7) (pv 6) (nomark _))) (fun _ _ _ _ _ => (pv 7))))
      (pss_cons (ps_if (pt_cmpR (op_neDK K rfl hr.units) (pe_lc (own := [("_law_row", 7)]) (g := gName 7) (by rfl) scLSurpHold.nd (pi_listK K rfl (pv 8))
 (blkOk_by (own := [("_law_row", 7)]) (N := nLSurpHold) (sc := defScope sLSurpHold) (by decide +kernel))
 (fun _ _ _ _ _ => (pg_name (i := 7) scLSurpHold.nd rfl (.inl rfl))) (fun _ _ _ _ _ => pts_one (pt_cmpR (op_notInDK K rfl (units65 hr)) (pv 7) (pv 5) (by rfl))) (fun _ _ _ _ _ => (pv 7))) (pe_lst pa_nil) (nomark _))
      (pss_one (ps_ret pe_bl))
      pss_nil)
      (pss_cons (ps_setLc (i := 9) (own := [("_law_row", 7)]) (g := gName 7) (by rfl) scLSurpHold.nd rfl rfl (sw_true rfl rfl rfl (by decide +kernel)) (pi_listK K rfl (pv 5))
 (blkOk_by (own := [("_law_row", 7)]) (N := nLSurpHold) (sc := defScope sLSurpHold) (by decide +kernel))
 (fun _ _ _ _ _ => (pg_name (i := 7) scLSurpHold.nd rfl (.inl rfl))) (fun _ _ _ _ _ => pts_one (pt_cmpR (op_notInDK K rfl (units65 hr)) (pv 7) (pv 8) (by rfl))) (fun _ _ _ _ _ => (pv 7)))
      (pss_cons (ps_set (i := 10) scLSurpHold.nd rfl (.inl rfl) (pe_callB cr_sortedI (by rfl) T.sorted (by decide +kernel) (pa_cons (pe_callB (cr_sumL rfl K rfl) (by rfl) Tsum (by decide +kernel) (pa_cons (pe_lc (own := [("_law_row", 7)]) (g := gName 7) (by rfl) scLSurpHold.nd (pi_listK K rfl (pv 9))
 (blkOk_by (own := [("_law_row", 7)]) (N := nLSurpHold) (sc := defScope sLSurpHold) (by decide +kernel))
 (fun _ _ _ _ _ => (pg_name (i := 7) scLSurpHold.nd rfl (.inl rfl))) (fun _ _ _ _ _ => pts_nil) (fun _ _ _ _ _ => (pe_callTy (call_listK K rfl) (by rfl) T.list (by decide +kernel) (pa_cons (pe_ix (ix_tupK K rfl) (pv 7) pe_int (fun _ _ => rfl)) pa_nil)))) (pa_cons (pe_lst pa_nil) pa_nil))) pa_nil)))
      (pss_cons (ps_if (pt_cmpR (op_neDK K rfl hr.units) (pv 10) (pe_lc (own := [("_law_room", 11)]) (g := gName 11) (by rfl) scLSurpHold.nd (pi_tupK K rfl (pe_ix (ix_tupK K rfl) (pv 6) pe_int (fun _ _ => rfl)))
 (blkOk_by (own := [("_law_room", 11)]) (N := nLSurpHold) (sc := defScope sLSurpHold) (by decide +kernel))
 (fun _ _ _ _ _ => (pg_name (i := 11) scLSurpHold.nd rfl (.inl rfl))) (fun _ _ _ _ _ => pts_one (pt_cmpR op_ne (pv 11) (pv 3) (nomark _))) (fun _ _ _ _ _ => (pv 11))) (nomark _))
      (pss_one (ps_ret pe_bl))
      pss_nil)
      (pss_one (ps_ret (pe_cmpR op_eq (pe_callB (cr_sum rfl) (by rfl) Tsum (by decide +kernel) (pa_cons (pe_lc (own := [("_law_row", 7)]) (g := gName 7) (by rfl) scLSurpHold.nd (pi_listK K rfl (pv 9))
 (blkOk_by (own := [("_law_row", 7)]) (N := nLSurpHold) (sc := defScope sLSurpHold) (by decide +kernel))
 (fun _ _ _ _ _ => (pg_name (i := 7) scLSurpHold.nd rfl (.inl rfl))) (fun _ _ _ _ _ => pts_nil) (fun _ _ _ _ _ => (pe_ix (ix_tupK K rfl) (pv 7) pe_int (fun _ _ => rfl)))) pa_nil)) (pe_op op_add (pe_ix (ix_tupK K rfl) (pv 6) pe_int (fun _ _ => rfl)) pe_int) (nomark _)))))))))))), ?_⟩
    have lB : (mvd P nm t).length ≤ 100 := by rw [mvd_len]; exact lP
    refine ⟨_, rfl, _, rfl, h, p, n, D, P, rfl, hH, hF, n0, n1, hP, lP, fun H1 l1 rs Ls s1 e1 r1 rg w1 k1 => ⟨_, rfl, _, rfl, h, b, n, D, mvd P nm t, rfl, hH.same s1, hF, n0, n1, hB.same s1, lB, fun H2 l2 rs' Ls' s2 e2 r2 rg' w2 k2 => ⟨by show 2 ≤ sizeLine; decide, fun v hv => ?_⟩⟩⟩
    have sv := same_upd (o := .tup [.ref l1, .ref l2]) hv
    refine ⟨v, _, rfl, SqT.of upd_same, rfl, _, _, rfl, _, _, rfl, rfl, ?_⟩
    have s3 := s1.trans (s2.trans sv)
    replace e1 := sv _ _ (s2 _ _ e1)
    replace r1 := (r1.same s2).same sv
    replace e2 := sv _ _ e2
    replace r2 := r2.same sv
    generalize upd H2 v (.tup [.ref l1, .ref l2]) = H3 at *
    clear sv s1 s2 hv
    refine ⟨_, rfl, _, rfl, h, p, n, D, P, rfl, hH.same s3, n0, n1, hP.same s3, lP, fun H4 oe s4 e4 => ⟨_, rfl, _, rfl, h, b, n, D, mvd P nm t, rfl, (hH.same s3).same s4, n0, n1, (hB.same s3).same s4, lB, fun H5 oe' s5 e5 => ?_⟩⟩
    have s35 := s4.trans s5
    refine ⟨.tuple ((emp n P).map .int), .tuple ((emp n (mvd P nm t)).map .int), .tup (SqT.of (s5 _ _ e4)) (dp_ints _), .tup (SqT.of e5) (dp_ints _), shaped_tup _, shaped_tup _, _, rfl, ?_⟩
    rw [show PyData.eqv (.tuple ((emp n P).map .int)) (.tuple ((emp n (mvd P nm t)).map .int)) = decide (emp n P = emp n (mvd P nm t)) by rw [PyData.eqv, intsT_eqv]]
    replace s3 := s3.trans s35
    replace e1 := s35 _ _ e1
    replace r1 := r1.same s35
    replace e2 := s35 _ _ e2
    replace r2 := r2.same s35
    clear s4 s5 s35 e4 e5
    by_cases hs : here ∈ (mvd P nm t).map (·.2)
    · have eo := sp.stay hs
      have ee : emp n P = emp n (mvd P nm t) := by
        unfold emp
        refine List.filter_congr fun r _ => ?_
        have : decide (r ∈ P.map (·.2)) = decide (r ∈ (mvd P nm t).map (·.2)) := decide_eq_decide.mpr (by rw [← sp.pl.mem_occ, ← sp.plP.mem_occ, eo])
        rw [this]
      rw [decide_eq_true ee]
      refine iteT ⟨_, rfl, _, rfl, .list ((rwd rs).map rowD), .list ((rwd rs').map rowD), .lst (SqL.of e1) r1.dp, .lst (SqL.of e2) r2.dp, rowsD_shaped _, rowsD_shaped _, ?_⟩
      have er : rwd rs = rwd rs' := by
        rw [eo] at rg'
        rw [w1, w2, rg.uniq rg', sp.stayRows rg']
      rw [show PyData.eqv (.list ((rwd rs).map rowD)) (.list ((rwd rs').map rowD)) = decide (rwd rs = rwd rs') by rw [PyData.eqv, rowsD_eqv], decide_eq_true er]
      exact q _ s3
    have ne : emp n P ≠ emp n (mvd P nm t) := fun e => by
      have hr : 0 ≤ here ∧ here < n := sp.pl.rm _ sp.at'
      have m : here ∈ emp n (mvd P nm t) := List.mem_filter.mpr ⟨mem_rg.mpr hr, by rw [decide_eq_false hs]; rfl⟩
      rw [← e] at m
      have := (List.mem_filter.mp m).2
      rw [decide_eq_true sp.hh] at this
      cases this
    rw [decide_eq_false ne]
    refine iteF ?_
    obtain ⟨O, hO, hi⟩ := rg.ex (occ_up n P) (sp.pl.mem_occ.mpr sp.hh)
    have z : Spl n D P nm here t Ls Ls' O := ⟨sp, hs, rg, rg', hO, hi⟩
    obtain ⟨q0, qs, ef, m0, d0⟩ := rows_one (rs := rs) rg hO hi w1
    -- old
    refine ⟨_, rfl, l1, rfl, ⟨_, SqL.of e1⟩, fun L hL => lc_list (K := K) (a := l1) (xs := rwr rs) (fun i H' => Same H5 H' ∧ H' L = some (.lst (rwr ((rs.take i).filter fun q => decide (here ∈ q.2.2.1))))) ⟨same_upd hL, upd_same⟩ (fun i H' _ hh => SqL.of (hh.1 _ _ e1)) ?_ ?_⟩
    · rintro i x H6 hx ⟨s6, e6⟩
      obtain ⟨d, hd, rfl⟩ := get_mapR hx
      have md := List.mem_of_getElem? hd
      have hi' := lt_of_get hd
      refine ⟨rfl, _, rfl, _, rfl, d.1, _, _, _, rfl, rfl, SqT.of (s6 _ _ (r1 d md).1), atI0, d.2.1, _, rfl, .inr (SqT.of (s6 _ _ (r1 d md).2.1)), rfl, flat_vi _, _, rfl, ?_⟩
      rw [if_neg (by decide), inV_vi, take_snoc hd, filter_snoc]
      refine ite2 (fun c => ?_) (fun c => ?_)
      · rw [if_pos c]
        refine ⟨_, rfl, _, e6, ?_, same_put s6 hL, ?_⟩
        · rw [List.length_map]
          refine small1000 (Nat.le_trans (List.length_filter_le _ _) ?_)
          rw [List.length_take]
          omega
        · rw [upd_same]
          unfold rwr
          rw [List.map_append]
          rfl
      · rw [if_neg c, List.append_nil]
        exact ⟨s6, e6⟩
    rintro H6 ⟨s6, e6⟩
    rw [show (rwr rs).length = rs.length by unfold rwr; rw [List.length_map], List.take_length, ef] at e6
    refine ⟨L, _, _, _, rfl, rfl, SqL.of e6, atI0, ?_⟩
    replace s3 := s3.trans s6
    replace e1 := s6 _ _ e1
    replace r1 := r1.same s6
    replace e2 := s6 _ _ e2
    replace r2 := r2.same s6
    clear hL e6 s6
    dsimp only [gName]
    -- others
    refine ⟨_, rfl, l1, rfl, ⟨_, SqL.of e1⟩, fun L hL => lc_list (K := K) (a := l1) (xs := rwr rs) (fun i H' => Same H6 H' ∧ H' L = some (.lst (rwr ((rs.take i).filter fun q => !decide (q.2.2 = q0.2.2))))) ⟨same_upd hL, upd_same⟩ (fun i H' _ hh => SqL.of (hh.1 _ _ e1)) ?_ ?_⟩
    · rintro i x H7 hx ⟨s7, e7⟩
      obtain ⟨d, hd, rfl⟩ := get_mapR hx
      have md := List.mem_of_getElem? hd
      have hi' := lt_of_get hd
      refine ⟨rfl, _, rfl, _, rfl, rowD d.2.2, rowD q0.2.2, (r1.same s7).one md, (r1.same s7).one m0, rowD_shaped _, rowD_shaped _, _, rfl, ?_⟩
      rw [rowD_eqv, take_snoc hd, filter_snoc]
      refine ite2 (fun c => ?_) (fun c => ?_)
      · rw [if_pos c]
        refine ⟨_, rfl, _, e7, ?_, same_put s7 hL, ?_⟩
        · rw [List.length_map]
          refine small1000 (Nat.le_trans (List.length_filter_le _ _) ?_)
          rw [List.length_take]
          omega
        · rw [upd_same]
          unfold rwr
          rw [List.map_append]
          rfl
      · rw [if_neg c, List.append_nil]
        exact ⟨s7, e7⟩
    rintro H7 ⟨s7, e7⟩
    rw [show (rwr rs).length = rs.length by unfold rwr; rw [List.length_map], List.take_length] at e7
    generalize hos : (rs.filter fun q => !decide (q.2.2 = q0.2.2)) = os at *
    have ms : ∀ q ∈ os, q ∈ rs ∧ q.2.2 ≠ (O, srp P O) := fun q hq => by
      rw [← hos] at hq
      obtain ⟨a, c⟩ := List.mem_filter.mp hq
      rw [d0] at c
      exact ⟨a, by simpa using c⟩
    have los : os.length ≤ 8 := by rw [← hos]; exact Nat.le_trans (List.length_filter_le _ _) k1
    have inO : ∀ x : List Int × Int, x ∈ rwd os ↔ ∃ C ∈ Ls, C ≠ O ∧ x = (C, srp P C) := fun x => by
      constructor
      · intro m
        obtain ⟨q, hq, rfl⟩ := List.mem_map.mp m
        obtain ⟨a, c⟩ := ms q hq
        have m2 : q.2.2 ∈ rowsOf P Ls := by rw [← w1]; exact List.mem_map_of_mem (f := fun q : Rwt => q.2.2) a
        obtain ⟨C, hC, eC⟩ := List.mem_map.mp m2
        exact ⟨C, hC, fun e => c (by rw [← eC, e]), eC.symm⟩
      · rintro ⟨C, hC, nO, rfl⟩
        have m2 : (C, srp P C) ∈ rwd rs := by rw [w1]; exact List.mem_map_of_mem (f := fun C => (C, srp P C)) hC
        obtain ⟨q, hq, e⟩ := List.mem_map.mp m2
        refine List.mem_map.mpr ⟨q, ?_, e⟩
        rw [← hos]
        refine List.mem_filter.mpr ⟨hq, ?_⟩
        have nq : q.2.2 ≠ q0.2.2 := by rw [show q.2.2 = (C, srp P C) from e, d0]; intro e; exact nO (congrArg Prod.fst e)
        rw [decide_eq_false nq]
        rfl
    replace s3 := s3.trans s7
    replace e1 := s7 _ _ e1
    replace r1 := r1.same s7
    replace e2 := s7 _ _ e2
    replace r2 := r2.same s7
    have ro : RwAt H7 os := r1.sub fun q hq => (ms q hq).1
    clear hL s7
    dsimp only [gName]
    -- all others are there
    refine ⟨_, rfl, L, rfl, ⟨_, SqL.of e7⟩, fun M hM => lc_list (K := K) (a := L) (xs := rwr os) (fun i H' => Same H7 H' ∧ H' M = some (.lst [])) ⟨same_upd hM, upd_same⟩ (fun i H' _ hh => SqL.of (hh.1 _ _ e7)) ?_ ?_⟩
    · rintro i x H8 hx ⟨s8, e8⟩
      obtain ⟨d, hd, rfl⟩ := get_mapR hx
      have md := List.mem_of_getElem? hd
      refine ⟨rfl, _, rfl, _, rfl, row_in (ro.same s8) md (s8 _ _ e2) (r2.same s8) ⟨_, rfl, ?_⟩⟩
      have yes : d.2.2 ∈ rwd rs' := by
        obtain ⟨C, hC, nO, e⟩ := (inO d.2.2).mp (List.mem_map_of_mem (f := fun q : Rwt => q.2.2) md)
        obtain ⟨a, c⟩ := z.keep hC nO
        rw [w2, e, ← c]
        exact List.mem_map_of_mem (f := fun C => (C, srp (mvd P nm t) C)) a
      rw [decide_eq_true yes]
      exact iteF ⟨s8, e8⟩
    rintro H8 ⟨s8, e8⟩
    refine nil_ne (K := K) e8 fun H9 s9 => iteF ?_
    have s89 := s8.trans s9
    replace s3 := s3.trans s89
    replace e1 := s89 _ _ e1
    replace r1 := r1.same s89
    replace e2 := s89 _ _ e2
    replace r2 := r2.same s89
    replace e7 := s89 _ _ e7
    replace ro := ro.same s89
    clear s8 s9 s89 e8 hM
    -- fresh
    refine ⟨_, rfl, l2, rfl, ⟨_, SqL.of e2⟩, fun M hM => lc_list (K := K) (a := l2) (xs := rwr rs') (fun i H' => Same H9 H' ∧ H' M = some (.lst (rwr ((rs'.take i).filter fun q => !decide (q.2.2 ∈ rwd os))))) ⟨same_upd hM, upd_same⟩ (fun i H' _ hh => SqL.of (hh.1 _ _ e2)) ?_ ?_⟩
    · rintro i x H10 hx ⟨s10, e10⟩
      obtain ⟨d, hd, rfl⟩ := get_mapR hx
      have md := List.mem_of_getElem? hd
      have hi' := lt_of_get hd
      refine ⟨rfl, _, rfl, _, rfl, row_in (r2.same s10) md (s10 _ _ e7) (ro.same s10) ⟨_, rfl, ?_⟩⟩
      rw [take_snoc hd, filter_snoc]
      refine ite2 (fun c => ?_) (fun c => ?_)
      · rw [if_pos c]
        refine ⟨_, rfl, _, e10, ?_, same_put s10 hM, ?_⟩
        · rw [List.length_map]
          refine small1000 (Nat.le_trans (List.length_filter_le _ _) ?_)
          rw [List.length_take]
          omega
        · rw [upd_same]
          unfold rwr
          rw [List.map_append]
          rfl
      · rw [if_neg c, List.append_nil]
        exact ⟨s10, e10⟩
    rintro H10 ⟨s10, e10⟩
    rw [show (rwr rs').length = rs'.length by unfold rwr; rw [List.length_map], List.take_length] at e10
    have wf : rwd (rs'.filter fun q => !decide (q.2.2 ∈ rwd os)) = rowsOf (mvd P nm t) (frs Ls Ls') := by
      have a1 : rwd (rs'.filter fun q => !decide (q.2.2 ∈ rwd os)) = (rwd rs').filter fun x => !decide (x ∈ rwd os) := by
        unfold rwd
        rw [List.filter_map]
        rfl
      rw [a1, w2, rowsOf, List.filter_map]
      unfold frs
      congr 1
      refine List.filter_congr fun C hC => ?_
      show (!decide ((C, srp (mvd P nm t) C) ∈ rwd os)) = !decide (C ∈ Ls)
      congr 1
      refine decide_eq_decide.mpr ?_
      rw [inO]
      constructor
      · rintro ⟨C', hC', _, e⟩
        rw [show C = C' from congrArg Prod.fst e]
        exact hC'
      · intro m
        have nO : C ≠ O := fun e => z.oldNo (e ▸ hC)
        exact ⟨C, m, nO, by rw [(z.keep m nO).2]⟩
    generalize hfr : (rs'.filter fun q => !decide (q.2.2 ∈ rwd os)) = fr at *
    have lfr : fr.length ≤ 8 := by rw [← hfr]; exact Nat.le_trans (List.length_filter_le _ _) k2
    have rf : RwAt H10 fr := (r2.same s10).sub fun q hq => by rw [← hfr] at hq; exact (List.mem_filter.mp hq).1
    have rO : RwAt H10 [q0] := (r1.same s10).sub fun q hq => by rw [List.mem_singleton.mp hq]; exact m0
    replace s3 := s3.trans s10
    clear s10 hM e1 r1 e2 r2 e7 ro
    dsimp only [gName]
    -- the rooms
    refine ⟨_, rfl, M, rfl, ⟨_, SqL.of e10⟩, fun N hN => lc_list (K := K) (a := M) (xs := rwr fr) (fun i H' => ∃ ks : List (Addr × List Int), Same H10 H' ∧ H' N = some (.lst (ks.map fun q => V.ref q.1)) ∧ (∀ k ∈ ks, H' k.1 = some (.lst (vi k.2)) ∧ k.1 ≠ N) ∧ ks.map (·.2) = (fr.take i).map (·.2.2.1)) ⟨[], same_upd hN, upd_same, fun k hk => (by cases hk), rfl⟩ (fun i H' _ hh => ?_) ?_ ?_⟩
    · obtain ⟨_, s', _⟩ := hh
      exact SqL.of (s' _ _ e10)
    · rintro i x H11 hx ⟨ks, s11, e11, r11, m11⟩
      obtain ⟨d, hd, rfl⟩ := get_mapR hx
      have md := List.mem_of_getElem? hd
      have hi' := lt_of_get hd
      have lk : ks.length ≤ i := by
        have := congrArg List.length m11
        rw [List.length_map, List.length_map, List.length_take] at this
        omega
      refine ⟨rfl, ?_⟩
      unfold tYes
      refine iteT ⟨_, rfl, d.1, _, _, _, rfl, rfl, SqT.of (s11 _ _ (rf d md).1), atI0, d.2.1, _, rfl, .inr (SqT.of (s11 _ _ (rf d md).2.1)), fun u hu => ?_⟩
      have su := same_upd (o := .lst (vi d.2.2.1)) hu
      have e12 := su _ _ e11
      have nu : N ≠ u := ne_of_none e11 hu
      refine ⟨_, e12, by rw [List.length_map]; exact small1000 (by omega), ks ++ [(u, d.2.2.1)], same_put (s11.trans su) hN, ?_, fun k hk => ?_, ?_⟩
      · rw [upd_same, List.map_append]
        rfl
      · rcases List.mem_append.mp hk with hk | hk
        · obtain ⟨a, c⟩ := r11 k hk
          exact ⟨(upd_ne c).trans (su _ _ a), c⟩
        · rw [List.mem_singleton.mp hk]
          exact ⟨(upd_ne nu.symm).trans upd_same, nu.symm⟩
      · rw [List.map_append, m11, take_snoc hd, List.map_append]
        rfl
    rintro H11 ⟨ks, s11, e11, r11, m11⟩
    rw [show (rwr fr).length = fr.length by unfold rwr; rw [List.length_map], List.take_length] at m11
    have mf : ks.map (·.2) = frs Ls Ls' := by
      rw [m11]
      have := congrArg (List.map Prod.fst) wf
      unfold rwd rowsOf at this
      rw [List.map_map, List.map_map] at this
      rw [show (fr.map fun x => x.2.2.1) = fr.map (Prod.fst ∘ fun q : Rwt => q.2.2) from rfl, this]
      exact List.map_id _
    have lfl : (frs Ls Ls').flatten.length ≤ 1000 := by
      have := subset_len z.nd fun x hx => ((z.mem x).mp hx).1
      obtain ⟨r, hr', ic⟩ := (rg.mem O).mp hO
      have := ic.len hr' n1
      omega
    refine ⟨Nat.zero_le _, fun e he => ?_⟩
    have se := same_upd (o := .lst []) he
    refine ⟨N, e, ks, rfl, SqL.of (se _ _ e11), fun k hk => se _ _ (r11 k hk).1, upd_same, by rw [mf]; exact lfl, fun p1 H12 s12 e12 => ?_⟩
    rw [mf] at e12
    refine ⟨p1, _, rfl, SqL.of e12, fun ys Z hp hup hZ => ?_⟩
    have ey := z.sorted hp hup
    have sZ := same_upd (o := .lst (vi ys)) hZ
    have eZ : (upd H12 Z (.lst (vi ys))) Z = some (.lst (vi ys)) := upd_same
    generalize upd H12 Z (.lst (vi ys)) = H13 at *
    have s1013 := s11.trans (se.trans (s12.trans sZ))
    replace s3 := s3.trans s1013
    replace e10 := s1013 _ _ e10
    replace rf := rf.same s1013
    replace rO := rO.same s1013
    clear s11 se s12 sZ e12 e11 r11 he hN hZ s1013 hp
    dsimp only [gName]
    have rq := rO q0 (List.mem_singleton_self _)
    have eq1 : q0.2.2.1 = O := by rw [d0]
    have eq2 : q0.2.2.2 = srp P O := by rw [d0]
    rw [eq1] at rq
    refine ⟨_, rfl, _, rfl, q0.1, _, _, _, rfl, rfl, SqT.of rq.1, atI0, q0.2.1, rfl, ⟨_, SqT.of rq.2.1⟩, fun N hN => lc_tup (K := K) (a := q0.2.1) (xs := vi O) (fun i H' => Same H13 H' ∧ H' N = some (.lst (vi ((O.take i).filter fun x => !decide (x = here))))) ⟨same_upd hN, upd_same⟩ (fun i H' _ hh => SqT.of (hh.1 _ _ rq.2.1)) ?_ ?_⟩
    · rintro i x H14 hx ⟨s14, e14⟩
      obtain ⟨r, er, rfl⟩ := get_vi hx
      have hi' := lt_of_get er
      refine ⟨rfl, _, rfl, _, rfl, rfl, _, rfl, ?_⟩
      rw [take_snoc er, filter_snoc, int_dec]
      refine ite2 (fun c => ?_) (fun c => ?_)
      · rw [if_pos c]
        refine ⟨_, rfl, _, e14, ?_, same_put s14 hN, ?_⟩
        · rw [List.length_map]
          refine small1000 (Nat.le_trans (List.length_filter_le _ _) ?_)
          rw [List.length_take]
          have := rq.2.2
          omega
        · rw [upd_same, vi_app]
          rfl
      · rw [if_neg c, List.append_nil]
        exact ⟨s14, e14⟩
    rintro H14 ⟨s14, e14⟩
    rw [List.length_map, List.take_length, ← ey] at e14
    refine ⟨.list (ys.map .int), .list (ys.map .int), .lst (SqL.of (s14 _ _ eZ)) (dp_ints _), .lst (SqL.of e14) (dp_ints _), shaped_list _, shaped_list _, _, rfl, ?_⟩
    rw [SeqAt.eqv_refl _ (SeqAt.canLay_of_shaped (shaped_list ys))]
    refine iteF ?_
    replace s3 := s3.trans s14
    replace e10 := s14 _ _ e10
    replace rf := rf.same s14
    have r0 := s14 _ _ rq.1
    -- the sum
    refine ⟨_, rfl, M, rfl, ⟨_, SqL.of e10⟩, fun N2 hN2 => lc_list (K := K) (a := M) (xs := rwr fr) (fun i H' => Same H14 H' ∧ H' N2 = some (.lst (vi ((fr.take i).map (·.2.2.2))))) ⟨same_upd hN2, upd_same⟩ (fun i H' _ hh => SqL.of (hh.1 _ _ e10)) ?_ ?_⟩
    · rintro i x H15 hx ⟨s15, e15⟩
      obtain ⟨d, hd, rfl⟩ := get_mapR hx
      have md := List.mem_of_getElem? hd
      have hi' := lt_of_get hd
      refine ⟨rfl, ?_⟩
      unfold tYes
      refine iteT ⟨_, rfl, d.1, _, _, _, rfl, rfl, SqT.of (s15 _ _ (rf d md).1), atI1, _, e15, ?_, same_put s15 hN2, ?_⟩
      · rw [List.length_map, List.length_map, List.length_take]
        exact small1000 (by omega)
      · rw [upd_same, take_snoc hd, List.map_append, vi_app]
        rfl
    rintro H15 ⟨s15, e15⟩
    rw [show (rwr fr).length = fr.length by unfold rwr; rw [List.length_map], List.take_length] at e15
    have es : (fr.map (·.2.2.2)).sum = srp P O + 1 := by
      rw [← z.sum]
      have := congrArg (List.map Prod.snd) wf
      unfold rwd rowsOf at this
      rw [List.map_map, List.map_map] at this
      rw [show (fr.map fun x => x.2.2.2) = fr.map (Prod.snd ∘ fun q : Rwt => q.2.2) from rfl, this]
      rfl
    refine ⟨N2, _, rfl, SqL.of e15, _, rfl, q0.1, _, _, _, rfl, rfl, SqT.of (s15 _ _ r0), atI1, _, _, rfl, rfl, rfl, ?_⟩
    rw [es, eq2, decide_eq_true rfl]
    exact q _ (s3.trans s15)
end
end Fw
namespace Fw
open PySem PySem.Spec PyProof.Rows L2
set_option maxHeartbeats 8000000
/-- the loose ones of the regions -/
def lse (P : List (Str × Int)) (Cs : List (Addr × List Int)) : List (Addr × List Int) := Cs.filter fun c => !decide ((inside P c.2).length = c.2.length)
theorem lse_snoc {P : List (Str × Int)} {Cs : List (Addr × List Int)} {i : Nat} {c : Addr × List Int} (h : Cs[i]? = some c) : lse P (Cs.take (i + 1)) = lse P (Cs.take i) ++ if (!decide ((inside P c.2).length = c.2.length)) = true then [c] else [] := by
  unfold lse
  rw [take_snoc h, filter_snoc]
theorem lse_len (P : List (Str × Int)) (Cs : List (Addr × List Int)) : (lse P Cs).length ≤ Cs.length := List.length_filter_le _ _
theorem head_at {l : List Int} (h : 0 < l.length) : ∃ r, atI (vi l) 0 = some (.int r) ∧ r ∈ l := by
  cases l with
  | nil => cases h
  | cons y ys => exact ⟨y, atI0, List.mem_cons_self ..⟩
section
variable {P : Program} {w : World} {K : PySem.W.Frag} {mg : Str → Option Value} {base : Heap}
def spLaw (K : PySem.W.Frag) : Sp := fun vs H Q _ => ∃ (a : Addr) (ns : List Int), vs = [.ref a] ∧ SqL K H a (vi ns) ∧ ns.length ≤ 63 ∧ ∀ H', Q (.bl true) H'
abbrev nLaw : List Str := ["_law_script", "_law_stream_here", "_law_turn", "_law_house_here", "_law_placement_here", "_law_was_loose", "_law_region", "_law_k", "_law_some", "_law_name", "_law_room", "_law_here", "_law_behind", "_law_now", "_law_old"]
theorem scLaw : FnScope nLaw ["_law_script"] (defScope sLaw) := ⟨rfl, rfl, rfl, by decide +kernel, rfl, by decide +kernel, by decide +kernel⟩
/-- the defs of the text -/
structure All (K : PySem.W.Frag) (mg : Str → Option Value) : Prop where
  T : Nm mg
  any : mg "any" = none
  dict : mg "dict" = none
  sum : mg "sum" = none
  dis_integer : DefE K mg "is_integer" sIsInt ["value"]
  dis_room : DefE K mg "is_room" sIsRoom ["house", "value"]
  dneighbors : DefE K mg "neighbors" sNb ["house", "room"]
  dcomponents : DefE K mg "components" sComp ["house", "rooms"]
  dsteps_toward : DefE K mg "steps_toward" sSteps ["house", "goal", "rooms"]
  droom_of : DefE K mg "room_of" sRoomOf ["placement", "name"]
  dwith_person_in : DefE K mg "with_person_in" sWith ["placement", "name", "room"]
  dpeople_in : DefE K mg "people_in" sPIn ["placement", "room"]
  dpeople_within : DefE K mg "people_within" sPWi ["placement", "rooms"]
  dempty_rooms : DefE K mg "empty_rooms" sEmp ["house", "placement"]
  dfind_regions : DefE K mg "find_regions" sFReg ["house", "placement"]
  dsurplus : DefE K mg "surplus" sSurp ["placement", "region"]
  dis_tight : DefE K mg "is_tight" sIsTight ["placement", "region"]
  dmove_person : DefE K mg "move_person" sMove ["house", "placement", "name", "room"]
  dlegal_moves : DefE K mg "legal_moves" sLegal ["house", "placement"]
  d_law_stream : DefE K mg "_law_stream" sStream ["_law_script"]
  d_law_names : DefE K mg "_law_names" sNames ["_law_stream_here", "_law_many"]
  d_law_draw : DefE K mg "_law_draw" sDraw ["_law_stream_here", "_law_many"]
  d_law_house : DefE K mg "_law_house" sHouse ["_law_stream_here", "_law_least", "_law_most"]
  d_law_placement : DefE K mg "_law_placement" sPl ["_law_stream_here", "_law_house_here", "_law_most"]
  d_law_surpluses : DefE K mg "_law_surpluses" sLSurps ["_law_house_here", "_law_placement_here"]
  d_law_surplus_holds : DefE K mg "_law_surplus_holds" sLSurpHold ["_law_house_here", "_law_placement_here", "_law_behind", "_law_here"]
theorem ok_law {f : Addr} {fd : FuncData} (F : Fun K "law" "law" sLaw f fd) (Z : All K mg) : FnG P w K mg base 7 f fd ["_law_script"] (spLaw K) := by
  have T := Z.T
  have Cpeople_within : Cal P w K mg base 1 "people_within" ["placement", "rooms"] (spPWi K) := Z.dpeople_within.cal fun _ _ d => ok_pwi d.F T
  have Cpeople_in : Cal P w K mg base 2 "people_in" ["placement", "room"] spPIn := Z.dpeople_in.cal fun _ _ d => ok_pin d.F T (Cpeople_within.up (by decide))
  have Cempty_rooms : Cal P w K mg base 3 "empty_rooms" ["house", "placement"] spEmp := Z.dempty_rooms.cal fun _ _ d => ok_emp d.F T (Cpeople_in.up (by decide))
  have Ccomponents : Cal P w K mg base 3 "components" ["house", "rooms"] (spComp K) := Z.dcomponents.cal fun _ _ d => by
    obtain ⟨af2, bf2, f2⟩ := Z.dneighbors
    obtain ⟨af3, bf3, f3⟩ := Z.dsteps_toward
    exact ok_comp d.F T Z.any f2 f3
  have Cfind_regions : Cal P w K mg base 4 "find_regions" ["house", "placement"] spFReg := Z.dfind_regions.cal fun _ _ d => ok_freg d.F T (Cpeople_in.up (by decide)) (Ccomponents.up (by decide))
  have Csurplus : Cal P w K mg base 2 "surplus" ["placement", "region"] (spSurp K) := Z.dsurplus.cal fun _ _ d => ok_surp d.F T (Cpeople_within.up (by decide))
  have Cis_tight : Cal P w K mg base 3 "is_tight" ["placement", "region"] (spTight K) := Z.dis_tight.cal fun _ _ d => ok_tight d.F (Csurplus.up (by decide))
  have Croom_of : Cal P w K mg base 1 "room_of" ["placement", "name"] spRoomOf := Z.droom_of.cal fun _ _ d => ok_roomof d.F
  have Cis_integer : Cal P w K mg base 1 "is_integer" ["value"] spIsIntI := Z.dis_integer.cal fun _ _ d => ok_isint d.F T
  have Cis_room : Cal P w K mg base 2 "is_room" ["house", "value"] spIsRoom := Z.dis_room.cal fun _ _ d => ok_isroom d.F T (Cis_integer.up (by decide))
  have Cneighbors : Cal P w K mg base 1 "neighbors" ["house", "room"] spNb := Z.dneighbors.cal fun _ _ d => ok_nb d.F T
  have Cwith_person_in : Cal P w K mg base 1 "with_person_in" ["placement", "name", "room"] spWith := Z.dwith_person_in.cal fun _ _ d => ok_with d.F T
  have Cmove_person : Cal P w K mg base 3 "move_person" ["house", "placement", "name", "room"] spMove := Z.dmove_person.cal fun _ _ d => ok_move d.F T (Croom_of.up (by decide)) (Cis_room.up (by decide)) (Cneighbors.up (by decide)) (Cpeople_in.up (by decide)) (Cwith_person_in.up (by decide))
  have Clegal_moves : Cal P w K mg base 3 "legal_moves" ["house", "placement"] spLegal := Z.dlegal_moves.cal fun _ _ d => ok_legal d.F T (Cneighbors.up (by decide)) (Cpeople_in.up (by decide))
  have C_law_stream : Cal P w K mg base 1 "_law_stream" ["_law_script"] (spStream K) := Z.d_law_stream.cal fun _ _ d => ok_stream d.F T
  have C_law_draw : Cal P w K mg base 1 "_law_draw" ["_law_stream_here", "_law_many"] spDraw := Z.d_law_draw.cal fun _ _ d => ok_draw d.F T
  have C_law_house : Cal P w K mg base 2 "_law_house" ["_law_stream_here", "_law_least", "_law_most"] spHouse := Z.d_law_house.cal fun _ _ d => by
    obtain ⟨af2, bf2, f2⟩ := Z.d_law_draw
    exact ok_house d.F T f2
  have C_law_names : Cal P w K mg base 2 "_law_names" ["_law_stream_here", "_law_many"] spNames := Z.d_law_names.cal fun _ _ d => ok_names d.F T (C_law_draw.up (by decide))
  have C_law_placement : Cal P w K mg base 3 "_law_placement" ["_law_stream_here", "_law_house_here", "_law_most"] spPl := Z.d_law_placement.cal fun _ _ d => ok_pl d.F T (C_law_draw.up (by decide)) (C_law_names.up (by decide))
  have C_law_surpluses : Cal P w K mg base 5 "_law_surpluses" ["_law_house_here", "_law_placement_here"] spLSu := Z.d_law_surpluses.cal fun _ _ d => ok_lsu (k := 0) d.F (Cfind_regions.up (by decide)) (Csurplus.up (by decide))
  have C_law_surplus_holds : Cal P w K mg base 6 "_law_surplus_holds" ["_law_house_here", "_law_placement_here", "_law_behind", "_law_here"] spLSH := Z.d_law_surplus_holds.cal fun _ _ d => ok_lsh (k := 0) d.F T Z.sum C_law_surpluses (Cempty_rooms.up (by decide))
  refine Fun.okG F scLaw (fun vs H Q E h => ?_) (fun cdv A outer s H vs Q gd hr h => ?_)
  · obtain ⟨a, ns, rfl, _⟩ := h
    rfl
  · obtain ⟨a, ns, rfl, hS, hlen, q⟩ := h
    refine ⟨_, (pss_cons (ps_set (i := 1) scLaw.nd rfl (.inl rfl) (pe_cal C_law_stream (hr.mono (by decide)) (by rfl) (pa_cons (pv 0) pa_nil)))
      (pss_cons (ps_for PassesOwn.never rfl (pi_range1 (by rfl) T.range (pa_cons pe_int pa_nil)) (pg_name (i := 2) scLaw.nd rfl (.inl rfl))
      (pss_cons (ps_set (i := 3) scLaw.nd rfl (.inl rfl) (pe_cal C_law_house (hr.mono (by decide)) (by rfl) (pa_cons (pv 1) (pa_cons pe_int (pa_cons pe_int pa_nil)))))
       (pss_cons (ps_set (i := 4) scLaw.nd rfl (.inr rfl) (pe_cal C_law_placement (hr.mono (by decide)) (by rfl) (pa_cons (pv 1) (pa_cons (pv 3) (pa_cons pe_int pa_nil)))))
       (pss_cons (ps_setLc (i := 5) (own := [("_law_region", 6)]) (g := gName 6) (by rfl) scLaw.nd rfl rfl (sw_true rfl rfl rfl (by decide +kernel)) (pi_tupK K rfl (pe_cal Cfind_regions (hr.mono (by decide)) (by rfl) (pa_cons (pv 3) (pa_cons (pv 4) pa_nil))))
 (blkOk_by (own := [("_law_region", 6)]) (N := nLaw) (sc := defScope sLaw) (by decide +kernel))
 (fun _ _ _ _ _ => (pg_name (i := 6) scLaw.nd rfl (.inl rfl))) (fun _ _ _ _ _ => pts_one (pt_not (pt_val (pe_cal Cis_tight (hr.mono (by decide)) (by rfl) (pa_cons (pv 4) (pa_cons (pv 6) pa_nil)))))) (fun _ _ _ _ _ => (pv 6)))
       (pss_one (ps_for PassesOwn.never rfl (pi_range1 (by rfl) T.range (pa_cons pe_int pa_nil)) (pg_name (i := 7) scLaw.nd rfl (.inl rfl))
       (pss_cons (ps_set (i := 8) scLaw.nd rfl (.inl rfl) (pe_cal Clegal_moves (hr.mono (by decide)) (by rfl) (pa_cons (pv 3) (pa_cons (pv 4) pa_nil))))
        (pss_cons (ps_if (pt_cmpR (op_neDK K rfl hr.units) (pv 8) (pe_tup pa_nil) (nomark _))
        (pss_cons (ps_asg (pe_ix (ix_tupK K rfl) (pv 8) (pe_cal C_law_draw (hr.mono (by decide)) (by rfl) (pa_cons (pv 1) (pa_cons (pe_callB (call_lenK K rfl) (by rfl) T.len (by decide +kernel) (pa_cons (pv 8) pa_nil)) pa_nil))) (fun _ _ => rfl)) (pg_tup (by rfl) (pgs_cons (pg_name (i := 9) scLaw.nd rfl (.inl rfl)) (pgs_cons (pg_name (i := 10) scLaw.nd rfl (.inl rfl)) pgs_nil))))
         (pss_cons (ps_par (i := 11) (j := 12) (by rfl) scLaw.nd rfl rfl (by decide) rfl rfl (pa_cons (pe_dget (hu_of hr) (pe_callTy (call_dictT rfl) (by rfl) Z.dict (by decide +kernel) (pa_cons (pv 4) pa_nil)) (pv 9) (fun _ _ => rfl)) (pa_cons (pe_cal Cmove_person (hr.mono (by decide)) (by rfl) (pa_cons (pv 3) (pa_cons (pv 4) (pa_cons (pv 9) (pa_cons (pv 10) pa_nil))))) pa_nil)) (by rfl))
         (pss_cons (ps_if (pt_not (pt_val (pe_cal C_law_surplus_holds (hr.mono (by decide)) (by rfl) (pa_cons (pv 3) (pa_cons (pv 4) (pa_cons (pv 12) (pa_cons (pv 11) pa_nil)))))))
         pss_never
         pss_nil)
         (pss_one (ps_set (i := 4) scLaw.nd rfl (.inr rfl) (pv 12))))))
        pss_nil)
        (pss_cons (ps_setLc (i := 13) (own := [("_law_region", 6)]) (g := gName 6) (by rfl) scLaw.nd rfl rfl (sw_true rfl rfl rfl (by decide +kernel)) (pi_tupK K rfl (pe_cal Cfind_regions (hr.mono (by decide)) (by rfl) (pa_cons (pv 3) (pa_cons (pv 4) pa_nil))))
 (blkOk_by (own := [("_law_region", 6)]) (N := nLaw) (sc := defScope sLaw) (by decide +kernel))
 (fun _ _ _ _ _ => (pg_name (i := 6) scLaw.nd rfl (.inl rfl))) (fun _ _ _ _ _ => pts_one (pt_not (pt_val (pe_cal Cis_tight (hr.mono (by decide)) (by rfl) (pa_cons (pv 4) (pa_cons (pv 6) pa_nil)))))) (fun _ _ _ _ _ => (pv 6)))
        (pss_one (ps_for PassesOwn.never rfl (pi_listK K rfl (pv 5)) (pg_name (i := 14) scLaw.nd rfl (.inr rfl))
        (pss_one (ps_if (pt_cmpR (op_eqDK K rfl hr.units) (pe_lc (own := [("_law_region", 6)]) (g := gName 6) (by rfl) scLaw.nd (pi_listK K rfl (pv 13))
 (blkOk_by (own := [("_law_region", 6)]) (N := nLaw) (sc := defScope sLaw) (by decide +kernel))
 (fun _ _ _ _ _ => (pg_name (i := 6) scLaw.nd rfl (.inl rfl))) (fun _ _ _ _ _ => pts_one (pt_cmpR (op_inK K rfl) (pe_ix (ix_tupK K rfl) (pv 6) pe_int (fun _ _ => rfl)) (pv 14) (by rfl))) (fun _ _ _ _ _ => (pv 6))) (pe_lst pa_nil) (nomark _))
         pss_never
         pss_nil)))))))))))))
      (pss_one (ps_ret pe_bl)))), ?_⟩
    refine ⟨_, rfl, a, ns, rfl, hS, hlen, fun H1 s1 A1 B1 sm1 _ _ hS1 => ?_⟩
    refine ⟨4, rfl, by decide, by decide, for_range (lo := 0) (n := 4) (fun i σ H' => ∃ y2 y3 y4 y5 y6 y7 y8 y9 y10 y11 y12 y13 y14, σ = [some (.ref a), some (.ref s1), y2, y3, y4, y5, y6, y7, y8, y9, y10, y11, y12, y13, y14] ∧ StreamAt H' s1 A1 B1 (200 * i)) ⟨_, _, _, _, _, _, _, _, _, _, _, _, _, rfl, hS1⟩ ?_ ?_⟩
    · rintro i σ H2 hi ⟨y2, y3, y4, y5, y6, y7, y8, y9, y10, y11, y12, y13, y14, rfl, hS2⟩
      refine ⟨_, rfl, s1, A1, B1, 200 * i, 1, 8, rfl, hS2, by omega, by decide, by decide, by decide, fun H3 h n D hS3 fr3 hH3 hF n0 n1 => ?_⟩
      refine ⟨_, rfl, _, rfl, s1, A1, B1, h, 200 * i + 40, n, D, 12, rfl, hS3, by omega, hH3, n0, n1, by decide, by decide, fun H4 p0 P0 hS4 fr4 hD4 pl0 lP0 => ?_⟩
      have lP0 : P0.length ≤ 12 := lP0
      have hH4 := hH3.fr hS3 fr4
      have nn : (0 : Int) ≤ n := by omega
      -- was loose
      refine ⟨_, rfl, _, rfl, h, p0, n, D, P0, rfl, hH4, hF, nn, n1, hD4.pl, by omega, fun H5 t0 Cs0 s5 rg0 => ?_⟩
      refine ⟨t0, rfl, ⟨_, SqT.of rg0.1⟩, fun L hL => lc_tup (K := K) (a := t0) (xs := refs Cs0) (fun k H' => Same H5 H' ∧ H' L = some (.lst (refs (lse P0 (Cs0.take k))))) ⟨same_upd hL, upd_same⟩ (fun k H' _ hh => SqT.of (hh.1 _ _ rg0.1)) ?_ ?_⟩
      · rintro k x H6 hx ⟨s6, e6⟩
        obtain ⟨c, hc, rfl⟩ := get_refs hx
        have mc := List.mem_of_getElem? hc
        have hk := lt_of_get hc
        have lC := rg0.2.2.1
        refine ⟨rfl, _, rfl, _, rfl, p0, c.1, P0, c.2, rfl, (hD4.pl.same s5).same s6, SqT.of (s6 _ _ (rg0.2.1 c mc).1), by omega, fun H7 s7 => ⟨_, rfl, ?_⟩⟩
        rw [lse_snoc hc]
        refine ite2 (fun z => ?_) (fun z => ?_)
        · rw [if_pos z]
          refine ⟨_, rfl, _, s7 _ _ e6, ?_, same_put (s6.trans s7) hL, ?_⟩
          · unfold refs
            rw [List.length_map]
            have := lse_len P0 (Cs0.take k)
            rw [List.length_take] at this
            exact small1000 (by omega)
          · rw [upd_same]
            unfold refs
            rw [List.map_append]
            rfl
        · rw [if_neg z, List.append_nil]
          exact ⟨s6.trans s7, s7 _ _ e6⟩
      rintro H6 ⟨s6, e6⟩
      rw [show (refs Cs0).length = Cs0.length by unfold refs; rw [List.length_map], List.take_length] at e6
      have s46 := s5.trans s6
      have hS6 := hS4.same s46
      have hH6 := hH4.same s46
      have hD6 := hD4.same s46
      have zL := (hS4.same s5).ne hL
      have ml : ∀ c ∈ lse P0 Cs0, c ∈ Cs0 := fun c hc => (List.mem_filter.mp hc).1
      have t6 : ∀ c ∈ lse P0 Cs0, H6 c.1 = some (.tup (vi c.2)) := fun c hc => s6 _ _ (rg0.2.1 c (ml c hc)).1
      have rgs := rg0.2.2.2
      have lse0 : (lse P0 Cs0).length ≤ 8 := Nat.le_trans (lse_len _ _) rg0.2.2.1
      clear s46 s5 s6 hS4 hH4 hD4 hL rg0
      dsimp only [gName]
      refine ⟨30, rfl, by decide, by decide, for_range (lo := 0) (n := 30) (fun j σ H' => ∃ (y6 y7 y8 y9 y10 y11 y12 y13 y14 : Option V) (p : Addr) (PP : List (Str × Int)),
          σ = [some (.ref a), some (.ref s1), some (.int (0 + (i : Int))), some (.ref h), some (.ref p), some (.ref L), y6, y7, y8, y9, y10, y11, y12, y13, y14] ∧ StreamAt H' s1 A1 B1 (200 * i + 100 + j) ∧ HouseAt H' h n D ∧ PlD H' p PP ∧ Pl n PP ∧ PP.length ≤ 12 ∧ H' L = some (.lst (refs (lse P0 Cs0))) ∧ (∀ c ∈ lse P0 Cs0, H' c.1 = some (.tup (vi c.2))) ∧ Lsr n D P0 PP (Cs0.map (·.2)))
        ⟨_, _, _, _, _, _, _, _, _, p0, P0, rfl, hS6, hH6, hD6, pl0, lP0, e6, t6, Lsr.start rgs⟩ ?_ ?_⟩
      · clear hS6 hH6 hD6 e6 t6
        rintro j σ H10 hj ⟨z6, z7, z8, z9, z10, z11, z12, z13, z14, p, PP, rfl, hS10, hH10, hD10, plP, lPP, e10, t10, lsr⟩
        refine ⟨_, rfl, _, rfl, h, p, n, D, PP, rfl, hH10, hF, nn, n1, hD10.pl, by omega, fun H11 sm s11 d11 => ?_⟩
        have x11 := d11.pl
        dsimp only [gName]
        refine seq_by (fun σ' H' => ∃ (y9 y10 y11 y12 : Option V) (p' : Addr) (PP' : List (Str × Int)), σ' = [some (.ref a), some (.ref s1), some (.int (0 + (i : Int))), some (.ref h), some (.ref p'), some (.ref L), z6, some (.int (0 + (j : Int))), some (.ref sm), y9, y10, y11, y12, z13, z14] ∧ StreamAt H' s1 A1 B1 (200 * i + 100 + j + 1) ∧ HouseAt H' h n D ∧ PlD H' p' PP' ∧ Pl n PP' ∧ PP'.length ≤ 12 ∧ H' L = some (.lst (refs (lse P0 Cs0))) ∧ (∀ c ∈ lse P0 Cs0, H' c.1 = some (.tup (vi c.2))) ∧ Lsr n D P0 PP' (Cs0.map (·.2))) ?_ ?_
        · intro N hN
          refine ⟨_, rfl, Nat.zero_le _, fun e he => ?_⟩
          have s12 := s11.trans (same_upd (o := .tup []) he)
          have x12 := x11.same (same_upd (o := .tup []) he)
          refine ⟨pld (mvs n D PP PP), .tuple [], x12.dp, .tup (SqT.of upd_same) .nil, pld_shaped (fun x hx => by obtain ⟨c, hc, _⟩ := mvs_mem (nm := x.1) (t := x.2) hx; exact plP.nams (x.1, c) hc), shaped_tup [], _, rfl, ?_⟩
          rw [eqv_nilT]
          have hS12 := hS10.same s12
          have hH12 := hH10.same s12
          have hD12 := hD10.same s12
          have e12 := s12 _ _ e10
          have t12 : ∀ c ∈ lse P0 Cs0, (upd H11 e (.tup [])) c.1 = some (.tup (vi c.2)) := fun c hc => s12 _ _ (t10 c hc)
          generalize upd H11 e (.tup []) = H12 at *
          have lm := mvs_len n D PP PP n1
          by_cases em : (mvs n D PP PP).isEmpty = true
          · rw [em]
            exact iteF (hN _ _ ⟨_, _, _, _, p, PP, rfl, hS12.mono (by omega), hH12, hD12, plP, lPP, e12, t12, lsr⟩)
          · rw [Bool.eq_false_iff.mpr em]
            have l0 : 0 < (mvs n D PP PP).length := by
              rw [List.length_pos_iff]
              exact fun e => em (by rw [e]; rfl)
            obtain ⟨xs, sq, lx⟩ := x12.sq' (K := K)
            refine iteT ⟨_, rfl, _, rfl, _, rfl, sm, _, rfl, .inr sq, s1, A1, B1, 200 * i + 100 + j, _, rfl, hS12, by omega, ?_, ?_, fun H13 v hS13 fr13 v0 v1 => ?_⟩
            · rw [lx]; omega
            · rw [lx]; omega
            rw [lx] at v1
            have tk := Tk.fr fr13 hS12
            obtain ⟨xs', t, nm, r, sq', at', et, mem⟩ := (x12.tk tk).at (K := K) v0 v1
            obtain ⟨c, hc, hr1, hr2⟩ := mvs_mem mem
            obtain ⟨y, hy, ey⟩ := List.mem_map.mp hr2
            have rr : 0 ≤ r ∧ r < n := by rw [← ey]; exact plP.rm y hy
            have sp : Stp n D PP nm c r := ⟨plP, hc, hr2, (hF.mem_nb).mp hr1⟩
            have hH13 := hH12.tk tk
            have hD13 := hD12.tk tk
            have e13 := fr13 _ _ zL.1.symm zL.2.1.symm e12
            have t13 : ∀ c ∈ lse P0 Cs0, H13 c.1 = some (.tup (vi c.2)) := fun c hc => tk.t (t12 c hc)
            refine ⟨sm, _, _, _, rfl, rfl, sq', at', t, _, rfl, SqT.of et, rfl, _, _, rfl, _, _, rfl, rfl, ?_⟩
            dsimp only [gName, gNil]
            refine ⟨_, rfl, p, PP, rfl, hD13, plP.nodup, by omega, fun m hm => ?_⟩
            have sm' := same_upd (o := .dK (dkI PP)) hm
            have g1 := DGet.k (k := Sum.inr nm) (show (upd H13 m (.dK (dkI PP))) m = some (.dK (dkI PP)) from upd_same)
            rw [valV_dkI plP.nodup hc] at g1
            generalize upd H13 m (.dK (dkI PP)) = H13' at *
            refine ⟨_, rfl, m, _, rfl, g1, ?_⟩
            refine ⟨_, rfl, _, rfl, _, rfl, _, rfl, h, p, n, D, PP, nm, r, c, rfl, hH13.same sm', hF, by omega, n1, (hD13.same sm').pl, plP, by omega, hc, hr1, hr2, fun H14 u1 s14 pd1 => ⟨_, _, rfl, ?_⟩⟩
            have s1314 := sm'.trans s14
            refine ⟨_, rfl, _, rfl, _, rfl, _, rfl, h, p, u1, n, D, PP, nm, c, r, rfl, hH13.same s1314, hF, nn, n1, (hD13.same s1314).pl, by omega, pd1.pl, sp, fun H15 s15 => ⟨_, rfl, iteF ?_⟩⟩
            have s1315 := s1314.trans s15
            refine ⟨_, rfl, ?_⟩
            exact hN _ _ ⟨_, _, _, _, u1, _, rfl, hS13.same s1315, hH13.same s1315, pd1.same s15, sp.plP, by rw [mvd_len]; exact lPP, s1315 _ _ e13, fun c hc => s1315 _ _ (t13 c hc), lsr.step sp⟩
        clear x11 d11 s11 hS10 hH10 hD10 e10 t10 lsr
        rintro σ' H11 ⟨w9, w10, w11, w12, p', PP', rfl, hS11, hH11, hD11, plP', lPP', e11, t11, lsr⟩
        -- now
        refine ⟨_, rfl, _, rfl, h, p', n, D, PP', rfl, hH11, hF, nn, n1, hD11.pl, by omega, fun H12 t1 Cs s12 rg => ?_⟩
        refine ⟨t1, rfl, ⟨_, SqT.of rg.1⟩, fun M hM => lc_tup (K := K) (a := t1) (xs := refs Cs) (fun k H' => Same H12 H' ∧ H' M = some (.lst (refs (lse PP' (Cs.take k))))) ⟨same_upd hM, upd_same⟩ (fun k H' _ hh => SqT.of (hh.1 _ _ rg.1)) ?_ ?_⟩
        · rintro k x H13 hx ⟨s13, e13⟩
          obtain ⟨c, hc, rfl⟩ := get_refs hx
          have mc := List.mem_of_getElem? hc
          have hk := lt_of_get hc
          have lC := rg.2.2.1
          refine ⟨rfl, _, rfl, _, rfl, p', c.1, PP', c.2, rfl, (hD11.pl.same s12).same s13, SqT.of (s13 _ _ (rg.2.1 c mc).1), by omega, fun H14 s14 => ⟨_, rfl, ?_⟩⟩
          rw [lse_snoc hc]
          refine ite2 (fun z => ?_) (fun z => ?_)
          · rw [if_pos z]
            refine ⟨_, rfl, _, s14 _ _ e13, ?_, same_put (s13.trans s14) hM, ?_⟩
            · unfold refs
              rw [List.length_map]
              have := lse_len PP' (Cs.take k)
              rw [List.length_take] at this
              exact small1000 (by omega)
            · rw [upd_same]
              unfold refs
              rw [List.map_append]
              rfl
          · rw [if_neg z, List.append_nil]
            exact ⟨s13.trans s14, s14 _ _ e13⟩
        rintro H13 ⟨s13, e13⟩
        rw [show (refs Cs).length = Cs.length by unfold refs; rw [List.length_map], List.take_length] at e13
        have s1113 := s12.trans s13
        have hS13 := hS11.same s1113
        have hH13 := hH11.same s1113
        have hD13 := hD11.same s1113
        have el13 := s1113 _ _ e11
        have t13 : ∀ c ∈ lse P0 Cs0, H13 c.1 = some (.tup (vi c.2)) := fun c hc => s1113 _ _ (t11 c hc)
        have n13 : ∀ c ∈ Cs, H13 c.1 = some (.tup (vi c.2)) := fun c hc => s13 _ _ (rg.2.1 c hc).1
        have lC := rg.2.2.1
        have rg2 := rg.2.2.2
        clear s1113 s12 s13 hM rg hS11 hH11 hD11 e11 t11
        dsimp only [gName]
        refine ⟨_, rfl, L, rfl, ⟨_, SqL.of el13⟩, for_list (K := K) (a := L) (xs := refs (lse P0 Cs0)) (fun k σ' H' => ∃ y6 y14, σ' = [some (.ref a), some (.ref s1), some (.int (0 + (i : Int))), some (.ref h), some (.ref p'), some (.ref L), y6, some (.int (0 + (j : Int))), some (.ref sm), w9, w10, w11, w12, some (.ref M), y14] ∧ Same H13 H') ⟨_, _, rfl, Same.refl _⟩ ?_ ?_ ?_⟩
        · rintro k σ' H' _ ⟨_, _, _, s'⟩
          exact SqL.of (s' _ _ el13)
        · rintro k x σ' H14 hx ⟨y6, y14, rfl, s14⟩
          obtain ⟨c, hc, rfl⟩ := get_refs hx
          have mc := List.mem_of_getElem? hc
          have lo : (inside P0 c.2).length ≠ c.2.length := by
            have := (List.mem_filter.mp mc).2
            simpa using this
          have hO : c.2 ∈ Cs0.map (·.2) := List.mem_map_of_mem (f := (·.2)) (ml c mc)
          have full := rgs.full pl0 hO
          obtain ⟨C, hC, loC, sub⟩ := lsr.loose plP' rg2 hO (by omega)
          dsimp only [gName]
          refine ⟨_, rfl, M, rfl, ⟨_, SqL.of (s14 _ _ e13)⟩, fun N hN => lc_list (K := K) (a := M) (xs := refs (lse PP' Cs)) (fun q H' => ∃ ks : List (Addr × List Int), Same H14 H' ∧ H' N = some (.lst (refs ks)) ∧ ks.length ≤ q ∧ (∀ d ∈ ks, d ∈ Cs) ∧ ∀ d ∈ (lse PP' Cs).take q, (∀ y ∈ d.2, y ∈ c.2) → ks ≠ []) ⟨[], same_upd hN, upd_same, Nat.le_refl _, fun d hd => (by cases hd), fun d hd => (by simp at hd)⟩ (fun q H' _ hh => ?_) ?_ ?_⟩
          · obtain ⟨_, s', _⟩ := hh
            exact SqL.of (s' _ _ (s14 _ _ e13))
          · rintro q x H15 hx ⟨ks, s15, e15, l15, m15, n15⟩
            obtain ⟨d, hd, rfl⟩ := get_refs hx
            have md := List.mem_of_getElem? hd
            have hq := lt_of_get hd
            have ll := lse_len PP' Cs
            have mdC : d ∈ Cs := (List.mem_filter.mp md).1
            have pos : 0 < d.2.length := by
              obtain ⟨r, _, ic⟩ := (rg2.mem d.2).mp (List.mem_map_of_mem (f := (·.2)) mdC)
              exact List.length_pos_of_mem ic.has
            obtain ⟨r, ar, mr⟩ := head_at pos
            have s1315 := s14.trans s15
            refine ⟨rfl, _, rfl, d.1, _, _, _, rfl, rfl, SqT.of (s1315 _ _ (n13 d mdC)), ar, _, rfl, c.1, _, rfl, .inr (SqT.of (s1315 _ _ (t13 c mc))), rfl, flat_vi _, _, rfl, ?_⟩
            rw [if_neg (by decide), inV_vi]
            refine ite2 (fun z => ?_) (fun z => ?_)
            · refine ⟨_, rfl, _, e15, by unfold refs; rw [List.length_map]; exact small1000 (by omega), ks ++ [d], same_put s15 hN, ?_, ?_, fun d' hd' => ?_, fun _ _ _ e => ?_⟩
              · rw [upd_same]
                unfold refs
                rw [List.map_append]
                rfl
              · rw [List.length_append, List.length_singleton]
                omega
              · rcases List.mem_append.mp hd' with hd' | hd'
                · exact m15 d' hd'
                · rw [List.mem_singleton.mp hd']
                  exact mdC
              · have := congrArg List.length e
                rw [List.length_append, List.length_singleton] at this
                cases this
            · refine ⟨ks, s15, e15, by omega, m15, fun d' hd' hs => ?_⟩
              rw [take_snoc hd] at hd'
              rcases List.mem_append.mp hd' with hd' | hd'
              · exact n15 d' hd' hs
              · rw [List.mem_singleton.mp hd'] at hs
                exact absurd (decide_eq_true (hs r mr)) z
          rintro H15 ⟨ks, s15, e15, l15, m15, n15⟩
          rw [show (refs (lse PP' Cs)).length = (lse PP' Cs).length by unfold refs; rw [List.length_map], List.take_length] at n15
          obtain ⟨d, hd, ed⟩ := List.mem_map.mp hC
          have ne : ks ≠ [] := n15 d (List.mem_filter.mpr ⟨hd, by rw [ed, decide_eq_false loC]; rfl⟩) (by rw [ed]; exact sub)
          refine ⟨Nat.zero_le _, fun e he => ⟨.list (ks.map fun c => .tuple (c.2.map .int)), .list [], .lst (SqL.of (same_upd he _ _ e15)) (dpR fun d hd => (s14.trans (s15.trans (same_upd he))) _ _ (n13 d (m15 d hd))), .lst (SqL.of upd_same) .nil, shapedRL _, shaped_list [], _, rfl, ?_⟩⟩
          have : PyData.eqv (.list (ks.map fun c => PyData.tuple (c.2.map .int))) (.list []) = false := by
            rw [PyData.eqv]
            cases hw : ks with
            | nil => exact absurd hw ne
            | cons x r => rw [List.map_cons, PyData.eqvAll]
          rw [this]
          exact iteF ⟨_, _, rfl, s14.trans (s15.trans (same_upd he))⟩
        · rintro σ' H14 ⟨y6, y14, rfl, s14⟩
          exact ⟨_, _, _, _, _, _, _, _, _, p', PP', rfl, (hS13.same s14).mono (by omega), hH13.same s14, hD13.same s14, plP', lPP', s14 _ _ el13, fun c hc => s14 _ _ (t13 c hc), lsr⟩
      · rintro σ' H7 ⟨z6, z7, z8, z9, z10, z11, z12, z13, z14, p, PP, rfl, hS7, _⟩
        exact ⟨_, _, _, _, _, _, _, _, _, _, _, _, _, rfl, hS7.mono (by omega)⟩
    · rintro σ H2 ⟨y2, y3, y4, y5, y6, y7, y8, y9, y10, y11, y12, y13, y14, rfl, hS2⟩
      exact q _
end
end Fw
set_option maxHeartbeats 8000000
namespace Fw
open PySem L2
theorem all_mk {P : Program} {w : World} {K : PySem.W.Frag} {h : Heap} {mg : Str → Option Value} {fa : Addr} (X : K.In h) (G : h.Ns mainGlobals mg) (hfa : mg "law" = some (.ref fa))
    {f1 : Addr} {od1 an1 : Option Addr} {sl1 : Array (Option Value)} {oc1 kV1 dc1 pm1 cd1 ct1 : Value}
    (a1 : PySem.W.nsIn K mainGlobals "is_integer" = some (some (.ref f1)))
    (l1 : K.lookup f1 = some ⟨oc1, od1, .func (PySem.W.fnOf "is_integer" "is_integer" (defArgs sIsInt) (defBody sIsInt) (defScope sIsInt) .none kV1 dc1 pm1 an1 cd1 ct1), sl1⟩)
    (c1 : PySem.W.codeIn K cd1 "is_integer" = true) (k1 : PySem.W.keepIn K (.ref f1) = true)
    {f2 : Addr} {od2 an2 : Option Addr} {sl2 : Array (Option Value)} {oc2 kV2 dc2 pm2 cd2 ct2 : Value}
    (a2 : PySem.W.nsIn K mainGlobals "is_room" = some (some (.ref f2)))
    (l2 : K.lookup f2 = some ⟨oc2, od2, .func (PySem.W.fnOf "is_room" "is_room" (defArgs sIsRoom) (defBody sIsRoom) (defScope sIsRoom) .none kV2 dc2 pm2 an2 cd2 ct2), sl2⟩)
    (c2 : PySem.W.codeIn K cd2 "is_room" = true) (k2 : PySem.W.keepIn K (.ref f2) = true)
    {f3 : Addr} {od3 an3 : Option Addr} {sl3 : Array (Option Value)} {oc3 kV3 dc3 pm3 cd3 ct3 : Value}
    (a3 : PySem.W.nsIn K mainGlobals "neighbors" = some (some (.ref f3)))
    (l3 : K.lookup f3 = some ⟨oc3, od3, .func (PySem.W.fnOf "neighbors" "neighbors" (defArgs sNb) (defBody sNb) (defScope sNb) .none kV3 dc3 pm3 an3 cd3 ct3), sl3⟩)
    (c3 : PySem.W.codeIn K cd3 "neighbors" = true) (k3 : PySem.W.keepIn K (.ref f3) = true)
    {f4 : Addr} {od4 an4 : Option Addr} {sl4 : Array (Option Value)} {oc4 kV4 dc4 pm4 cd4 ct4 : Value}
    (a4 : PySem.W.nsIn K mainGlobals "components" = some (some (.ref f4)))
    (l4 : K.lookup f4 = some ⟨oc4, od4, .func (PySem.W.fnOf "components" "components" (defArgs sComp) (defBody sComp) (defScope sComp) .none kV4 dc4 pm4 an4 cd4 ct4), sl4⟩)
    (c4 : PySem.W.codeIn K cd4 "components" = true) (k4 : PySem.W.keepIn K (.ref f4) = true)
    {f5 : Addr} {od5 an5 : Option Addr} {sl5 : Array (Option Value)} {oc5 kV5 dc5 pm5 cd5 ct5 : Value}
    (a5 : PySem.W.nsIn K mainGlobals "steps_toward" = some (some (.ref f5)))
    (l5 : K.lookup f5 = some ⟨oc5, od5, .func (PySem.W.fnOf "steps_toward" "steps_toward" (defArgs sSteps) (defBody sSteps) (defScope sSteps) .none kV5 dc5 pm5 an5 cd5 ct5), sl5⟩)
    (c5 : PySem.W.codeIn K cd5 "steps_toward" = true) (k5 : PySem.W.keepIn K (.ref f5) = true)
    {f6 : Addr} {od6 an6 : Option Addr} {sl6 : Array (Option Value)} {oc6 kV6 dc6 pm6 cd6 ct6 : Value}
    (a6 : PySem.W.nsIn K mainGlobals "room_of" = some (some (.ref f6)))
    (l6 : K.lookup f6 = some ⟨oc6, od6, .func (PySem.W.fnOf "room_of" "room_of" (defArgs sRoomOf) (defBody sRoomOf) (defScope sRoomOf) .none kV6 dc6 pm6 an6 cd6 ct6), sl6⟩)
    (c6 : PySem.W.codeIn K cd6 "room_of" = true) (k6 : PySem.W.keepIn K (.ref f6) = true)
    {f7 : Addr} {od7 an7 : Option Addr} {sl7 : Array (Option Value)} {oc7 kV7 dc7 pm7 cd7 ct7 : Value}
    (a7 : PySem.W.nsIn K mainGlobals "with_person_in" = some (some (.ref f7)))
    (l7 : K.lookup f7 = some ⟨oc7, od7, .func (PySem.W.fnOf "with_person_in" "with_person_in" (defArgs sWith) (defBody sWith) (defScope sWith) .none kV7 dc7 pm7 an7 cd7 ct7), sl7⟩)
    (c7 : PySem.W.codeIn K cd7 "with_person_in" = true) (k7 : PySem.W.keepIn K (.ref f7) = true)
    {f8 : Addr} {od8 an8 : Option Addr} {sl8 : Array (Option Value)} {oc8 kV8 dc8 pm8 cd8 ct8 : Value}
    (a8 : PySem.W.nsIn K mainGlobals "people_in" = some (some (.ref f8)))
    (l8 : K.lookup f8 = some ⟨oc8, od8, .func (PySem.W.fnOf "people_in" "people_in" (defArgs sPIn) (defBody sPIn) (defScope sPIn) .none kV8 dc8 pm8 an8 cd8 ct8), sl8⟩)
    (c8 : PySem.W.codeIn K cd8 "people_in" = true) (k8 : PySem.W.keepIn K (.ref f8) = true)
    {f9 : Addr} {od9 an9 : Option Addr} {sl9 : Array (Option Value)} {oc9 kV9 dc9 pm9 cd9 ct9 : Value}
    (a9 : PySem.W.nsIn K mainGlobals "people_within" = some (some (.ref f9)))
    (l9 : K.lookup f9 = some ⟨oc9, od9, .func (PySem.W.fnOf "people_within" "people_within" (defArgs sPWi) (defBody sPWi) (defScope sPWi) .none kV9 dc9 pm9 an9 cd9 ct9), sl9⟩)
    (c9 : PySem.W.codeIn K cd9 "people_within" = true) (k9 : PySem.W.keepIn K (.ref f9) = true)
    {f10 : Addr} {od10 an10 : Option Addr} {sl10 : Array (Option Value)} {oc10 kV10 dc10 pm10 cd10 ct10 : Value}
    (a10 : PySem.W.nsIn K mainGlobals "empty_rooms" = some (some (.ref f10)))
    (l10 : K.lookup f10 = some ⟨oc10, od10, .func (PySem.W.fnOf "empty_rooms" "empty_rooms" (defArgs sEmp) (defBody sEmp) (defScope sEmp) .none kV10 dc10 pm10 an10 cd10 ct10), sl10⟩)
    (c10 : PySem.W.codeIn K cd10 "empty_rooms" = true) (k10 : PySem.W.keepIn K (.ref f10) = true)
    {f11 : Addr} {od11 an11 : Option Addr} {sl11 : Array (Option Value)} {oc11 kV11 dc11 pm11 cd11 ct11 : Value}
    (a11 : PySem.W.nsIn K mainGlobals "find_regions" = some (some (.ref f11)))
    (l11 : K.lookup f11 = some ⟨oc11, od11, .func (PySem.W.fnOf "find_regions" "find_regions" (defArgs sFReg) (defBody sFReg) (defScope sFReg) .none kV11 dc11 pm11 an11 cd11 ct11), sl11⟩)
    (c11 : PySem.W.codeIn K cd11 "find_regions" = true) (k11 : PySem.W.keepIn K (.ref f11) = true)
    {f12 : Addr} {od12 an12 : Option Addr} {sl12 : Array (Option Value)} {oc12 kV12 dc12 pm12 cd12 ct12 : Value}
    (a12 : PySem.W.nsIn K mainGlobals "surplus" = some (some (.ref f12)))
    (l12 : K.lookup f12 = some ⟨oc12, od12, .func (PySem.W.fnOf "surplus" "surplus" (defArgs sSurp) (defBody sSurp) (defScope sSurp) .none kV12 dc12 pm12 an12 cd12 ct12), sl12⟩)
    (c12 : PySem.W.codeIn K cd12 "surplus" = true) (k12 : PySem.W.keepIn K (.ref f12) = true)
    {f13 : Addr} {od13 an13 : Option Addr} {sl13 : Array (Option Value)} {oc13 kV13 dc13 pm13 cd13 ct13 : Value}
    (a13 : PySem.W.nsIn K mainGlobals "is_tight" = some (some (.ref f13)))
    (l13 : K.lookup f13 = some ⟨oc13, od13, .func (PySem.W.fnOf "is_tight" "is_tight" (defArgs sIsTight) (defBody sIsTight) (defScope sIsTight) .none kV13 dc13 pm13 an13 cd13 ct13), sl13⟩)
    (c13 : PySem.W.codeIn K cd13 "is_tight" = true) (k13 : PySem.W.keepIn K (.ref f13) = true)
    {f14 : Addr} {od14 an14 : Option Addr} {sl14 : Array (Option Value)} {oc14 kV14 dc14 pm14 cd14 ct14 : Value}
    (a14 : PySem.W.nsIn K mainGlobals "move_person" = some (some (.ref f14)))
    (l14 : K.lookup f14 = some ⟨oc14, od14, .func (PySem.W.fnOf "move_person" "move_person" (defArgs sMove) (defBody sMove) (defScope sMove) .none kV14 dc14 pm14 an14 cd14 ct14), sl14⟩)
    (c14 : PySem.W.codeIn K cd14 "move_person" = true) (k14 : PySem.W.keepIn K (.ref f14) = true)
    {f15 : Addr} {od15 an15 : Option Addr} {sl15 : Array (Option Value)} {oc15 kV15 dc15 pm15 cd15 ct15 : Value}
    (a15 : PySem.W.nsIn K mainGlobals "legal_moves" = some (some (.ref f15)))
    (l15 : K.lookup f15 = some ⟨oc15, od15, .func (PySem.W.fnOf "legal_moves" "legal_moves" (defArgs sLegal) (defBody sLegal) (defScope sLegal) .none kV15 dc15 pm15 an15 cd15 ct15), sl15⟩)
    (c15 : PySem.W.codeIn K cd15 "legal_moves" = true) (k15 : PySem.W.keepIn K (.ref f15) = true)
    {f16 : Addr} {od16 an16 : Option Addr} {sl16 : Array (Option Value)} {oc16 kV16 dc16 pm16 cd16 ct16 : Value}
    (a16 : PySem.W.nsIn K mainGlobals "_law_stream" = some (some (.ref f16)))
    (l16 : K.lookup f16 = some ⟨oc16, od16, .func (PySem.W.fnOf "_law_stream" "_law_stream" (defArgs sStream) (defBody sStream) (defScope sStream) .none kV16 dc16 pm16 an16 cd16 ct16), sl16⟩)
    (c16 : PySem.W.codeIn K cd16 "_law_stream" = true) (k16 : PySem.W.keepIn K (.ref f16) = true)
    {f17 : Addr} {od17 an17 : Option Addr} {sl17 : Array (Option Value)} {oc17 kV17 dc17 pm17 cd17 ct17 : Value}
    (a17 : PySem.W.nsIn K mainGlobals "_law_names" = some (some (.ref f17)))
    (l17 : K.lookup f17 = some ⟨oc17, od17, .func (PySem.W.fnOf "_law_names" "_law_names" (defArgs sNames) (defBody sNames) (defScope sNames) .none kV17 dc17 pm17 an17 cd17 ct17), sl17⟩)
    (c17 : PySem.W.codeIn K cd17 "_law_names" = true) (k17 : PySem.W.keepIn K (.ref f17) = true)
    {f18 : Addr} {od18 an18 : Option Addr} {sl18 : Array (Option Value)} {oc18 kV18 dc18 pm18 cd18 ct18 : Value}
    (a18 : PySem.W.nsIn K mainGlobals "_law_draw" = some (some (.ref f18)))
    (l18 : K.lookup f18 = some ⟨oc18, od18, .func (PySem.W.fnOf "_law_draw" "_law_draw" (defArgs sDraw) (defBody sDraw) (defScope sDraw) .none kV18 dc18 pm18 an18 cd18 ct18), sl18⟩)
    (c18 : PySem.W.codeIn K cd18 "_law_draw" = true) (k18 : PySem.W.keepIn K (.ref f18) = true)
    {f19 : Addr} {od19 an19 : Option Addr} {sl19 : Array (Option Value)} {oc19 kV19 dc19 pm19 cd19 ct19 : Value}
    (a19 : PySem.W.nsIn K mainGlobals "_law_house" = some (some (.ref f19)))
    (l19 : K.lookup f19 = some ⟨oc19, od19, .func (PySem.W.fnOf "_law_house" "_law_house" (defArgs sHouse) (defBody sHouse) (defScope sHouse) .none kV19 dc19 pm19 an19 cd19 ct19), sl19⟩)
    (c19 : PySem.W.codeIn K cd19 "_law_house" = true) (k19 : PySem.W.keepIn K (.ref f19) = true)
    {f20 : Addr} {od20 an20 : Option Addr} {sl20 : Array (Option Value)} {oc20 kV20 dc20 pm20 cd20 ct20 : Value}
    (a20 : PySem.W.nsIn K mainGlobals "_law_placement" = some (some (.ref f20)))
    (l20 : K.lookup f20 = some ⟨oc20, od20, .func (PySem.W.fnOf "_law_placement" "_law_placement" (defArgs sPl) (defBody sPl) (defScope sPl) .none kV20 dc20 pm20 an20 cd20 ct20), sl20⟩)
    (c20 : PySem.W.codeIn K cd20 "_law_placement" = true) (k20 : PySem.W.keepIn K (.ref f20) = true)
    {f21 : Addr} {od21 an21 : Option Addr} {sl21 : Array (Option Value)} {oc21 kV21 dc21 pm21 cd21 ct21 : Value}
    (a21 : PySem.W.nsIn K mainGlobals "_law_surpluses" = some (some (.ref f21)))
    (l21 : K.lookup f21 = some ⟨oc21, od21, .func (PySem.W.fnOf "_law_surpluses" "_law_surpluses" (defArgs sLSurps) (defBody sLSurps) (defScope sLSurps) .none kV21 dc21 pm21 an21 cd21 ct21), sl21⟩)
    (c21 : PySem.W.codeIn K cd21 "_law_surpluses" = true) (k21 : PySem.W.keepIn K (.ref f21) = true)
    {f22 : Addr} {od22 an22 : Option Addr} {sl22 : Array (Option Value)} {oc22 kV22 dc22 pm22 cd22 ct22 : Value}
    (a22 : PySem.W.nsIn K mainGlobals "_law_surplus_holds" = some (some (.ref f22)))
    (l22 : K.lookup f22 = some ⟨oc22, od22, .func (PySem.W.fnOf "_law_surplus_holds" "_law_surplus_holds" (defArgs sLSurpHold) (defBody sLSurpHold) (defScope sLSurpHold) .none kV22 dc22 pm22 an22 cd22 ct22), sl22⟩)
    (c22 : PySem.W.codeIn K cd22 "_law_surplus_holds" = true) (k22 : PySem.W.keepIn K (.ref f22) = true)
    {f23 : Addr} {od23 an23 : Option Addr} {sl23 : Array (Option Value)} {oc23 kV23 dc23 pm23 cd23 ct23 : Value}
    (a23 : PySem.W.nsIn K mainGlobals "law" = some (some (.ref f23)))
    (l23 : K.lookup f23 = some ⟨oc23, od23, .func (PySem.W.fnOf "law" "law" (defArgs sLaw) (defBody sLaw) (defScope sLaw) .none kV23 dc23 pm23 an23 cd23 ct23), sl23⟩)
    (c23 : PySem.W.codeIn K cd23 "law" = true) (k23 : PySem.W.keepIn K (.ref f23) = true)
    (z_abs : PySem.W.nsIn K mainGlobals "abs" = some none) (z_len : PySem.W.nsIn K mainGlobals "len" = some none) (z_list : PySem.W.nsIn K mainGlobals "list" = some none) (z_range : PySem.W.nsIn K mainGlobals "range" = some none) (z_min : PySem.W.nsIn K mainGlobals "min" = some none) (z_max : PySem.W.nsIn K mainGlobals "max" = some none) (z_tuple : PySem.W.nsIn K mainGlobals "tuple" = some none) (z_sorted : PySem.W.nsIn K mainGlobals "sorted" = some none) (z_isinstance : PySem.W.nsIn K mainGlobals "isinstance" = some none) (z_all : PySem.W.nsIn K mainGlobals "all" = some none) (z_zip : PySem.W.nsIn K mainGlobals "zip" = some none) (z_bool : PySem.W.nsIn K mainGlobals "bool" = some none) (z_int : PySem.W.nsIn K mainGlobals "int" = some none) (z_str : PySem.W.nsIn K mainGlobals "str" = some none) (z_repr : PySem.W.nsIn K mainGlobals "repr" = some none) (z_any : PySem.W.nsIn K mainGlobals "any" = some none) (z_dict : PySem.W.nsIn K mainGlobals "dict" = some none) (z_sum : PySem.W.nsIn K mainGlobals "sum" = some none) : LawAt P w K mg 7 fa (spLaw K) := by
  have e := hfa.symm.trans (PySem.W.mg_of X G a23)
  cases e
  have T : Nm mg := ⟨PySem.W.mg_none_of X G z_abs, PySem.W.mg_none_of X G z_len, PySem.W.mg_none_of X G z_list, PySem.W.mg_none_of X G z_range, PySem.W.mg_none_of X G z_min, PySem.W.mg_none_of X G z_max, PySem.W.mg_none_of X G z_tuple, PySem.W.mg_none_of X G z_sorted, PySem.W.mg_none_of X G z_isinstance, PySem.W.mg_none_of X G z_all, PySem.W.mg_none_of X G z_zip, PySem.W.mg_none_of X G z_bool, PySem.W.mg_none_of X G z_int, PySem.W.mg_none_of X G z_str, PySem.W.mg_none_of X G z_repr⟩
  have F1 := fun_mk (st := sIsInt) l1 c1 k1
  have b1 := F1.binds (ps := ["value"]) fun _ _ _ _ _ _ us hl => match us, hl with | [_], _ => rfl
  have F2 := fun_mk (st := sIsRoom) l2 c2 k2
  have b2 := F2.binds (ps := ["house", "value"]) fun _ _ _ _ _ _ us hl => match us, hl with | [_, _], _ => rfl
  have F3 := fun_mk (st := sNb) l3 c3 k3
  have b3 := F3.binds (ps := ["house", "room"]) fun _ _ _ _ _ _ us hl => match us, hl with | [_, _], _ => rfl
  have F4 := fun_mk (st := sComp) l4 c4 k4
  have b4 := F4.binds (ps := ["house", "rooms"]) fun _ _ _ _ _ _ us hl => match us, hl with | [_, _], _ => rfl
  have F5 := fun_mk (st := sSteps) l5 c5 k5
  have b5 := F5.binds (ps := ["house", "goal", "rooms"]) fun _ _ _ _ _ _ us hl => match us, hl with | [_, _, _], _ => rfl
  have F6 := fun_mk (st := sRoomOf) l6 c6 k6
  have b6 := F6.binds (ps := ["placement", "name"]) fun _ _ _ _ _ _ us hl => match us, hl with | [_, _], _ => rfl
  have F7 := fun_mk (st := sWith) l7 c7 k7
  have b7 := F7.binds (ps := ["placement", "name", "room"]) fun _ _ _ _ _ _ us hl => match us, hl with | [_, _, _], _ => rfl
  have F8 := fun_mk (st := sPIn) l8 c8 k8
  have b8 := F8.binds (ps := ["placement", "room"]) fun _ _ _ _ _ _ us hl => match us, hl with | [_, _], _ => rfl
  have F9 := fun_mk (st := sPWi) l9 c9 k9
  have b9 := F9.binds (ps := ["placement", "rooms"]) fun _ _ _ _ _ _ us hl => match us, hl with | [_, _], _ => rfl
  have F10 := fun_mk (st := sEmp) l10 c10 k10
  have b10 := F10.binds (ps := ["house", "placement"]) fun _ _ _ _ _ _ us hl => match us, hl with | [_, _], _ => rfl
  have F11 := fun_mk (st := sFReg) l11 c11 k11
  have b11 := F11.binds (ps := ["house", "placement"]) fun _ _ _ _ _ _ us hl => match us, hl with | [_, _], _ => rfl
  have F12 := fun_mk (st := sSurp) l12 c12 k12
  have b12 := F12.binds (ps := ["placement", "region"]) fun _ _ _ _ _ _ us hl => match us, hl with | [_, _], _ => rfl
  have F13 := fun_mk (st := sIsTight) l13 c13 k13
  have b13 := F13.binds (ps := ["placement", "region"]) fun _ _ _ _ _ _ us hl => match us, hl with | [_, _], _ => rfl
  have F14 := fun_mk (st := sMove) l14 c14 k14
  have b14 := F14.binds (ps := ["house", "placement", "name", "room"]) fun _ _ _ _ _ _ us hl => match us, hl with | [_, _, _, _], _ => rfl
  have F15 := fun_mk (st := sLegal) l15 c15 k15
  have b15 := F15.binds (ps := ["house", "placement"]) fun _ _ _ _ _ _ us hl => match us, hl with | [_, _], _ => rfl
  have F16 := fun_mk (st := sStream) l16 c16 k16
  have b16 := F16.binds (ps := ["_law_script"]) fun _ _ _ _ _ _ us hl => match us, hl with | [_], _ => rfl
  have F17 := fun_mk (st := sNames) l17 c17 k17
  have b17 := F17.binds (ps := ["_law_stream_here", "_law_many"]) fun _ _ _ _ _ _ us hl => match us, hl with | [_, _], _ => rfl
  have F18 := fun_mk (st := sDraw) l18 c18 k18
  have b18 := F18.binds (ps := ["_law_stream_here", "_law_many"]) fun _ _ _ _ _ _ us hl => match us, hl with | [_, _], _ => rfl
  have F19 := fun_mk (st := sHouse) l19 c19 k19
  have b19 := F19.binds (ps := ["_law_stream_here", "_law_least", "_law_most"]) fun _ _ _ _ _ _ us hl => match us, hl with | [_, _, _], _ => rfl
  have F20 := fun_mk (st := sPl) l20 c20 k20
  have b20 := F20.binds (ps := ["_law_stream_here", "_law_house_here", "_law_most"]) fun _ _ _ _ _ _ us hl => match us, hl with | [_, _, _], _ => rfl
  have F21 := fun_mk (st := sLSurps) l21 c21 k21
  have b21 := F21.binds (ps := ["_law_house_here", "_law_placement_here"]) fun _ _ _ _ _ _ us hl => match us, hl with | [_, _], _ => rfl
  have F22 := fun_mk (st := sLSurpHold) l22 c22 k22
  have b22 := F22.binds (ps := ["_law_house_here", "_law_placement_here", "_law_behind", "_law_here"]) fun _ _ _ _ _ _ us hl => match us, hl with | [_, _, _, _], _ => rfl
  have F23 := fun_mk (st := sLaw) l23 c23 k23
  have Z : All K mg := ⟨T, PySem.W.mg_none_of X G z_any, PySem.W.mg_none_of X G z_dict, PySem.W.mg_none_of X G z_sum, ⟨_, _, ⟨F1, b1, PySem.W.mg_of X G a1⟩⟩, ⟨_, _, ⟨F2, b2, PySem.W.mg_of X G a2⟩⟩, ⟨_, _, ⟨F3, b3, PySem.W.mg_of X G a3⟩⟩, ⟨_, _, ⟨F4, b4, PySem.W.mg_of X G a4⟩⟩, ⟨_, _, ⟨F5, b5, PySem.W.mg_of X G a5⟩⟩, ⟨_, _, ⟨F6, b6, PySem.W.mg_of X G a6⟩⟩, ⟨_, _, ⟨F7, b7, PySem.W.mg_of X G a7⟩⟩, ⟨_, _, ⟨F8, b8, PySem.W.mg_of X G a8⟩⟩, ⟨_, _, ⟨F9, b9, PySem.W.mg_of X G a9⟩⟩, ⟨_, _, ⟨F10, b10, PySem.W.mg_of X G a10⟩⟩, ⟨_, _, ⟨F11, b11, PySem.W.mg_of X G a11⟩⟩, ⟨_, _, ⟨F12, b12, PySem.W.mg_of X G a12⟩⟩, ⟨_, _, ⟨F13, b13, PySem.W.mg_of X G a13⟩⟩, ⟨_, _, ⟨F14, b14, PySem.W.mg_of X G a14⟩⟩, ⟨_, _, ⟨F15, b15, PySem.W.mg_of X G a15⟩⟩, ⟨_, _, ⟨F16, b16, PySem.W.mg_of X G a16⟩⟩, ⟨_, _, ⟨F17, b17, PySem.W.mg_of X G a17⟩⟩, ⟨_, _, ⟨F18, b18, PySem.W.mg_of X G a18⟩⟩, ⟨_, _, ⟨F19, b19, PySem.W.mg_of X G a19⟩⟩, ⟨_, _, ⟨F20, b20, PySem.W.mg_of X G a20⟩⟩, ⟨_, _, ⟨F21, b21, PySem.W.mg_of X G a21⟩⟩, ⟨_, _, ⟨F22, b22, PySem.W.mg_of X G a22⟩⟩⟩
  refine ⟨_, fun s v => ?_, fun base _ _ => ok_law F23 Z⟩
  exact .of_eq rfl
theorem tells : Tells spLaw := fun K H a ns hl hS => ⟨a, ns, rfl, hS, hl, fun _ => rfl⟩
end Fw

open PySem PySem.W PyProof.Rows in
set_option maxRecDepth 100000 in
set_option maxHeartbeats 0 in
theorem PySem.Challenge.cw_fromwithin_k17_whole_surplus_preserved_holds : PySem.Challenge.rw_fromwithin_k17_whole_surplus_preserved.Holds := by
  w_on; o_law; k_head; (case hw => w_witness2)
  k_fill
  refine Fw.walkG (l := PySem.Challenge.rw_fromwithin_k17_whole_surplus_preserved) (k := 7) Fw.tells rfl rfl ⟨rfl, by decide, by decide⟩ (fun w h Y => PySem.W.kIn_of Y) ?F
  case F =>
    intro w mg fa h KX G hmg
    refine' Fw.all_mk KX G hmg ?a1 ?l1 ?c1 ?k1 ?a2 ?l2 ?c2 ?k2 ?a3 ?l3 ?c3 ?k3 ?a4 ?l4 ?c4 ?k4 ?a5 ?l5 ?c5 ?k5 ?a6 ?l6 ?c6 ?k6 ?a7 ?l7 ?c7 ?k7 ?a8 ?l8 ?c8 ?k8 ?a9 ?l9 ?c9 ?k9 ?a10 ?l10 ?c10 ?k10 ?a11 ?l11 ?c11 ?k11 ?a12 ?l12 ?c12 ?k12 ?a13 ?l13 ?c13 ?k13 ?a14 ?l14 ?c14 ?k14 ?a15 ?l15 ?c15 ?k15 ?a16 ?l16 ?c16 ?k16 ?a17 ?l17 ?c17 ?k17 ?a18 ?l18 ?c18 ?k18 ?a19 ?l19 ?c19 ?k19 ?a20 ?l20 ?c20 ?k20 ?a21 ?l21 ?c21 ?k21 ?a22 ?l22 ?c22 ?k22 ?a23 ?l23 ?c23 ?k23 ?z_abs ?z_len ?z_list ?z_range ?z_min ?z_max ?z_tuple ?z_sorted ?z_isinstance ?z_all ?z_zip ?z_bool ?z_int ?z_str ?z_repr ?z_any ?z_dict ?z_sum
    (case a1 => k_is)
    (case l1 => k_is)
    (case c1 => k_is)
    (case k1 => k_is)
    (case a2 => k_is)
    (case l2 => k_is)
    (case c2 => k_is)
    (case k2 => k_is)
    (case a3 => k_is)
    (case l3 => k_is)
    (case c3 => k_is)
    (case k3 => k_is)
    (case a4 => k_is)
    (case l4 => k_is)
    (case c4 => k_is)
    (case k4 => k_is)
    (case a5 => k_is)
    (case l5 => k_is)
    (case c5 => k_is)
    (case k5 => k_is)
    (case a6 => k_is)
    (case l6 => k_is)
    (case c6 => k_is)
    (case k6 => k_is)
    (case a7 => k_is)
    (case l7 => k_is)
    (case c7 => k_is)
    (case k7 => k_is)
    (case a8 => k_is)
    (case l8 => k_is)
    (case c8 => k_is)
    (case k8 => k_is)
    (case a9 => k_is)
    (case l9 => k_is)
    (case c9 => k_is)
    (case k9 => k_is)
    (case a10 => k_is)
    (case l10 => k_is)
    (case c10 => k_is)
    (case k10 => k_is)
    (case a11 => k_is)
    (case l11 => k_is)
    (case c11 => k_is)
    (case k11 => k_is)
    (case a12 => k_is)
    (case l12 => k_is)
    (case c12 => k_is)
    (case k12 => k_is)
    (case a13 => k_is)
    (case l13 => k_is)
    (case c13 => k_is)
    (case k13 => k_is)
    (case a14 => k_is)
    (case l14 => k_is)
    (case c14 => k_is)
    (case k14 => k_is)
    (case a15 => k_is)
    (case l15 => k_is)
    (case c15 => k_is)
    (case k15 => k_is)
    (case a16 => k_is)
    (case l16 => k_is)
    (case c16 => k_is)
    (case k16 => k_is)
    (case a17 => k_is)
    (case l17 => k_is)
    (case c17 => k_is)
    (case k17 => k_is)
    (case a18 => k_is)
    (case l18 => k_is)
    (case c18 => k_is)
    (case k18 => k_is)
    (case a19 => k_is)
    (case l19 => k_is)
    (case c19 => k_is)
    (case k19 => k_is)
    (case a20 => k_is)
    (case l20 => k_is)
    (case c20 => k_is)
    (case k20 => k_is)
    (case a21 => k_is)
    (case l21 => k_is)
    (case c21 => k_is)
    (case k21 => k_is)
    (case a22 => k_is)
    (case l22 => k_is)
    (case c22 => k_is)
    (case k22 => k_is)
    (case a23 => k_is)
    (case l23 => k_is)
    (case c23 => k_is)
    (case k23 => k_is)
    (case z_abs => k_is)
    (case z_len => k_is)
    (case z_list => k_is)
    (case z_range => k_is)
    (case z_min => k_is)
    (case z_max => k_is)
    (case z_tuple => k_is)
    (case z_sorted => k_is)
    (case z_isinstance => k_is)
    (case z_all => k_is)
    (case z_zip => k_is)
    (case z_bool => k_is)
    (case z_int => k_is)
    (case z_str => k_is)
    (case z_repr => k_is)
    (case z_any => k_is)
    (case z_dict => k_is)
    (case z_sum => k_is)
