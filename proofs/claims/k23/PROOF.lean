import PyProof.Rows.All
import Wide.All
import OpenK.AllK
import Wide.FinOn
import HandS.ForMost
import HandS.Wide
import HandS.Conv
import HandS.Style
import HandS.Sort
import HandS.SortRule
import HandS.SortInts
import HandS.Deep
import HandS.Text
import HandS.Words
import HandS.IsInst
import HandS.More
import HandS.TupSets
import HandS.Zip
import HandS.Walk
import KE.KDictPairs
import HandS.Small
import HandS.TupAny
import HandS.Flow
import HandS.NoneIn
import PyProof.EqKinds
import KE.KDictKeyed
import KE.KeyNested
import KE.KDictLaw
import KE.KDictDisplayH
import PySem.Challenge.RW_fromwithin_k23_whole_solvable_by_search
set_option Elab.async false
set_option linter.all false
set_option maxRecDepth 100000
/-! Forests grown room by room: simple ways in them are unique. -/
namespace Fw

def adj (D : List (Int × Int)) (a b : Int) : Prop := (a, b) ∈ D ∨ (b, a) ∈ D

theorem adj_symm {D : List (Int × Int)} {a b : Int} (h : adj D a b) : adj D b a := h.symm

/-- a way without a room twice -/
inductive SP (R : Int → Int → Prop) : Int → Int → List Int → Prop
  | one (a : Int) : SP R a a [a]
  | cons {a c b : Int} {p : List Int} : R a c → SP R c b p → a ∉ p → SP R a b (a :: p)

section
variable {R R' : Int → Int → Prop}
theorem SP.head {a b : Int} {p : List Int} (h : SP R a b p) : a ∈ p := by
  cases h <;> simp
theorem SP.last {a b : Int} {p : List Int} (h : SP R a b p) : b ∈ p := by
  induction h with
  | one a => simp
  | cons _ _ _ ih => exact List.mem_cons_of_mem _ ih
theorem SP.loop {a : Int} {p : List Int} (h : SP R a a p) : p = [a] := by
  cases h with
  | one => rfl
  | cons r q n => exact absurd q.last n
theorem SP.nodup {a b : Int} {p : List Int} (h : SP R a b p) : p.Nodup := by
  induction h with
  | one a => simp
  | cons _ _ n ih => exact List.nodup_cons.mpr ⟨n, ih⟩
theorem SP.snoc {a b c : Int} {p : List Int} (h : SP R a b p) (r : R b c) (n : c ∉ p) : SP R a c (p ++ [c]) := by
  induction h with
  | one a =>
    refine .cons r (.one c) ?_
    intro e
    have e : a = c := List.mem_singleton.mp e
    exact n (by rw [e]; simp)
  | cons r' q n' ih =>
    rename_i a' c' b' p'
    rw [List.mem_cons, not_or] at n
    refine .cons r' (ih r n.2) ?_
    intro e
    rcases List.mem_append.mp e with e | e
    · exact n' e
    · exact n.1 (List.mem_singleton.mp e).symm
theorem SP.map {a b : Int} {p : List Int} (h : SP R a b p) (f : ∀ x y, x ∈ p → y ∈ p → R x y → R' x y) : SP R' a b p := by
  induction h with
  | one a => exact .one a
  | cons r q n ih =>
    exact .cons (f _ _ (List.mem_cons_self ..) (List.mem_cons_of_mem _ q.head) r) (ih fun x y hx hy => f x y (List.mem_cons_of_mem _ hx) (List.mem_cons_of_mem _ hy)) n
/-- what is closed under R and holds the end holds the start, and the other way -/
theorem SP.back {S : Int → Prop} (hs : ∀ x y, R x y → S y → S x) {a b : Int} {p : List Int} (h : SP R a b p) (e : S b) : S a := by
  induction h with
  | one a => exact e
  | cons r _ _ ih => exact hs _ _ r (ih e)
theorem SP.forth {S : Int → Prop} (hs : ∀ x y, R x y → S x → S y) {a b : Int} {p : List Int} (h : SP R a b p) (e : S a) : S b := by
  induction h with
  | one a => exact e
  | cons r _ _ ih => exact ih (hs _ _ r e)
end

def Uniq (R : Int → Int → Prop) : Prop := ∀ a b p q, SP R a b p → SP R a b q → p = q

section
variable {R R' : Int → Int → Prop} {u v : Int}
/-- one more leaf v, on u -/
structure Leaf (R R' : Int → Int → Prop) (u v : Int) : Prop where
  iff : ∀ x y, R' x y ↔ (R x y ∨ (x = u ∧ y = v) ∨ (x = v ∧ y = u))
  no1 : ∀ x, ¬ R v x
  no2 : ∀ x, ¬ R x v
  ne : u ≠ v
theorem Leaf.into (L : Leaf R R' u v) {x : Int} (h : R' x v) : x = u := by
  rcases (L.iff x v).mp h with h | h | h
  · exact absurd h (L.no2 x)
  · exact h.1
  · exact absurd h.2.symm L.ne
theorem Leaf.out (L : Leaf R R' u v) {x : Int} (h : R' v x) : x = u := by
  rcases (L.iff v x).mp h with h | h | h
  · exact absurd h (L.no1 x)
  · exact absurd h.1.symm L.ne
  · exact h.2
theorem Leaf.off (L : Leaf R R' u v) {x y : Int} (hx : x ≠ v) (hy : y ≠ v) (h : R' x y) : R x y := by
  rcases (L.iff x y).mp h with h | h | h
  · exact h
  · exact absurd h.2 hy
  · exact absurd h.1 hx
theorem Leaf.avoid (L : Leaf R R' u v) {a b : Int} {p : List Int} (h : SP R' a b p) (n : v ∉ p) : SP R a b p :=
  h.map fun x y hx hy r => L.off (fun e => n (e ▸ hx)) (fun e => n (e ▸ hy)) r
theorem Leaf.free (L : Leaf R R' u v) {a b : Int} {p : List Int} (h : SP R' a b p) (ha : a ≠ v) (hb : b ≠ v) : v ∉ p := by
  induction h with
  | one a =>
    intro e
    rw [List.mem_singleton] at e
    exact ha e.symm
  | cons r q n ih =>
    rename_i a' c' b' p'
    by_cases hc : c' = v
    · subst hc
      have e := L.into r
      cases q with
      | one => exact absurd rfl hb
      | cons r2 q2 n2 =>
        rename_i c2 p2
        have e2 := L.out r2
        exact absurd (List.mem_cons_of_mem _ (e ▸ e2 ▸ q2.head)) n
    · intro e
      rw [List.mem_cons] at e
      rcases e with e | e
      · exact ha e.symm
      · exact ih hc hb e
theorem Leaf.from (L : Leaf R R' u v) {b : Int} {p : List Int} (h : SP R' v b p) (hb : b ≠ v) : ∃ p', p = v :: p' ∧ SP R u b p' := by
  cases h with
  | one => exact absurd rfl hb
  | cons r q n =>
    rename_i c p'
    have e := L.out r
    subst e
    exact ⟨p', rfl, L.avoid q n⟩
theorem Leaf.to (L : Leaf R R' u v) {a b : Int} {p : List Int} (h : SP R' a b p) : a ≠ v → b = v → ∃ p', p = p' ++ [v] ∧ SP R a u p' := by
  induction h with
  | one a =>
    intro h1 h2
    exact absurd h2 h1
  | cons r q n ih =>
    rename_i a' c' b' p'
    intro h1 h2
    by_cases hc : c' = v
    · subst hc
      subst h2
      have e := L.into r
      subst e
      have e2 := q.loop
      subst e2
      exact ⟨[a'], rfl, .one _⟩
    · obtain ⟨p2, e, q2⟩ := ih hc h2
      refine ⟨a' :: p2, by rw [e]; rfl, .cons (L.off h1 hc r) q2 ?_⟩
      intro m
      exact n (by rw [e]; exact List.mem_append_left _ m)
theorem Leaf.uniq (L : Leaf R R' u v) (U : Uniq R) : Uniq R' := by
  intro a b p q hp hq
  by_cases ha : a = v
  · subst ha
    by_cases hb : b = a
    · subst hb
      rw [hp.loop, hq.loop]
    · obtain ⟨p', e1, s1⟩ := L.from hp hb
      obtain ⟨q', e2, s2⟩ := L.from hq hb
      rw [e1, e2, U _ _ _ _ s1 s2]
  · by_cases hb : b = v
    · obtain ⟨p', e1, s1⟩ := L.to hp ha hb
      obtain ⟨q', e2, s2⟩ := L.to hq ha hb
      rw [e1, e2, U _ _ _ _ s1 s2]
    · exact U _ _ _ _ (L.avoid hp (L.free hp ha hb)) (L.avoid hq (L.free hq ha hb))
end

/-- a forest, room by room: the rooms that stand, and the doors -/
inductive Grown : List Int → List (Int × Int) → Prop
  | nil : Grown [] []
  | room {U : List Int} {E : List (Int × Int)} (v : Int) : Grown U E → v ∉ U → Grown (v :: U) E
  | door {U : List Int} {E : List (Int × Int)} (v u a b : Int) : Grown U E → v ∉ U → u ∈ U → (a = min u v ∧ b = max u v) → Grown (v :: U) ((a, b) :: E)

theorem minmax (u v a b : Int) (h : a = min u v ∧ b = max u v) : (a = u ∧ b = v ∧ u ≤ v) ∨ (a = v ∧ b = u ∧ v ≤ u) := by
  omega

theorem Grown.ends {U : List Int} {E : List (Int × Int)} (g : Grown U E) : ∀ a b, (a, b) ∈ E → a ∈ U ∧ b ∈ U ∧ a < b := by
  induction g with
  | nil => intro a b h; cases h
  | room v g n ih => intro a b h; exact ⟨List.mem_cons_of_mem _ (ih a b h).1, List.mem_cons_of_mem _ (ih a b h).2.1, (ih a b h).2.2⟩
  | door v u x y g n hu hm ih =>
    intro a b h
    have hne : u ≠ v := fun e => n (e ▸ hu)
    rw [List.mem_cons] at h
    rcases h with h | h
    · injection h with h1 h2
      subst h1 h2
      rcases minmax u v a b hm with ⟨h1, h2, h3⟩ | ⟨h1, h2, h3⟩
      · subst h1 h2
        exact ⟨List.mem_cons_of_mem _ hu, List.mem_cons_self .., by omega⟩
      · subst h1 h2
        exact ⟨List.mem_cons_self .., List.mem_cons_of_mem _ hu, by omega⟩
    · exact ⟨List.mem_cons_of_mem _ (ih a b h).1, List.mem_cons_of_mem _ (ih a b h).2.1, (ih a b h).2.2⟩

theorem Grown.nodup {U : List Int} {E : List (Int × Int)} (g : Grown U E) : E.Nodup := by
  induction g with
  | nil => exact List.nodup_nil
  | room v g n ih => exact ih
  | door v u x y g n hu hm ih =>
    refine List.nodup_cons.mpr ⟨fun h => ?_, ih⟩
    have e := g.ends x y h
    rcases minmax u v x y hm with ⟨h1, h2, _⟩ | ⟨h1, h2, _⟩
    · exact n (h2 ▸ e.2.1)
    · exact n (h1 ▸ e.1)

theorem Grown.length {U : List Int} {E : List (Int × Int)} (g : Grown U E) : E.length ≤ U.length := by
  induction g with
  | nil => exact Nat.le_refl _
  | room v g n ih => exact Nat.le_succ_of_le ih
  | door v u x y g n hu hm ih => exact Nat.succ_le_succ ih

theorem Grown.uniq {U : List Int} {E : List (Int × Int)} (g : Grown U E) : Uniq (adj E) := by
  induction g with
  | nil =>
    intro a b p q hp hq
    have k : ∀ {p : List Int}, SP (adj []) a b p → p = [a] := by
      intro p hp
      cases hp with
      | one => rfl
      | cons r _ _ => rcases r with r | r <;> cases r
    rw [k hp, k hq]
  | room v g n ih => exact ih
  | @door U E v u x y g n hu hm ih =>
    have L : Leaf (adj E) (adj ((x, y) :: E)) u v := by
      refine ⟨fun a b => ?_, fun z h => ?_, fun z h => ?_, fun e => n (e ▸ hu)⟩
      · unfold adj
        simp only [List.mem_cons, Prod.mk.injEq]
        rcases minmax u v x y hm with ⟨h1, h2, _⟩ | ⟨h1, h2, _⟩
        · subst h1 h2
          constructor
          · rintro ((h | h) | (h | h))
            · exact .inr (.inl h)
            · exact .inl (.inl h)
            · exact .inr (.inr ⟨h.2, h.1⟩)
            · exact .inl (.inr h)
          · rintro ((h | h) | h | h)
            · exact .inl (.inr h)
            · exact .inr (.inr h)
            · exact .inl (.inl h)
            · exact .inr (.inl ⟨h.2, h.1⟩)
        · subst h1 h2
          constructor
          · rintro ((h | h) | (h | h))
            · exact .inr (.inr h)
            · exact .inl (.inl h)
            · exact .inr (.inl ⟨h.2, h.1⟩)
            · exact .inl (.inr h)
          · rintro ((h | h) | h | h)
            · exact .inl (.inr h)
            · exact .inr (.inr h)
            · exact .inr (.inl ⟨h.2, h.1⟩)
            · exact .inl (.inl h)
      · rcases h with h | h
        · exact n (g.ends _ _ h).1
        · exact n (g.ends _ _ h).2.1
      · rcases h with h | h
        · exact n (g.ends _ _ h).2.1
        · exact n (g.ends _ _ h).1
    exact L.uniq ih

/-- a door stands ahead of another -/
def Dlt (a b : Int × Int) : Prop := a.1 < b.1 ∨ (a.1 = b.1 ∧ a.2 < b.2)
/-- a forest of n rooms, as an ascending list of doors -/
def Forest (n : Int) (D : List (Int × Int)) : Prop := ∃ U E, Grown U E ∧ (∀ x, x ∈ U ↔ 0 ≤ x ∧ x < n) ∧ D.Perm E ∧ U.length ≤ 8 ∧ D.Pairwise Dlt

theorem adj_perm {D E : List (Int × Int)} (h : D.Perm E) : adj D = adj E := by
  funext a b
  unfold adj
  rw [h.mem_iff, h.mem_iff]
theorem Forest.uniq {n : Int} {D : List (Int × Int)} (f : Forest n D) : Uniq (adj D) := by
  obtain ⟨U, E, g, _, p, _⟩ := f
  rw [adj_perm p]
  exact g.uniq
theorem Forest.nodup {n : Int} {D : List (Int × Int)} (f : Forest n D) : D.Nodup := by
  obtain ⟨U, E, g, _, p, _⟩ := f
  exact p.nodup_iff.mpr g.nodup
theorem Forest.up {n : Int} {D : List (Int × Int)} (f : Forest n D) : D.Pairwise Dlt := by
  obtain ⟨U, E, _, _, _, _, u⟩ := f
  exact u
theorem Forest.len {n : Int} {D : List (Int × Int)} (f : Forest n D) : D.length ≤ 8 := by
  obtain ⟨U, E, g, _, p, l, _⟩ := f
  rw [p.length_eq]
  exact Nat.le_trans g.length l
theorem Forest.ends {n : Int} {D : List (Int × Int)} (f : Forest n D) {a b : Int} (h : (a, b) ∈ D) : 0 ≤ a ∧ a < b ∧ b < n := by
  obtain ⟨U, E, g, u, p, _⟩ := f
  have e := g.ends a b (p.mem_iff.mp h)
  exact ⟨((u a).mp e.1).1, e.2.2, ((u b).mp e.2.1).2⟩
theorem Forest.adj {n : Int} {D : List (Int × Int)} (f : Forest n D) {a b : Int} (h : adj D a b) : 0 ≤ a ∧ a < n ∧ 0 ≤ b ∧ b < n := by
  rcases h with h | h
  · have e := f.ends h; omega
  · have e := f.ends h; omega

/-- the adjacent rooms, ascending -/
def nb (n : Int) (D : List (Int × Int)) (r : Int) : List Int := ((List.range n.toNat).map fun (i : Nat) => (i : Int)).filter fun o => decide ((r, o) ∈ D) || decide ((o, r) ∈ D)
theorem mem_nb {n : Int} {D : List (Int × Int)} {r o : Int} : o ∈ nb n D r ↔ (0 ≤ o ∧ o < n) ∧ adj D r o := by
  unfold nb adj
  rw [List.mem_filter, List.mem_map]
  simp only [List.mem_range, Bool.or_eq_true, decide_eq_true_eq]
  constructor
  · rintro ⟨⟨i, hi, rfl⟩, h⟩
    exact ⟨⟨by omega, by omega⟩, h⟩
  · rintro ⟨⟨h0, h1⟩, h⟩
    exact ⟨⟨o.toNat, by omega, by omega⟩, h⟩
theorem Forest.mem_nb {n : Int} {D : List (Int × Int)} (f : Forest n D) {r o : Int} : o ∈ nb n D r ↔ Fw.adj D r o := by
  rw [Fw.mem_nb]
  exact ⟨fun h => h.2, fun h => ⟨⟨(f.adj h).2.2.1, (f.adj h).2.2.2⟩, h⟩⟩
theorem range_up (n : Nat) : ((List.range n).map fun (i : Nat) => (i : Int)).Pairwise (· < ·) := by
  rw [List.pairwise_map]
  exact List.pairwise_lt_range.imp fun h => by omega
theorem nb_up (n : Int) (D : List (Int × Int)) (r : Int) : (nb n D r).Pairwise (· < ·) := (range_up _).filter _
theorem nb_len (n : Int) (D : List (Int × Int)) (r : Int) : (nb n D r).length ≤ n.toNat := by
  unfold nb
  refine Nat.le_trans (List.length_filter_le _ _) ?_
  simp

/-- two ascending lists with the same members are one -/
theorem up_ext : ∀ {xs ys : List Int}, xs.Pairwise (· < ·) → ys.Pairwise (· < ·) → (∀ x, x ∈ xs ↔ x ∈ ys) → xs = ys
  | [], [], _, _, _ => rfl
  | [], y :: ys, _, _, h => absurd ((h y).mpr (List.mem_cons_self ..)) (by simp)
  | x :: xs, [], _, _, h => absurd ((h x).mp (List.mem_cons_self ..)) (by simp)
  | x :: xs, y :: ys, hx, hy, h => by
    obtain ⟨hx1, hx2⟩ := List.pairwise_cons.mp hx
    obtain ⟨hy1, hy2⟩ := List.pairwise_cons.mp hy
    have e : x = y := by
      have h1 := (h x).mp (List.mem_cons_self ..)
      have h2 := (h y).mpr (List.mem_cons_self ..)
      rw [List.mem_cons] at h1 h2
      rcases h1 with h1 | h1
      · exact h1
      · rcases h2 with h2 | h2
        · exact h2.symm
        · have := hy1 _ h1
          have := hx1 _ h2
          omega
    subst e
    rw [up_ext hx2 hy2 fun z => ?_]
    have hz := h z
    rw [List.mem_cons, List.mem_cons] at hz
    constructor
    · intro m
      rcases hz.mp (.inr m) with e | e
      · subst e; have := hx1 _ m; omega
      · exact e
    · intro m
      rcases hz.mpr (.inr m) with e | e
      · subst e; have := hy1 _ m; omega
      · exact e
theorem up_of {xs : List Int} (h : xs.Pairwise (· ≤ ·)) (n : xs.Nodup) : xs.Pairwise (· < ·) := by
  refine (h.and n).imp ?_
  intro a b ⟨h1, h2⟩
  omega

/-- the doors from r and to r, as the law lists them -/
def outs (D : List (Int × Int)) (r : Int) : List Int := (D.filter fun d => decide (d.1 = r)).map (·.2)
def ins (D : List (Int × Int)) (r : Int) : List Int := (D.filter fun d => decide (d.2 = r)).map (·.1)
theorem mem_outs {D : List (Int × Int)} {r o : Int} : o ∈ outs D r ↔ (r, o) ∈ D := by
  unfold outs
  simp only [List.mem_map, List.mem_filter, decide_eq_true_eq]
  constructor
  · rintro ⟨⟨a, b⟩, ⟨h, rfl⟩, rfl⟩; exact h
  · intro h; exact ⟨(r, o), ⟨h, rfl⟩, rfl⟩
theorem mem_ins {D : List (Int × Int)} {r o : Int} : o ∈ ins D r ↔ (o, r) ∈ D := by
  unfold ins
  simp only [List.mem_map, List.mem_filter, decide_eq_true_eq]
  constructor
  · rintro ⟨⟨a, b⟩, ⟨h, rfl⟩, rfl⟩; exact h
  · intro h; exact ⟨(o, r), ⟨h, rfl⟩, rfl⟩
theorem nodup_map_on {α β : Type} {f : α → β} : ∀ {xs : List α}, xs.Nodup → (∀ x y, x ∈ xs → y ∈ xs → f x = f y → x = y) → (xs.map f).Nodup
  | [], _, _ => List.nodup_nil
  | x :: xs, n, h => by
    obtain ⟨n1, n2⟩ := List.nodup_cons.mp n
    rw [List.map_cons]
    refine List.nodup_cons.mpr ⟨fun m => ?_, nodup_map_on n2 fun a b ha hb => h a b (List.mem_cons_of_mem _ ha) (List.mem_cons_of_mem _ hb)⟩
    obtain ⟨y, hy, e⟩ := List.mem_map.mp m
    have := h y x (List.mem_cons_of_mem _ hy) (List.mem_cons_self ..) e
    subst this
    exact n1 hy
theorem Forest.both_nodup {n : Int} {D : List (Int × Int)} (f : Forest n D) (r : Int) : (outs D r ++ ins D r).Nodup := by
  rw [List.nodup_append]
  refine ⟨?_, ?_, ?_⟩
  · refine nodup_map_on (f.nodup.filter _) ?_
    rintro ⟨a, b⟩ ⟨c, d⟩ h1 h2 e
    have e1 := of_decide_eq_true (List.mem_filter.mp h1).2
    have e2 := of_decide_eq_true (List.mem_filter.mp h2).2
    simp only at e e1 e2
    rw [e, e1, e2]
  · refine nodup_map_on (f.nodup.filter _) ?_
    rintro ⟨a, b⟩ ⟨c, d⟩ h1 h2 e
    have e1 := of_decide_eq_true (List.mem_filter.mp h1).2
    have e2 := of_decide_eq_true (List.mem_filter.mp h2).2
    simp only at e e1 e2
    rw [e, e1, e2]
  · intro a ha b hb e
    subst e
    have h1 := f.ends (mem_outs.mp ha)
    have h2 := f.ends (mem_ins.mp hb)
    omega
theorem Forest.sorted_nb {n : Int} {D : List (Int × Int)} (f : Forest n D) {r : Int} {ys : List Int} (p : ys.Perm (outs D r ++ ins D r)) (s : ys.Pairwise (· ≤ ·)) : ys = nb n D r := by
  refine up_ext (up_of s (p.nodup_iff.mpr (f.both_nodup r))) (nb_up n D r) fun x => ?_
  rw [p.mem_iff, List.mem_append, mem_outs, mem_ins, f.mem_nb]
  exact Iff.rfl

/-- the doors to r and from r, one list behind the other, as the program lists them -/
theorem Forest.nb_eq {n : Int} {D : List (Int × Int)} (f : Forest n D) (r : Int) : ins D r ++ outs D r = nb n D r := by
  refine up_ext ?_ (nb_up n D r) fun x => ?_
  · rw [List.pairwise_append]
    refine ⟨?_, ?_, fun a ha b hb => ?_⟩
    · unfold ins
      rw [List.pairwise_map]
      refine (f.up.filter _).imp_of_mem fun {x y} hx hy h => ?_
      have e1 : x.2 = r := of_decide_eq_true (List.mem_filter.mp hx).2
      have e2 : y.2 = r := of_decide_eq_true (List.mem_filter.mp hy).2
      unfold Dlt at h
      omega
    · unfold outs
      rw [List.pairwise_map]
      refine (f.up.filter _).imp_of_mem fun {x y} hx hy h => ?_
      have e1 : x.1 = r := of_decide_eq_true (List.mem_filter.mp hx).2
      have e2 : y.1 = r := of_decide_eq_true (List.mem_filter.mp hy).2
      unfold Dlt at h
      omega
    · have h1 := f.ends (mem_ins.mp ha)
      have h2 := f.ends (mem_outs.mp hb)
      omega
  · rw [List.mem_append, mem_outs, mem_ins, f.mem_nb]
    exact or_comm
/-- how many rooms below n are not in S: it falls when one more is -/
def left (n : Nat) (S : Int → Bool) : Nat := (List.range n).countP fun (i : Nat) => !S (i : Int)
theorem countP_lt {α : Type} {p q : α → Bool} : ∀ {l : List α} {x : α}, (∀ y ∈ l, q y = true → p y = true) → x ∈ l → p x = true → q x = false → l.countP q < l.countP p
  | [], _, _, m, _, _ => by cases m
  | y :: l, x, h, m, hp, hq => by
    have hm : l.countP q ≤ l.countP p := List.countP_mono_left fun z hz => h z (List.mem_cons_of_mem _ hz)
    rw [List.countP_cons, List.countP_cons]
    rw [List.mem_cons] at m
    by_cases e : x = y
    · subst e
      rw [if_neg (by rw [hq]; exact Bool.false_ne_true), if_pos hp]
      omega
    · have ih := countP_lt (fun z hz => h z (List.mem_cons_of_mem _ hz)) (m.resolve_left e) hp hq
      have hy := h y (List.mem_cons_self ..)
      by_cases c : q y = true
      · rw [if_pos c, if_pos (hy c)]; omega
      · rw [if_neg c]; omega
theorem left_lt {n : Nat} {S S' : Int → Bool} {o : Int} (h : ∀ x, S x = true → S' x = true) (h0 : 0 ≤ o) (h1 : o < n) (hs : S o = false) (hs' : S' o = true) : left n S' < left n S := by
  refine countP_lt (x := o.toNat) (fun y _ hy => ?_) (List.mem_range.mpr (by omega)) ?_ ?_
  · cases e : S (y : Int) with
    | false => rfl
    | true => rw [h _ e] at hy; cases hy
  · rw [show ((o.toNat : Nat) : Int) = o by omega, hs]; rfl
  · rw [show ((o.toNat : Nat) : Int) = o by omega, hs']; rfl
theorem left_le (n : Nat) (S : Int → Bool) : left n S ≤ n := by
  refine Nat.le_trans List.countP_le_length ?_
  simp
end Fw
namespace Fw
open PySem PySem.Spec PyProof.Rows L2
def top (i : Nat) : Stmt := PySem.Challenge.pw_fromwithin_k23_whole_solvable_by_search.main.body.getD i (.Pass ⟨0, 0, 0, 0⟩)
abbrev sNb : Stmt := top 1
abbrev sPath : Stmt := top 2
abbrev sComp : Stmt := top 3
abbrev sSteps : Stmt := top 4
abbrev iUnknownPerson : Stmt := inClass (top 7) 0
abbrev sRoomOf : Stmt := top 9
abbrev sPIn : Stmt := top 10
abbrev sPWi : Stmt := top 11
abbrev sPassed : Stmt := top 13
abbrev sPTgt : Stmt := top 14
abbrev sNextT : Stmt := top 15
abbrev sFree : Stmt := top 16
abbrev sSolv : Stmt := top 17
abbrev sAllAt : Stmt := top 18
abbrev sSolvW : Stmt := top 19
abbrev sAhead : Stmt := top 20
abbrev sCWo : Stmt := top 21
abbrev sStream : Stmt := top 23
abbrev sDraw : Stmt := top 24
abbrev sSame : Stmt := top 25
abbrev sNames : Stmt := top 26
abbrev sLNb : Stmt := top 27
abbrev sLMoved : Stmt := top 28
abbrev sLMoves : Stmt := top 29
abbrev sLReach : Stmt := top 30
abbrev sLWalk : Stmt := top 31
abbrev sLFull : Stmt := top 32
abbrev sLNear : Stmt := top 33
abbrev sLaw : Stmt := top 34
end Fw
namespace Fw
open PySem PySem.Spec PyProof.Rows L2
abbrev vi (ns : List Int) : List V := ns.map V.int

theorem same_upd {H : Hp} {p : Addr} {o : HO} (h : H p = none) : Same H (upd H p o) := fun b x e => by
  rw [upd_ne (ne_of_none e h)]
  exact e

/-- the stream of draws: s the list of three, A the great cells, B all cells; c bounds the count -/
structure StreamAt (H : Hp) (s A B : Addr) (c : Nat) : Prop where
  ex : ∃ (big cells : List Int) (cnt : Int), H s = some (.lst [.ref A, .ref B, .int cnt]) ∧ H A = some (.lst (vi big)) ∧ H B = some (.lst (vi cells)) ∧
    (∀ x ∈ big, 0 ≤ x) ∧ (∀ x ∈ cells, 0 ≤ x) ∧ 0 < cells.length ∧ cells.length ≤ 100 ∧ big.length ≤ 100 ∧ 0 ≤ cnt ∧ cnt ≤ c
  nAB : A ≠ B
  nsA : s ≠ A
  nsB : s ≠ B
/-- all but the stream's own lists stands as before -/
def Fr (s A : Addr) (H H' : Hp) : Prop := ∀ b o, b ≠ s → b ≠ A → H b = some o → H' b = some o
theorem Fr.trans {s A : Addr} {H H1 H2 : Hp} (a : Fr s A H H1) (b : Fr s A H1 H2) : Fr s A H H2 := fun c o h1 h2 e => b c o h1 h2 (a c o h1 h2 e)
theorem Fr.of {s A : Addr} {H H1 : Hp} (a : Same H H1) : Fr s A H H1 := fun c o _ _ e => a c o e

theorem same_put {H H1 : Hp} {p : Addr} {o : HO} (s : Same H H1) (h : H p = none) : Same H (upd H1 p o) := fun b x e => by
  rw [upd_ne (ne_of_none e h)]
  exact s _ _ e
theorem get_vi {ns : List Int} {i : Nat} {x : V} (h : (vi ns)[i]? = some x) : ∃ v, ns[i]? = some v ∧ x = .int v := by
  rw [List.getElem?_map] at h
  cases e : ns[i]? with
  | none => rw [e] at h; cases h
  | some v => rw [e] at h; exact ⟨v, rfl, (Option.some.inj h).symm⟩
theorem vi_app (a b : List Int) : vi (a ++ b) = vi a ++ vi b := List.map_append
def absI (i : Int) : Int := if i < 0 then -i else i
theorem absI_pos (i : Int) : 0 ≤ absI i := by unfold absI; split <;> omega
/-- the builtins' names are not taken -/
structure Nm (mg : Str → Option Value) : Prop where
  abs : mg "abs" = none
  len : mg "len" = none
  list : mg "list" = none
  range : mg "range" = none
  min : mg "min" = none
  max : mg "max" = none
  tuple : mg "tuple" = none
  sorted : mg "sorted" = none
  isinstance : mg "isinstance" = none
  all : mg "all" = none
  zip : mg "zip" = none
  bool : mg "bool" = none
  int : mg "int" = none
  str : mg "str" = none
  repr : mg "repr" = none

/-! ### data -/
theorem dp_ints {K : PySem.W.Frag} {H : Hp} : ∀ ns : List Int, DpAll K H (vi ns) (ns.map PyData.int)
  | [] => .nil
  | n :: ns => .cons (.int n) (dp_ints ns)
theorem lay_ints : ∀ ns : List Int, PyData.canLayAll0 (ns.map PyData.int) = true
  | [] => by simp [PyData.canLayAll0]
  | n :: ns => by
    rw [List.map_cons, PyData.canLayAll0, lay_ints ns, PyData.canLay0]
    rfl
theorem deep_ints : ∀ ns : List Int, PyData.depthAll (ns.map PyData.int) = 0
  | [] => by simp [PyData.depthAll]
  | n :: ns => by
    rw [List.map_cons, PyData.depthAll, deep_ints ns, PyData.depth]
    rfl
theorem shaped_list (ns : List Int) : SeqAt.shaped (.list (ns.map PyData.int)) = true := by
  unfold SeqAt.shaped
  rw [PyData.canLay0, lay_ints, PyData.depth, deep_ints]
  decide
theorem shaped_tup (ns : List Int) : SeqAt.shaped (.tuple (ns.map PyData.int)) = true := by
  unfold SeqAt.shaped
  rw [PyData.canLay0, lay_ints, PyData.depth, deep_ints]
  decide
theorem eqv_nil (ns : List Int) : PyData.eqv (.list (ns.map PyData.int)) (.list []) = ns.isEmpty := by
  rw [PyData.eqv]
  cases ns with
  | nil => rw [List.map_nil, PyData.eqvAll]; rfl
  | cons n ns => rw [List.map_cons, PyData.eqvAll]; rfl
theorem ix0 (n : Nat) : ixN (n + 1) 0 = some 0 := by
  unfold ixN
  rw [if_pos (by omega), if_pos (by omega)]
  rfl
theorem atI0 {α : Type} {x : α} {xs : List α} : atI (x :: xs) 0 = some x := atI_nat (j := 0) rfl
theorem atI1 {α : Type} {x y : α} {xs : List α} : atI (x :: y :: xs) 1 = some y := atI_nat (j := 1) rfl
theorem atI2 {α : Type} {x y z : α} {xs : List α} : atI (x :: y :: z :: xs) 2 = some z := atI_nat (j := 2) rfl

section
variable {P : Program} {w : World} {K : PySem.W.Frag} {mg : Str → Option Value} {base : Heap}

def spStream (K : PySem.W.Frag) : Sp := fun vs H Q _ => ∃ (a : Addr) (ns : List Int), vs = [.ref a] ∧ SqL K H a (ns.map V.int) ∧ ns.length ≤ 63 ∧
  ∀ H' s A B, Same H H' → H s = none → H A = none → StreamAt H' s A B 0 → Q (.ref s) H'

theorem scStream : FnScope ["_law_script", "_law_cells", "_law_cell"] ["_law_script"] (defScope sStream) := ⟨rfl, rfl, rfl, by decide +kernel, rfl, by decide +kernel, by decide +kernel⟩
theorem ok_stream {f : Addr} {fd : FuncData} {k : Nat} (F : Fun K "_law_stream" "_law_stream" sStream f fd) (T : Nm mg) : FnOk P w K mg base CX0 (k + 1) f fd ["_law_script"] (spStream K) := by
  refine F.ok scStream (fun vs H Q E h => ?_) (fun cdv A outer s H vs Q E hr h => ?_)
  · obtain ⟨a, ns, rfl, _⟩ := h
    rfl
  · obtain ⟨a, ns, rfl, hS, hlen, q⟩ := h
    refine ⟨_, pss_cons (ps_setLc (i := 1) (own := [("_law_cell", 2)]) (g := gName 2) (by rfl) scStream.nd rfl rfl (sw_true rfl rfl rfl (by decide +kernel)) (pi_list (pv 0))
        (blkOk_by (own := [("_law_cell", 2)]) (N := ["_law_script", "_law_cells", "_law_cell"]) (sc := defScope sStream) (by decide +kernel))
        (fun _ _ _ _ _ => pg_name (i := 2) scStream.nd rfl (Or.inl rfl)) (fun _ _ _ _ _ => pts_nil)
        (fun _ _ _ _ _ => pe_callB call_abs (by rfl) T.abs (by decide +kernel) (pa_cons (pv 2) pa_nil)))
      (pss_one (ps_ret (pe_lst (pa_cons
        (pe_lc (own := [("_law_cell", 2)]) (g := gName 2) (by rfl) scStream.nd (pi_list (pv 1))
          (blkOk_by (own := [("_law_cell", 2)]) (N := ["_law_script", "_law_cells", "_law_cell"]) (sc := defScope sStream) (by decide +kernel))
          (fun _ _ _ _ _ => pg_name (i := 2) scStream.nd rfl (Or.inl rfl)) (fun _ _ _ _ _ => pts_one (pt_cmpR op_ge (pv 2) (pe_op op_pow pe_int pe_int) (nomark _)))
          (fun _ _ _ _ _ => pv 2))
        (pa_cons (pe_op op_cat (pv 1) (pe_lst (pa_cons (pe_op op_add (pe_callB call_len_seq (by rfl) T.len PySem.boot_len (pa_cons (pv 1) pa_nil)) pe_int) pa_nil)))
        (pa_cons pe_int pa_nil)))))), ?_⟩
    refine ⟨.ref a, rfl, a, rfl, ⟨_, hS⟩, fun D hD => lc_list (K := K) (a := a) (xs := vi ns) (fun i H1 => Same H H1 ∧ H1 D = some (.lst (vi ((ns.map absI).take i))))
      ⟨same_upd hD, upd_same⟩ (fun i H1 _ h => h.1.seq hS) ?_ ?_⟩
    · rintro i x H1 hx ⟨s1, e1⟩
      obtain ⟨v, ev, rfl⟩ := get_vi hx
      refine ⟨rfl, ?_⟩
      unfold tYes
      refine iteT ?_
      refine ⟨_, rfl, v, rfl, _, e1, ?_, ?_, ?_⟩
      · rw [List.length_map, List.length_take, List.length_map]
        exact small1000 (by omega)
      · exact same_put s1 hD
      · rw [upd_same, List.take_add_one, List.getElem?_map, ev, vi_app]
        rfl
    · rintro H1 ⟨s1, e1⟩
      rw [List.length_map, ← List.length_map (f := absI), List.take_length] at e1
      refine ⟨_, rfl, D, rfl, ⟨_, SqL.of e1⟩, fun G hG => lc_list (K := K) (a := D) (xs := vi (ns.map absI)) (fun i H2 => Same H1 H2 ∧ H2 G = some (.lst (vi (((ns.map absI).take i).filter fun x => decide (10 ^ 18 ≤ x)))))
        ⟨same_upd hG, upd_same⟩ (fun i H2 _ h => h.1.seq (SqL.of e1)) ?_ ?_⟩
      · rintro i x H2 hx ⟨s2, e2⟩
        obtain ⟨v, ev, rfl⟩ := get_vi hx
        refine ⟨rfl, _, rfl, _, _, rfl, rfl, ⟨by decide, by decide, by decide⟩, _, _, rfl, rfl, _, rfl, ?_⟩
        have et : ((ns.map absI).take (i + 1)).filter (fun x => decide (10 ^ 18 ≤ x)) = ((ns.map absI).take i).filter (fun x => decide (10 ^ 18 ≤ x)) ++ (if 10 ^ 18 ≤ v then [v] else []) := by
          rw [List.take_add_one, ev, List.filter_append]
          congr 1
          by_cases c : (10 : Int) ^ 18 ≤ v
          · rw [if_pos c]
            show List.filter _ [v] = [v]
            rw [List.filter_cons_of_pos (by simpa using c)]
            rfl
          · rw [if_neg c]
            show List.filter _ [v] = []
            rw [List.filter_cons_of_neg (by simpa using c)]
            rfl
        refine ite2 (fun c => ?_) (fun c => ?_)
        · have c : (10 : Int) ^ 18 ≤ v := of_decide_eq_true c
          refine ⟨_, rfl, _, e2, ?_, same_put s2 hG, ?_⟩
          · rw [List.length_map]
            refine small1000 (Nat.le_trans (List.length_filter_le _ _) ?_)
            rw [List.length_take, List.length_map]
            omega
          · rw [upd_same, et, if_pos c, vi_app]
            rfl
        · have c : ¬ (10 : Int) ^ 18 ≤ v := fun e => c (decide_eq_true e)
          refine ⟨s2, ?_⟩
          rw [et, if_neg c, List.append_nil]
          exact e2
      · rintro H2 ⟨s2, e2⟩
        rw [List.length_map, List.take_length] at e2
        have e1' := s2 _ _ e1
        refine ⟨_, rfl, _, rfl, D, _, rfl, .inl (SqL.of e1'), _, _, rfl, rfl, by show 1 ≤ sizeLine; decide, fun O hO => ?_⟩
        have e1'' := same_upd (o := .lst [.int (((vi (ns.map absI)).length : Nat) + 3)]) hO _ _ e1'
        refine ⟨D, O, _, _, rfl, rfl, e1'', upd_same, ?_, fun B hB => ?_⟩
        · simp only [List.length_map, List.length_append, List.length_cons, List.length_nil]
          exact Nat.le_of_lt (small1000 (by omega))
        refine ⟨by show 3 ≤ sizeLine; decide, fun S hS' => ?_⟩
        have nGS : S ≠ G := fun e => by
          rw [e] at hS'
          exact absurd hS' (by rw [same_upd hB _ _ (same_upd hO _ _ e2)]; exact nofun)
        have nBS : S ≠ B := fun e => by
          rw [e, upd_same] at hS'
          cases hS'
        have nGB : G ≠ B := fun e => by
          rw [← e] at hB
          exact absurd hB (by rw [same_upd hO _ _ e2]; exact nofun)
        have sA : Same H (upd (upd H2 O (.lst [.int (((vi (ns.map absI)).length : Nat) + 3)])) B (.lst (vi (ns.map absI) ++ [.int (((vi (ns.map absI)).length : Nat) + 3)]))) := (s1.trans s2).trans ((same_upd hO).trans (same_upd hB))
        refine q _ S G B (sA.trans (same_upd hS')) (sA.free hS') (s1.free hG) ⟨⟨(ns.map absI).filter (fun x => decide (10 ^ 18 ≤ x)), ns.map absI ++ [((ns.length : Nat) : Int) + 3], 0, upd_same, ?_, ?_, ?_, ?_, ?_, ?_, ?_, Int.le_refl _, Int.le_refl _⟩, nGB, nGS, nBS⟩
        · rw [upd_ne nGS.symm, upd_ne nGB, same_upd hO _ _ e2]
        · rw [upd_ne nBS.symm, upd_same, vi_app]
          show some (HO.lst (vi (ns.map absI) ++ [V.int (((vi (ns.map absI)).length : Nat) + 3)])) = _
          rw [List.length_map, List.length_map]
          rfl
        · intro x hx
          obtain ⟨y, _, rfl⟩ := List.mem_map.mp (List.mem_filter.mp hx).1
          exact absI_pos y
        · intro x hx
          rcases List.mem_append.mp hx with hx | hx
          · obtain ⟨y, _, rfl⟩ := List.mem_map.mp hx
            exact absI_pos y
          · rw [List.mem_singleton.mp hx]
            omega
        · simp
        · simp only [List.length_map, List.length_append, List.length_cons, List.length_nil]
          omega
        · refine Nat.le_trans (List.length_filter_le _ _) ?_
          rw [List.length_map]
          omega

theorem lg60 {m : Int} (h0 : 0 < m) (h1 : m < 2 ^ 60) : m.natAbs.log2 < 9000 := by
  have : m.natAbs ≠ 0 := by omega
  have h2 : m.natAbs < 2 ^ 60 := by omega
  have := (Nat.log2_lt this).mpr h2
  omega
def spDraw : Sp := fun vs H Q _ => ∃ (s A B : Addr) (c : Nat) (m : Int), vs = [.ref s, .int m] ∧ StreamAt H s A B c ∧ c < 2 ^ 40 ∧ 0 < m ∧ m < 2 ^ 60 ∧
  ∀ H' r, StreamAt H' s A B (c + 1) → Fr s A H H' → 0 ≤ r → r < m → Q (.int r) H'

theorem scDraw : FnScope ["_law_stream_here", "_law_many", "_law_rest", "_law_turn", "_law_cell", "_law_mixed"] ["_law_stream_here", "_law_many"] (defScope sDraw) := ⟨rfl, rfl, rfl, by decide +kernel, rfl, by decide +kernel, by decide +kernel⟩
theorem ok_draw {f : Addr} {fd : FuncData} {k : Nat} (F : Fun K "_law_draw" "_law_draw" sDraw f fd) (T : Nm mg) : FnOk P w K mg base CX0 (k + 1) f fd ["_law_stream_here", "_law_many"] spDraw := by
  refine F.ok scDraw (fun vs H Q E h => ?_) (fun cdv A outer s H vs Q E hr h => ?_)
  · obtain ⟨s, A, B, c, m, rfl, _⟩ := h
    rfl
  · obtain ⟨s, A, B, c, m, rfl, hS, hc, hm0, hm1, q⟩ := h
    refine ⟨_, pss_cons (ps_while PassesOwn.never (pt_cmpR (op_neD hr.units) (pe_ix ix_list (pv 0) pe_int (fun _ _ => rfl)) (pe_lst pa_nil) (nomark _))
        (pss_cons (ps_set (i := 2) scDraw.nd rfl (.inl rfl) (pe_ix ix_list (pe_ix ix_list (pv 0) pe_int (fun _ _ => rfl)) pe_int (fun _ _ => rfl)))
        (pss_cons (ps_if (pt_cmpR op_gt (pv 2) pe_int (nomark _))
          (pss_cons (ps_asg (pe_op op_fdivW (pv 2) (pv 1)) (pg_sub (pe_ix ix_list (pv 0) pe_int (fun _ _ => rfl)) pe_int set_list))
          (pss_one (ps_ret (pe_op op_modN (pv 2) (pv 1))))) pss_nil)
        (pss_one (ps_expr (pe_bm PySem.F.plainAttrs_list PySem.F.slot_list_pop PySem.F.type_list_pop mt_popAt (pe_ix ix_list (pv 0) pe_int (fun _ _ => rfl)) (pa_cons pe_int pa_nil)))))))
      (pss_cons (ps_set (i := 3) scDraw.nd rfl (.inl rfl) (pe_op op_add (pe_ix ix_list (pv 0) pe_int (fun _ _ => rfl)) pe_int))
      (pss_cons (ps_asg (pv 3) (pg_sub (pv 0) pe_int set_list))
      (pss_cons (ps_set (i := 4) scDraw.nd rfl (.inl rfl) (pe_op op_modN (pe_ix ix_list (pe_ix ix_list (pv 0) pe_int (fun _ _ => rfl)) (pe_op op_modN (pv 3) (pe_callB call_len_seq (by rfl) T.len PySem.boot_len (pa_cons (pe_ix ix_list (pv 0) pe_int (fun _ _ => rfl)) pa_nil))) (fun _ _ => rfl)) pe_int))
      (pss_cons (ps_set (i := 5) scDraw.nd rfl (.inl rfl) (pe_op op_add (pe_op op_add (pe_op op_mul (pv 4) (pe_op op_add pe_int (pe_op op_mul pe_int (pv 3)))) (pe_op op_mul (pe_op op_mul pe_int (pv 3)) (pv 3))) pe_int))
      (pss_cons (ps_set (i := 5) scDraw.nd rfl (.inl rfl) (pe_op op_modN (pv 5) pe_int))
      (pss_one (ps_ret (pe_op op_modN (pe_op op_fdivN (pe_op op_modN (pe_op op_mul (pv 5) (pv 5)) pe_int) pe_int) (pv 1))))))))), ?_⟩
    have fm : ∀ x y : Int, 0 < y → 0 ≤ x.fmod y ∧ x.fmod y < y := fun x y hy => by
      rw [Int.fmod_eq_emod_of_nonneg x (Int.le_of_lt hy)]
      exact ⟨Int.emod_nonneg x (by omega), Int.emod_lt_of_pos x hy⟩
    refine ⟨fun n σ H' => ∃ y2, σ = [some (.ref s), some (.int m), y2, none, none, none] ∧ StreamAt H' s A B c ∧ Fr s A H H' ∧ ∃ big : List Int, H' A = some (.lst (vi big)) ∧ n = big.length, ?_, ?_⟩
    · obtain ⟨big, cells, cnt, _, h2, _⟩ := hS.ex
      exact ⟨_, none, rfl, hS, fun _ _ _ _ e => e, big, h2, rfl⟩
    rintro n σ H1 ⟨y2, rfl, hS1, fr1, big', hb', rfl⟩
    obtain ⟨big, cells, cnt, h1, h2, h3, p1, p2, l0, l1, l2, c0, c1⟩ := hS1.ex
    have eb : vi big' = vi big := by
      rw [h2] at hb'
      injection hb' with hb'
      injection hb' with hb'
      exact hb'.symm
    have el : big'.length = big.length := by
      have := congrArg List.length eb
      simpa using this
    rw [el]
    refine ⟨_, rfl, s, _, _, _, rfl, rfl, SqL.of h1, atI0, Nat.zero_le _, fun e he => ?_⟩
    have n1 : s ≠ e := ne_of_none h1 he
    have n2 : A ≠ e := ne_of_none h2 he
    have n3 : B ≠ e := ne_of_none h3 he
    have h1' : (upd H1 e (.lst [])) s = _ := (upd_ne n1).trans h1
    have h2' : (upd H1 e (.lst [])) A = _ := (upd_ne n2).trans h2
    have h3' : (upd H1 e (.lst [])) B = _ := (upd_ne n3).trans h3
    have sm : Same H1 (upd H1 e (.lst [])) := same_upd he
    refine ⟨.list (big.map .int), .list [], .lst (SqL.of h2') (dp_ints big), .lst (SqL.of upd_same) .nil, shaped_list big, shaped_list [], _, rfl, ?_⟩
    rw [eqv_nil]
    cases big with
    | nil =>
      refine iteF ?_
      -- turn = s[2] + 1; s[2] = turn
      refine ⟨_, rfl, s, _, _, _, rfl, rfl, SqL.of h1', atI2, _, _, rfl, rfl, ?_⟩
      refine ⟨_, rfl, _, rfl, s, _, _, 2, rfl, rfl, h1', rfl, ?_⟩
      have h3s : (upd (upd H1 e (.lst [])) s (.lst ([V.ref A, V.ref B, V.int cnt].set 2 (V.int (cnt + 1))))) B = _ := (upd_ne hS1.nsB.symm).trans h3'
      have h2s : (upd (upd H1 e (.lst [])) s (.lst ([V.ref A, V.ref B, V.int cnt].set 2 (V.int (cnt + 1))))) A = _ := (upd_ne hS1.nsA.symm).trans h2'
      have hS2 : StreamAt (upd (upd H1 e (.lst [])) s (.lst ([V.ref A, V.ref B, V.int cnt].set 2 (V.int (cnt + 1))))) s A B (c + 1) :=
        ⟨⟨[], cells, cnt + 1, upd_same, h2s, h3s, p1, p2, l0, l1, l2, by omega, by omega⟩, hS1.nAB, hS1.nsA, hS1.nsB⟩
      have fr2 : Fr s A H (upd (upd H1 e (.lst [])) s (.lst ([V.ref A, V.ref B, V.int cnt].set 2 (V.int (cnt + 1))))) := fun b o z1 z2 z3 => by
        rw [upd_ne z1]
        exact sm _ _ (fr1 b o z1 z2 z3)
      have h1s : (upd (upd H1 e (.lst [])) s (.lst ([V.ref A, V.ref B, V.int cnt].set 2 (V.int (cnt + 1))))) s = some (.lst [V.ref A, V.ref B, V.int (cnt + 1)]) := upd_same
      have hl : (0 : Int) < (cells.length : Nat) := by omega
      obtain ⟨g0, g1⟩ := fm (cnt + 1) ((cells.length : Nat) : Int) hl
      have hj : ((cnt + 1).fmod ((cells.length : Nat) : Int)).toNat < cells.length := by omega
      have hat : atI (vi cells) ((cnt + 1).fmod (((vi cells).length : Nat) : Int)) = some (V.int cells[((cnt + 1).fmod ((cells.length : Nat) : Int)).toNat]) := by
        rw [List.length_map]
        have := atI_nat (xs := vi cells) (j := ((cnt + 1).fmod ((cells.length : Nat) : Int)).toNat) (v := V.int cells[((cnt + 1).fmod ((cells.length : Nat) : Int)).toNat]) (by rw [List.getElem?_map, List.getElem?_eq_getElem hj]; rfl)
        rw [show ((((cnt + 1).fmod ((cells.length : Nat) : Int)).toNat : Nat) : Int) = (cnt + 1).fmod ((cells.length : Nat) : Int) by omega] at this
        exact this
      refine ⟨_, rfl, s, _, _, _, rfl, rfl, SqL.of h1s, atI1, _, rfl, _, rfl, s, _, _, _, rfl, rfl, SqL.of h1s, atI1, B, _, rfl, .inl (SqL.of h3s), _, _, rfl, rfl, by rw [List.length_map]; omega, B, _, _, _, rfl, rfl, SqL.of h3s, hat, _, _, rfl, rfl, (by show (2147483647 : Int) ≠ 0; decide), ?_⟩
      generalize cells[((cnt + 1).fmod ((cells.length : Nat) : Int)).toNat] = x
      obtain ⟨x0, x1⟩ := fm x 2147483647 (by decide)
      refine ⟨_, rfl, _, rfl, _, _, rfl, rfl, .inl ⟨by decide, by decide⟩, _, _, rfl, rfl, _, _, rfl, rfl, .inl ⟨by omega, by omega⟩, ?_⟩
      refine ⟨_, rfl, _, _, rfl, rfl, .inl ⟨by decide, by decide⟩, _, rfl, _, _, rfl, rfl, .inr ⟨by omega, by omega⟩, _, _, rfl, rfl, _, _, rfl, rfl, ?_⟩
      refine ⟨_, rfl, _, _, rfl, rfl, (by show (2147483629 : Int) ≠ 0; decide), ?_⟩
      refine ⟨_, rfl, _, rfl, _, _, rfl, rfl, .inl ?_, _, _, rfl, rfl, (by show (2147483587 : Int) ≠ 0; decide), _, _, rfl, rfl, ⟨by decide, by decide⟩, _, rfl, _, _, rfl, rfl, by omega, ?_⟩
      · generalize (x.fmod 2147483647 * _ + _ + _ : Int) = y
        obtain ⟨y0, y1⟩ := fm y 2147483629 (by decide)
        exact ⟨by omega, by omega⟩
      · exact q _ _ hS2 fr2 (fm _ m hm0).1 (fm _ m hm0).2
    | cons x r =>
      refine iteT ⟨_, fun _ _ h => h, ?_⟩
      refine ⟨_, rfl, s, _, _, _, rfl, rfl, SqL.of h1', atI0, A, _, _, _, rfl, rfl, SqL.of h2', atI0, ?_⟩
      refine ⟨_, rfl, _, _, rfl, rfl, _, rfl, ?_⟩
      have hx : 0 ≤ x := p1 x (List.mem_cons_self ..)
      have hr' : ∀ y ∈ r, 0 ≤ y := fun y hy => p1 y (List.mem_cons_of_mem _ hy)
      refine ite2 (fun cx => ?_) (fun cx => ?_)
      · refine ⟨_, rfl, _, rfl, _, _, rfl, rfl, ⟨hm0, lg60 hm0 hm1⟩, ?_⟩
        refine ⟨_, rfl, s, _, _, _, rfl, rfl, SqL.of h1', atI0, A, _, _, 0, rfl, rfl, h2', ix0 _, ?_⟩
        refine ⟨_, rfl, _, rfl, _, _, rfl, rfl, by omega, ?_⟩
        refine q _ _ ⟨⟨x / m :: r, cells, cnt, (upd_ne hS1.nsA).trans h1', upd_same, (upd_ne hS1.nAB.symm).trans h3', ?_, p2, l0, l1, l2, c0, by omega⟩, hS1.nAB, hS1.nsA, hS1.nsB⟩ ?_ (fm x m hm0).1 (fm x m hm0).2
        · intro y hy
          rcases List.mem_cons.mp hy with rfl | hy
          · exact Int.ediv_nonneg hx (Int.le_of_lt hm0)
          · exact hr' y hy
        · intro b o z1 z2 z3
          rw [upd_ne z2]
          exact sm _ _ (fr1 b o z1 z2 z3)
      · refine ⟨_, rfl, s, _, _, _, rfl, rfl, SqL.of h1', atI0, .inl ⟨rfl, _, SqL.of h2'⟩, A, _, _, 0, _, rfl, rfl, h2', by decide, by decide, (ixN_seq (ix0 _)).1, rfl, ?_⟩
        refine ⟨r.length, by simp, _, rfl, ⟨⟨r, cells, cnt, (upd_ne hS1.nsA).trans h1', upd_same, (upd_ne hS1.nAB.symm).trans h3', hr', p2, l0, l1, by simp at l2; omega, c0, c1⟩, hS1.nAB, hS1.nsA, hS1.nsB⟩, ?_, r, upd_same, rfl⟩
        intro b o z1 z2 z3
        rw [upd_ne z2]
        exact sm _ _ (fr1 b o z1 z2 z3)
end
end Fw
namespace Fw
open PySem PySem.Spec PyProof.Rows L2

structure Def (K : PySem.W.Frag) (mg : Str → Option Value) (x : Str) (st : Stmt) (f : Addr) (fd : FuncData) (ps : List Str) : Prop where
  F : Fun K x x st f fd
  b : Binds K fd ps []
  g : mg x = some (.ref f)

section
variable {s A B : Addr} {H H1 H2 : Hp} {c : Nat}
theorem StreamAt.ne (hS : StreamAt H s A B c) {L : Addr} (h : H L = none) : s ≠ L ∧ A ≠ L ∧ B ≠ L := by
  obtain ⟨big, cells, cnt, h1, h2, h3, _⟩ := hS.ex
  exact ⟨ne_of_none h1 h, ne_of_none h2 h, ne_of_none h3 h⟩
theorem StreamAt.put (hS : StreamAt H s A B c) {L : Addr} {o : HO} (n : s ≠ L ∧ A ≠ L ∧ B ≠ L) : StreamAt (upd H L o) s A B c := by
  obtain ⟨big, cells, cnt, h1, h2, h3, r⟩ := hS.ex
  exact ⟨⟨big, cells, cnt, (upd_ne n.1).trans h1, (upd_ne n.2.1).trans h2, (upd_ne n.2.2).trans h3, r⟩, hS.nAB, hS.nsA, hS.nsB⟩
theorem StreamAt.mono (hS : StreamAt H s A B c) {c' : Nat} (h : c ≤ c') : StreamAt H s A B c' := by
  obtain ⟨big, cells, cnt, h1, h2, h3, p1, p2, l0, l1, l2, c0, c1⟩ := hS.ex
  exact ⟨⟨big, cells, cnt, h1, h2, h3, p1, p2, l0, l1, l2, c0, by omega⟩, hS.nAB, hS.nsA, hS.nsB⟩
theorem StreamAt.same (hS : StreamAt H s A B c) (e : Same H H1) : StreamAt H1 s A B c := by
  obtain ⟨big, cells, cnt, h1, h2, h3, r⟩ := hS.ex
  exact ⟨⟨big, cells, cnt, e _ _ h1, e _ _ h2, e _ _ h3, r⟩, hS.nAB, hS.nsA, hS.nsB⟩
theorem StreamAt.tup (hS : StreamAt H s A B c) {t : Addr} {xs : List V} (h : H t = some (.tup xs)) : t ≠ s ∧ t ≠ A ∧ t ≠ B := by
  obtain ⟨big, cells, cnt, h1, h2, h3, _⟩ := hS.ex
  exact ⟨ne_of h h1 (by intro q; cases q), ne_of h h2 (by intro q; cases q), ne_of h h3 (by intro q; cases q)⟩
theorem Fr.refl : Fr s A H H := fun _ _ _ _ e => e
theorem Fr.free (f : Fr s A H H1) (hS : StreamAt H1 s A B c) {L : Addr} (h : H1 L = none) : H L = none := by
  obtain ⟨n1, n2, _⟩ := hS.ne h
  cases e : H L with
  | none => rfl
  | some o =>
    rw [f L o n1.symm n2.symm e] at h
    cases h
theorem Fr.put (f : Fr s A H H1) {L : Addr} {o : HO} (h : H L = none) : Fr s A H (upd H1 L o) := fun b u z1 z2 e => by
  rw [upd_ne (ne_of_none e h)]
  exact f b u z1 z2 e
theorem Fr.tup (f : Fr s A H H1) (hS : StreamAt H s A B c) {t : Addr} {xs : List V} (h : H t = some (.tup xs)) : H1 t = some (.tup xs) :=
  f t _ (hS.tup h).1 (hS.tup h).2.1 h
end

/-- a house, as it stands in memory -/
def HouseAt (H : Hp) (h : Addr) (n : Int) (D : List (Int × Int)) : Prop := ∃ (q : Addr) (ps : List (Addr × Int × Int)),
  H h = some (.tup [.int n, .ref q]) ∧ H q = some (.tup (ps.map fun p => V.ref p.1)) ∧ D = ps.map (·.2) ∧ ∀ p ∈ ps, H p.1 = some (.tup [.int p.2.1, .int p.2.2])
theorem HouseAt.same {H H' : Hp} {h : Addr} {n : Int} {D : List (Int × Int)} (x : HouseAt H h n D) (e : Same H H') : HouseAt H' h n D := by
  obtain ⟨q, ps, h1, h2, h3, h4⟩ := x
  exact ⟨q, ps, e _ _ h1, e _ _ h2, h3, fun p hp => e _ _ (h4 p hp)⟩
theorem HouseAt.fr {s A B : Addr} {c : Nat} {H H' : Hp} {h : Addr} {n : Int} {D : List (Int × Int)} (x : HouseAt H h n D) (hS : StreamAt H s A B c) (e : Fr s A H H') : HouseAt H' h n D := by
  obtain ⟨q, ps, h1, h2, h3, h4⟩ := x
  exact ⟨q, ps, e.tup hS h1, e.tup hS h2, h3, fun p hp => e.tup hS (h4 p hp)⟩

theorem perm_map_inv {α β : Type} {f : α → β} : ∀ {ys zs : List β}, ys.Perm zs → ∀ {ps : List α}, zs = ps.map f → ∃ ps' : List α, ps'.Perm ps ∧ ys = ps'.map f := by
  intro ys zs h
  induction h with
  | nil =>
    intro ps e
    cases ps with
    | nil => exact ⟨[], .nil, rfl⟩
    | cons p r => cases e
  | cons x _ ih =>
    intro ps e
    cases ps with
    | nil => cases e
    | cons p r =>
      rw [List.map_cons] at e
      injection e with e1 e2
      obtain ⟨ps', hp, he⟩ := ih e2
      exact ⟨p :: ps', hp.cons p, by rw [he, List.map_cons, e1]⟩
  | swap x y l =>
    intro ps e
    match ps, e with
    | p :: q :: r, e =>
      rw [List.map_cons, List.map_cons] at e
      injection e with e1 e2
      injection e2 with e2 e3
      exact ⟨q :: p :: r, List.Perm.swap p q r, by rw [List.map_cons, List.map_cons, e1, e2, e3]⟩
  | trans _ _ ih1 ih2 =>
    intro ps e
    obtain ⟨p2, h2, e2⟩ := ih2 e
    obtain ⟨p1, h1, e1⟩ := ih1 e2
    exact ⟨p1, h1.trans h2, e1⟩

theorem rg_vi (n : Int) : rgV 0 n = vi ((List.range n.toNat).map fun (i : Nat) => (i : Int)) := by
  unfold rgV vi
  rw [List.map_map, Int.sub_zero]
  refine List.map_congr_left fun i _ => ?_
  show V.int (0 + (i : Int)) = V.int (i : Int)
  rw [Int.zero_add]
def rg (n : Int) : List Int := (List.range n.toNat).map fun (i : Nat) => (i : Int)
theorem mem_rg {n x : Int} : x ∈ rg n ↔ 0 ≤ x ∧ x < n := by
  unfold rg
  rw [List.mem_map]
  constructor
  · rintro ⟨i, hi, rfl⟩
    rw [List.mem_range] at hi
    omega
  · rintro ⟨h0, h1⟩
    exact ⟨x.toNat, List.mem_range.mpr (by omega), by omega⟩
theorem rg_len (n : Int) : (rg n).length = n.toNat := by simp [rg]
theorem rg_nodup (n : Int) : (rg n).Nodup := (range_up n.toNat).imp fun h => by omega

theorem vi_erase (ns : List Int) (i : Nat) : (vi ns).eraseIdx i = vi (ns.eraseIdx i) := by
  induction ns generalizing i with
  | nil => rfl
  | cons n ns ih =>
    cases i with
    | zero => rfl
    | succ i =>
      show V.int n :: (vi ns).eraseIdx i = V.int n :: vi (ns.eraseIdx i)
      rw [ih]
theorem erase_perm : ∀ {ns : List Int} {i : Nat} (h : i < ns.length), (ns[i] :: ns.eraseIdx i).Perm ns
  | n :: ns, 0, _ => List.Perm.refl _
  | n :: ns, i + 1, h => by
    have h' : i < ns.length := by simpa using h
    show (ns[i] :: n :: ns.eraseIdx i).Perm (n :: ns)
    exact (List.Perm.swap _ _ _).trans ((erase_perm (by simpa using h)).cons n)
theorem lacks {r : Int} (h0 : 0 ≤ r) (h1 : r < 3) : ∃ lk : Int, atI [V.int 0, V.int 0, V.int 6] r = some (.int lk) ∧ (lk = 0 ∨ lk = 6) := by
  have : r = 0 ∨ r = 1 ∨ r = 2 := by omega
  rcases this with rfl | rfl | rfl
  · exact ⟨0, atI0, .inl rfl⟩
  · exact ⟨0, atI1, .inl rfl⟩
  · exact ⟨6, atI2, .inr rfl⟩
theorem pick3 {r r1 : Int} {i : Nat} (h0 : 0 ≤ r) (h1 : r < 3) (a0 : 0 ≤ r1) (a1 : r1 < 1 + (i : Int)) : ∃ ix : Int, atI [V.int (1 + (i : Int) - 1), V.int 0, V.int r1] r = some (.int ix) ∧ 0 ≤ ix ∧ ix ≤ i := by
  have : r = 0 ∨ r = 1 ∨ r = 2 := by omega
  rcases this with rfl | rfl | rfl
  · exact ⟨_, atI0, by omega, by omega⟩
  · exact ⟨_, atI1, by omega, by omega⟩
  · exact ⟨_, atI2, by omega, by omega⟩
/-- the two ints of a pair in memory -/
def twoOf (H : Hp) (x : V) : Int × Int := match x with
  | .ref t => match H t with
    | some (.tup [.int i, .int j]) => (i, j)
    | _ => (0, 0)
  | _ => (0, 0)
theorem twoOf_eq {H : Hp} {t : Addr} {d : Int × Int} (h : H t = some (.tup [.int d.1, .int d.2])) : twoOf H (.ref t) = d := by
  unfold twoOf
  simp only [h]
theorem Dlt_of {x y : Int × Int} (h : ¬ (y.1 < x.1 ∨ (y.1 = x.1 ∧ y.2 < x.2))) (n : x ≠ y) : Dlt x y := by
  unfold Dlt
  have : ¬ (x.1 = y.1 ∧ x.2 = y.2) := fun e => n (Prod.ext e.1 e.2)
  omega
/-- what stands while the doors are made -/
structure Mid (H : Hp) (s A B O R : Addr) (ord : List Int) (c : Nat) (ps : List (Addr × Int × Int)) (H' : Hp) : Prop where
  st : StreamAt H' s A B c
  frm : Fr s A H H'
  eO : H' O = some (.lst (vi ord))
  eR : H' R = some (.lst (ps.map fun p => V.ref p.1))
  eP : ∀ p ∈ ps, H' p.1 = some (.tup [.int p.2.1, .int p.2.2])
theorem Mid.fr {H H1 H2 : Hp} {s A B O R : Addr} {ord : List Int} {c c' : Nat} {ps : List (Addr × Int × Int)} (m : Mid H s A B O R ord c ps H1) (hS : StreamAt H2 s A B c') (f : Fr s A H1 H2) (zO : s ≠ O ∧ A ≠ O ∧ B ≠ O) (zR : s ≠ R ∧ A ≠ R ∧ B ≠ R) : Mid H s A B O R ord c' ps H2 :=
  ⟨hS, m.frm.trans f, f _ _ zO.1.symm zO.2.1.symm m.eO, f _ _ zR.1.symm zR.2.1.symm m.eR, fun p hp => f.tup m.st (m.eP p hp)⟩
theorem Mid.new {H H1 : Hp} {s A B O R : Addr} {ord : List Int} {c : Nat} {ps : List (Addr × Int × Int)} (m : Mid H s A B O R ord c ps H1) {N : Addr} {o : HO} (h : H1 N = none) : Mid H s A B O R ord c ps (upd H1 N o) :=
  ⟨m.st.same (same_upd h), m.frm.put (m.frm.free m.st h), same_upd h _ _ m.eO, same_upd h _ _ m.eR, fun p hp => same_upd h _ _ (m.eP p hp)⟩
theorem if_by {t : TT} {tb te : TS} {D : Ends} {σ : L2.St} {H : Hp} (Good : Bool → Hp → Prop) (hb : ∀ H', Good true H' → tb D σ H') (he : ∀ H', Good false H' → te D σ H')
    (h : ∀ Q : Bool → Hp → Prop, (∀ b H', Good b H' → Q b H') → t σ H Q) : tIfS t tb te D σ H := h _ fun b H' g => by
  cases b with
  | true => exact iteT (hb _ g)
  | false => exact iteF (he _ g)
section
variable {P : Program} {w : World} {K : PySem.W.Frag} {mg : Str → Option Value} {base : Heap}
def spHouse : Sp := fun vs H Q _ => ∃ (s A B : Addr) (c : Nat) (least most : Int), vs = [.ref s, .int least, .int most] ∧ StreamAt H s A B c ∧ c < 2 ^ 30 ∧ 1 ≤ least ∧ least ≤ most ∧ most ≤ 8 ∧
  ∀ H' h n D, StreamAt H' s A B (c + 40) → Fr s A H H' → HouseAt H' h n D → Forest n D → least ≤ n → n ≤ most → Q (.ref h) H'

end
end Fw
namespace Fw
open PySem PySem.Spec PyProof.Rows L2

/-! ### x in a tuple, by data -/
def rInT (K : PySem.W.Frag) : R2 := fun x y H Q => ∃ d ds, Dp K H x d ∧ Dp K H y (.tuple ds) ∧ SeqAt.shaped d = true ∧ SeqAt.shaped (.tuple ds) = true ∧ Q (.bl (ds.any fun z => PyData.eqv z d)) H
theorem op_inT {X : Cx} (hu : X.A.units + 65 < cLine) : OpR X (compareOp .In) (rInT X.K) := by
  intro pins s σ H x y v u Q I rx ry h
  obtain ⟨d, ds, hd, he, sd, se, q⟩ := h
  obtain ⟨as, r1⟩ := Dp.reads I d x v hd rx
  obtain ⟨bs, r2⟩ := Dp.reads I (.tuple ds) y u he ry
  exact SeqAt.in_tuple_reads r2 r1 (SeqAt.canLay_of_shaped se) (SeqAt.canLay_of_shaped sd) (room_in_shaped sd hu) ⟨.bl _, H, I, rfl, q⟩
theorem units65 {k : Nat} {A : Around} (r : Room k A) : A.units + 65 < cLine := by have := r.un; omega

/-- a door as data -/
def pd (d : Int × Int) : PyData := .tuple [.int d.1, .int d.2]
theorem pd_lay : ∀ D : List (Int × Int), PyData.canLayAll0 (D.map pd) = true
  | [] => by simp [PyData.canLayAll0]
  | d :: D => by
    rw [List.map_cons, PyData.canLayAll0, pd_lay D]
    simp [pd, PyData.canLay0, PyData.canLayAll0]
theorem pd_deep : ∀ D : List (Int × Int), PyData.depthAll (D.map pd) ≤ 1
  | [] => by simp [PyData.depthAll]
  | d :: D => by
    rw [List.map_cons, PyData.depthAll]
    have := pd_deep D
    simp [pd, PyData.depth, PyData.depthAll]
    omega
theorem pd_shaped (d : Int × Int) : SeqAt.shaped (pd d) = true := shaped_tup [d.1, d.2]
theorem pds_shaped (D : List (Int × Int)) : SeqAt.shaped (.tuple (D.map pd)) = true := by
  unfold SeqAt.shaped
  rw [PyData.canLay0, pd_lay, PyData.depth]
  have := pd_deep D
  simp
  omega
theorem pd_eqv (a b : Int × Int) : PyData.eqv (pd a) (pd b) = decide (a = b) := by
  obtain ⟨a1, a2⟩ := a
  obtain ⟨b1, b2⟩ := b
  simp only [pd, PyData.eqv, PyData.eqvAll, Bool.and_true]
  rw [Bool.eq_iff_iff]
  simp
theorem any_pd (D : List (Int × Int)) (d : Int × Int) : ((D.map pd).any fun z => PyData.eqv z (pd d)) = decide (d ∈ D) := by
  rw [Bool.eq_iff_iff, List.any_eq_true, decide_eq_true_eq]
  constructor
  · rintro ⟨z, hz, e⟩
    obtain ⟨y, hy, rfl⟩ := List.mem_map.mp hz
    rw [pd_eqv, decide_eq_true_eq] at e
    exact e ▸ hy
  · intro h
    exact ⟨pd d, List.mem_map_of_mem h, by rw [pd_eqv]; simp⟩
theorem dp_pair {K : PySem.W.Frag} {H : Hp} {t : Addr} {d : Int × Int} (h : H t = some (.tup [.int d.1, .int d.2])) : Dp K H (.ref t) (pd d) :=
  .tup (SqT.of h) (.cons (.int _) (.cons (.int _) .nil))
theorem dp_pairs {K : PySem.W.Frag} {H : Hp} : ∀ {ps : List (Addr × Int × Int)}, (∀ p ∈ ps, H p.1 = some (.tup [.int p.2.1, .int p.2.2])) → DpAll K H (ps.map fun p => V.ref p.1) ((ps.map (·.2)).map pd)
  | [], _ => .nil
  | p :: ps, h => .cons (dp_pair (h p (List.mem_cons_self ..))) (dp_pairs fun q hq => h q (List.mem_cons_of_mem _ hq))
theorem tt_by {t : TT} {Q : Bool → Hp → Prop} {σ : L2.St} {H : Hp} (Good : Bool → Hp → Prop) (h : ∀ Q' : Bool → Hp → Prop, (∀ b H', Good b H' → Q' b H') → t σ H Q') (hq : ∀ b H', Good b H' → Q b H') : t σ H Q := h _ hq

def pr (D : List (Int × Int)) (r : Int) : Int → Bool := fun o => decide ((r, o) ∈ D) || decide ((o, r) ∈ D)
def nbk (D : List (Int × Int)) (r : Int) (i : Nat) : List Int := ((List.range i).map fun (j : Nat) => 0 + (j : Int)).filter (pr D r)
theorem nbk_succ (D : List (Int × Int)) (r : Int) (i : Nat) : nbk D r (i + 1) = nbk D r i ++ if pr D r (0 + (i : Int)) = true then [0 + (i : Int)] else [] := by
  unfold nbk
  rw [List.range_succ, List.map_append, List.filter_append]
  congr 1
  by_cases c : pr D r (0 + (i : Int)) = true
  · rw [if_pos c]
    show List.filter (pr D r) [0 + (i : Int)] = _
    rw [List.filter_cons_of_pos c]
    rfl
  · rw [if_neg c]
    show List.filter (pr D r) [0 + (i : Int)] = _
    rw [List.filter_cons_of_neg c]
    rfl
theorem nbk_len (D : List (Int × Int)) (r : Int) (i : Nat) : (nbk D r i).length ≤ i := by
  refine Nat.le_trans (List.length_filter_le _ _) ?_
  simp
theorem nbk_nb (n : Int) (D : List (Int × Int)) (r : Int) : nbk D r n.toNat = nb n D r := by
  unfold nbk nb
  congr 1
  refine List.map_congr_left fun i _ => ?_
  omega

theorem get_ref {ps : List (Addr × Int × Int)} {i : Nat} {x : V} (h : (ps.map fun p => V.ref p.1)[i]? = some x) : ∃ p, ps[i]? = some p ∧ x = .ref p.1 := by
  rw [List.getElem?_map] at h
  cases e : ps[i]? with
  | none => rw [e] at h; cases h
  | some v => rw [e] at h; exact ⟨v, rfl, (Option.some.inj h).symm⟩
theorem outs_succ {D : List (Int × Int)} {r : Int} {i : Nat} {d : Int × Int} (h : D[i]? = some d) : outs (D.take (i + 1)) r = outs (D.take i) r ++ if d.1 = r then [d.2] else [] := by
  unfold outs
  rw [List.take_add_one, h, List.filter_append, List.map_append]
  congr 1
  by_cases c : d.1 = r
  · rw [if_pos c]
    show List.map _ (List.filter _ [d]) = _
    rw [List.filter_cons_of_pos (by simpa using c)]
    rfl
  · rw [if_neg c]
    show List.map _ (List.filter _ [d]) = _
    rw [List.filter_cons_of_neg (by simpa using c)]
    rfl
theorem ins_succ {D : List (Int × Int)} {r : Int} {i : Nat} {d : Int × Int} (h : D[i]? = some d) : ins (D.take (i + 1)) r = ins (D.take i) r ++ if d.2 = r then [d.1] else [] := by
  unfold ins
  rw [List.take_add_one, h, List.filter_append, List.map_append]
  congr 1
  by_cases c : d.2 = r
  · rw [if_pos c]
    show List.map _ (List.filter _ [d]) = _
    rw [List.filter_cons_of_pos (by simpa using c)]
    rfl
  · rw [if_neg c]
    show List.map _ (List.filter _ [d]) = _
    rw [List.filter_cons_of_neg (by simpa using c)]
    rfl
theorem outs_len (D : List (Int × Int)) (r : Int) : (outs D r).length ≤ D.length := by
  unfold outs
  rw [List.length_map]
  exact List.length_filter_le _ _
theorem ins_len (D : List (Int × Int)) (r : Int) : (ins D r).length ≤ D.length := by
  unfold ins
  rw [List.length_map]
  exact List.length_filter_le _ _
section
variable {P : Program} {w : World} {K : PySem.W.Frag} {mg : Str → Option Value} {base : Heap}
def spNb : Sp := fun vs H Q _ => ∃ (h : Addr) (n : Int) (D : List (Int × Int)) (r : Int), vs = [.ref h, .int r] ∧ HouseAt H h n D ∧ Forest n D ∧
  ∀ H' t, Same H H' → H' t = some (.tup (vi (nb n D r))) → Q (.ref t) H'

abbrev nNb : List Str := ["house", "room", "doors", "a", "b"]
abbrev gAB : PySem.W.Frag → TG := fun K => gTup K 2 (gCons (gName 3) (gCons (gName 4) gNil))
theorem scNb : FnScope nNb ["house", "room"] (defScope sNb) := ⟨rfl, rfl, rfl, by decide +kernel, rfl, by decide +kernel, by decide +kernel⟩
theorem ok_nb {f : Addr} {fd : FuncData} {k : Nat} (F : Fun K "neighbors" "neighbors" sNb f fd) (T : Nm mg) : FnOk P w K mg base CX0 (k + 1) f fd ["house", "room"] spNb := by
  refine F.ok scNb (fun vs H Q E h => ?_) (fun cdv A outer s H vs Q E hr h => ?_)
  · obtain ⟨h, n, D, r, rfl, _⟩ := h
    rfl
  · obtain ⟨h, n, D, r, rfl, ⟨q0, ps, h1, h2, h3, h4⟩, hF, q⟩ := h
    refine ⟨_, pss_cons (ps_set (i := 2) scNb.nd rfl (.inl rfl) (pe_ix ix_tup (pv 0) pe_int (fun _ _ => rfl)))
      (pss_one (ps_ret (pe_callTy call_tuple_of (by rfl) T.tuple (by decide +kernel) (pa_cons (pe_op op_cat
        (pe_lc (own := [("a", 3), ("b", 4)]) (g := gAB K) (by rfl) scNb.nd (pi_tup (pv 2))
          (blkOk_by (own := [("a", 3), ("b", 4)]) (N := nNb) (sc := defScope sNb) (by decide +kernel))
          (fun _ _ _ _ _ => pg_tup (by rfl) (pgs_cons (pg_name (i := 3) scNb.nd rfl (Or.inl rfl)) (pgs_cons (pg_name (i := 4) scNb.nd rfl (Or.inl rfl)) pgs_nil)))
          (fun _ _ _ _ _ => pts_one (pt_cmpR op_eq (pv 4) (pv 1) (nomark _)))
          (fun _ _ _ _ _ => pv 3))
        (pe_lc (own := [("a", 3), ("b", 4)]) (g := gAB K) (by rfl) scNb.nd (pi_tup (pv 2))
          (blkOk_by (own := [("a", 3), ("b", 4)]) (N := nNb) (sc := defScope sNb) (by decide +kernel))
          (fun _ _ _ _ _ => pg_tup (by rfl) (pgs_cons (pg_name (i := 3) scNb.nd rfl (Or.inl rfl)) (pgs_cons (pg_name (i := 4) scNb.nd rfl (Or.inl rfl)) pgs_nil)))
          (fun _ _ _ _ _ => pts_one (pt_cmpR op_eq (pv 3) (pv 1) (nomark _)))
          (fun _ _ _ _ _ => pv 4))) pa_nil)))), ?_⟩
    have el := hF.len
    have eD : D.take (ps.map fun p => V.ref p.1).length = D := by
      rw [h3, List.length_map, ← List.length_map (f := fun x : Addr × Int × Int => x.2), List.take_length]
    refine ⟨_, rfl, h, _, _, _, rfl, rfl, SqT.of h1, atI1, ?_⟩
    refine ⟨_, rfl, q0, rfl, ⟨_, SqT.of h2⟩, fun L hL => lc_tup (K := K) (a := q0) (xs := ps.map fun p => V.ref p.1) (fun i H1 => Same H H1 ∧ H1 L = some (.lst (vi (ins (D.take i) r))))
      ⟨same_upd hL, upd_same⟩ (fun i H1 _ hh => SqT.of (hh.1 _ _ h2)) ?_ ?_⟩
    · rintro i x H1 hx ⟨s1, e1⟩
      obtain ⟨p, hp, rfl⟩ := get_ref hx
      have ed : D[i]? = some p.2 := by rw [h3, List.getElem?_map, hp]; rfl
      refine ⟨p.1, _, rfl, SqT.of (s1 _ _ (h4 p (List.mem_of_getElem? hp))), rfl, _, _, rfl, _, _, rfl, rfl, rfl, _, rfl, _, rfl, rfl, _, rfl, ?_⟩
      refine ite2 (fun c => ?_) (fun c => ?_)
      · have c : p.2.2 = r := V.int.inj (of_decide_eq_true c)
        refine ⟨_, rfl, _, e1, ?_, same_put s1 hL, ?_⟩
        · rw [List.length_map]
          exact small1000 (Nat.le_trans (ins_len _ _) (by rw [List.length_take]; omega))
        · rw [upd_same, ins_succ ed, if_pos c, vi_app]
          rfl
      · have c : ¬ p.2.2 = r := fun e => c (decide_eq_true (by rw [e]))
        refine ⟨s1, ?_⟩
        rw [ins_succ ed, if_neg c, List.append_nil]
        exact e1
    · rintro H1 ⟨s1, e1⟩
      rw [eD] at e1
      refine ⟨_, rfl, q0, rfl, ⟨_, SqT.of (s1 _ _ h2)⟩, fun M hM => lc_tup (K := K) (a := q0) (xs := ps.map fun p => V.ref p.1) (fun i H2 => Same H1 H2 ∧ H2 M = some (.lst (vi (outs (D.take i) r))))
        ⟨same_upd hM, upd_same⟩ (fun i H2 _ hh => SqT.of (hh.1 _ _ (s1 _ _ h2))) ?_ ?_⟩
      · rintro i x H2 hx ⟨s2, e2⟩
        obtain ⟨p, hp, rfl⟩ := get_ref hx
        have ed : D[i]? = some p.2 := by rw [h3, List.getElem?_map, hp]; rfl
        refine ⟨p.1, _, rfl, SqT.of (s2 _ _ (s1 _ _ (h4 p (List.mem_of_getElem? hp)))), rfl, _, _, rfl, _, _, rfl, rfl, rfl, _, rfl, _, rfl, rfl, _, rfl, ?_⟩
        refine ite2 (fun c => ?_) (fun c => ?_)
        · have c : p.2.1 = r := V.int.inj (of_decide_eq_true c)
          refine ⟨_, rfl, _, e2, ?_, same_put s2 hM, ?_⟩
          · rw [List.length_map]
            exact small1000 (Nat.le_trans (outs_len _ _) (by rw [List.length_take]; omega))
          · rw [upd_same, outs_succ ed, if_pos c, vi_app]
            rfl
        · have c : ¬ p.2.1 = r := fun e => c (decide_eq_true (by rw [e]))
          refine ⟨s2, ?_⟩
          rw [outs_succ ed, if_neg c, List.append_nil]
          exact e2
      · rintro H2 ⟨s2, e2⟩
        rw [eD] at e2
        refine ⟨L, M, _, _, rfl, rfl, s2 _ _ e1, e2, ?_, fun N hN => ?_⟩
        · rw [List.length_map, List.length_map]
          have h1 := outs_len D r
          have h2 := ins_len D r
          exact Nat.le_of_lt (small1000 (by omega))
        rw [← vi_app, hF.nb_eq r]
        refine ⟨N, _, rfl, .inl ⟨SqL.of upd_same, fun t ht => q _ t ?_ upd_same⟩⟩
        exact ((s1.trans s2).trans (same_upd hN)).trans (same_upd ht)
def spLNb : Sp := fun vs H Q _ => ∃ (h : Addr) (n : Int) (D : List (Int × Int)) (r : Int), vs = [.ref h, .int r] ∧ HouseAt H h n D ∧ Forest n D ∧
  ∀ H' l, Same H H' → H l = none → H' l = some (.lst (vi (nb n D r))) → Q (.ref l) H'

abbrev nLNb : List Str := ["_law_house", "_law_room", "_law_found", "_law_one", "_law_other"]
abbrev gOO : PySem.W.Frag → TG := fun K => gTup K 2 (gCons (gName 3) (gCons (gName 4) gNil))
theorem scLNb : FnScope nLNb ["_law_house", "_law_room"] (defScope sLNb) := ⟨rfl, rfl, rfl, by decide +kernel, rfl, by decide +kernel, by decide +kernel⟩
theorem ok_lnb {f : Addr} {fd : FuncData} {k : Nat} (F : Fun K "_law_neighbors" "_law_neighbors" sLNb f fd) (T : Nm mg) : FnOk P w K mg base CX0 (k + 1) f fd ["_law_house", "_law_room"] spLNb := by
  refine F.ok scLNb (fun vs H Q E h => ?_) (fun cdv A outer s H vs Q E hr h => ?_)
  · obtain ⟨h, n, D, r, rfl, _⟩ := h
    rfl
  · obtain ⟨h, n, D, r, rfl, ⟨q0, ps, h1, h2, h3, h4⟩, hF, q⟩ := h
    refine ⟨_, pss_cons (ps_setLc (i := 2) (own := [("_law_one", 3), ("_law_other", 4)]) (g := gOO K) (by rfl) scLNb.nd rfl rfl (sw_true rfl rfl rfl (by decide +kernel)) (pi_tup (pe_ix ix_tup (pv 0) pe_int (fun _ _ => rfl)))
        (blkOk_by (own := [("_law_one", 3), ("_law_other", 4)]) (N := nLNb) (sc := defScope sLNb) (by decide +kernel))
        (fun _ _ _ _ _ => pg_tup (by rfl) (pgs_cons (pg_name (i := 3) scLNb.nd rfl (Or.inl rfl)) (pgs_cons (pg_name (i := 4) scLNb.nd rfl (Or.inl rfl)) pgs_nil)))
        (fun _ _ _ _ _ => pts_one (pt_cmpR op_eq (pv 3) (pv 1) (nomark _)))
        (fun _ _ _ _ _ => pv 4))
      (pss_one (ps_ret (pe_callB cr_sortedI (by rfl) T.sorted (by decide +kernel) (pa_cons (pe_op op_cat (pv 2)
        (pe_lc (own := [("_law_one", 3), ("_law_other", 4)]) (g := gOO K) (by rfl) scLNb.nd (pi_tup (pe_ix ix_tup (pv 0) pe_int (fun _ _ => rfl)))
          (blkOk_by (own := [("_law_one", 3), ("_law_other", 4)]) (N := nLNb) (sc := defScope sLNb) (by decide +kernel))
          (fun _ _ _ _ _ => pg_tup (by rfl) (pgs_cons (pg_name (i := 3) scLNb.nd rfl (Or.inl rfl)) (pgs_cons (pg_name (i := 4) scLNb.nd rfl (Or.inl rfl)) pgs_nil)))
          (fun _ _ _ _ _ => pts_one (pt_cmpR op_eq (pv 4) (pv 1) (nomark _)))
          (fun _ _ _ _ _ => pv 3))) pa_nil)))), ?_⟩
    refine ⟨_, rfl, h, _, _, _, rfl, rfl, SqT.of h1, atI1, q0, rfl, ⟨_, SqT.of h2⟩, fun L hL => lc_tup (K := K) (a := q0) (xs := ps.map fun p => V.ref p.1) (fun i H1 => Same H H1 ∧ H1 L = some (.lst (vi (outs (D.take i) r))))
      ⟨same_upd hL, upd_same⟩ (fun i H1 _ hh => SqT.of (hh.1 _ _ h2)) ?_ ?_⟩
    · rintro i x H1 hx ⟨s1, e1⟩
      obtain ⟨p, hp, rfl⟩ := get_ref hx
      have ed : D[i]? = some p.2 := by rw [h3, List.getElem?_map, hp]; rfl
      have em := List.mem_of_getElem? hp
      refine ⟨p.1, _, rfl, SqT.of (s1 _ _ (h4 p em)), rfl, _, _, rfl, _, _, rfl, rfl, rfl, _, rfl, _, rfl, rfl, _, rfl, ?_⟩
      refine ite2 (fun c => ?_) (fun c => ?_)
      · have c : p.2.1 = r := V.int.inj (of_decide_eq_true c)
        refine ⟨_, rfl, _, e1, ?_, same_put s1 hL, ?_⟩
        · rw [List.length_map]
          exact small1000 (Nat.le_trans (outs_len _ _) (by have := hF.len; rw [List.length_take]; omega))
        · rw [upd_same, outs_succ ed, if_pos c, vi_app]
          rfl
      · have c : ¬ p.2.1 = r := fun e => c (decide_eq_true (by rw [e]))
        refine ⟨s1, ?_⟩
        rw [outs_succ ed, if_neg c, List.append_nil]
        exact e1
    · rintro H1 ⟨s1, e1⟩
      have eD : D.take (ps.map fun p => V.ref p.1).length = D := by
        rw [h3, List.length_map, ← List.length_map (f := fun x : Addr × Int × Int => x.2), List.take_length]
      rw [eD] at e1
      refine ⟨_, rfl, _, rfl, h, _, _, _, rfl, rfl, SqT.of (s1 _ _ h1), atI1, q0, rfl, ⟨_, SqT.of (s1 _ _ h2)⟩, fun M hM => lc_tup (K := K) (a := q0) (xs := ps.map fun p => V.ref p.1) (fun i H2 => Same H1 H2 ∧ H2 M = some (.lst (vi (ins (D.take i) r))))
        ⟨same_upd hM, upd_same⟩ (fun i H2 _ hh => SqT.of (hh.1 _ _ (s1 _ _ h2))) ?_ ?_⟩
      · rintro i x H2 hx ⟨s2, e2⟩
        obtain ⟨p, hp, rfl⟩ := get_ref hx
        have ed : D[i]? = some p.2 := by rw [h3, List.getElem?_map, hp]; rfl
        have em := List.mem_of_getElem? hp
        refine ⟨p.1, _, rfl, SqT.of (s2 _ _ (s1 _ _ (h4 p em))), rfl, _, _, rfl, _, _, rfl, rfl, rfl, _, rfl, _, rfl, rfl, _, rfl, ?_⟩
        refine ite2 (fun c => ?_) (fun c => ?_)
        · have c : p.2.2 = r := V.int.inj (of_decide_eq_true c)
          refine ⟨_, rfl, _, e2, ?_, same_put s2 hM, ?_⟩
          · rw [List.length_map]
            exact small1000 (Nat.le_trans (ins_len _ _) (by have := hF.len; rw [List.length_take]; omega))
          · rw [upd_same, ins_succ ed, if_pos c, vi_app]
            rfl
        · have c : ¬ p.2.2 = r := fun e => c (decide_eq_true (by rw [e]))
          refine ⟨s2, ?_⟩
          rw [ins_succ ed, if_neg c, List.append_nil]
          exact e2
      · rintro H2 ⟨s2, e2⟩
        rw [eD] at e2
        have el := hF.len
        refine ⟨L, M, _, _, rfl, rfl, s2 _ _ e1, e2, ?_, fun N hN => ?_⟩
        · rw [List.length_map, List.length_map]
          have h1 := outs_len D r
          have h2 := ins_len D r
          exact Nat.le_of_lt (small1000 (by omega))
        · rw [← vi_app]
          refine ⟨N, _, rfl, SqL.of upd_same, fun ys Z hp hup hZ => ?_⟩
          refine q _ Z ((s1.trans s2).trans ((same_upd hN).trans (same_upd hZ))) (s1.free (s2.free ((same_upd hN).free hZ))) ?_
          rw [upd_same, hF.sorted_nb hp hup]
end
end Fw
namespace Fw
open PySem PySem.Spec PyProof.Rows L2

/-! ### repr, where no repr is under way -/
def rRepr (K : PySem.W.Frag) : List V → Hp → VK → Prop := fun vs H Q => ∃ (a : Addr) (d : PyData), vs = [.ref a] ∧ Dp K H (.ref a) d ∧ d.showable = true ∧ d.hasDict = false ∧ d.depth ≤ 60 ∧ d.shown.length ≤ sizeLine ∧ Q (.str d.shown) H
theorem call_repr {X : Cx} (hg : X.A.guards = some []) (hu : X.A.units + 65 < cLine) : CallR X (.builtin "repr") (rRepr X.K) := by
  intro pins s σ H vs us Q I r h
  obtain ⟨a, d, rfl, hd, hs, hn, hp, hz, q⟩ := h
  obtain ⟨u, rfl, ru⟩ := vals1 r
  obtain rfl : u = Value.ref a := ru
  obtain ⟨as, rd⟩ := Dp.reads I d _ _ hd rfl
  refine repr_of_reads' rd hs (fun z => ?_) hg (by omega) (fun _ _ e => e) (fun h' t tk hk => ?_) hz
  · rw [hn] at z
    cases z
  · exact ⟨.str _, H, I.kept hk, ⟨_, rfl⟩, q⟩

/-! ### a def that is run where no repr is under way -/
structure FnG (P : Program) (w : World) (K : PySem.W.Frag) (mg : Str → Option Value) (base : Heap) (k : Nat) (f : Addr) (fd : FuncData) (ps : List Str) (sp : Sp) : Prop where
  len : ∀ vs H Q E, sp vs H Q E → vs.length = ps.length
  go : ∀ (A : Around) (out : List Env) (st : Shared) (H : Hp) (as : Args) (us : List Value) (vs : List V) (Q : VK), A.guards = some [] → Room k A → Env0 P w K mg base A out st H → BindsTo st fd as (ps.zip us) → Vals vs us → sp vs H Q E0 →
    codeAny (model P w) A (.call (.ref f) as) (CR CX0 out P w H st Q E0) st

section
variable {P : Program} {w : World} {K : PySem.W.Frag} {mg : Str → Option Value} {base : Heap}
theorem Fun.okG {x : Str} {st : Stmt} {f : Addr} {fd : FuncData} {N ps : List Str} {k : Nat} {sp : Sp} (F : Fun K x x st f fd) (S : FnScope N ps (defScope st)) (len : ∀ vs H Q E, sp vs H Q E → vs.length = ps.length)
    (bd : ∀ (c : Value) (A : Around) (out : List Env) (z : Shared) (H : Hp) (vs : List V) (Q : VK), (A.deeper (envOfC x (defScope st) z.heap.objs.size f c)).guards = some [] → Room k (A.deeper (envOfC x (defScope st) z.heap.objs.size f c)) → sp vs H Q E0 →
      ∃ t, PSs (cxOf CX0 P w K mg base N x (defScope st) f c A out z H E0).nox (defBody st) t ∧ t { nx := fun _ H' => Q .non H', rt := Q } (L2.start N vs) H) : FnG P w K mg base (k + 1) f fd ps sp := by
  obtain ⟨oc, od, kV, doc, pm, an, c, ct, osl, rfl, lk, hc⟩ := F.ex
  refine ⟨len, fun A out z H as us vs Q gd room en bi rel hs => ?_⟩
  have kin : K.In z.heap := fun b o e => (en.bs b o (en.mod.kin b o e)).1
  refine codeAny_call_function room.depth (kin _ _ lk) rfl S.co S.gen rfl (PySem.W.codeRec_of kin hc) (bi _ _ _ _ ?_)
  have kinds : ∀ y ∈ ps.zip us, (defScope st).names.lookup y.1 = some .local ∨ ((defScope st).names.lookup y.1 = some .cell ∧ ((cellsFrom (z.heap.objs.size + 1) (defScope st).names []).lookup y.1).isSome = true) := by
    rintro ⟨n, v⟩ hy
    exact (S.par n (List.of_mem_zip hy).1).imp id fun q => ⟨q, PySem.W.cellsFrom_some _ _ _ (.inl q)⟩
  refine wpAny_newFunctionEnv_cells S.kind kinds fun env ee z1 ic => ?_
  subst ee
  refine ⟨(en.mod.nolimit.keeps fun b o e => (en.bs b o e).1).keeps ic.toInCall.keep, codeAny_func ?_⟩
  obtain ⟨t, d, rd⟩ := bd c A out z H vs Q gd (room.deeper _) hs
  have inv := inv_start (CX := CX0) (E := E0) S room.hd en (len _ _ _ _ hs) rel ic
  refine wpAny_mono (d.nox.run [] z1 _ H _ inv rd) (fun fl z2 e => ?_) fun _ _ e => e
  match fl, e with
  | .ret u, ⟨v, σ', H', J, rv, q⟩ => exact ⟨v, H', J.os, J.bare, J.base, J.hok, rv, q⟩
  | .next, ⟨σ', H', J, q⟩ => exact ⟨.non, H', J.os, J.bare, J.base, J.hok, rfl, q⟩
  | .brk, ⟨_, _, _, q⟩ => exact q.elim
  | .cont, ⟨_, _, _, q⟩ => exact q.elim

/-- a call of such a def -/
theorem pe_callG {X : Cx} {k : Nat} {f : Addr} {fd : FuncData} {ps : List Str} {sp : Sp} {x : Str} {p pos : Pos} {e : Expr} {es : List Expr} {t : TA} (F : FnG X.prog X.w X.K X.mg X.base k f fd ps sp) (gd : X.A.guards = some []) (hr : Room k X.A)
    (hg : Gl X x) (hm : X.mg x = some (.ref f)) (hk : PySem.W.keepIn X.K (.ref f) = true) (hb : Binds X.K fd ps []) (ha : PA X (e :: es) t) (hdb : (x == ("__debug__" : Str)) = false := by decide)
    (h1 : starEach (e :: es) X.env = (false, eval e X.env) :: starEach es X.env := by rfl) (h2 : (backTo pos (starEach es X.env)).any (·.1) = false := by rfl) : PE X (.Call (.Name x p) (e :: es) [] pos) (tCall sp [] E0 t) := by
  constructor
  intro pins z σ H Q I h
  refine wpAny_Call_Name_kw (ld_glob I hg hm (PySem.W.callWith_K (h₀ := X.base) I.ok.mod.kin hk (thn (ha.run pos pins z σ H _ I h) ?_) h1 h2) hdb)
  rintro us z1 ⟨vs, H1, I1, r, q⟩
  refine ⟨I1.kIn, wpAny_call (codeAny_mono (F.go X.A X.stack z1 H1 ⟨us, []⟩ (us ++ []) (vs ++ []) Q gd hr I1.env0 (hb z1 us I1.kIn ?_) (r.append .nil) q) fun a z2 hq => ?_)⟩
  · rw [← (r.append .nil).length]
    exact F.len _ _ _ _ q
  · match a, hq with
    | .error _, hq => exact hq.elim
    | .ok (.ret u), hq => exact I1.after hq
    | .ok .next, hq => exact hq.elim
    | .ok .brk, hq => exact hq.elim
    | .ok .cont, hq => exact hq.elim
end
end Fw
namespace Fw
open PySem PySem.Spec PyProof.Rows L2

/-- the state at the law's own call: only the script is tracked -/
theorem top_state {P : Program} {w : World} {K : PySem.W.Frag} {mg mb : Str → Option Value} {a : Addr} {z : Shared} {vs : List Value} {ns : List Int} (kin : K.In z.heap) (gl : z.heap.Ns mainGlobals mg) (bl : z.heap.Ns builtinsNs mb)
    (bb : ∀ x : Str, x ≠ "__name__" → mb x = bootBuiltins x) (lim : z.heap.NoLimit) (ge : z.gens = #[]) (obj : z.heap.get? a = some { cls := .type "list", data := .seq vs.toArray }) (hi : IntsAre vs ns) (hl : ns.length ≤ sizeLine) :
    ∃ (H : Hp) (base : Heap), SqL K H a (vi ns) ∧ K.In base ∧ base.Ns mainGlobals mg ∧ Env0 P w K mg base callerA [] z H ∧ ∀ (H' : Hp) (z' : Shared), Un (frs []) [] H H' z.heap z'.heap → HOk P w H' z'.heap → OldK z.heap z'.heap := by
  have rel : Vals (vi ns) vs := vals_ints hi
  -- what is tracked: nothing, or the script alone
  have pick : ∃ H : Hp, SqL K H a (vi ns) ∧ HOk P w H z.heap ∧ (∀ b, H b = none ∨ (b = a ∧ K.lookup a = none ∧ ∃ xs, H b = some (.frz { cls := .type "list", data := .seq vs.toArray } (.lst xs)))) := by
    cases e : K.lookup a with
    | some o =>
      have e2 : o = { cls := .type "list", data := .seq vs.toArray } := by
        have := kin a o e
        rw [obj] at this
        exact (Option.some.inj this).symm
      subst e2
      refine ⟨fun _ => none, .inr ⟨_, vs.toArray, _, e, rfl, rfl, rfl, ?_, rel⟩, fun b u q => ?_, fun b => .inl rfl⟩
      · rw [List.size_toArray, hi.length]
        exact hl
      · cases (show (none : Option HO) = some u from q)
    | none =>
      refine ⟨upd (fun _ => none) a (.frz { cls := .type "list", data := .seq vs.toArray } (.lst (vi ns))), .inl (.inr ⟨_, upd_same⟩), fun b u q => ?_, fun b => ?_⟩
      · by_cases eb : b = a
        · rw [eb, upd_same] at q
          cases q
          rw [eb]
          exact ⟨obj, by rw [List.length_map]; exact hl, vs, _, rel, obj⟩
        · rw [upd_ne eb] at q
          cases q
      · by_cases eb : b = a
        · exact .inr ⟨eb, rfl, _, by rw [eb]; exact upd_same⟩
        · exact .inl (upd_ne eb)
  obtain ⟨H, hS, hok, only⟩ := pick
  have low : ∀ {b : Addr} {o : Obj}, z.heap.get? b = some o → (b = a → K.lookup a ≠ none) → (hidT z.heap H).get? b = some o := fun {b o} e q => hidT_get e (by
    rcases only b with n | ⟨eb, n, _⟩
    · exact n
    · exact absurd n (q eb))
  have dic : ∀ {b : Addr} {m : Str → Option Value}, z.heap.Ns b m → (hidT z.heap H).Ns b m := fun {b m} h => by
    obtain ⟨o, es, ep, e, d, r⟩ := h
    refine ⟨o, es, ep, hidT_get e ?_, d, r⟩
    rcases only b with n | ⟨eb, _, _⟩
    · exact n
    · rw [eb, obj] at e
      cases e
      cases (show Data.seq vs.toArray _ = Data.dict es ep from d)
  have kb : K.In (hidT z.heap H) := fun b o e => low (kin b o e) fun eb n => by
    rw [eb, n] at e
    cases e
  refine ⟨H, hidT z.heap H, hS, kb, dic gl, ?_, fun H' z' un ok' => OldK.of_keep fun b o e => ?_⟩
  · refine { frames := rfl, mod := ⟨kb, dic gl, ⟨mb, dic bl, bb⟩, ?_⟩, bs := fun b o e => of_hidT e, bsz := Nat.le_of_eq (hidT_size _ _), funs := trivial, frf := fun b hb => ?_, hok := hok, bare := .of_eq ge }
    · obtain ⟨mc, h1, h2⟩ := lim
      exact ⟨mc, dic h1, h2⟩
    · cases (show b ∈ ([] : List Addr) from hb)
  · rcases only b with n | ⟨eb, _, xs, fz⟩
    · refine un.keep b o e n (fun hb => ?_) (fun hb => ?_)
      · cases (show b ∈ ([] : List Addr) from hb)
      · cases hb
    · have f2 := (ok' b _ (un.frzs b _ _ fz)).1
      rw [eb, obj] at e
      cases e
      exact f2

/-- the law's def takes the script alone -/
abbrev Takes1 (fd : FuncData) : Prop := ∀ (z : Shared) (v : Value), BindsTo z fd ⟨[v], []⟩ [("_law_script", v)]
/-- the law's def, at fa, keeps sp over whatever holds the written part -/
def LawAt (P : Program) (w : World) (K : PySem.W.Frag) (mg : Str → Option Value) (k : Nat) (fa : Addr) (sp : Sp) : Prop :=
  ∃ fd, Takes1 fd ∧ ∀ b : Heap, K.In b → b.Ns mainGlobals mg → FnG P w K mg b k fa fd ["_law_script"] sp
/-- a promise that says True of every script -/
def Tells (sp : PySem.W.Frag → Sp) : Prop := ∀ K H a ns, ns.length ≤ 63 → SqL K H a (vi ns) → sp K [.ref a] H (fun v _ => v = .bl true) E0
/-- how a call that keeps such a promise ends -/
structure Told (P : Program) (w : World) (H : Hp) (z : Shared) (r : Result) (z' : Shared) : Prop where
  res : r = .ok (.ret (.bool true))
  os : z'.os = z.os
  bare : AllBare z'.gens
  st : ∃ H', Un (frs []) [] H H' z.heap z'.heap ∧ HOk P w H' z'.heap
theorem told {P : Program} {w : World} {H : Hp} {z z' : Shared} {r : Result} (e : CR CX0 [] P w H z (fun v _ => v = .bl true) E0 r z') : Told P w H z r z' := by
  rcases r with _ | f
  · exact False.elim e
  cases f
  all_goals first | exact False.elim e | skip
  rename_i u
  obtain ⟨v, H', o1, o2, un, ok, rv, qv⟩ := e
  have qv : v = .bl true := qv
  rw [qv] at rv
  exact ⟨by rw [show u = Value.bool true from rv], o1, o2, H', un, ok⟩
/-- the end of a law whose def wants that no repr is under way -/
theorem walkG {l : PySem.W.OpenLaw} {k : Nat} {q : Program} {ls : List Str} {XP : (Str → Option Value) → Heap → Prop} {Y : World → Heap → Prop} {d : DefRec} {K : Params → PySem.W.Frag} {sp : PySem.W.Frag → Sp} (t : Tells sp) (m : l.most = some 63) (nd : d.params.defaults = []) (room : Room k callerA)
    (inK : ∀ w h, Y w h → (K w.params).In h) (L : ∀ w mg fa h, (K w.params).In h → h.Ns mainGlobals mg → mg d.name = some (.ref fa) → LawAt l.prog w (K w.params) mg k fa (sp (K w.params))) :
    PySem.W.WalkO q ls XP Y l.row.toRowW d [] (fun f vs => PySem.call f vs) := by
  apply Att.attach_call m nd
  intro w _ z mg _ fa _ _ _ _ a vs ns G y _ _ _ here obj hi few gens
  obtain ⟨fd, one, keeps⟩ := L w mg fa _ (inK w _ y) G.T.g here
  obtain ⟨H, b, hS, kb, gb, en, old⟩ := top_state (P := l.prog) (w := w) (inK w _ y) G.T.g G.T.b G.T.builtins G.T.nolimit gens obj hi (Nat.le_trans few (by decide))
  have c := (keeps b kb gb).go callerA [] z H ⟨[.ref a], []⟩ [.ref a] [.ref a] (fun v _ => v = .bl true) rfl room en (one z (.ref a)) (.cons rfl .nil) (t _ H a ns few hS)
  exact codeAny_mono c fun r z' e => by
    have e := told e
    obtain ⟨H', un, ok⟩ := e.st
    exact ⟨e.res, old H' z' un ok, e.os, e.bare⟩
end Fw
namespace Fw
open PySem PySem.Spec PyProof.Rows L2
/-- a house as data -/
def hd (n : Int) (D : List (Int × Int)) : PyData := .tuple [.int n, .tuple (D.map pd)]
theorem log_small {i : Int} (h0 : 0 ≤ i) (h1 : i ≤ 100) : i.natAbs.log2 < 1920 := by
  by_cases h : i.natAbs = 0
  · rw [h]; decide
  · exact (Nat.log2_lt h).mpr (Nat.lt_of_le_of_lt (show i.natAbs ≤ 2 ^ 7 by omega) (Nat.pow_lt_pow_right (by decide) (by decide)))
theorem pds_show : ∀ {D : List (Int × Int)}, (∀ d ∈ D, 0 ≤ d.1 ∧ d.1 ≤ 100 ∧ 0 ≤ d.2 ∧ d.2 ≤ 100) → PyData.showableAll (D.map pd) = true ∧ PyData.leavesShortAll 13 (D.map pd) = true
  | [], _ => by simp [PyData.showableAll, PyData.leavesShortAll]
  | d :: D, h => by
    obtain ⟨i1, i2⟩ := pds_show (D := D) fun x hx => h x (List.mem_cons_of_mem _ hx)
    obtain ⟨a0, a1, b0, b1⟩ := h d (List.mem_cons_self ..)
    have s1 := PyData.shown_int_le2 (i := d.1) (by omega) (by omega)
    have s2 := PyData.shown_int_le2 (i := d.2) (by omega) (by omega)
    rw [List.map_cons, PyData.showableAll, PyData.leavesShortAll, i1, i2]
    simp only [pd, PyData.showable, PyData.showableAll, PyData.leavesShort, PyData.leavesShortAll, Bool.and_true]
    exact ⟨by rw [decide_eq_true (log_small a0 a1), decide_eq_true (log_small b0 b1)]; rfl, by rw [decide_eq_true s1, decide_eq_true s2]; rfl⟩
theorem pds_nodict : ∀ D : List (Int × Int), PyData.hasDictAll (D.map pd) = false
  | [] => by simp [PyData.hasDictAll]
  | d :: D => by
    rw [List.map_cons, PyData.hasDictAll, pds_nodict D]
    simp [pd, PyData.hasDict, PyData.hasDictAll]
theorem pds_bulk : ∀ D : List (Int × Int), PyData.bulkAll (D.map pd) = 3 * D.length
  | [] => by simp [PyData.bulkAll]
  | d :: D => by
    rw [List.map_cons, PyData.bulkAll, pds_bulk D]
    simp [pd, PyData.bulk, PyData.bulkAll]
    omega
structure Shows (d : PyData) : Prop where
  s : d.showable = true
  n : d.hasDict = false
  p : d.depth ≤ 60
  z : d.shown.length ≤ sizeLine
theorem hd_shows {n : Int} {D : List (Int × Int)} (n0 : 0 ≤ n) (n1 : n ≤ 100) (h : ∀ d ∈ D, 0 ≤ d.1 ∧ d.1 ≤ 100 ∧ 0 ≤ d.2 ∧ d.2 ≤ 100) (hl : D.length ≤ 100) : Shows (hd n D) := by
  obtain ⟨i1, i2⟩ := pds_show h
  have s1 := PyData.shown_int_le2 (i := n) (by omega) (by omega)
  have dp := pd_deep D
  refine ⟨?_, ?_, ?_, PyData.shown_fits_bulk (B := 13) (by decide) (by decide) ?_ ?_⟩
  · simp only [hd, PyData.showable, PyData.showableAll, Bool.and_true, i1]
    rw [decide_eq_true (log_small n0 n1)]
  · simp only [hd, PyData.hasDict, PyData.hasDictAll, Bool.or_false, Bool.false_or]
    exact pds_nodict D
  · simp only [hd, PyData.depth, PyData.depthAll]
    omega
  · simp only [hd, PyData.leavesShort, PyData.leavesShortAll, Bool.and_true, i2]
    rw [decide_eq_true s1]
  · simp only [hd, PyData.bulk, PyData.bulkAll, pds_bulk]
    omega
theorem Forest.shows {n : Int} {D : List (Int × Int)} (f : Forest n D) (n0 : 0 ≤ n) (n1 : n ≤ 8) : Shows (hd n D) := by
  refine hd_shows n0 (by omega) (fun d hd => ?_) (Nat.le_trans f.len (by decide))
  have := f.ends (a := d.1) (b := d.2) hd
  omega
theorem HouseAt.dp {K : PySem.W.Frag} {H : Hp} {h : Addr} {n : Int} {D : List (Int × Int)} (x : HouseAt H h n D) : Dp K H (.ref h) (hd n D) := by
  obtain ⟨q, ps, h1, h2, h3, h4⟩ := x
  rw [h3]
  exact .tup (SqT.of h1) (.cons (.int n) (.cons (.tup (SqT.of h2) (dp_pairs h4)) .nil))
end Fw
namespace Fw
open PySem PySem.Spec PyProof.Rows L2
/-- a def of the text, wherever it stands -/
def DefE (K : PySem.W.Frag) (mg : Str → Option Value) (x : Str) (st : Stmt) (ps : List Str) : Prop := ∃ f fd, Def K mg x st f fd ps
/-- a def that keeps a promise, by its name -/
def Cal (P : Program) (w : World) (K : PySem.W.Frag) (mg : Str → Option Value) (base : Heap) (k : Nat) (x : Str) (ps : List Str) (sp : Sp) : Prop :=
  ∃ f fd, mg x = some (.ref f) ∧ PySem.W.keepIn K (.ref f) = true ∧ Binds K fd ps [] ∧ FnOk P w K mg base CX0 k f fd ps sp
def CalG (P : Program) (w : World) (K : PySem.W.Frag) (mg : Str → Option Value) (base : Heap) (k : Nat) (x : Str) (ps : List Str) (sp : Sp) : Prop :=
  ∃ f fd, mg x = some (.ref f) ∧ PySem.W.keepIn K (.ref f) = true ∧ Binds K fd ps [] ∧ FnG P w K mg base k f fd ps sp
section
variable {P : Program} {w : World} {K : PySem.W.Frag} {mg : Str → Option Value} {base : Heap}
theorem Def.cal {x : Str} {st : Stmt} {f : Addr} {fd : FuncData} {ps : List Str} {k : Nat} {sp : Sp} (D : Def K mg x st f fd ps) (h : FnOk P w K mg base CX0 k f fd ps sp) : Cal P w K mg base k x ps sp :=
  ⟨f, fd, D.g, D.F.kp, D.b, h⟩
theorem Def.calG {x : Str} {st : Stmt} {f : Addr} {fd : FuncData} {ps : List Str} {k : Nat} {sp : Sp} (D : Def K mg x st f fd ps) (h : FnG P w K mg base k f fd ps sp) : CalG P w K mg base k x ps sp :=
  ⟨f, fd, D.g, D.F.kp, D.b, h⟩
theorem DefE.cal {x : Str} {st : Stmt} {ps : List Str} {k : Nat} {sp : Sp} (D : DefE K mg x st ps) (h : ∀ f fd, Def K mg x st f fd ps → FnOk P w K mg base CX0 k f fd ps sp) : Cal P w K mg base k x ps sp := by
  obtain ⟨f, fd, d⟩ := D
  exact d.cal (h f fd d)
theorem DefE.calG {x : Str} {st : Stmt} {ps : List Str} {k : Nat} {sp : Sp} (D : DefE K mg x st ps) (h : ∀ f fd, Def K mg x st f fd ps → FnG P w K mg base k f fd ps sp) : CalG P w K mg base k x ps sp := by
  obtain ⟨f, fd, d⟩ := D
  exact d.calG (h f fd d)
theorem Cal.imp {x : Str} {ps : List Str} {k : Nat} {sp sp' : Sp} (C : Cal P w K mg base k x ps sp) (h : ∀ vs H Q E, sp' vs H Q E → sp vs H Q E) : Cal P w K mg base k x ps sp' := by
  obtain ⟨f, fd, a, b, c, d⟩ := C
  exact ⟨f, fd, a, b, c, d.imp h⟩
theorem Cal.up {x : Str} {ps : List Str} {j k : Nat} {sp : Sp} (C : Cal P w K mg base j x ps sp) (h : j ≤ k) : Cal P w K mg base k x ps sp := by
  obtain ⟨f, fd, a, b, c, d⟩ := C
  exact ⟨f, fd, a, b, c, d.mono h⟩
theorem pe_cal {X : Cx} {k : Nat} {ps : List Str} {sp : Sp} {x : Str} {p pos : Pos} {e : Expr} {es : List Expr} {t : TA} (C : Cal X.prog X.w X.K X.mg X.base k x ps sp) (hr : Room k X.A) (hg : Gl X x) (ha : PA X (e :: es) t) (hdb : (x == ("__debug__" : Str)) = false := by decide)
    (h1 : starEach (e :: es) X.env = (false, eval e X.env) :: starEach es X.env := by rfl) (h2 : (backTo pos (starEach es X.env)).any (·.1) = false := by rfl) : PE X (.Call (.Name x p) (e :: es) [] pos) (tCall sp [] E0 t) := by
  obtain ⟨f, fd, a, b, c, d⟩ := C
  exact pe_call d hr hg a b c .nil pass0 ha hdb h1 h2
theorem pe_calG {X : Cx} {k : Nat} {ps : List Str} {sp : Sp} {x : Str} {p pos : Pos} {e : Expr} {es : List Expr} {t : TA} (C : CalG X.prog X.w X.K X.mg X.base k x ps sp) (gd : X.A.guards = some []) (hr : Room k X.A) (hg : Gl X x) (ha : PA X (e :: es) t) (hdb : (x == ("__debug__" : Str)) = false := by decide)
    (h1 : starEach (e :: es) X.env = (false, eval e X.env) :: starEach es X.env := by rfl) (h2 : (backTo pos (starEach es X.env)).any (·.1) = false := by rfl) : PE X (.Call (.Name x p) (e :: es) [] pos) (tCall sp [] E0 t) := by
  obtain ⟨f, fd, a, b, c, d⟩ := C
  exact pe_callG d gd hr hg a b c ha hdb h1 h2
end
def tTru (K : PySem.W.Frag) (ta : TE) : TT := fun σ H Q => ta σ H fun x H' => ∃ k, TruV K x H' k ∧ Q k H'
/-! ### the rules with the written part told (so that they can stand in a comprehension) -/
section
variable {X : Cx} (K : PySem.W.Frag) (h : X.K = K)
include h
theorem op_inK : OpR X (compareOp .In) (rIn K false) := by subst h; exact op_in_seq
theorem op_notInK : OpR X (compareOp .NotIn) (rIn K true) := by subst h; exact op_notIn_seq
theorem ix_listK : IxR X (rIxL K) := by subst h; exact ix_list
theorem ix_tupK : IxR X (rIxT K) := by subst h; exact ix_tup
theorem call_lenK : CallR X (.builtin "len") (fun xs H Q => ∃ p ys, xs = [.ref p] ∧ (SqL K H p ys ∨ SqT K H p ys) ∧ Q (.int ys.length) H) := by subst h; exact call_len_seq
theorem call_listK : CallR X (.type "list") (fun xs H Q => ∃ p ys, xs = [.ref p] ∧ (SqL K H p ys ∨ SqT K H p ys) ∧ ∀ l, H l = none → Q (.ref l) (upd H l (.lst ys))) := by subst h; exact call_list_of
theorem call_tupleK : CallR X (.type "tuple") (fun xs H Q => ∃ p ys, xs = [.ref p] ∧ ((SqL K H p ys ∧ ∀ l, H l = none → Q (.ref l) (upd H l (.tup ys))) ∨ (SqT K H p ys ∧ Q (.ref p) H))) := by subst h; exact call_tuple_of
theorem call_tupleF : CallR X (.type "tuple") (fun xs H Q => ∃ p ys, xs = [.ref p] ∧ SqL K H p ys ∧ ∀ (l : Addr) (ob : Obj), H l = none → ob.dict = none → Q (.ref l) (upd H l (.frz ob (.tup ys)))) := by
  subst h
  intro pins s σ H xs us Q I r h
  obtain ⟨p, ys, rfl, hq, q⟩ := h
  obtain ⟨u, rfl, ru⟩ := vals1 r
  cases ru
  obtain ⟨its, rel, pl, hz⟩ := I.list hq
  have hlen := rel.length
  refine call_tuple_list pl.isList (fun h' kp => ?_) (by simp only [List.size_toArray] <;> omega)
  have I1 : Inv X pins σ H { s with heap := h' } := I.kept (t' := s.toks) kp
  have J : Inv X pins σ (upd H h'.objs.size (.frz { cls := .type "tuple", data := .seq its.toArray } (.tup ys))) { s with heap := h'.push { cls := .type "tuple", data := .seq its.toArray } } :=
    I1.laid (t' := s.toks) (fun b o e => Heap.get?_push_of_some _ e) (Nat.le_refl _) (show ObjOk X.prog X.w _ _ _ (.frz _ (.tup ys)) from ⟨Heap.get?_push_size _ rfl, hz, its, rel, IsTup.new _ _⟩)
  exact ⟨.ref h'.objs.size, _, J, rfl, q _ _ (I1.hok.fresh (Nat.le_refl _)) rfl⟩
theorem pi_tupK {tg l : Expr} {tl : TE} (hl : PE X l tl) : PI X tg l (iTup K tl) := by subst h; exact pi_tup hl
theorem pi_listK {tg l : Expr} {tl : TE} (hl : PE X l tl) : PI X tg l (iList K tl) := by subst h; exact pi_list hl
theorem op_eqDK (hu : X.A.units + 64 < cLine) : OpR X (compareOp .Eq) (rEqD K) := by subst h; exact op_eqD hu
theorem op_neDK (hu : X.A.units + 64 < cLine) : OpR X (compareOp .NotEq) (rNeD K) := by subst h; exact op_neD hu
theorem pt_truthK {a : Expr} {ta : TE} (ha : PE X a ta) (he : ∀ whole, isTrue a X.env whole = (do let v ← whole; standAt a.pos; holding [v] (truthy v))) : PT X a (tTru K ta) := by subst h; exact pt_truth ha he
end
end Fw
namespace Fw
open PySem PySem.Spec PyProof.Rows L2
/-! ### names: texts of small letters -/
def Low (m : Nat) (s : Str) : Prop := s.length ≤ m ∧ ∀ c ∈ s.cps.toList, 97 ≤ c ∧ c ≤ 122
def Nam (s : Str) : Prop := 1 ≤ s.length ∧ Low 8 s
def ltS (a b : Str) : Prop := a.cps.toList < b.cps.toList
structure Names (ns : List Str) : Prop where
  nam : ∀ x ∈ ns, Nam x
  up : ns.Pairwise ltS
theorem str_ext {a b : Str} (h : a.cps.toList = b.cps.toList) : a = b := by
  cases a with
  | mk x => cases b with
    | mk y =>
      have : x = y := Array.toList_inj.mp h
      rw [this]
theorem app_list (a b : Str) : (a ++ b).cps.toList = a.cps.toList ++ b.cps.toList := by
  show (a.cps ++ b.cps).toList = _
  rw [Array.toList_append]
theorem app_len (a b : Str) : (a ++ b).length = a.length + b.length := Str.length_append a b
theorem len_list (a : Str) : a.length = a.cps.toList.length := by
  show a.cps.size = _
  rw [Array.length_toList]
theorem Low.app {m n : Nat} {a b : Str} (h : Low m a) (k : Low n b) : Low (m + n) (a ++ b) := by
  refine ⟨by rw [app_len]; have := h.1; have := k.1; omega, fun c hc => ?_⟩
  rw [app_list, List.mem_append] at hc
  exact hc.elim (h.2 c) (k.2 c)
theorem Low.mono {m n : Nat} {a : Str} (h : Low m a) (k : m ≤ n) : Low n a := ⟨Nat.le_trans h.1 k, h.2⟩
def let1 (i : Int) : Str := ⟨#[97 + i.toNat]⟩
theorem let1_low {i : Int} (h0 : 0 ≤ i) (h1 : i < 26) : Low 1 (let1 i) := by
  refine ⟨Nat.le_refl _, fun c hc => ?_⟩
  have : c = 97 + i.toNat := by simpa [let1] using hc
  omega
theorem join_low {sep : Str} (hs : sep.cps.toList = []) : ∀ {ys : List Str}, (∀ y ∈ ys, Low 1 y) → Low ys.length (Txt.join sep ys) := by
  intro ys h
  show Low ys.length (Builtin.Str.glued sep ys)
  rw [StrLaws.glued_eq_join]
  induction ys with
  | nil => exact ⟨Nat.le_refl _, fun c hc => by cases (show c ∈ ([] : List Nat) from hc)⟩
  | cons y r ih =>
    cases r with
    | nil => exact h y (List.mem_cons_self ..)
    | cons z r =>
      have i1 := ih fun x hx => h x (List.mem_cons_of_mem _ hx)
      have i0 := h y (List.mem_cons_self ..)
      have e : Str.join sep (y :: z :: r) = y ++ sep ++ Str.join sep (z :: r) := rfl
      have e2 : y ++ sep = y := str_ext (by rw [app_list, hs, List.append_nil])
      rw [e, e2]
      refine ((i0.app i1).mono ?_)
      simp only [List.length_cons]
      omega
theorem join_fits {sep : Str} (hs : sep.cps.toList = []) {ys : List Str} (h : ∀ y ∈ ys, Low 1 y) (hl : ys.length ≤ 100) : (ys.map (·.length)).sum + ys.length * sep.length ≤ 16777216 := by
  have e : sep.length = 0 := by rw [len_list, hs]; rfl
  rw [e, Nat.mul_zero, Nat.add_zero]
  have : ∀ zs : List Str, (∀ y ∈ zs, Low 1 y) → (zs.map (·.length)).sum ≤ zs.length := by
    intro zs hz
    induction zs with
    | nil => exact Nat.le_refl _
    | cons z r ih =>
      have := ih fun x hx => hz x (List.mem_cons_of_mem _ hx)
      have := (hz z (List.mem_cons_self ..)).1
      simp only [List.map_cons, List.sum_cons, List.length_cons]
      omega
  have := this ys h
  omega
def nmk (h t : Str) (r : Int) (k : Nat) : Str := h ++ let1 ((r + 7 * (0 + (k : Int))).fmod 26) ++ t
theorem fm26 (x : Int) : 0 ≤ x.fmod 26 ∧ x.fmod 26 < 26 := by
  rw [Int.fmod_eq_emod_of_nonneg x (by decide)]
  omega
theorem nmk_nam {h t : Str} {r : Int} {k : Nat} (a : Low 3 h) (b : Low 3 t) : Nam (nmk h t r k) := by
  have l := let1_low (fm26 (r + 7 * (0 + (k : Int)))).1 (fm26 _).2
  have := ((a.app l).app b).mono (show 3 + 1 + 3 ≤ 8 by decide)
  refine ⟨?_, this⟩
  unfold nmk
  rw [app_len, app_len]
  show 1 ≤ h.length + 1 + t.length
  omega
theorem nmk_len {h t : Str} {r : Int} {k : Nat} (a : Low 3 h) (b : Low 3 t) : (nmk h t r k).length ≤ 7 := ((a.app (let1_low (fm26 (r + 7 * (0 + (k : Int)))).1 (fm26 _).2)).app b).1
theorem nmk_inj {h t : Str} {r : Int} {i j : Nat} (hi : i < 26) (hj : j < 26) (e : nmk h t r i = nmk h t r j) : i = j := by
  have e1 := congrArg (fun s : Str => s.cps.toList) e
  simp only [nmk, app_list] at e1
  have e2 := List.append_cancel_right e1
  have e3 := List.append_cancel_left e2
  have e4 : 97 + ((r + 7 * (0 + (i : Int))).fmod 26).toNat = 97 + ((r + 7 * (0 + (j : Int))).fmod 26).toNat := by simpa [let1] using e3
  have a := fm26 (r + 7 * (0 + (i : Int)))
  have b := fm26 (r + 7 * (0 + (j : Int)))
  rw [Int.fmod_eq_emod_of_nonneg _ (by decide)] at a b e4
  rw [Int.fmod_eq_emod_of_nonneg _ (by decide)] at e4
  omega
theorem nmk_nodup {h t : Str} {r : Int} {m : Nat} (hm : m ≤ 26) : ((List.range m).map (nmk h t r)).Nodup := by
  rw [List.nodup_iff_pairwise_ne, List.pairwise_map]
  refine (List.nodup_iff_pairwise_ne.mp List.nodup_range).imp_of_mem fun {a b} ha hb ne e => ne ?_
  rw [List.mem_range] at ha hb
  exact nmk_inj (by omega) (by omega) e
theorem risingS_le : ∀ {ys : List Str} {p : Str}, risingS p ys = true → (∀ x ∈ ys, ¬ ltS x p) ∧ ys.Pairwise (fun a b => ¬ ltS b a)
  | [], _, _ => ⟨fun _ h => absurd h List.not_mem_nil, .nil⟩
  | x :: r, p, h => by
    rw [risingS, Bool.and_eq_true, Bool.not_eq_true', ltCps_eq, decide_eq_false_iff_not] at h
    obtain ⟨h1, h2⟩ := h
    obtain ⟨i1, i2⟩ := risingS_le h2
    refine ⟨fun y hy => ?_, .cons i1 i2⟩
    rcases List.mem_cons.mp hy with rfl | hy
    · exact h1
    · have h3 := i1 y hy
      exact fun z => List.le_trans (α := Nat) (Std.not_lt.mp h1) (Std.not_lt.mp h3) z
theorem sortedS_le {ys : List Str} (h : sortedS ys = true) : ys.Pairwise (fun a b => ¬ ltS b a) := by
  cases ys with
  | nil => exact .nil
  | cons x r => exact .cons (risingS_le h).1 (risingS_le h).2
theorem ltS_of {a b : Str} (h : ¬ ltS b a) (n : a ≠ b) : ltS a b := by
  have h : a.cps.toList ≤ b.cps.toList := Std.not_lt.mp h
  by_cases l : ltS a b
  · exact l
  · exact absurd (str_ext (List.le_antisymm h (Std.not_lt.mp l))) n
theorem sorted_names {ns ys : List Str} (p : ys.Perm ns) (h : sortedS ys = true) (n : ns.Nodup) (a : ∀ x ∈ ns, Nam x) : Names ys := by
  refine ⟨fun x hx => a x (p.mem_iff.mp hx), ?_⟩
  have nd : ys.Nodup := p.nodup_iff.mpr n
  exact ((sortedS_le h).and (List.nodup_iff_pairwise_ne.mp nd)).imp fun {a b} h => ltS_of h.1 h.2
theorem ltS_irr (a : Str) : ¬ ltS a a := fun h => List.lt_irrefl _ h
theorem ltS_trans {a b c : Str} (h : ltS a b) (k : ltS b c) : ltS a c := List.lt_trans h k
theorem Names.nodup {ns : List Str} (h : Names ns) : ns.Nodup := List.nodup_iff_pairwise_ne.mpr (h.up.imp fun {a b} l => fun (e : a = b) => ltS_irr b (by rw [e] at l; exact l))
theorem vs_app (a b : List Str) : (a ++ b).map V.str = a.map V.str ++ b.map V.str := List.map_append
theorem get_vs {ns : List Str} {i : Nat} {x : V} (h : (ns.map V.str)[i]? = some x) : ∃ v, ns[i]? = some v ∧ x = .str v := by
  rw [List.getElem?_map] at h
  cases e : ns[i]? with
  | none => rw [e] at h; cases h
  | some v => rw [e] at h; exact ⟨v, rfl, (Option.some.inj h).symm⟩
theorem abc_at {z : Str} (hz : z.cps.toList = (List.range 26).map (97 + ·)) {i : Int} (h0 : 0 ≤ i) (h1 : i < 26) : atI z.cps.toList i = some (97 + i.toNat) := by
  have := atI_nat (xs := z.cps.toList) (j := i.toNat) (v := 97 + i.toNat) (by rw [hz, List.getElem?_map, List.getElem?_range (by omega)]; rfl)
  rw [show ((i.toNat : Nat) : Int) = i by omega] at this
  exact this

theorem nam_ok {s : Str} (h : Nam s) : PyData.strOk s = true := by
  unfold PyData.strOk
  rw [Array.all_eq_true_iff_forall_mem]
  intro c hc
  have := h.2.2 c (by rw [Array.mem_toList_iff]; exact hc)
  exact decide_eq_true (by omega)
/-! ### a placement, as it stands in memory -/
/-- a tuple that is to be read (the second way: one that is known to have no attributes of its own) -/
def TpAt (H : Hp) (p : Addr) (xs : List V) : Prop := H p = some (.tup xs) ∨ ∃ o : Obj, o.dict = none ∧ H p = some (.frz o (.tup xs))
theorem TpAt.same {H H' : Hp} {p : Addr} {xs : List V} (x : TpAt H p xs) (e : Same H H') : TpAt H' p xs := x.elim (fun h => .inl (e _ _ h)) fun ⟨o, d, h⟩ => .inr ⟨o, d, e _ _ h⟩
theorem TpAt.sq {K : PySem.W.Frag} {H : Hp} {p : Addr} {xs : List V} (x : TpAt H p xs) : SqT K H p xs := x.elim (fun h => SqT.of h) fun ⟨o, _, h⟩ => .inl (.inr ⟨o, h⟩)
def PlAt (H : Hp) (p : Addr) (P : List (Str × Int)) : Prop := ∃ ps : List (Addr × Str × Int), TpAt H p (ps.map fun q => V.ref q.1) ∧ P = ps.map (·.2) ∧ ∀ q ∈ ps, H q.1 = some (.tup [.str q.2.1, .int q.2.2])
theorem PlAt.same {H H' : Hp} {p : Addr} {P : List (Str × Int)} (x : PlAt H p P) (e : Same H H') : PlAt H' p P := by
  obtain ⟨ps, h1, h2, h3⟩ := x
  exact ⟨ps, h1.same e, h2, fun q hq => e _ _ (h3 q hq)⟩
/-- the same, of a tuple of the second way -/
def PlD (H : Hp) (p : Addr) (P : List (Str × Int)) : Prop := ∃ (ps : List (Addr × Str × Int)) (o : Obj), o.dict = none ∧ H p = some (.frz o (.tup (ps.map fun q => V.ref q.1))) ∧ P = ps.map (·.2) ∧ ∀ q ∈ ps, H q.1 = some (.tup [.str q.2.1, .int q.2.2])
theorem PlD.pl {H : Hp} {p : Addr} {P : List (Str × Int)} (x : PlD H p P) : PlAt H p P := by
  obtain ⟨ps, o, d, h1, h2, h3⟩ := x
  exact ⟨ps, .inr ⟨o, d, h1⟩, h2, h3⟩
theorem PlD.same {H H' : Hp} {p : Addr} {P : List (Str × Int)} (x : PlD H p P) (e : Same H H') : PlD H' p P := by
  obtain ⟨ps, o, d, h1, h2, h3⟩ := x
  exact ⟨ps, o, d, e _ _ h1, h2, fun q hq => e _ _ (h3 q hq)⟩
/-- a placement of n rooms -/
structure Pl (n : Int) (P : List (Str × Int)) : Prop where
  nm : Names (P.map (·.1))
  rm : ∀ x ∈ P, 0 ≤ x.2 ∧ x.2 < n
theorem Pl.nodup {n : Int} {P : List (Str × Int)} (h : Pl n P) : (P.map (·.1)).Nodup := h.nm.nodup
/-! ### parameters -/
abbrev pDraw : List Str := ["_law_stream_here", "_law_many"]
abbrev pHP : List Str := ["house", "placement"]
abbrev pIsAsc : List Str := ["sequence"]
abbrev pIsInt : List Str := ["value"]
abbrev pIsRoom : List Str := ["house", "value"]
abbrev pLMoved : List Str := ["_law_placement", "_law_name", "_law_room"]
abbrev pLMoves : List Str := ["_law_house", "_law_placement"]
abbrev pLNb : List Str := ["_law_house", "_law_room"]
abbrev pMove : List Str := ["house", "placement", "name", "room"]
abbrev pLeav : List Str := ["placement", "target", "region"]
abbrev pSurp : List Str := ["placement", "region"]
abbrev pLHP : List Str := ["_law_house", "_law_placement"]
abbrev pFree : List Str := ["house", "placement", "target", "region"]
abbrev pLFree : List Str := ["_law_house", "_law_placement", "_law_target", "_law_piece"]
abbrev pWith : List Str := ["placement", "name", "room"]
abbrev pNamesOf : List Str := ["placement"]
abbrev pPIn : List Str := ["placement", "room"]
abbrev pPWi : List Str := ["placement", "rooms"]
abbrev pPl : List Str := ["_law_stream_here", "_law_house", "_law_most"]
abbrev pRegOf : List Str := ["house", "placement", "room"]
abbrev pRoomOf : List Str := ["placement", "name"]
abbrev pLWithin : List Str := ["_law_one", "_law_others"]
abbrev pLWalk : List Str := ["_law_stream_here", "_law_house", "_law_placement", "_law_many"]
abbrev pLTarget : List Str := ["_law_stream_here", "_law_house", "_law_placement"]
abbrev pHPT : List Str := ["house", "placement", "target"]
abbrev pLHPT : List Str := ["_law_house", "_law_placement", "_law_target"]
abbrev pConn : List Str := ["_law_house", "_law_rooms", "_law_room"]
abbrev pPTgt : List Str := ["house", "placement", "target", "name"]
abbrev pPassing : List Str := ["house", "placement", "target", "room"]
abbrev pLPassing : List Str := ["_law_house", "_law_placement", "_law_target", "_law_room", "_law_some"]
abbrev pSame : List Str := ["_law_found", "_law_expected"]
end Fw
namespace Fw
open PySem PySem.Spec PyProof.Rows L2
section
variable {P : Program} {w : World} {K : PySem.W.Frag} {mg : Str → Option Value} {base : Heap}
theorem cal_draw (D : DefE K mg "_law_draw" sDraw pDraw) (T : Nm mg) : Cal P w K mg base 1 "_law_draw" pDraw spDraw := D.cal fun _ _ d => ok_draw d.F T
theorem StreamAt.frz {s A B : Addr} {c : Nat} {H : Hp} (hS : StreamAt H s A B c) {t : Addr} {o : Obj} {u : HO} (h : H t = some (.frz o u)) : t ≠ s ∧ t ≠ A ∧ t ≠ B := by
  obtain ⟨big, cells, cnt, h1, h2, h3, _⟩ := hS.ex
  exact ⟨ne_of h h1 (by intro q; cases q), ne_of h h2 (by intro q; cases q), ne_of h h3 (by intro q; cases q)⟩
theorem Fr.frz {s A B : Addr} {c : Nat} {H H1 : Hp} (f : Fr s A H H1) (hS : StreamAt H s A B c) {t : Addr} {o : Obj} {u : HO} (h : H t = some (.frz o u)) : H1 t = some (.frz o u) := f t _ (hS.frz h).1 (hS.frz h).2.1 h
theorem TpAt.fr {s A B : Addr} {c : Nat} {H H' : Hp} {p : Addr} {xs : List V} (x : TpAt H p xs) (hS : StreamAt H s A B c) (e : Fr s A H H') : TpAt H' p xs := x.elim (fun h => .inl (e.tup hS h)) fun ⟨o, d, h⟩ => .inr ⟨o, d, e.frz hS h⟩
theorem PlAt.fr {s A B : Addr} {c : Nat} {H H' : Hp} {p : Addr} {P : List (Str × Int)} (x : PlAt H p P) (hS : StreamAt H s A B c) (e : Fr s A H H') : PlAt H' p P := by
  obtain ⟨ps, h1, h2, h3⟩ := x
  exact ⟨ps, h1.fr hS e, h2, fun q hq => e.tup hS (h3 q hq)⟩
theorem PlD.fr {s A B : Addr} {c : Nat} {H H' : Hp} {p : Addr} {P : List (Str × Int)} (x : PlD H p P) (hS : StreamAt H s A B c) (e : Fr s A H H') : PlD H' p P := by
  obtain ⟨ps, o, d, h1, h2, h3⟩ := x
  exact ⟨ps, o, d, e.frz hS h1, h2, fun q hq => e.tup hS (h3 q hq)⟩
def spNames : Sp := fun vs H Q _ => ∃ (s A B : Addr) (c : Nat) (m : Int), vs = [.ref s, .int m] ∧ StreamAt H s A B c ∧ c < 2 ^ 30 ∧ 0 ≤ m ∧ m ≤ 20 ∧
  ∀ H' l ns, StreamAt H' s A B (c + 10) → Fr s A H H' → H l = none → H' l = some (.lst (ns.map V.str)) → ns.length = m.toNat → Names ns → Q (.ref l) H'
/-- the same, with more known of each name -/
def spNamesR (R : Str → Prop) : Sp := fun vs H Q _ => ∃ (s A B : Addr) (c : Nat) (m : Int), vs = [.ref s, .int m] ∧ StreamAt H s A B c ∧ c < 2 ^ 30 ∧ 0 ≤ m ∧ m ≤ 20 ∧
  ∀ H' l ns, StreamAt H' s A B (c + 10) → Fr s A H H' → H l = none → H' l = some (.lst (ns.map V.str)) → ns.length = m.toNat → Names ns → (∀ x ∈ ns, R x) → Q (.ref l) H'
abbrev nNames : List Str := ["_law_stream_here", "_law_many", "_law_letters", "_law_first", "_law_head", "_law_k", "_law_tail"]
theorem scNames : FnScope nNames ["_law_stream_here", "_law_many"] (defScope sNames) := ⟨rfl, rfl, rfl, by decide +kernel, rfl, by decide +kernel, by decide +kernel⟩
theorem ok_names7 {f : Addr} {fd : FuncData} (F : Fun K "_law_names" "_law_names" sNames f fd) (T : Nm mg) (C_law_draw : Cal P w K mg base 1 "_law_draw" pDraw spDraw) : FnOk P w K mg base CX0 2 f fd ["_law_stream_here", "_law_many"] (spNamesR fun x => x.length ≤ 7) := by
  refine F.ok scNames (fun vs H Q E h => ?_) (fun cdv A outer s H vs Q E hr h => ?_)
  · obtain ⟨s, A, B, c, m, rfl, _⟩ := h
    rfl
  · obtain ⟨s, A, B, c, m, rfl, hS, hc, hm0, hm1, q⟩ := h
    refine ⟨_, (pss_cons (ps_set (i := 2) scNames.nd rfl (.inr rfl) pe_str)
      (pss_cons (ps_set (i := 3) scNames.nd rfl (.inr rfl) (pe_cal C_law_draw (hr.mono (by decide)) (by rfl) (pa_cons (pv 0) (pa_cons pe_int pa_nil))))
      (pss_cons (ps_set (i := 4) scNames.nd rfl (.inr rfl) (pe_join pe_str (pe_lc (own := [("_law_k", 5)]) (g := gName 5) (by rfl) scNames.nd (pi_range1 (by rfl) T.range (pa_cons (pe_cal C_law_draw (hr.mono (by decide)) (by rfl) (pa_cons (pv 0) (pa_cons pe_int pa_nil))) pa_nil))
 (blkOk_by (own := [("_law_k", 5)]) (N := nNames) (sc := defScope sNames) (by decide +kernel))
 (fun _ _ _ _ _ => (pg_name (i := 5) scNames.nd rfl (.inl rfl))) (fun _ _ _ _ _ => pts_nil) (fun _ _ _ _ _ => (pe_ix ix_str (pv 2) (pe_cal C_law_draw (hr.mono (by decide)) (by rfl) (pa_cons (pv 0) (pa_cons pe_int pa_nil))) (fun _ _ => rfl))))))
      (pss_cons (ps_set (i := 6) scNames.nd rfl (.inr rfl) (pe_join pe_str (pe_lc (own := [("_law_k", 5)]) (g := gName 5) (by rfl) scNames.nd (pi_range1 (by rfl) T.range (pa_cons (pe_cal C_law_draw (hr.mono (by decide)) (by rfl) (pa_cons (pv 0) (pa_cons pe_int pa_nil))) pa_nil))
 (blkOk_by (own := [("_law_k", 5)]) (N := nNames) (sc := defScope sNames) (by decide +kernel))
 (fun _ _ _ _ _ => (pg_name (i := 5) scNames.nd rfl (.inl rfl))) (fun _ _ _ _ _ => pts_nil) (fun _ _ _ _ _ => (pe_ix ix_str (pv 2) (pe_cal C_law_draw (hr.mono (by decide)) (by rfl) (pa_cons (pv 0) (pa_cons pe_int pa_nil))) (fun _ _ => rfl))))))
      (pss_one (ps_ret (pe_callB cr_sortedS (by rfl) T.sorted (by decide +kernel) (pa_cons (pe_lc (own := [("_law_k", 5)]) (g := gName 5) (by rfl) scNames.nd (pi_range1 (by rfl) T.range (pa_cons (pv 1) pa_nil))
 (blkOk_by (own := [("_law_k", 5)]) (N := nNames) (sc := defScope sNames) (by decide +kernel))
 (fun _ _ _ _ _ => (pg_name (i := 5) scNames.nd rfl (.inl rfl))) (fun _ _ _ _ _ => pts_nil) (fun _ _ _ _ _ => (pe_op op_add_str (pe_op op_add_str (pv 4) (pe_ix ix_str (pv 2) (pe_op op_modN (pe_op op_add (pv 3) (pe_op op_mul pe_int (pv 5))) pe_int) (fun _ _ => rfl))) (pv 6)))) pa_nil)))))))), ?_⟩
    refine ⟨_, rfl, s, A, B, c, _, rfl, hS, by omega, by decide, by decide, fun H1 r hS1 fr1 r0 r1 => ?_⟩
    refine ⟨⟨_, rfl⟩, _, rfl, s, A, B, c + 1, _, rfl, hS1, by omega, by decide, by decide, fun H2 r2 hS2 fr2 r20 r21 => ?_⟩
    have abc : (Str.ofString "abcdefghijklmnopqrstuvwxyz").cps.toList = (List.range 26).map (97 + ·) := by decide +kernel
    have nil : (Str.ofString "").cps.toList = [] := by decide +kernel
    refine ⟨r2, rfl, by omega, by omega, fun L hL => lc_range (lo := 0) (n := r2.toNat) (fun i H' => ∃ ys : List Str, StreamAt H' s A B (c + 1 + 1 + i) ∧ Fr s A H2 H' ∧ H' L = some (.lst (ys.map V.str)) ∧ ys.length = i ∧ ∀ y ∈ ys, Low 1 y)
      ⟨[], hS2.same (same_upd hL), Fr.of (same_upd hL), upd_same, rfl, fun y hy => absurd hy List.not_mem_nil⟩ ?_ ?_⟩
    · rintro i H' hi ⟨ys, hS', fr', e', l', p'⟩
      refine ⟨rfl, ?_⟩
      unfold tYes
      refine iteT ⟨_, rfl, _, rfl, s, A, B, c + 1 + 1 + i, _, rfl, hS', by omega, by decide, by decide, fun H'' x hS'' fr'' x0 x1 => ?_⟩
      have z := hS2.ne hL
      refine ⟨_, x, _, rfl, rfl, by decide +kernel, abc_at abc x0 x1, _, fr'' _ _ z.1.symm z.2.1.symm e', ?_, ys ++ [let1 x], hS''.put z, (fr'.trans fr'').put hL, ?_, ?_, ?_⟩
      · rw [List.length_map]
        exact small1000 (by omega)
      · rw [upd_same, vs_app]
        rfl
      · rw [List.length_append, l']
        rfl
      · intro y hy
        rcases List.mem_append.mp hy with hy | hy
        · exact p' y hy
        · rw [List.mem_singleton.mp hy]
          exact let1_low x0 x1
    rintro H3 ⟨ys, hS3, fr3, e3, l3, p3⟩
    refine ⟨_, L, ys, rfl, rfl, .inl (SqL.of e3), join_fits nil p3 (by omega), ?_⟩
    have hd : Low 3 (Txt.join (Str.ofString "") ys) := (join_low nil p3).mono (by omega)
    generalize Txt.join (Str.ofString "") ys = hd' at *
    have hS3 := hS3.mono (show _ ≤ c + 5 by omega)
    have fr3 : Fr s A H H3 := (fr1.trans fr2).trans fr3
    clear e3 l3 p3 hL fr2 hS2
    refine ⟨⟨_, rfl⟩, _, rfl, s, A, B, c + 5, _, rfl, hS3, by omega, by decide, by decide, fun H4 r4 hS4 fr4 r40 r41 => ?_⟩
    refine ⟨r4, rfl, by omega, by omega, fun M hM => lc_range (lo := 0) (n := r4.toNat) (fun i H' => ∃ ys : List Str, StreamAt H' s A B (c + 5 + 1 + i) ∧ Fr s A H4 H' ∧ H' M = some (.lst (ys.map V.str)) ∧ ys.length = i ∧ ∀ y ∈ ys, Low 1 y)
      ⟨[], hS4.same (same_upd hM), Fr.of (same_upd hM), upd_same, rfl, fun y hy => absurd hy List.not_mem_nil⟩ ?_ ?_⟩
    · rintro i H' hi ⟨ys, hS', fr', e', l', p'⟩
      refine ⟨rfl, ?_⟩
      unfold tYes
      refine iteT ⟨_, rfl, _, rfl, s, A, B, c + 5 + 1 + i, _, rfl, hS', by omega, by decide, by decide, fun H'' x hS'' fr'' x0 x1 => ?_⟩
      have z := hS4.ne hM
      refine ⟨_, x, _, rfl, rfl, by decide +kernel, abc_at abc x0 x1, _, fr'' _ _ z.1.symm z.2.1.symm e', ?_, ys ++ [let1 x], hS''.put z, (fr'.trans fr'').put hM, ?_, ?_, ?_⟩
      · rw [List.length_map]
        exact small1000 (by omega)
      · rw [upd_same, vs_app]
        rfl
      · rw [List.length_append, l']
        rfl
      · intro y hy
        rcases List.mem_append.mp hy with hy | hy
        · exact p' y hy
        · rw [List.mem_singleton.mp hy]
          exact let1_low x0 x1
    rintro H5 ⟨zs, hS5, fr5, e5, l5, p5⟩
    refine ⟨_, M, zs, rfl, rfl, .inl (SqL.of e5), join_fits nil p5 (by omega), ?_⟩
    have td : Low 3 (Txt.join (Str.ofString "") zs) := (join_low nil p5).mono (by omega)
    generalize Txt.join (Str.ofString "") zs = tl' at *
    have hS5 := hS5.mono (show _ ≤ c + 10 by omega)
    have fr5 : Fr s A H H5 := (fr3.trans fr4).trans fr5
    clear e5 l5 p5 hM fr4 hS4 hS3 fr3 fr1 hS1
    refine ⟨_, rfl, m, rfl, by omega, by omega, fun N hN => lc_range (lo := 0) (n := m.toNat) (fun i H' => Same H5 H' ∧ H' N = some (.lst (((List.range i).map (nmk hd' tl' r)).map V.str)))
      ⟨same_upd hN, upd_same⟩ ?_ ?_⟩
    · rintro i H' hi ⟨sm, e'⟩
      refine ⟨rfl, ?_⟩
      unfold tYes
      have g := fm26 (r + 7 * (0 + (i : Int)))
      refine iteT ⟨_, rfl, _, rfl, _, rfl, _, rfl, _, _, rfl, rfl, .inl ⟨by decide, by decide⟩, _, _, rfl, rfl, _, _, rfl, rfl, (by show (26 : Int) ≠ 0; decide), _, _, _, rfl, rfl, by decide +kernel, abc_at abc g.1 g.2, _, _, rfl, rfl, ?_, _, rfl, _, _, rfl, rfl, ?_, _, e', ?_, same_put sm hN, ?_⟩
      · show hd'.length + 1 ≤ sizeLine
        have := hd.1
        exact Nat.le_of_lt (small1000 (by omega))
      · rw [app_len]
        show hd'.length + 1 + tl'.length ≤ sizeLine
        have := hd.1
        have := td.1
        exact Nat.le_of_lt (small1000 (by omega))
      · rw [List.length_map, List.length_map, List.length_range]
        exact small1000 (by omega)
      · rw [upd_same, List.range_succ, List.map_append, vs_app]
        rfl
    rintro H6 ⟨sm6, e6⟩
    refine ⟨N, _, rfl, SqL.of e6, ?_, fun zs p hp hs hpn => ?_⟩
    · rw [List.length_map, List.length_range]
      omega
    have fr7 : Fr s A H (upd H6 p (.lst (zs.map V.str))) := fr5.trans (Fr.of (sm6.trans (same_upd hpn)))
    refine q _ p zs (hS5.same (sm6.trans (same_upd hpn))) fr7 (fr5.free hS5 (sm6.free hpn)) upd_same ?_ (sorted_names hp hs (nmk_nodup (by omega)) ?_) (fun x hx => ?_)
    · rw [hp.length_eq, List.length_map, List.length_range]
    · intro x hx
      obtain ⟨k, _, rfl⟩ := List.mem_map.mp hx
      exact nmk_nam hd td
    · obtain ⟨k, _, rfl⟩ := List.mem_map.mp (hp.mem_iff.mp hx)
      exact nmk_len hd td
theorem names_all {R : Str → Prop} {x : Str} {ps : List Str} {k : Nat} (C : Cal P w K mg base k x ps spNames) (h : ∀ z, R z) : Cal P w K mg base k x ps (spNamesR R) :=
  C.imp fun vs H Q E ⟨s, A, B, c, m, e, hS, hc, m0, m1, q⟩ => ⟨s, A, B, c, m, e, hS, hc, m0, m1, fun H' l ns a b c d e f => q H' l ns a b c d e f fun _ _ => h _⟩
theorem ok_names {f : Addr} {fd : FuncData} (F : Fun K "_law_names" "_law_names" sNames f fd) (T : Nm mg) (C_law_draw : Cal P w K mg base 1 "_law_draw" pDraw spDraw) : FnOk P w K mg base CX0 2 f fd ["_law_stream_here", "_law_many"] spNames :=
  (ok_names7 F T C_law_draw).imp fun vs H Q E ⟨s, A, B, c, m, e, hS, hc, m0, m1, q⟩ => ⟨s, A, B, c, m, e, hS, hc, m0, m1, fun H' l ns a b c d e f _ => q H' l ns a b c d e f⟩
end
end Fw
namespace Fw
open PySem PySem.Spec PyProof.Rows L2
theorem cut_vi (ns : List Int) (lo hi : Option Int) : ∃ ms : List Int, cutV (vi ns) lo hi = vi ms ∧ (∀ x ∈ ms, x ∈ ns) := by
  refine ⟨(ns.drop (HT.sIx (vi ns).length 0 lo)).take (HT.sIx (vi ns).length (vi ns).length hi - HT.sIx (vi ns).length 0 lo), ?_, fun x hx => List.mem_of_mem_drop (List.mem_of_mem_take hx)⟩
  unfold cutV vi
  rw [List.map_take, List.map_drop]
theorem cut_le (xs : List V) {m : Int} (h : 0 ≤ m) : (cutV xs none (some m)).length ≤ m.toNat := by
  unfold cutV
  rw [List.length_take]
  refine Nat.le_trans (Nat.min_le_left _ _) ?_
  show (if m < 0 then _ else min m.toNat xs.length) - 0 ≤ m.toNat
  rw [if_neg (by omega)]
  omega
theorem atI_in {xs : List Int} {r : Int} (h0 : 0 ≤ r) (h1 : r < (xs.length : Nat)) : ∃ x, x ∈ xs ∧ atI (vi xs) r = some (V.int x) := by
  have hj : r.toNat < xs.length := by omega
  refine ⟨xs[r.toNat], List.getElem_mem hj, ?_⟩
  have := atI_nat (xs := vi xs) (j := r.toNat) (v := V.int xs[r.toNat]) (by rw [List.getElem?_map, List.getElem?_eq_getElem hj]; rfl)
  rw [show ((r.toNat : Nat) : Int) = r by omega] at this
  exact this
theorem seq_by {a b : TS} {D : Ends} {σ : L2.St} {H : Hp} (M : L2.St → Hp → Prop) (h1 : ∀ N : L2.St → Hp → Prop, (∀ σ' H', M σ' H' → N σ' H') → a { D with nx := N } σ H) (h2 : ∀ σ' H', M σ' H' → b D σ' H') : tSeq a b D σ H := h1 _ h2
section
variable {P : Program} {w : World} {K : PySem.W.Frag} {mg : Str → Option Value} {base : Heap}
theorem HouseAt.room0 {H : Hp} {h : Addr} {n : Int} {D : List (Int × Int)} (x : HouseAt H h n D) : ∃ q, H h = some (.tup [.int n, .ref q]) := by
  obtain ⟨q, ps, h1, _⟩ := x
  exact ⟨q, h1⟩
end
end Fw
namespace Fw
open PySem PySem.Spec PyProof.Rows L2
/-! ### what a walk over a placement needs: tuples stay -/
structure Tk (H H' : Hp) : Prop where
  t : ∀ {b : Addr} {xs : List V}, H b = some (.tup xs) → H' b = some (.tup xs)
  f : ∀ {b : Addr} {o : Obj} {xs : List V}, H b = some (.frz o (.tup xs)) → H' b = some (.frz o (.tup xs))
theorem Tk.refl {H : Hp} : Tk H H := ⟨fun e => e, fun e => e⟩
theorem Tk.of {H H' : Hp} (h : Same H H') : Tk H H' := ⟨fun e => h _ _ e, fun e => h _ _ e⟩
theorem Tk.trans {H H1 H2 : Hp} (a : Tk H H1) (b : Tk H1 H2) : Tk H H2 := ⟨fun e => b.t (a.t e), fun e => b.f (a.f e)⟩
theorem Tk.fr {s A B : Addr} {c : Nat} {H H' : Hp} (f : Fr s A H H') (hS : StreamAt H s A B c) : Tk H H' := ⟨fun e => f.tup hS e, fun e => f.frz hS e⟩
theorem Tk.put {H H' : Hp} (a : Tk H H') {L : Addr} {xs : List V} {o : HO} (h : H' L = some (.lst xs)) : Tk H (upd H' L o) := by
  refine ⟨fun e => ?_, fun e => ?_⟩
  · rw [upd_ne (ne_of (a.t e) h (by intro z; cases z))]
    exact a.t e
  · rw [upd_ne (ne_of (a.f e) h (by intro z; cases z))]
    exact a.f e
theorem Tk.putD {H H' : Hp} (a : Tk H H') {L : Addr} {xs : List (Key × V)} {o : HO} (h : H' L = some (.dK xs)) : Tk H (upd H' L o) := by
  refine ⟨fun e => ?_, fun e => ?_⟩
  · rw [upd_ne (ne_of (a.t e) h (by intro z; cases z))]
    exact a.t e
  · rw [upd_ne (ne_of (a.f e) h (by intro z; cases z))]
    exact a.f e
theorem Tk.new {H H' : Hp} (a : Tk H H') {L : Addr} {o : HO} (h : H' L = none) : Tk H (upd H' L o) := a.trans (Tk.of (same_upd h))
theorem HouseAt.tk {H H' : Hp} {h : Addr} {n : Int} {D : List (Int × Int)} (x : HouseAt H h n D) (e : Tk H H') : HouseAt H' h n D := by
  obtain ⟨q, ps, h1, h2, h3, h4⟩ := x
  exact ⟨q, ps, e.t h1, e.t h2, h3, fun p hp => e.t (h4 p hp)⟩
theorem TpAt.tk {H H' : Hp} {p : Addr} {xs : List V} (x : TpAt H p xs) (e : Tk H H') : TpAt H' p xs := x.elim (fun h => .inl (e.t h)) fun ⟨o, d, h⟩ => .inr ⟨o, d, e.f h⟩
theorem PlAt.tk {H H' : Hp} {p : Addr} {P : List (Str × Int)} (x : PlAt H p P) (e : Tk H H') : PlAt H' p P := by
  obtain ⟨ps, h1, h2, h3⟩ := x
  exact ⟨ps, h1.tk e, h2, fun q hq => e.t (h3 q hq)⟩
theorem PlD.tk {H H' : Hp} {p : Addr} {P : List (Str × Int)} (x : PlD H p P) (e : Tk H H') : PlD H' p P := by
  obtain ⟨ps, o, d, h1, h2, h3⟩ := x
  exact ⟨ps, o, d, e.f h1, h2, fun q hq => e.t (h3 q hq)⟩
theorem get_pl {ps : List (Addr × Str × Int)} {i : Nat} {x : V} (h : (ps.map fun p => V.ref p.1)[i]? = some x) : ∃ p, ps[i]? = some p ∧ x = .ref p.1 := by
  rw [List.getElem?_map] at h
  cases e : ps[i]? with
  | none => rw [e] at h; cases h
  | some v => rw [e] at h; exact ⟨v, rfl, (Option.some.inj h).symm⟩
/-- a comprehension over a placement -/
theorem lc_pl {K : PySem.W.Frag} {p : Addr} {P : List (Str × Int)} {i j : Nat} {tt : TT} {te : TE} {vs : List Nat} {σ : L2.St} {H1 : Hp} {D : Addr} {Qd : Hp → Prop} (x : PlAt H1 p P) (Pv : Nat → Hp → Prop) (h0 : Pv 0 (upd H1 D (.lst []))) (hl : ∀ k H, Pv k H → Tk H1 H)
    (hs : ∀ k nm r H, P[k]? = some (nm, r) → Pv k H → wipe (((wipe σ vs).set i (some (.str nm))).set j (some (.int r))) vs = wipe σ vs ∧ tt (((wipe σ vs).set i (some (.str nm))).set j (some (.int r))) H fun b H3 =>
      if b = true then te (((wipe σ vs).set i (some (.str nm))).set j (some (.int r))) H3 fun y H4 => ∃ acc, H4 D = some (.lst acc) ∧ acc.length < sizeLine ∧ Pv (k + 1) (upd H4 D (.lst (acc ++ [y]))) else Pv (k + 1) H3) (hd : ∀ H, Pv P.length H → Qd H) :
    ∃ W : Nat → Nat → Hp → Prop, (∃ m, W 0 m (upd H1 D (.lst []))) ∧ ∀ k m H, W k m H →
      ((Itt K p).stop k H ∧ Qd H) ∨ ((Itt K p).go k H ∧ ∃ Nx : Hp → Prop, (∀ H', Nx H' → ∃ m', m' < m ∧ W (k + 1) m' H') ∧ ∀ x H', (Itt K p).yld k H x H' → gTup K 2 (gCons (gName i) (gCons (gName j) gNil)) x (wipe σ vs) H' fun σ2 H2 => wipe σ2 vs = wipe σ vs ∧ tt σ2 H2 fun b H3 =>
        if b = true then te σ2 H3 fun y H4 => ∃ acc, H4 D = some (.lst acc) ∧ acc.length < sizeLine ∧ Nx (upd H4 D (.lst (acc ++ [y]))) else Nx H3) := by
  obtain ⟨ps, h1, rfl, h3⟩ := x
  refine lc_tup (K := K) (a := p) (xs := ps.map fun q => V.ref q.1) Pv h0 (fun i H _ hp => (h1.tk (hl i H hp)).sq) (fun k x H hx hp => ?_) (fun H hp => hd H (by rw [List.length_map] at hp ⊢; exact hp))
  obtain ⟨q, hq, rfl⟩ := get_pl hx
  refine ⟨q.1, _, rfl, SqT.of ((hl k H hp).t (h3 q (List.mem_of_getElem? hq))), rfl, _, _, rfl, _, _, rfl, rfl, ?_⟩
  exact hs k q.2.1 q.2.2 H (by rw [List.getElem?_map, hq]; rfl) hp
/-- a loop over a placement -/
theorem for_pl {K : PySem.W.Frag} {p : Addr} {P : List (Str × Int)} {i j : Nat} {tb : TS} {D : Ends} {σ : L2.St} {H0 H : Hp} (x : PlAt H0 p P) (Pv : Nat → L2.St → Hp → Prop) (h0 : Pv 0 σ H) (hl : ∀ k σ H, Pv k σ H → Tk H0 H)
    (hs : ∀ k nm r σ H, P[k]? = some (nm, r) → Pv k σ H → tb { D with nx := Pv (k + 1), ct := Pv (k + 1), bk := D.nx } ((σ.set i (some (.str nm))).set j (some (.int r))) H) (hd : ∀ σ H, Pv P.length σ H → D.nx σ H) :
    ∃ W : Nat → Nat → L2.St → Hp → Prop, (∃ m, W 0 m σ H) ∧ ∀ k m σ H, W k m σ H →
      ((Itt K p).stop k H ∧ D.nx σ H) ∨ ((Itt K p).go k H ∧ ∃ N : L2.St → Hp → Prop, (∀ σ' H', N σ' H' → ∃ m', m' < m ∧ W (k + 1) m' σ' H') ∧ ∀ x H', (Itt K p).yld k H x H' → gTup K 2 (gCons (gName i) (gCons (gName j) gNil)) x σ H' fun σ2 H2 => tb { D with nx := N, ct := N, bk := D.nx } σ2 H2) := by
  obtain ⟨ps, h1, rfl, h3⟩ := x
  refine for_tup (K := K) (a := p) (xs := ps.map fun q => V.ref q.1) Pv h0 (fun i σ H _ hp => (h1.tk (hl i σ H hp)).sq) (fun k x σ H hx hp => ?_) (fun σ H hp => hd σ H (by rw [List.length_map] at hp ⊢; exact hp))
  obtain ⟨q, hq, rfl⟩ := get_pl hx
  refine ⟨q.1, _, rfl, SqT.of ((hl k σ H hp).t (h3 q (List.mem_of_getElem? hq))), rfl, _, _, rfl, _, _, rfl, rfl, ?_⟩
  exact hs k q.2.1 q.2.2 σ H (by rw [List.getElem?_map, hq]; rfl) hp
theorem PlAt.sq {K : PySem.W.Frag} {H : Hp} {p : Addr} {P : List (Str × Int)} (x : PlAt H p P) : ∃ xs, SqT K H p xs := by
  obtain ⟨ps, h1, _⟩ := x
  exact ⟨_, h1.sq⟩
theorem inV_vi (x : Int) (R : List Int) : inV (.int x) (vi R) = decide (x ∈ R) := by
  unfold inV
  rw [Bool.eq_iff_iff, List.any_eq_true, decide_eq_true_eq]
  constructor
  · rintro ⟨y, hy, e⟩
    obtain ⟨z, hz, rfl⟩ := List.mem_map.mp hy
    have : z = x := by simpa [eqV] using e
    exact this ▸ hz
  · intro h
    exact ⟨.int x, List.mem_map_of_mem h, by simp [eqV]⟩
theorem flat_vi (R : List Int) : (vi R).all flatV = true := by
  rw [List.all_eq_true]
  intro x hx
  obtain ⟨z, _, rfl⟩ := List.mem_map.mp hx
  rfl
theorem take_snoc {α : Type} {xs : List α} {k : Nat} {x : α} (h : xs[k]? = some x) : xs.take (k + 1) = xs.take k ++ [x] := by
  rw [List.take_add_one, h]
  rfl
theorem filter_snoc {α : Type} (f : α → Bool) (xs : List α) (x : α) : (xs ++ [x]).filter f = xs.filter f ++ if f x = true then [x] else [] := by
  rw [List.filter_append]
  congr 1
  by_cases c : f x = true
  · rw [if_pos c, List.filter_cons_of_pos c]
    rfl
  · rw [if_neg c, List.filter_cons_of_neg c]
    rfl
theorem lt_of_get {α : Type} {xs : List α} {k : Nat} {x : α} (h : xs[k]? = some x) : k < xs.length := (List.getElem?_eq_some_iff.mp h).1
theorem sqT_same {K : PySem.W.Frag} {H H' : Hp} {a : Addr} {xs : List V} (e : Same H H') (h : SqT K H a xs) : SqT K H' a xs :=
  h.imp (Or.imp (e a _) fun ⟨o, x⟩ => ⟨o, e a _ x⟩) id
end Fw
namespace Fw
open PySem PySem.Spec PyProof.Rows L2
/-- who is in the rooms R -/
def inside (P : List (Str × Int)) (R : List Int) : List Str := (P.filter fun x => decide (x.2 ∈ R)).map (·.1)
theorem inside_snoc {P : List (Str × Int)} {R : List Int} {k : Nat} {nm : Str} {r : Int} (h : P[k]? = some (nm, r)) : inside (P.take (k + 1)) R = inside (P.take k) R ++ if r ∈ R then [nm] else [] := by
  unfold inside
  rw [take_snoc h, filter_snoc, List.map_append]
  congr 1
  by_cases c : r ∈ R
  · rw [if_pos c, if_pos (by simpa using c)]
    rfl
  · rw [if_neg c, if_neg (by simpa using c)]
    rfl
theorem inside_len (P : List (Str × Int)) (R : List Int) : (inside P R).length ≤ P.length := by
  unfold inside
  rw [List.length_map]
  exact List.length_filter_le _ _
theorem inside_nil {P : List (Str × Int)} {R : List Int} : inside P R = [] ↔ ∀ x ∈ P, x.2 ∉ R := by
  unfold inside
  rw [List.map_eq_nil_iff, List.filter_eq_nil_iff]
  simp
theorem key_uniq {P : List (Str × Int)} (nd : (P.map (·.1)).Nodup) {x y : Str × Int} (hx : x ∈ P) (hy : y ∈ P) (e : x.1 = y.1) : x = y := by
  induction P with
  | nil => cases hx
  | cons z P ih =>
    rw [List.map_cons, List.nodup_cons] at nd
    rcases List.mem_cons.mp hx with h1 | h1 <;> rcases List.mem_cons.mp hy with h2 | h2
    · rw [h1, h2]
    · exact absurd (List.mem_map_of_mem (f := (·.1)) h2) (by rw [← e, h1]; exact nd.1)
    · exact absurd (List.mem_map_of_mem (f := (·.1)) h1) (by rw [e, h2]; exact nd.1)
    · exact ih nd.2 h1 h2
section
variable {P : Program} {w : World} {K : PySem.W.Frag} {mg : Str → Option Value} {base : Heap}
def spPWi (K : PySem.W.Frag) : Sp := fun vs H Q _ => ∃ (p t : Addr) (P : List (Str × Int)) (R : List Int), vs = [.ref p, .ref t] ∧ PlAt H p P ∧ SqT K H t (vi R) ∧ P.length ≤ 100 ∧
  ∀ H' u, Same H H' → H' u = some (.tup ((inside P R).map V.str)) → Q (.ref u) H'
abbrev nPWi : List Str := ["placement", "rooms", "name", "room"]
theorem scPWi : FnScope nPWi ["placement", "rooms"] (defScope sPWi) := ⟨rfl, rfl, rfl, by decide +kernel, rfl, by decide +kernel, by decide +kernel⟩
theorem ok_pwi {f : Addr} {fd : FuncData} {k : Nat} (F : Fun K "people_within" "people_within" sPWi f fd) (T : Nm mg) : FnOk P w K mg base CX0 (k + 1) f fd pPWi (spPWi K) := by
  refine F.ok scPWi (fun vs H Q E h => ?_) (fun cdv A outer s H vs Q E hr h => ?_)
  · obtain ⟨p, t, P, R, rfl, _⟩ := h
    rfl
  · obtain ⟨p, t, P, R, rfl, hP, hR, hl, q⟩ := h
    refine ⟨_, (pss_one (ps_ret (pe_callTy call_tuple_of (by rfl) T.tuple (by decide +kernel) (pa_cons (pe_lc (own := [("name", 2), ("room", 3)]) (g := gTup K 2 (gCons (gName 2) (gCons (gName 3) gNil))) (by rfl) scPWi.nd (pi_tup (pv 0))
 (blkOk_by (own := [("name", 2), ("room", 3)]) (N := nPWi) (sc := defScope sPWi) (by decide +kernel))
 (fun _ _ _ _ _ => (pg_tup (by rfl) (pgs_cons (pg_name (i := 2) scPWi.nd rfl (.inl rfl)) (pgs_cons (pg_name (i := 3) scPWi.nd rfl (.inl rfl)) pgs_nil)))) (fun _ _ _ _ _ => pts_one (pt_cmpR (op_inK K rfl) (pv 3) (pv 1) (by rfl))) (fun _ _ _ _ _ => (pv 2))) pa_nil)))), ?_⟩
    refine ⟨_, rfl, p, rfl, hP.sq, fun L hL => lc_pl hP (fun i H1 => Same H H1 ∧ H1 L = some (.lst ((inside (P.take i) R).map V.str))) ⟨same_upd hL, upd_same⟩ (fun _ _ h => Tk.of h.1) ?_ ?_⟩
    · rintro k nm r H1 hk ⟨s1, e1⟩
      refine ⟨rfl, _, rfl, _, rfl, t, _, rfl, .inr (sqT_same s1 hR), rfl, flat_vi R, _, rfl, ?_⟩
      rw [if_neg (by decide), inV_vi, inside_snoc hk]
      refine ite2 (fun c => ?_) (fun c => ?_)
      · rw [if_pos (of_decide_eq_true c)]
        refine ⟨_, rfl, _, e1, ?_, same_put s1 hL, ?_⟩
        · rw [List.length_map]
          have h1 := inside_len (P.take k) R
          rw [List.length_take] at h1
          exact small1000 (by omega)
        · rw [upd_same, vs_app]
          rfl
      · rw [if_neg (fun z => c (decide_eq_true z)), List.append_nil]
        exact ⟨s1, e1⟩
    · rintro H1 ⟨s1, e1⟩
      rw [List.take_length] at e1
      exact ⟨L, _, rfl, .inl ⟨SqL.of e1, fun t ht => q _ t (s1.trans (same_upd ht)) upd_same⟩⟩

def spPIn : Sp := fun vs H Q _ => ∃ (p : Addr) (P : List (Str × Int)) (r : Int), vs = [.ref p, .int r] ∧ PlAt H p P ∧ P.length ≤ 100 ∧
  ∀ H' u, Same H H' → H' u = some (.tup ((inside P [r]).map V.str)) → Q (.ref u) H'
abbrev nPIn : List Str := ["placement", "room"]
theorem scPIn : FnScope nPIn ["placement", "room"] (defScope sPIn) := ⟨rfl, rfl, rfl, by decide +kernel, rfl, by decide +kernel, by decide +kernel⟩
theorem ok_pin {f : Addr} {fd : FuncData} {k : Nat} (F : Fun K "people_in" "people_in" sPIn f fd) (T : Nm mg) (Cpeople_within : Cal P w K mg base (k + 1) "people_within" pPWi (spPWi K)) : FnOk P w K mg base CX0 (k + 2) f fd pPIn spPIn := by
  refine F.ok scPIn (fun vs H Q E h => ?_) (fun cdv A outer s H vs Q E hr h => ?_)
  · obtain ⟨p, P, r, rfl, _⟩ := h
    rfl
  · obtain ⟨p, P, r, rfl, hP, hl, q⟩ := h
    refine ⟨_, (pss_one (ps_ret (pe_cal Cpeople_within hr (by rfl) (pa_cons (pv 0) (pa_cons (pe_tup (pa_cons (pv 1) pa_nil)) pa_nil))))), ?_⟩
    refine ⟨_, rfl, _, rfl, by show 1 ≤ sizeLine; decide, fun t ht => ⟨p, t, P, [r], rfl, hP.same (same_upd ht), SqT.of upd_same, hl, fun H' u s1 e1 => q _ u ((same_upd ht).trans s1) e1⟩⟩

def spRoomOf : Sp := fun vs H Q _ => ∃ (p : Addr) (P : List (Str × Int)) (nm : Str) (r : Int), vs = [.ref p, .str nm] ∧ PlAt H p P ∧ (nm, r) ∈ P ∧ (P.map (·.1)).Nodup ∧ Q (.int r) H
abbrev nRoomOf : List Str := ["placement", "name", "person", "room"]
theorem scRoomOf : FnScope nRoomOf ["placement", "name"] (defScope sRoomOf) := ⟨rfl, rfl, rfl, by decide +kernel, rfl, by decide +kernel, by decide +kernel⟩
theorem ok_roomof {f : Addr} {fd : FuncData} {k : Nat} (F : Fun K "room_of" "room_of" sRoomOf f fd) : FnOk P w K mg base CX0 (k + 1) f fd pRoomOf spRoomOf := by
  refine F.ok scRoomOf (fun vs H Q E h => ?_) (fun cdv A outer s H vs Q E hr h => ?_)
  · obtain ⟨p, P, nm, r, rfl, _⟩ := h
    rfl
  · obtain ⟨p, P, nm, r, rfl, hP, hm, nd, q⟩ := h
    refine ⟨_, (pss_cons (ps_for PassesOwn.never rfl (pi_tup (pv 0)) (pg_tup (by rfl) (pgs_cons (pg_name (i := 2) scRoomOf.nd rfl (.inl rfl)) (pgs_cons (pg_name (i := 3) scRoomOf.nd rfl (.inl rfl)) pgs_nil)))
      (pss_one (ps_if (pt_cmpR op_eq (pv 2) (pv 1) (nomark _))
       (pss_one (ps_ret (pv 3)))
       pss_nil)))
      pss_never), ?_⟩
    refine ⟨_, rfl, p, rfl, hP.sq, for_pl hP (fun i σ' H' => ∃ y2 y3, σ' = [some (.ref p), some (.str nm), y2, y3] ∧ H' = H ∧ ∀ x ∈ P.take i, x.1 ≠ nm) ⟨_, _, rfl, rfl, fun x hx => by cases hx⟩ ?_ ?_ ?_⟩
    · rintro k σ' H' ⟨_, _, _, rfl, _⟩
      exact Tk.refl
    · rintro k n' r' σ' H' hk ⟨y2, y3, rfl, rfl, hn⟩
      refine ⟨_, rfl, _, rfl, rfl, _, rfl, ?_⟩
      refine ite2 (fun c => ?_) (fun c => ?_)
      · have c : n' = nm := V.str.inj (of_decide_eq_true c)
        subst c
        have := key_uniq nd (List.mem_of_getElem? hk) hm rfl
        cases this
        exact ⟨_, rfl, q⟩
      · refine ⟨_, _, rfl, rfl, fun x hx => ?_⟩
        rw [take_snoc hk, List.mem_append] at hx
        rcases hx with hx | hx
        · exact hn x hx
        · rw [List.mem_singleton.mp hx]
          exact fun e => c (decide_eq_true (by rw [show n' = nm from e]))
    · rintro σ' H' ⟨y2, y3, rfl, rfl, hn⟩
      rw [List.take_length] at hn
      exact absurd rfl (hn _ hm)
end
end Fw
namespace Fw
open PySem PySem.Spec PyProof.Rows L2
/-! ### a list of pairs (name, room) -/
def LsAt (H : Hp) (l : Addr) (X : List (Str × Int)) : Prop := ∃ ps : List (Addr × Str × Int), H l = some (.lst (ps.map fun q => V.ref q.1)) ∧ X = ps.map (·.2) ∧ ∀ q ∈ ps, H q.1 = some (.tup [.str q.2.1, .int q.2.2])
theorem LsAt.nil {H : Hp} {l : Addr} (h : H l = some (.lst [])) : LsAt H l [] := ⟨[], h, rfl, fun q hq => absurd hq List.not_mem_nil⟩
theorem LsAt.same {H H' : Hp} {l : Addr} {X : List (Str × Int)} (x : LsAt H l X) (e : Same H H') : LsAt H' l X := by
  obtain ⟨ps, h1, h2, h3⟩ := x
  exact ⟨ps, e _ _ h1, h2, fun q hq => e _ _ (h3 q hq)⟩
theorem LsAt.fr {s A B : Addr} {c : Nat} {H H' : Hp} {l : Addr} {X : List (Str × Int)} (x : LsAt H l X) (hS : StreamAt H s A B c) (e : Fr s A H H') (z : s ≠ l ∧ A ≠ l ∧ B ≠ l) : LsAt H' l X := by
  obtain ⟨ps, h1, h2, h3⟩ := x
  exact ⟨ps, e _ _ z.1.symm z.2.1.symm h1, h2, fun q hq => e.tup hS (h3 q hq)⟩
theorem LsAt.snoc {H : Hp} {l t : Addr} {X : List (Str × Int)} {a : Str} {b : Int} (x : LsAt H l X) (ht : H t = some (.tup [.str a, .int b])) : ∃ acc, H l = some (.lst acc) ∧ acc.length = X.length ∧ LsAt (upd H l (.lst (acc ++ [.ref t]))) l (X ++ [(a, b)]) := by
  obtain ⟨ps, h1, h2, h3⟩ := x
  refine ⟨_, h1, by rw [h2, List.length_map, List.length_map], ps ++ [(t, a, b)], ?_, by rw [h2, List.map_append]; rfl, fun q hq => ?_⟩
  · rw [upd_same, List.map_append]
    rfl
  · have : H q.1 = some (.tup [.str q.2.1, .int q.2.2]) := by
      rcases List.mem_append.mp hq with hq | hq
      · exact h3 q hq
      · rw [List.mem_singleton.mp hq]
        exact ht
    rw [upd_ne (ne_of this h1 (by intro z; cases z))]
    exact this
theorem LsAt.tup {H : Hp} {l : Addr} {X : List (Str × Int)} (x : LsAt H l X) : ∃ xs, H l = some (.lst xs) ∧ ∀ (t : Addr) (ob : Obj), H t = none → ob.dict = none → PlD (upd H t (.frz ob (.tup xs))) t X := by
  obtain ⟨ps, h1, h2, h3⟩ := x
  exact ⟨_, h1, fun t ob ht od => ⟨ps, ob, od, upd_same, h2, fun q hq => same_upd ht _ _ (h3 q hq)⟩⟩
/-- the placement after a move -/
def mvd (P : List (Str × Int)) (nm : Str) (r : Int) : List (Str × Int) := P.map fun x => (x.1, if x.1 = nm then r else x.2)
theorem mvd_len (P : List (Str × Int)) (nm : Str) (r : Int) : (mvd P nm r).length = P.length := by unfold mvd; rw [List.length_map]
theorem mvd_names (P : List (Str × Int)) (nm : Str) (r : Int) : (mvd P nm r).map (·.1) = P.map (·.1) := by
  unfold mvd
  rw [List.map_map]
  rfl
theorem mvd_get {P : List (Str × Int)} {nm : Str} {r : Int} {k : Nat} {n' : Str} {r' : Int} (h : P[k]? = some (n', r')) : (mvd P nm r)[k]? = some (n', if n' = nm then r else r') := by
  unfold mvd
  rw [List.getElem?_map, h]
  rfl
theorem Pl.mvd {n : Int} {P : List (Str × Int)} (h : Pl n P) {nm : Str} {r : Int} (h0 : 0 ≤ r) (h1 : r < n) : Pl n (mvd P nm r) := by
  refine ⟨by rw [mvd_names]; exact h.nm, fun x hx => ?_⟩
  obtain ⟨y, hy, rfl⟩ := List.mem_map.mp hx
  show 0 ≤ (if y.1 = nm then r else y.2) ∧ (if y.1 = nm then r else y.2) < n
  split
  · exact ⟨h0, h1⟩
  · exact h.rm y hy
/-- all moves -/
def mvs (n : Int) (D : List (Int × Int)) (P : List (Str × Int)) (X : List (Str × Int)) : List (Str × Int) := X.flatMap fun x => ((nb n D x.2).filter fun t => decide (t ∈ P.map (·.2))).map fun t => (x.1, t)
theorem str_dec (a b : Str) : decide (V.str a = V.str b) = decide (a = b) := by
  rw [Bool.eq_iff_iff, decide_eq_true_eq, decide_eq_true_eq]
  exact ⟨V.str.inj, fun e => by rw [e]⟩
theorem k_ii' : kitB "int" "int" = some true := by decide +kernel
theorem k_ib' : kitB "int" "bool" = some false := by decide +kernel
section
variable {P : Program} {w : World} {K : PySem.W.Frag} {mg : Str → Option Value} {base : Heap}
def spLMoved : Sp := fun vs H Q _ => ∃ (p : Addr) (P : List (Str × Int)) (nm : Str) (r : Int), vs = [.ref p, .str nm, .int r] ∧ PlAt H p P ∧ P.length ≤ 100 ∧ ∀ H' u, Same H H' → PlD H' u (mvd P nm r) → Q (.ref u) H'
abbrev nLMoved : List Str := ["_law_placement", "_law_name", "_law_room", "_law_one", "_law_here"]
theorem scLMoved : FnScope nLMoved ["_law_placement", "_law_name", "_law_room"] (defScope sLMoved) := ⟨rfl, rfl, rfl, by decide +kernel, rfl, by decide +kernel, by decide +kernel⟩
theorem ok_lmoved {f : Addr} {fd : FuncData} {k : Nat} (F : Fun K "_law_moved" "_law_moved" sLMoved f fd) (T : Nm mg) : FnOk P w K mg base CX0 (k + 1) f fd pLMoved spLMoved := by
  refine F.ok scLMoved (fun vs H Q E h => ?_) (fun cdv A outer s H vs Q E hr h => ?_)
  · obtain ⟨p, P, nm, r, rfl, _⟩ := h
    rfl
  · obtain ⟨p, P, nm, r, rfl, hP, hl, q⟩ := h
    refine ⟨_, (pss_one (ps_ret (pe_callTy (call_tupleF K rfl) (by rfl) T.tuple (by decide +kernel) (pa_cons (pe_lc (own := [("_law_one", 3), ("_law_here", 4)]) (g := gTup K 2 (gCons (gName 3) (gCons (gName 4) gNil))) (by rfl) scLMoved.nd (pi_tup (pv 0))
 (blkOk_by (own := [("_law_one", 3), ("_law_here", 4)]) (N := nLMoved) (sc := defScope sLMoved) (by decide +kernel))
 (fun _ _ _ _ _ => (pg_tup (by rfl) (pgs_cons (pg_name (i := 3) scLMoved.nd rfl (.inl rfl)) (pgs_cons (pg_name (i := 4) scLMoved.nd rfl (.inl rfl)) pgs_nil)))) (fun _ _ _ _ _ => pts_nil) (fun _ _ _ _ _ => (pe_tup (pa_cons (pv 3) (pa_cons (pe_ix (ix_listK K rfl) (pe_lst (pa_cons (pv 4) (pa_cons (pv 2) pa_nil))) (pe_callTy call_int1 (by rfl) T.int (by decide +kernel) (pa_cons (pe_cmpR op_eq (pv 3) (pv 1) (nomark _)) pa_nil)) (fun _ _ => rfl)) pa_nil))))) pa_nil)))), ?_⟩
    refine ⟨_, rfl, p, rfl, hP.sq, fun L hL => lc_pl hP (fun i H1 => Same H H1 ∧ LsAt H1 L ((mvd P nm r).take i)) ⟨same_upd hL, .nil upd_same⟩ (fun _ _ h => Tk.of h.1) ?_ ?_⟩
    · rintro k n' r' H1 hk ⟨s1, e1⟩
      refine ⟨rfl, ?_⟩
      unfold tYes
      refine iteT ⟨_, rfl, _, rfl, _, rfl, by show 2 ≤ sizeLine; decide, fun a ha => ⟨_, rfl, _, rfl, rfl, .inr ⟨_, rfl, ?_⟩⟩⟩
      rw [str_dec]
      have ix : atI [V.int r', V.int r] (if decide (n' = nm) = true then 1 else 0) = some (.int (if n' = nm then r else r')) := by
        by_cases c : n' = nm
        · rw [if_pos (decide_eq_true c), if_pos c]
          exact atI1
        · rw [if_neg (by simpa using c), if_neg c]
          exact atI0
      refine ⟨a, _, _, _, rfl, rfl, SqL.of upd_same, ix, by show 2 ≤ sizeLine; decide, fun t ht => ?_⟩
      have sm := (same_upd (o := .lst [V.int r', V.int r]) ha).trans (same_upd (o := .tup [V.str n', V.int (if n' = nm then r else r')]) ht)
      obtain ⟨acc, e2, l2, e3⟩ := (e1.same sm).snoc (t := t) upd_same
      refine ⟨acc, e2, ?_, same_put (s1.trans sm) hL, ?_⟩
      · rw [l2, List.length_take, mvd_len]
        exact small1000 (by omega)
      · rw [take_snoc (mvd_get hk)]
        exact e3
    · rintro H1 ⟨s1, e1⟩
      rw [← mvd_len P nm r, List.take_length] at e1
      obtain ⟨xs, e2, e3⟩ := e1.tup
      exact ⟨L, _, rfl, SqL.of e2, fun t ob ht od => q _ t (s1.trans (same_upd ht)) (e3 t ob ht od)⟩
end
end Fw
namespace Fw
open PySem PySem.Spec PyProof.Rows L2
theorem mvs_snoc {n : Int} {D : List (Int × Int)} {P X : List (Str × Int)} {k : Nat} {nm : Str} {r : Int} (h : X[k]? = some (nm, r)) : mvs n D P (X.take (k + 1)) = mvs n D P (X.take k) ++ ((nb n D r).filter fun t => decide (t ∈ P.map (·.2))).map fun t => (nm, t) := by
  unfold mvs
  rw [take_snoc h, List.flatMap_append]
  congr 1
  show List.flatMap _ [(nm, r)] = _
  rw [List.flatMap_cons, List.flatMap_nil, List.append_nil]
theorem mvs_len (n : Int) (D : List (Int × Int)) (P X : List (Str × Int)) (n1 : n ≤ 8) : (mvs n D P X).length ≤ 8 * X.length := by
  unfold mvs
  induction X with
  | nil => exact Nat.le_refl _
  | cons x X ih =>
    rw [List.flatMap_cons, List.length_append, List.length_map, List.length_cons]
    have h1 := List.length_filter_le (fun t => decide (t ∈ P.map (·.2))) (nb n D x.2)
    have h2 := nb_len n D x.2
    omega
theorem LsAt.app {H : Hp} {l m : Addr} {X Y : List (Str × Int)} (x : LsAt H l X) (y : LsAt H m Y) : ∃ xs ys, H l = some (.lst xs) ∧ H m = some (.lst ys) ∧ xs.length = X.length ∧ ys.length = Y.length ∧ LsAt (upd H l (.lst (xs ++ ys))) l (X ++ Y) := by
  obtain ⟨ps, h1, h2, h3⟩ := x
  obtain ⟨qs, g1, g2, g3⟩ := y
  refine ⟨_, _, h1, g1, by rw [h2, List.length_map, List.length_map], by rw [g2, List.length_map, List.length_map], ps ++ qs, ?_, by rw [h2, g2, List.map_append], fun q hq => ?_⟩
  · rw [upd_same, List.map_append]
  · have : H q.1 = some (.tup [.str q.2.1, .int q.2.2]) := by
      rcases List.mem_append.mp hq with hq | hq
      · exact h3 q hq
      · exact g3 q hq
    rw [upd_ne (ne_of this h1 (by intro z; cases z))]
    exact this
theorem rooms_snoc {P : List (Str × Int)} {k : Nat} {nm : Str} {r : Int} (h : P[k]? = some (nm, r)) : (P.take (k + 1)).map (·.2) = (P.take k).map (·.2) ++ [r] := by
  rw [take_snoc h, List.map_append]
  rfl
theorem mvs_mem {n : Int} {D : List (Int × Int)} {P X : List (Str × Int)} {nm : Str} {t : Int} (h : (nm, t) ∈ mvs n D P X) : ∃ c, (nm, c) ∈ X ∧ t ∈ nb n D c ∧ t ∈ P.map (·.2) := by
  unfold mvs at h
  obtain ⟨x, hx, h⟩ := List.mem_flatMap.mp h
  obtain ⟨t', ht, e⟩ := List.mem_map.mp h
  cases e
  obtain ⟨h1, h2⟩ := List.mem_filter.mp ht
  exact ⟨x.2, hx, h1, of_decide_eq_true h2⟩
/-- a loop over a list of pairs -/
theorem for_ls {K : PySem.W.Frag} {l : Addr} {X : List (Str × Int)} {i j : Nat} {tb : TS} {D : Ends} {σ : L2.St} {H0 H : Hp} (x : LsAt H0 l X) (Pv : Nat → L2.St → Hp → Prop) (h0 : Pv 0 σ H) (hl : ∀ k σ H, Pv k σ H → Same H0 H)
    (hs : ∀ k nm r σ H, X[k]? = some (nm, r) → Pv k σ H → tb { D with nx := Pv (k + 1), ct := Pv (k + 1), bk := D.nx } ((σ.set i (some (.str nm))).set j (some (.int r))) H) (hd : ∀ σ H, Pv X.length σ H → D.nx σ H) :
    ∃ W : Nat → Nat → L2.St → Hp → Prop, (∃ m, W 0 m σ H) ∧ ∀ k m σ H, W k m σ H →
      ((Itl K l).stop k H ∧ D.nx σ H) ∨ ((Itl K l).go k H ∧ ∃ N : L2.St → Hp → Prop, (∀ σ' H', N σ' H' → ∃ m', m' < m ∧ W (k + 1) m' σ' H') ∧ ∀ x H', (Itl K l).yld k H x H' → gTup K 2 (gCons (gName i) (gCons (gName j) gNil)) x σ H' fun σ2 H2 => tb { D with nx := N, ct := N, bk := D.nx } σ2 H2) := by
  obtain ⟨ps, h1, rfl, h3⟩ := x
  refine for_list (K := K) (a := l) (xs := ps.map fun q => V.ref q.1) Pv h0 (fun i σ H _ hp => SqL.of (hl i σ H hp _ _ h1)) (fun k x σ H hx hp => ?_) (fun σ H hp => hd σ H (by rw [List.length_map] at hp ⊢; exact hp))
  obtain ⟨q, hq, rfl⟩ := get_pl hx
  refine ⟨q.1, _, rfl, SqT.of (hl k σ H hp _ _ (h3 q (List.mem_of_getElem? hq))), rfl, _, _, rfl, _, _, rfl, rfl, ?_⟩
  exact hs k q.2.1 q.2.2 σ H (by rw [List.getElem?_map, hq]; rfl) hp
theorem LsAt.sq {K : PySem.W.Frag} {H : Hp} {l : Addr} {X : List (Str × Int)} (x : LsAt H l X) : ∃ xs, SqL K H l xs ∧ xs.length = X.length := by
  obtain ⟨ps, h1, h2, _⟩ := x
  exact ⟨_, SqL.of h1, by rw [h2, List.length_map, List.length_map]⟩
theorem LsAt.at {K : PySem.W.Frag} {H : Hp} {l : Addr} {X : List (Str × Int)} (x : LsAt H l X) {r : Int} (h0 : 0 ≤ r) (h1 : r < (X.length : Nat)) : ∃ xs t nm v, SqL K H l xs ∧ atI xs r = some (.ref t) ∧ H t = some (.tup [.str nm, .int v]) ∧ (nm, v) ∈ X := by
  obtain ⟨ps, e1, e2, e3⟩ := x
  have hj : r.toNat < ps.length := by rw [e2, List.length_map] at h1; omega
  have hm := List.getElem_mem hj
  refine ⟨_, ps[r.toNat].1, ps[r.toNat].2.1, ps[r.toNat].2.2, SqL.of e1, ?_, e3 _ hm, by rw [e2]; exact List.mem_map_of_mem (f := (·.2)) hm⟩
  have := atI_nat (xs := ps.map fun q => V.ref q.1) (j := r.toNat) (v := V.ref ps[r.toNat].1) (by rw [List.getElem?_map, List.getElem?_eq_getElem hj]; rfl)
  rw [show ((r.toNat : Nat) : Int) = r by omega] at this
  exact this
end Fw
namespace Fw
open PySem PySem.Spec PyProof.Rows L2
section
variable {P : Program} {w : World} {K : PySem.W.Frag} {mg : Str → Option Value} {base : Heap}
def spLMoves : Sp := fun vs H Q _ => ∃ (h p : Addr) (n : Int) (D : List (Int × Int)) (P : List (Str × Int)), vs = [.ref h, .ref p] ∧ HouseAt H h n D ∧ Forest n D ∧ n ≤ 8 ∧ PlAt H p P ∧ P.length ≤ 100 ∧
  ∀ H' l, Same H H' → H l = none → LsAt H' l (mvs n D P P) → Q (.ref l) H'
abbrev nLMoves : List Str := ["_law_house", "_law_placement", "_law_held", "_law_name", "_law_room", "_law_found", "_law_here", "_law_there"]
theorem scLMoves : FnScope nLMoves ["_law_house", "_law_placement"] (defScope sLMoves) := ⟨rfl, rfl, rfl, by decide +kernel, rfl, by decide +kernel, by decide +kernel⟩
theorem ok_lmoves {f : Addr} {fd : FuncData} {k : Nat} (F : Fun K "_law_moves" "_law_moves" sLMoves f fd) (T : Nm mg) (C_law_neighbors : Cal P w K mg base (k + 1) "_law_neighbors" pLNb spLNb) : FnOk P w K mg base CX0 (k + 2) f fd pLMoves spLMoves := by
  refine F.ok scLMoves (fun vs H Q E h => ?_) (fun cdv A outer s H vs Q E hr h => ?_)
  · obtain ⟨h, p, n, D, P, rfl, _⟩ := h
    rfl
  · obtain ⟨h, p, n, D, P, rfl, hH, hF, n1, hP, lP, q⟩ := h
    refine ⟨_, (pss_cons (ps_set (i := 2) scLMoves.nd rfl (.inr rfl) (pe_lc (own := [("_law_name", 3), ("_law_room", 4)]) (g := gTup K 2 (gCons (gName 3) (gCons (gName 4) gNil))) (by rfl) scLMoves.nd (pi_tup (pv 1))
 (blkOk_by (own := [("_law_name", 3), ("_law_room", 4)]) (N := nLMoves) (sc := defScope sLMoves) (by decide +kernel))
 (fun _ _ _ _ _ => (pg_tup (by rfl) (pgs_cons (pg_name (i := 3) scLMoves.nd rfl (.inl rfl)) (pgs_cons (pg_name (i := 4) scLMoves.nd rfl (.inl rfl)) pgs_nil)))) (fun _ _ _ _ _ => pts_nil) (fun _ _ _ _ _ => (pv 4))))
      (pss_cons (ps_set (i := 5) scLMoves.nd rfl (.inl rfl) (pe_lst pa_nil))
      (pss_cons (ps_for PassesOwn.never rfl (pi_tup (pv 1)) (pg_tup (by rfl) (pgs_cons (pg_name (i := 3) scLMoves.nd rfl (.inr rfl)) (pgs_cons (pg_name (i := 6) scLMoves.nd rfl (.inl rfl)) pgs_nil)))
      (pss_one (ps_expr (pe_bm PySem.F.plainAttrs_list PySem.F.slot_list_extend PySem.F.type_list_extend mt_extend (pv 5) (pa_cons (pe_lc (own := [("_law_there", 7)]) (g := gName 7) (by rfl) scLMoves.nd (pi_list (pe_cal C_law_neighbors hr (by rfl) (pa_cons (pv 0) (pa_cons (pv 6) pa_nil))))
 (blkOk_by (own := [("_law_there", 7)]) (N := nLMoves) (sc := defScope sLMoves) (by decide +kernel))
 (fun _ _ _ _ _ => (pg_name (i := 7) scLMoves.nd rfl (.inl rfl))) (fun _ _ _ _ _ => pts_one (pt_cmpR (op_inK K rfl) (pv 7) (pv 2) (by rfl))) (fun _ _ _ _ _ => (pe_tup (pa_cons (pv 3) (pa_cons (pv 7) pa_nil))))) pa_nil)))))
      (pss_one (ps_ret (pv 5)))))), ?_⟩
    refine ⟨_, rfl, p, rfl, hP.sq, fun L hL => lc_pl hP (fun i H1 => Same H H1 ∧ H1 L = some (.lst (vi ((P.take i).map (·.2))))) ⟨same_upd hL, upd_same⟩ (fun _ _ h => Tk.of h.1) ?_ ?_⟩
    · rintro k nm r H1 hk ⟨s1, e1⟩
      refine ⟨rfl, ?_⟩
      unfold tYes
      refine iteT ⟨_, rfl, _, e1, ?_, same_put s1 hL, ?_⟩
      · rw [List.length_map, List.length_map, List.length_take]
        exact small1000 (by omega)
      · rw [upd_same, rooms_snoc hk, vi_app]
        rfl
    rintro H1 ⟨s1, e1⟩
    rw [List.take_length] at e1
    refine ⟨Nat.zero_le _, fun R hR => ?_⟩
    have nLR : L ≠ R := ne_of_none e1 hR
    have gR := s1.free hR
    have sm := same_upd (o := .lst []) hR
    refine ⟨_, rfl, p, rfl, ((hP.same s1).same sm).sq, for_pl hP (fun i σ' H' => ∃ y3 y4 y6 y7, σ' = [some (.ref h), some (.ref p), some (.ref L), y3, y4, some (.ref R), y6, y7] ∧ Same H H' ∧ H' L = some (.lst (vi (P.map (·.2)))) ∧ LsAt H' R (mvs n D P (P.take i)))
      ⟨_, _, _, _, rfl, s1.trans sm, sm _ _ e1, .nil upd_same⟩ ?_ ?_ ?_⟩
    · rintro k σ' H' ⟨_, _, _, _, _, s', _⟩
      exact Tk.of s'
    · rintro k nm r σ' H2 hk ⟨y3, y4, y6, y7, rfl, s2, e2, x2⟩
      obtain ⟨xs2, er2, _⟩ := x2.tup
      refine ⟨_, rfl, .inl ⟨rfl, _, SqL.of er2⟩, _, rfl, _, rfl, h, n, D, r, rfl, hH.same s2, hF, fun H3 l s3 hl e3 => ?_⟩
      refine ⟨l, rfl, ⟨_, SqL.of e3⟩, fun M hM => lc_list (K := K) (a := l) (xs := vi (nb n D r)) (fun i H' => Same H3 H' ∧ LsAt H' M ((((nb n D r).take i).filter fun t => decide (t ∈ P.map (·.2))).map fun t => (nm, t)))
        ⟨same_upd hM, .nil upd_same⟩ (fun i H' _ hh => SqL.of (hh.1 _ _ e3)) ?_ ?_⟩
      · rintro i x H4 hx ⟨s4, x4⟩
        obtain ⟨t, ht, rfl⟩ := get_vi hx
        have e4 := (s3.trans s4) _ _ e2
        refine ⟨rfl, _, rfl, _, rfl, L, _, rfl, .inl (SqL.of e4), rfl, flat_vi _, _, rfl, ?_⟩
        have ef : (((nb n D r).take (i + 1)).filter fun t => decide (t ∈ P.map (·.2))).map (fun t => (nm, t)) = (((nb n D r).take i).filter fun t => decide (t ∈ P.map (·.2))).map (fun t => (nm, t)) ++ if t ∈ P.map (·.2) then [(nm, t)] else [] := by
          rw [take_snoc ht, filter_snoc, List.map_append]
          congr 1
          by_cases c : t ∈ P.map (·.2)
          · rw [if_pos c, if_pos (decide_eq_true c)]
            rfl
          · rw [if_neg c, if_neg (by simpa using c)]
            rfl
        rw [if_neg (by decide), inV_vi]
        refine ite2 (fun c => ?_) (fun c => ?_)
        · rw [if_pos (of_decide_eq_true c)] at ef
          refine ⟨_, rfl, _, rfl, by show 2 ≤ sizeLine; decide, fun u hu => ?_⟩
          have sm := same_upd (o := .tup [.str nm, .int t]) hu
          obtain ⟨acc, a1, a2, a3⟩ := (x4.same sm).snoc (t := u) upd_same
          refine ⟨acc, a1, ?_, same_put (s4.trans sm) hM, by rw [ef]; exact a3⟩
          rw [a2, List.length_map]
          have h1 := List.length_filter_le (fun t => decide (t ∈ P.map (·.2))) ((nb n D r).take i)
          have h2 := nb_len n D r
          rw [List.length_take] at h1
          exact small1000 (by omega)
        · rw [if_neg (fun z => c (decide_eq_true z)), List.append_nil] at ef
          rw [ef]
          exact ⟨s4, x4⟩
      · rintro H4 ⟨s4, x4⟩
        rw [List.length_map, List.take_length] at x4
        have s34 := s3.trans s4
        obtain ⟨xs, ys, a1, a2, a3, a4, a5⟩ := (x2.same s34).app x4
        refine ⟨R, M, _, _, rfl, rfl, a1, a2, ?_, ?_⟩
        · rw [a3, a4, List.length_map]
          have h1 := List.length_filter_le (fun t => decide (t ∈ P.map (·.2))) (nb n D r)
          have h2 := nb_len n D r
          have h3 := mvs_len n D P (P.take k) n1
          rw [List.length_take] at h3
          exact Nat.le_of_lt (small1000 (by omega))
        · refine ⟨_, _, _, _, rfl, same_put (s2.trans s34) gR, ?_, ?_⟩
          · rw [upd_ne nLR]
            exact s34 _ _ e2
          · rw [mvs_snoc hk]
            exact a5
    · rintro σ' H2 ⟨y3, y4, y6, y7, rfl, s2, e2, x2⟩
      rw [List.take_length] at x2
      exact ⟨_, rfl, q _ R s2 gR x2⟩
end
end Fw
namespace Fw
open PySem PySem.Spec PyProof.Rows L2

/-- what a dict of rooms holds at a room -/
def lk (kvs : List (Key × V)) (v : Int) : Option V := valV kvs (Sum.inl v)
theorem lk_put (kvs : List (Key × V)) (k j : Int) (y : V) : lk (putK kvs (Sum.inl k) y) j = if j = k then some y else lk kvs j := by
  unfold lk
  rw [valV_put]
  by_cases e : j = k
  · rw [if_pos e, if_pos (by rw [e])]
  · rw [if_neg e, if_neg (fun z => e (Sum.inl.inj z))]
def isK (kvs : List (Key × V)) (v : Int) : Bool := (lk kvs v).isSome
theorem isK_put (kvs : List (Key × V)) (k j : Int) (y : V) : isK (putK kvs (Sum.inl k) y) j = (decide (j = k) || isK kvs j) := by
  unfold isK
  rw [lk_put]
  by_cases e : j = k
  · rw [if_pos e, decide_eq_true e]; rfl
  · rw [if_neg e, decide_eq_false e]; rfl

/-- the way from a room along the steps -/
inductive Ch (D : List (Int × Int)) (L : Int → Option V) (g : Int) : Int → List Int → Prop
  | goal : L g = some .non → Ch D L g g [g]
  | step {v u : Int} {p : List Int} : L v = some (.int u) → adj D v u → Ch D L g u p → v ∉ p → Ch D L g v (v :: p)
theorem Ch.mono {D : List (Int × Int)} {L L' : Int → Option V} {g v : Int} {p : List Int} (h : Ch D L g v p) (m : ∀ y x, L y = some x → L' y = some x) : Ch D L' g v p := by
  induction h with
  | goal e => exact .goal (m _ _ e)
  | step e a _ n ih => exact .step (m _ _ e) a ih n
theorem Ch.keys {D : List (Int × Int)} {L : Int → Option V} {g v : Int} {p : List Int} (h : Ch D L g v p) : ∀ y ∈ p, (L y).isSome = true := by
  induction h with
  | goal e =>
    intro y hy
    rw [List.mem_singleton.mp hy, e]
    rfl
  | step e _ _ _ ih =>
    intro y hy
    rcases List.mem_cons.mp hy with rfl | hy
    · rw [e]; rfl
    · exact ih y hy
theorem Ch.sp {D : List (Int × Int)} {L : Int → Option V} {g v : Int} {p : List Int} (h : Ch D L g v p) : SP (adj D) v g p := by
  induction h with
  | goal _ => exact .one _
  | step _ a _ n ih => exact .cons a ih n

/-- the dict of steps, at any time -/
structure SInv (n : Int) (D : List (Int × Int)) (R : List Int) (g : Int) (kvs : List (Key × V)) : Prop where
  goal : lk kvs g = some .non
  way : ∀ v x, lk kvs v = some x → ∃ p, Ch D (lk kvs) g v p
  rng : ∀ v, isK kvs v = true → v = g ∨ v ∈ R
  keys : ∃ ks : List Int, kvs.map (·.1) = ks.map Sum.inl ∧ ks.Nodup ∧ ∀ v, v ∈ ks ↔ isK kvs v = true
  len : kvs.length + left n.toNat (isK kvs) ≤ n.toNat + 1
theorem SInv.start {n g : Int} {D : List (Int × Int)} {R : List Int} : SInv n D R g [(Sum.inl g, V.non)] := by
  have e0 : ∀ v, lk [(Sum.inl g, V.non)] v = if v = g then some .non else none := fun v => by
    unfold lk
    by_cases e : v = g
    · rw [if_pos e, e]; exact valV_pos rfl
    · rw [if_neg e, valV_neg (fun z => e (Sum.inl.inj z).symm)]; rfl
  have e1 : lk [(Sum.inl g, V.non)] g = some .non := by rw [e0, if_pos rfl]
  have e2 : ∀ v, isK [(Sum.inl g, V.non)] v = true → v = g := fun v h => by
    unfold isK at h
    rw [e0] at h
    by_cases e : v = g
    · exact e
    · rw [if_neg e] at h; cases h
  refine ⟨e1, fun v x h => ?_, fun v h => .inl (e2 v h), ⟨[g], rfl, by simp, fun v => ⟨fun h => ?_, fun h => ?_⟩⟩, ?_⟩
  · have : isK [(Sum.inl g, V.non)] v = true := by unfold isK; rw [h]; rfl
    rw [e2 v this]
    exact ⟨[g], .goal e1⟩
  · rw [List.mem_singleton.mp h]; unfold isK; rw [e1]; rfl
  · rw [e2 v h]; simp
  · have := left_le n.toNat (isK [(Sum.inl g, V.non)])
    simp only [List.length_cons, List.length_nil]
    omega
theorem SInv.put {n g o v : Int} {D : List (Int × Int)} {R : List Int} {kvs : List (Key × V)} (S : SInv n D R g kvs) (hv : isK kvs v = true) (ho : isK kvs o = false) (a : adj D v o) (hR : o ∈ R) (h0 : 0 ≤ o) (h1 : o < n) :
    SInv n D R g (putK kvs (Sum.inl o) (.int v)) ∧ left n.toNat (isK (putK kvs (Sum.inl o) (.int v))) < left n.toNat (isK kvs) := by
  have eo : lk kvs o = none := by
    unfold isK at ho
    cases e : lk kvs o with
    | none => rfl
    | some x => rw [e] at ho; cases ho
  have m : ∀ y x, lk kvs y = some x → lk (putK kvs (Sum.inl o) (.int v)) y = some x := fun y x h => by
    rw [lk_put, if_neg (fun e => ?_)]
    · exact h
    · rw [e, eo] at h; cases h
  have hl : left n.toNat (isK (putK kvs (Sum.inl o) (.int v))) < left n.toNat (isK kvs) := by
    refine left_lt (o := o) (fun x hx => ?_) h0 (by omega) ho ?_
    · rw [isK_put, hx, Bool.or_true]
    · rw [isK_put, decide_eq_true rfl, Bool.true_or]
  refine ⟨⟨m _ _ S.goal, fun y x h => ?_, fun y h => ?_, ?_, ?_⟩, hl⟩
  · rw [lk_put] at h
    by_cases e : y = o
    · subst e
      cases hx : lk kvs v with
      | none => unfold isK at hv; rw [hx] at hv; cases hv
      | some z =>
        obtain ⟨p, hp⟩ := S.way v z hx
        refine ⟨y :: p, .step (by rw [lk_put, if_pos rfl]) (adj_symm a) (hp.mono m) fun hm => ?_⟩
        have := hp.keys y hm
        rw [eo] at this
        cases this
    · rw [if_neg e] at h
      obtain ⟨p, hp⟩ := S.way y x h
      exact ⟨p, hp.mono m⟩
  · rw [isK_put, Bool.or_eq_true, decide_eq_true_eq] at h
    rcases h with h | h
    · exact .inr (h ▸ hR)
    · exact S.rng y h
  · obtain ⟨ks, e1, e2, e3⟩ := S.keys
    refine ⟨ks ++ [o], ?_, ?_, fun y => ?_⟩
    · rw [putK_new _ eo, List.map_append, e1, List.map_append]; rfl
    · rw [List.nodup_append]
      refine ⟨e2, by simp, fun x hx y hy e => ?_⟩
      rw [List.mem_singleton.mp hy] at e
      rw [e, e3, ho] at hx
      cases hx
    · rw [List.mem_append, List.mem_singleton, e3, isK_put, Bool.or_eq_true, decide_eq_true_eq]
      exact or_comm
  · have := length_putK kvs (Sum.inl o) (V.int v)
    have := S.len
    omega

theorem inV_ints (x : Int) (R : List Int) : inV (.int x) (vi R) = decide (x ∈ R) := by
  unfold inV
  rw [Bool.eq_iff_iff, List.any_eq_true, decide_eq_true_eq]
  constructor
  · rintro ⟨y, hy, e⟩
    obtain ⟨z, hz, rfl⟩ := List.mem_map.mp hy
    have e : (z == x) = true := e
    rw [beq_iff_eq] at e
    exact e ▸ hz
  · intro h
    exact ⟨.int x, List.mem_map_of_mem h, by show (x == x) = true; simp⟩
theorem flat_ints (R : List Int) : (vi R).all flatV = true := by
  rw [List.all_eq_true]
  intro y hy
  obtain ⟨z, hz, rfl⟩ := List.mem_map.mp hy
  rfl
theorem vi_snoc_last {xs : List Int} {x : Int} : (vi (xs ++ [x]))[(vi (xs ++ [x])).length - 1]? = some (.int x) := by
  rw [vi_app, List.length_append]
  show (vi xs ++ [V.int x])[(vi xs).length + 1 - 1]? = _
  rw [Nat.add_sub_cancel, List.getElem?_append_right (Nat.le_refl _), Nat.sub_self]
  rfl
theorem vi_dropLast {xs : List Int} {x : Int} : (vi (xs ++ [x])).dropLast = vi xs := by
  rw [vi_app]
  show (vi xs ++ [V.int x]).dropLast = _
  rw [List.dropLast_concat]
theorem snoc_cases : ∀ (xs : List Int), xs = [] ∨ ∃ ys y, xs = ys ++ [y]
  | [] => .inl rfl
  | x :: xs => by
    rcases snoc_cases xs with rfl | ⟨ys, y, rfl⟩
    · exact .inr ⟨[], x, rfl⟩
    · exact .inr ⟨x :: ys, y, rfl⟩

section
variable {P : Program} {w : World} {K : PySem.W.Frag} {mg : Str → Option Value} {base : Heap}
/-- what the finished steps are -/
structure SDone (n : Int) (D : List (Int × Int)) (R : List Int) (g : Int) (kvs : List (Key × V)) : Prop where
  inv : SInv n D R g kvs
  closed : ∀ v o, isK kvs v = true → adj D v o → o ∈ R → isK kvs o = true
theorem Same.sqT {K : PySem.W.Frag} {H H' : Hp} {a : Addr} {xs : List V} (e : Same H H') (h : SqT K H a xs) : SqT K H' a xs :=
  h.imp (Or.imp (e a _) fun ⟨o, x⟩ => ⟨o, e a _ x⟩) id
def spSteps (K : PySem.W.Frag) : Sp := fun vs H Q _ => ∃ (h rl : Addr) (n : Int) (D : List (Int × Int)) (g : Int) (R : List Int), vs = [.ref h, .int g, .ref rl] ∧ HouseAt H h n D ∧ Forest n D ∧ 0 ≤ n ∧ n ≤ 8 ∧
  (SqL K H rl (vi R) ∨ SqT K H rl (vi R)) ∧ ∀ H' d kvs, Same H H' → H d = none → H' d = some (.dK kvs) → SDone n D R g kvs → Q (.ref d) H'

structure SAt (H : Hp) (d wl : Addr) (n : Int) (D : List (Int × Int)) (R : List Int) (g : Int) (kvs : List (Key × V)) (wt : List Int) (H' : Hp) : Prop where
  sm : Same H H'
  ed : H' d = some (.dK kvs)
  ew : H' wl = some (.lst (vi wt))
  inv : SInv n D R g kvs
  wk : ∀ v ∈ wt, isK kvs v = true
  wlen : wt.length + left n.toNat (isK kvs) ≤ n.toNat + 1
theorem SAt.same {H : Hp} {d wl : Addr} {n : Int} {D : List (Int × Int)} {R : List Int} {g : Int} {kvs : List (Key × V)} {wt : List Int} {H1 H2 : Hp} (S : SAt H d wl n D R g kvs wt H1) (e : Same H1 H2) : SAt H d wl n D R g kvs wt H2 :=
  ⟨S.sm.trans e, e _ _ S.ed, e _ _ S.ew, S.inv, S.wk, S.wlen⟩
abbrev nSteps : List Str := ["house", "goal", "rooms", "steps", "waiting", "room", "other"]
theorem scSteps : FnScope nSteps ["house", "goal", "rooms"] (defScope sSteps) := ⟨rfl, rfl, rfl, by decide +kernel, rfl, by decide +kernel, by decide +kernel⟩
theorem ok_steps {f fN : Addr} {fd fdN : FuncData} (F : Fun K "steps_toward" "steps_toward" sSteps f fd) (T : Nm mg) (DN : Def K mg "neighbors" sNb fN fdN ["house", "room"]) : FnOk P w K mg base CX0 2 f fd ["house", "goal", "rooms"] (spSteps K) := by
  have GN : FnOk P w K mg base CX0 1 fN fdN ["house", "room"] spNb := ok_nb DN.F T
  refine F.ok scSteps (fun vs H Q E h => ?_) (fun cdv A outer s H vs Q E hr h => ?_)
  · obtain ⟨h, rl, n, D, g, R, rfl, _⟩ := h
    rfl
  · obtain ⟨h, rl, n, D, g, R, rfl, hH, hF, hn0, hn1, hR, q⟩ := h
    have hu := hu_of hr
    refine ⟨_, pss_cons (ps_set (i := 3) scSteps.nd rfl (.inl rfl) (pe_disp (pps_cons (pv 1) pe_non pps_nil) (by rfl) (by rfl) (fun z => by cases z) (by decide)))
      (pss_cons (ps_set (i := 4) scSteps.nd rfl (.inl rfl) (pe_lst (pa_cons (pv 1) pa_nil)))
      (pss_cons (ps_while PassesOwn.never (pt_truth (pv 4) (by intro _; rfl))
        (pss_cons (ps_set (i := 5) scSteps.nd rfl (.inl rfl) (pe_bm0 PySem.F.plainAttrs_list PySem.F.slot_list_pop PySem.F.type_list_pop mt_pop (pv 4)))
        (pss_one (ps_for PassesOwn.never rfl (pi_tup (pe_call GN hr (by rfl) DN.g DN.F.kp DN.b .nil pass0 (pa_cons (pv 0) (pa_cons (pv 5) pa_nil)))) (pg_name (i := 6) scSteps.nd rfl (Or.inl rfl))
          (pss_one (ps_if (PW.pt (pw_and (pt_cmpR op_in_seq (pv 6) (pv 2) (by rfl)) (pw_and1 (pt_cmp (pc_dnotin hu (pv 6) (pv 3))))))
            (pss_cons (ps_dput hu (pv 3) (pv 6) (pv 5) rfl)
            (pss_one (ps_expr (pe_bm PySem.F.plainAttrs_list PySem.F.slot_list_append PySem.F.type_list_append mt_append (pv 4) (pa_cons (pv 6) pa_nil)))))
            pss_nil))))))
      (pss_one (ps_ret (pv 3))))), ?_⟩
    refine fun d hd => ⟨_, rfl, upd_same, [(Sum.inl g, .non)], rfl, by show 1 ≤ 15; decide, ?_⟩
    rw [upd_upd]
    refine ⟨_, rfl, by show 1 ≤ sizeLine; decide, fun wl hw => ?_⟩
    have ed0 : (upd H d (.dK (mergeK [] [(Sum.inl g, V.non)]))) d = some (.dK [(Sum.inl g, V.non)]) := upd_same
    have nwd : d ≠ wl := ne_of_none ed0 hw
    have gw : H wl = none := (same_upd hd).free hw
    have clos0 : ∀ v o, isK [(Sum.inl g, V.non)] v = true → v ∉ [g] → adj D v o → o ∈ R → isK [(Sum.inl g, V.non)] o = true := fun v o hv hn _ _ => by
      obtain ⟨ks, e1, _, e3⟩ := (SInv.start (n := n) (D := D) (R := R) (g := g)).keys
      have e4 : ks = [g] := by
        cases ks with
        | nil => cases e1
        | cons k r =>
          cases r with
          | nil =>
            injection e1 with e1 _
            rw [← Sum.inl.inj e1]
          | cons k2 r =>
            injection e1 with _ e1
            cases e1
      rw [e4] at e3
      exact absurd ((e3 v).mpr hv) hn
    refine ⟨fun m σ H' => ∃ (kvs : List (Key × V)) (wt : List Int) (y5 y6 : Option V), σ = [some (.ref h), some (.int g), some (.ref rl), some (.ref d), some (.ref wl), y5, y6] ∧ SAt H d wl n D R g kvs wt H' ∧
        (∀ v o, isK kvs v = true → v ∉ wt → adj D v o → o ∈ R → isK kvs o = true) ∧ m = 2 * left n.toNat (isK kvs) + wt.length, ⟨_, [(Sum.inl g, V.non)], [g], none, none, rfl, ⟨?_, ?_, upd_same, SInv.start, ?_, ?_⟩, clos0, rfl⟩, ?_⟩
    · exact (same_upd hd).trans (same_upd hw)
    · rw [upd_ne nwd]
      exact ed0
    · intro v hv
      rw [List.mem_singleton.mp hv]
      unfold isK
      rw [SInv.start (n := n) (D := D) (R := R) |>.goal]
      rfl
    · have := left_le n.toNat (isK [(Sum.inl g, V.non)])
      simp only [List.length_cons, List.length_nil]
      omega
    clear clos0 ed0
    rintro m σ H1 ⟨kvs, wt, y5, y6, rfl, S1, clos, rfl⟩
    refine ⟨_, rfl, _, .inl ⟨_, SqL.of S1.ew, rfl⟩, ?_⟩
    rcases snoc_cases wt with rfl | ⟨ys, v, rfl⟩
    · refine iteF ?_
      exact ⟨_, rfl, q _ d kvs S1.sm hd S1.ed ⟨S1.inv, fun v o h1 h2 h3 => clos v o h1 (by simp) h2 h3⟩⟩
    · have ne : (!(vi (ys ++ [v])).isEmpty) = true := by
        cases ys <;> rfl
      rw [ne]
      refine iteT ⟨_, fun _ _ hh => hh, ?_⟩
      have hv : isK kvs v = true := S1.wk v (by simp)
      refine ⟨_, rfl, .inl ⟨rfl, _, SqL.of S1.ew⟩, wl, _, _, rfl, rfl, S1.ew, vi_snoc_last, ?_⟩
      rw [vi_dropLast]
      have l1 := S1.wlen
      rw [List.length_append, List.length_singleton] at l1
      have S2 : SAt H d wl n D R g kvs ys (upd H1 wl (.lst (vi ys))) := ⟨same_put S1.sm gw, (upd_ne nwd).trans S1.ed, upd_same, S1.inv, fun x hx => S1.wk x (List.mem_append_left _ hx), by omega⟩
      refine ⟨_, rfl, _, rfl, h, n, D, v, rfl, hH.same S2.sm, hF, fun H3 t s3 et => ?_⟩
      have S3 := S2.same s3
      refine ⟨t, rfl, ⟨_, SqT.of et⟩, for_tup (K := K) (a := t) (xs := vi (nb n D v)) (fun i σ H' => ∃ (kvs' : List (Key × V)) (wt : List Int) (y6 : Option V), σ = [some (.ref h), some (.int g), some (.ref rl), some (.ref d), some (.ref wl), some (.int v), y6] ∧
          SAt H d wl n D R g kvs' wt H' ∧ H' t = some (.tup (vi (nb n D v))) ∧ isK kvs' v = true ∧ (∀ x o, isK kvs' x = true → x ∉ wt → x ≠ v → adj D x o → o ∈ R → isK kvs' o = true) ∧
          (∀ o ∈ (nb n D v).take i, o ∈ R → isK kvs' o = true) ∧ 2 * left n.toNat (isK kvs') + wt.length < 2 * left n.toNat (isK kvs) + (ys ++ [v]).length) ⟨kvs, ys, y6, rfl, S3, et, hv, ?_, ?_, ?_⟩ ?_ ?_ ?_⟩
      · intro x o h1 h2 h3 h4 h5
        exact clos x o h1 (by simp [h2, h3]) h4 h5
      · intro o ho
        simp at ho
      · rw [List.length_append, List.length_singleton]
        omega
      · rintro i σ H' _ ⟨kvs', wt, y6, rfl, _, et', _⟩
        exact SqT.of et'
      · rintro i x σ H4 hx ⟨kvs', wt, y6, rfl, S4, et4, hv4, cl4, pre4, lt4⟩
        obtain ⟨o, eo, rfl⟩ := get_vi hx
        have mo := List.mem_of_getElem? eo
        have ao : adj D v o := hF.mem_nb.mp mo
        have ro := hF.adj ao
        have pre5 : ∀ kvs2 : List (Key × V), (∀ y, isK kvs' y = true → isK kvs2 y = true) → (o ∈ R → isK kvs2 o = true) → ∀ z ∈ (nb n D v).take (i + 1), z ∈ R → isK kvs2 z = true := fun kvs2 hm ho z hz hzR => by
          rw [List.take_add_one, eo, List.mem_append] at hz
          rcases hz with hz | hz
          · exact hm _ (pre4 z hz hzR)
          · have : z = o := by simpa using hz
            rw [this] at hzR ⊢
            exact ho hzR
        dsimp only [gName]
        refine if_by (fun b H5 => H5 = H4 ∧ (b = true → o ∈ R ∧ isK kvs' o = false) ∧ (b = false → o ∈ R → isK kvs' o = true)) ?_ ?_ ?_
        · rintro H5 ⟨rfl, hb, _⟩
          obtain ⟨oR, ok⟩ := hb rfl
          obtain ⟨I5, lt5⟩ := S4.inv.put hv4 ok ao oR ro.2.2.1 ro.2.2.2
          have lk4 := S4.inv.len
          have lw4 := S4.wlen
          refine ⟨_, rfl, _, rfl, _, rfl, d, _, rfl, DPut.k (k := Sum.inl o) S4.ed (small1000 (by omega)), ?_⟩
          have ew5 : (upd H5 d (.dK (putK kvs' (Sum.inl o) (V.int v)))) wl = some (.lst (vi wt)) := (upd_ne nwd.symm).trans S4.ew
          refine ⟨_, rfl, .inl ⟨rfl, _, SqL.of ew5⟩, _, rfl, wl, _, _, rfl, rfl, ew5, by rw [List.length_map]; exact small1000 (by omega), ?_⟩
          refine ⟨putK kvs' (Sum.inl o) (V.int v), wt ++ [o], _, rfl, ⟨same_put (same_put S4.sm hd) gw, (upd_ne nwd).trans upd_same, ?_, I5, ?_, ?_⟩, ?_, ?_, ?_, ?_, ?_⟩
          · rw [upd_same, vi_app]
            rfl
          · intro y hy
            rw [isK_put]
            rcases List.mem_append.mp hy with hy | hy
            · rw [S4.wk y hy, Bool.or_true]
            · rw [List.mem_singleton.mp hy, decide_eq_true rfl, Bool.true_or]
          · rw [List.length_append, List.length_singleton]
            omega
          · rw [upd_ne (ne_of et4 S4.ew (by intro z; cases z)), upd_ne (ne_of et4 S4.ed (by intro z; cases z))]
            exact et4
          · rw [isK_put, hv4, Bool.or_true]
          · intro y z h1 h2 h3 h4 h5
            rw [isK_put, Bool.or_eq_true, decide_eq_true_eq] at h1
            rw [List.mem_append, not_or, List.mem_singleton] at h2
            rcases h1 with h1 | h1
            · exact absurd h1 h2.2
            · rw [isK_put, cl4 y z h1 h2.1 h3 h4 h5, Bool.or_true]
          · refine pre5 _ (fun y hy => by rw [isK_put, hy, Bool.or_true]) fun _ => ?_
            rw [isK_put, decide_eq_true rfl, Bool.true_or]
          · rw [List.length_append, List.length_singleton]
            omega
        · rintro H5 ⟨rfl, _, hb⟩
          exact ⟨kvs', wt, _, rfl, S4, et4, hv4, cl4, pre5 kvs' (fun _ hh => hh) (hb rfl), lt4⟩
        · intro QQ hQ
          have hR4 : SqL K H4 rl (vi R) ∨ SqT K H4 rl (vi R) := hR.imp (fun z => S4.sm.seq z) (fun z => Same.sqT S4.sm z)
          refine ⟨_, rfl, _, rfl, rl, _, rfl, hR4, rfl, flat_ints R, _, rfl, ?_⟩
          show if (inV (.int o) (vi R)) = true then _ else _
          rw [inV_ints]
          refine ite2 (fun c => ?_) (fun c => ?_)
          · have c : o ∈ R := of_decide_eq_true c
            refine ⟨_, rfl, _, rfl, d, _, rfl, DGet.k (k := Sum.inl o) S4.ed, _, rfl, ?_⟩
            refine hQ _ _ ⟨rfl, fun e => ⟨c, ?_⟩, fun e _ => ?_⟩
            · show isK kvs' o = false
              unfold isK lk
              simpa using e
            · show isK kvs' o = true
              unfold isK lk
              simpa using e
          · exact hQ _ _ ⟨rfl, fun e => (by cases e), fun _ e => absurd (decide_eq_true e) c⟩
      · rintro σ H4 ⟨kvs', wt, y6, rfl, S4, et4, hv4, cl4, pre4, lt4⟩
        rw [List.length_map, List.take_length] at pre4
        refine ⟨_, lt4, kvs', wt, _, _, rfl, S4, fun x o h1 h2 h3 h4 => ?_, rfl⟩
        by_cases e : x = v
        · subst e
          exact pre4 o (hF.mem_nb.mpr h3) h4
        · exact cl4 x o h1 h2 e h3 h4
end
end Fw
namespace Fw
open PySem PySem.Spec PyProof.Rows L2
theorem HouseAt.top {H : Hp} {h : Addr} {n : Int} {D : List (Int × Int)} (x : HouseAt H h n D) : ∃ q, H h = some (.tup [.int n, .ref q]) := by
  obtain ⟨q, ps, h1, _⟩ := x
  exact ⟨q, h1⟩

/-- a nodup list of rooms below n is no longer than n -/
theorem short {n : Nat} : ∀ {p : List Int}, p.Nodup → (∀ x ∈ p, 0 ≤ x ∧ x < n) → p.length ≤ n := by
  induction n with
  | zero =>
    intro p _ h
    cases p with
    | nil => exact Nat.le_refl _
    | cons x r => have := h x (List.mem_cons_self ..); omega
  | succ n ih =>
    intro p nd h
    have h2 : (p.erase (n : Int)).length ≤ n := by
      refine ih (nd.erase _) fun x hx => ?_
      have hm := List.mem_of_mem_erase hx
      have hne : x ≠ (n : Int) := fun e => by
        subst e
        exact (List.Nodup.not_mem_erase nd) hx
      have := h x hm
      omega
    have h3 : p.length - 1 ≤ (p.erase (n : Int)).length := List.le_length_erase
    omega
theorem SP.all {R : Int → Int → Prop} {S : Int → Prop} (hs : ∀ x y, R x y → S y) {a b : Int} {p : List Int} (h : SP R a b p) (e : S a) : ∀ x ∈ p, S x := by
  induction h with
  | one a =>
    intro x hx
    rw [List.mem_singleton.mp hx]
    exact e
  | cons r _ _ ih =>
    intro x hx
    rcases List.mem_cons.mp hx with rfl | hx
    · exact e
    · exact ih (hs _ _ r) x hx
theorem Forest.short {n a b : Int} {D : List (Int × Int)} (f : Forest n D) (h8 : n ≤ 8) (h0 : 0 ≤ a) (h1 : a < n) {p : List Int} (h : SP (Fw.adj D) a b p) : p.length ≤ 8 := by
  have h2 : p.length ≤ n.toNat := Fw.short h.nodup fun x hx => by
    have := h.all (S := fun x => 0 ≤ x ∧ x < n) (fun x y r => ⟨(f.adj r).2.2.1, (f.adj r).2.2.2⟩) ⟨h0, h1⟩ x hx
    omega
  omega

end Fw
namespace Fw
open PySem PySem.Spec PyProof.Rows L2

section
variable {P : Program} {w : World} {K : PySem.W.Frag} {mg : Str → Option Value} {base : Heap}
def spPath : Sp := fun vs H Q _ => ∃ (h : Addr) (n : Int) (D : List (Int × Int)) (a b : Int), vs = [.ref h, .int a, .int b] ∧ HouseAt H h n D ∧ Forest n D ∧ n ≤ 8 ∧ 0 ≤ a ∧ a < n ∧ 0 ≤ b ∧ b < n ∧
  (∀ H', Same H H' → (∀ p, ¬ SP (adj D) a b p) → Q .non H') ∧ (∀ H' t p, Same H H' → SP (adj D) a b p → p.length ≤ 8 → H' t = some (.tup (vi p)) → Q (.ref t) H')

abbrev nPath : List Str := ["house", "a", "b", "steps", "path"]
theorem scPath : FnScope nPath ["house", "a", "b"] (defScope sPath) := ⟨rfl, rfl, rfl, by decide +kernel, rfl, by decide +kernel, by decide +kernel⟩
theorem ok_path {f fN fS : Addr} {fd fdN fdS : FuncData} (F : Fun K "path_between" "path_between" sPath f fd) (T : Nm mg) (DN : Def K mg "neighbors" sNb fN fdN ["house", "room"]) (DS : Def K mg "steps_toward" sSteps fS fdS ["house", "goal", "rooms"]) : FnOk P w K mg base CX0 3 f fd ["house", "a", "b"] spPath := by
  have GS : FnOk P w K mg base CX0 2 fS fdS ["house", "goal", "rooms"] (spSteps K) := ok_steps DS.F T DN
  refine F.ok scPath (fun vs H Q E h => ?_) (fun cdv A outer s H vs Q E hr h => ?_)
  · obtain ⟨h, n, D, a, b, rfl, _⟩ := h
    rfl
  · obtain ⟨h, n, D, a, b, rfl, hH, hF, hn, a0, a1, b0, b1, q1, q2⟩ := h
    have hu := hu_of hr
    obtain ⟨hq, eh⟩ := hH.top
    refine ⟨_, pss_cons (ps_set (i := 3) scPath.nd rfl (.inl rfl) (pe_call GS hr (by rfl) DS.g DS.F.kp DS.b .nil pass0 (pa_cons (pv 0) (pa_cons (pv 2) (pa_cons (pe_listRg (by rfl) (by rfl) T.list (prg_1 (by rfl) T.range (pe_ix ix_tup (pv 0) pe_int (fun _ _ => rfl)))) pa_nil)))))
      (pss_cons (ps_if (pt_cmp (pc_dnotin hu (pv 1) (pv 3))) (pss_one (ps_ret pe_non)) pss_nil)
      (pss_cons (ps_set (i := 4) scPath.nd rfl (.inl rfl) (pe_lst (pa_cons (pv 1) pa_nil)))
      (pss_cons (ps_while PassesOwn.never (pt_cmpR op_ne (pe_ix ix_list (pv 4) (pe_un un_neg pe_int) (fun _ _ => rfl)) (pv 2) (nomark _))
        (pss_one (ps_expr (pe_bm PySem.F.plainAttrs_list PySem.F.slot_list_append PySem.F.type_list_append mt_append (pv 4) (pa_cons (pe_dget hu (pv 3) (pe_ix ix_list (pv 4) (pe_un un_neg pe_int) (fun _ _ => rfl)) (fun _ _ => rfl)) pa_nil)))))
      (pss_one (ps_ret (pe_callTy call_tuple_of (by rfl) T.tuple (by decide +kernel) (pa_cons (pv 4) pa_nil))))))), ?_⟩
    refine ⟨_, rfl, _, rfl, _, rfl, h, _, _, _, rfl, rfl, SqT.of eh, atI0, n, rfl, RgOk.of_le (by omega) (by omega) (by omega) (by omega), fun rl hrl => ?_⟩
    rw [rg_vi, show ((List.range n.toNat).map fun (i : Nat) => (i : Int)) = rg n from rfl]
    have s1 : Same H (upd H rl (.lst (vi (rg n)))) := same_upd hrl
    refine ⟨h, rl, n, D, b, rg n, rfl, hH.same s1, hF, by omega, hn, .inl (SqL.of upd_same), fun H1 d kvs s2 hd ed S => ?_⟩
    have s2' := s1.trans s2
    have cl : ∀ v o, isK kvs v = true → adj D v o → isK kvs o = true := fun v o h1 h2 => S.closed v o h1 h2 (mem_rg.mpr ⟨(hF.adj h2).2.2.1, (hF.adj h2).2.2.2⟩)
    refine ⟨_, rfl, _, rfl, d, _, rfl, DGet.k (k := Sum.inl a) ed, _, rfl, ?_⟩
    cases ea : valV kvs (Sum.inl a) with
    | none =>
      refine iteT ?_
      refine q1 _ s2' fun p hp => ?_
      have hb : isK kvs b = true := by
        unfold isK
        rw [S.inv.goal]
        rfl
      have ha : isK kvs a = true := hp.back (S := fun x => isK kvs x = true) (fun x y r hy => cl y x hy (adj_symm r)) hb
      unfold isK lk at ha
      rw [ea] at ha
      cases ha
    | some x =>
      refine iteF ?_
      obtain ⟨p, hp⟩ := S.inv.way a x ea
      have hlen := hF.short hn a0 a1 hp.sp
      refine ⟨_, rfl, by show 1 ≤ sizeLine; decide, fun pl hpl => ?_⟩
      have gpl : H pl = none := s2'.free hpl
      have npd : d ≠ pl := ne_of_none ed hpl
      have p0 : ∃ r0, p = a :: r0 := by
        cases hp with
        | goal _ => exact ⟨[], rfl⟩
        | step _ _ _ _ => exact ⟨_, rfl⟩
      obtain ⟨r0, rfl⟩ := p0
      refine ⟨fun m σ H' => ∃ (don : List Int) (v : Int) (rest : List Int), σ = [some (.ref h), some (.int a), some (.int b), some (.ref d), some (.ref pl)] ∧ Same H H' ∧ H' d = some (.dK kvs) ∧ H' pl = some (.lst (vi (don ++ [v]))) ∧
          Ch D (lk kvs) b v (v :: rest) ∧ don ++ v :: rest = a :: r0 ∧ m = rest.length, ⟨_, [], a, r0, rfl, same_put s2' gpl, (upd_ne npd).trans ed, upd_same, hp, rfl, rfl⟩, ?_⟩
      rintro m σ H2 ⟨don, v, rest, rfl, s3, ed3, ep3, hv, eq3, rfl⟩
      have hat : atI (vi (don ++ [v])) (-1) = some (.int v) := by
        rw [vi_app]
        exact atI_last _ _
      refine ⟨_, rfl, _, rfl, pl, _, _, _, rfl, rfl, SqL.of ep3, hat, _, rfl, rfl, _, rfl, ?_⟩
      by_cases e : v = b
      · subst e
        have er : rest = [] := by
          have := hv.sp.loop
          injection this
        subst er
        refine iteNS rfl ?_
        refine ⟨_, rfl, pl, _, rfl, .inl ⟨SqL.of ep3, fun t ht => ?_⟩⟩
        refine q2 _ t (a :: r0) (s3.trans (same_upd ht)) hp.sp hlen ?_
        rw [upd_same, ← eq3]
      · have ne : (!decide (V.int v = V.int b)) = true := by
          rw [decide_eq_false (fun z => e (V.int.inj z))]
          rfl
        rw [ne]
        refine iteT ⟨_, fun _ _ hh => hh, ?_⟩
        cases hv with
        | goal _ => exact absurd rfl e
        | step ev _ hu2 _ =>
          rename_i u _ _
          have r0' : ∃ r1, rest = u :: r1 := by
            cases hu2 with
            | goal _ => exact ⟨[], rfl⟩
            | step _ _ _ _ => exact ⟨_, rfl⟩
          obtain ⟨r1, rfl⟩ := r0'
          have len3 : (don ++ v :: u :: r1).length ≤ 8 := by rw [eq3]; exact hlen
          have len4 : (vi (don ++ [v])).length < sizeLine := by
            rw [List.length_map, List.length_append, List.length_singleton]
            rw [List.length_append, List.length_cons] at len3
            exact small1000 (by omega)
          have hdg : DGet H2 d (V.int v) (some (V.int u)) := by
            have := DGet.k (k := Sum.inl v) ed3
            unfold lk at ev
            rw [ev] at this
            exact this
          refine ⟨_, rfl, .inl ⟨rfl, _, SqL.of ep3⟩, _, rfl, _, rfl, _, rfl, pl, _, _, _, rfl, rfl, SqL.of ep3, hat, d, V.int u, rfl, hdg, pl, _, _, rfl, rfl, ep3, len4, ?_⟩
          · refine ⟨r1.length, by simp, don ++ [v], u, r1, rfl, same_put s3 gpl, (upd_ne npd).trans ed3, ?_, hu2, by rw [List.append_assoc]; exact eq3, rfl⟩
            rw [upd_same, vi_app (don ++ [v])]
            rfl
end
end Fw
namespace Fw
open PySem PySem.Spec PyProof.Rows L2 SrtO

section
variable {P : Program} {w : World} {A : Around} {E : Value → Shared → Prop} {s : Shared}
/-- sorted of anything that can be collected, by an order -/
theorem sorted_any {a : Addr} {ltv : Value → Value → Bool} {Q : Value → Shared → Prop} (O : Swo ltv) (good : List Value → Shared → Prop) (col : wpAny (model P w) A.in1 (collect (.ref a)) good E s) (hz : ∀ vs z, good vs z → vs.length ≤ sizeLine)
    (hS : ∀ vs z, good vs z → 2 ≤ vs.length → SortableO P w A.in1.in1 { z with heap := z.heap.push (seqObj "list" vs.toArray 0) } z.heap.objs.size vs ltv)
    (fin : ∀ vs z out, good vs z → Srtd ltv out → Stb ltv out vs → Q (.ref z.heap.objs.size) { z with heap := sortedHeap (z.heap.push (seqObj "list" vs.toArray 0)) z.heap.objs.size vs out.toArray }) :
    wpAny (model P w) A (call (.builtin "sorted") [.ref a]) Q E s := by
  refine Calls.call_function_entry kind_sorted plain_sorted entry_sorted (args_sorted1 _) ?_
  show wpAny (model P w) A.in1 (Builtin.«sorted» _) _ _ _
  unfold Builtin.«sorted»
  refine wpAny_bind (m := checkCount "sorted" 1 1 _) (wpAny_pure (wpAny_bind (wpAny_mono col (fun vs z g => ?_) fun _ _ e => e)))
  refine wpAny_bind (wpAny_newList ?_ (hz vs z g))
  have at0 : (z.heap.push (seqObj "list" vs.toArray 0)).get? z.heap.objs.size = some (seqObj "list" vs.toArray 0) := Heap.get?_push_size _ rfl
  refine wpAny_bind (wpAny_holding (wpAny_call_entry slot_list_sort ⟨_, at0, rfl⟩ entry_list_sort (list_sort_ord O at0 (hz vs z g) (hS vs z g) fun out h1 h2 => ?_) (args_list_sort _)))
  exact ⟨_, rfl, wpAny_pure ⟨_, rfl, fin vs z out g h1 h2⟩⟩
end

/-- sorted(d), the keys of d ints -/
def rSortedDI : List V → Hp → VK → Prop := fun xs H Q => ∃ (a : Addr) (kvs : List (Key × V)) (ks : List Int), xs = [.ref a] ∧ H a = some (.dK kvs) ∧ kvs.map (·.1) = ks.map Sum.inl ∧
  ∀ (ys : List Int) (p : Addr), ys.Perm ks → ys.Pairwise (· ≤ ·) → H p = none → Q (.ref p) (upd H p (.lst (vi ys)))
theorem cr_sortedDI {X : Cx} (hc : X.calm = true) : CallR X (.builtin "sorted") rSortedDI := by
  intro pins s σ H xs us Q I r h
  obtain ⟨a, kvs, ks, rfl, ha, hk, q⟩ := h
  rw [Vals.ref1 r]
  obtain ⟨len, lo, vs, rel, dd⟩ := dk_of I.hok ha
  obtain ⟨ep, hat⟩ := dd.dictAt
  have ek : vs.map (·.1) = ks.map Sum.inl := rel.keys.symm.trans hk
  have el : vs.length = ks.length := by simpa using congrArg List.length ek
  have ez : ks.length ≤ sizeLine := by
    have := congrArg List.length hk
    rw [List.length_map, List.length_map] at this
    omega
  refine sorted_any swo_int (fun us z => IntsAre us ks ∧ Inv X pins σ H z ∧ z = { s with heap := z.heap, toks := z.toks }) ?_ ?_ ?_ ?_
  · refine PySem.W.kdu_collect (PySem.W.kdl_dict (knd := mixKind X.prog X.w) (kvs := vs) (ep := ep) lo) (I.ok.hd hc) hat (by omega) fun h' tk acc keep items => ⟨?_, I.kept keep, rfl⟩
    have lena : acc.toList.length = vs.length := by
      rw [Array.length_toList]
      exact items.1
    have rv := keys_at (us := acc.toList) (vs := vs) lena fun j v e => by
      obtain ⟨k, x, e1, e2⟩ := items.2 j v (by rw [← Array.getElem?_toList]; exact e)
      exact ⟨k, x, e1, e2⟩
    have e3 : (vs.map fun p => kV p.1) = ks.map V.int := by
      have := congrArg (List.map kV) ek
      rw [List.map_map, List.map_map] at this
      exact this
    rw [e3] at rv
    exact rv.ints
  · intro us z g
    rw [g.1.length]
    exact ez
  · intro us z g h2
    exact ints_sortable g.1 h2
  · rintro us z out ⟨hi, J, ez'⟩ h1 h2
    obtain ⟨k1, k2, k3⟩ := ints_out hi h1 h2
    have at0 : (z.heap.push (seqObj "list" us.toArray 0)).get? z.heap.objs.size = some (seqObj "list" us.toArray 0) := Heap.get?_push_size _ rfl
    obtain ⟨e', he'⟩ := sortedHeap_at (vs := us) (out := out.toArray) at0
    refine ⟨.ref z.heap.objs.size, upd H z.heap.objs.size (.lst (vi (out.map iv))), J.laid (t' := z.toks) (fun b u e => ?_) (Nat.le_refl _) ⟨?_, out, e', vals_of_ints k1, he'⟩, rfl, q _ _ k2 k3 (J.hok.fresh (Nat.le_refl _))⟩
    · have lt := Heap.lt_size e
      rw [sortedHeap_old (Nat.ne_of_lt lt) (by rw [size_push']; exact Nat.lt_succ_of_lt lt)]
      exact Heap.get?_push_of_some _ e
    · rw [List.length_map, k2.length_eq]
      exact ez
end Fw
namespace Fw
open PySem PySem.Spec PyProof.Rows L2 SrtO

/-! ### lists of ints in the order of tuples -/
def lexI : List Int → List Int → Bool
  | [], [] => false
  | [], _ :: _ => true
  | _ :: _, [] => false
  | x :: xs, y :: ys => if x = y then lexI xs ys else decide (x < y)
theorem lexI_asym : ∀ {xs ys : List Int}, lexI xs ys = true → lexI ys xs = false
  | [], [], h => by cases h
  | [], _ :: _, _ => rfl
  | _ :: _, [], h => by cases h
  | x :: xs, y :: ys, h => by
    unfold lexI at h ⊢
    by_cases e : x = y
    · rw [if_pos e] at h
      rw [if_pos e.symm]
      exact lexI_asym h
    · rw [if_neg e, decide_eq_true_eq] at h
      rw [if_neg (fun z => e z.symm)]
      exact decide_eq_false (by omega)
theorem lexI_tr : ∀ {xs ys zs : List Int}, lexI ys xs = false → lexI zs ys = false → lexI zs xs = false
  | [], [], [], _, _ => rfl
  | [], [], _ :: _, _, _ => rfl
  | [], _ :: _, [], _, h => by cases h
  | [], _ :: _, _ :: _, _, _ => rfl
  | _ :: _, [], _, h, _ => by cases h
  | _ :: _, _ :: _, [], _, h => by cases h
  | x :: xs, y :: ys, z :: zs, h1, h2 => by
    unfold lexI at h1 h2 ⊢
    by_cases e1 : y = x
    · rw [if_pos e1] at h1
      by_cases e2 : z = y
      · rw [if_pos e2] at h2
        rw [if_pos (e2.trans e1)]
        exact lexI_tr h1 h2
      · rw [if_neg e2, decide_eq_false_iff_not] at h2
        rw [if_neg (fun q => e2 (q.trans e1.symm))]
        exact decide_eq_false (by omega)
    · rw [if_neg e1, decide_eq_false_iff_not] at h1
      by_cases e2 : z = y
      · rw [if_neg (fun q => e1 (e2.symm.trans q))]
        exact decide_eq_false (by omega)
      · rw [if_neg e2, decide_eq_false_iff_not] at h2
        rw [if_neg (by omega)]
        exact decide_eq_false (by omega)
theorem lexI_total : ∀ {xs ys : List Int}, lexI xs ys = false → xs ≠ ys → lexI ys xs = true
  | [], [], _, h => absurd rfl h
  | [], _ :: _, h, _ => by cases h
  | _ :: _, [], _, _ => rfl
  | x :: xs, y :: ys, h, n => by
    unfold lexI at h ⊢
    by_cases e : x = y
    · rw [if_pos e] at h
      rw [if_pos e.symm]
      exact lexI_total h fun z => n (by rw [e, z])
    · rw [if_neg e, decide_eq_false_iff_not] at h
      rw [if_neg (fun z => e z.symm)]
      exact decide_eq_true (by omega)
theorem lexI_head {x y : Int} {xs ys : List Int} (h : x < y) : lexI (x :: xs) (y :: ys) = true := by
  unfold lexI
  rw [if_neg (by omega)]
  exact decide_eq_true h
/-- two lists that rise strictly, with the same members, are one -/
theorem rise_ext {α : Type} {lt : α → α → Prop} (as : ∀ a b, lt a b → ¬ lt b a) : ∀ {xs ys : List α}, xs.Pairwise lt → ys.Pairwise lt → (∀ x, x ∈ xs ↔ x ∈ ys) → xs = ys
  | [], [], _, _, _ => rfl
  | [], y :: ys, _, _, h => absurd ((h y).mpr (List.mem_cons_self ..)) (by simp)
  | x :: xs, [], _, _, h => absurd ((h x).mp (List.mem_cons_self ..)) (by simp)
  | x :: xs, y :: ys, hx, hy, h => by
    obtain ⟨hx1, hx2⟩ := List.pairwise_cons.mp hx
    obtain ⟨hy1, hy2⟩ := List.pairwise_cons.mp hy
    have e : x = y := by
      rcases List.mem_cons.mp ((h x).mp (List.mem_cons_self ..)) with h1 | h1
      · exact h1
      · rcases List.mem_cons.mp ((h y).mpr (List.mem_cons_self ..)) with h2 | h2
        · exact h2.symm
        · exact absurd (hy1 _ h1) (as _ _ (hx1 _ h2))
    subst e
    rw [rise_ext as hx2 hy2 fun z => ?_]
    constructor
    · intro m
      rcases List.mem_cons.mp ((h z).mp (List.mem_cons_of_mem _ m)) with e | e
      · subst e; exact absurd (hx1 _ m) (as _ _ (hx1 _ m))
      · exact e
    · intro m
      rcases List.mem_cons.mp ((h z).mpr (List.mem_cons_of_mem _ m)) with e | e
      · subst e; exact absurd (hy1 _ m) (as _ _ (hy1 _ m))
      · exact e

/-! ### the machine's comparison of two tuples of ints -/
def lexF (fin : Bool) : List Int → List Int → Bool
  | x :: xs, y :: ys => if x = y then lexF fin xs ys else decide (x < y)
  | _, _ => fin
theorem lexF_eq : ∀ (xs ys : List Int), lexF (decide (xs.length < ys.length)) xs ys = lexI xs ys
  | [], [] => rfl
  | [], _ :: _ => by unfold lexF lexI; simp
  | _ :: _, [] => by unfold lexF lexI; simp
  | x :: xs, y :: ys => by
    unfold lexF lexI
    have e : decide ((x :: xs).length < (y :: ys).length) = decide (xs.length < ys.length) := by simp
    rw [e, lexF_eq xs ys]
section
variable {P : Program} {w : World} {A : Around} {s : Shared}
theorem kat_ints {fin : Bool} : ∀ {xs ys : List Value} {ns ms : List Int} (i : Nat), IntsAre xs ns → IntsAre ys ms → PySem.W.KatLex P w A true fin (fun r s' => s' = s ∧ r = lexF fin ns ms) (xs.zip ys) i s := by
  intro xs ys ns ms i hx
  induction hx generalizing ys ms i with
  | nil => intro _; exact PySem.W.kat_nil ⟨rfl, by cases ms <;> rfl⟩
  | cons x t hx ih =>
    intro hy
    cases hy with
    | nil => exact PySem.W.kat_nil ⟨rfl, rfl⟩
    | cons y u hy =>
      refine PySem.W.kat_cons (SeqAt.EqAt.int_int x t y u P w _ _ (PySem.W.kat_go (fun e => ?_) fun e => ?_))
      · have e : x = y := by simpa using e
        subst e
        unfold lexF
        rw [if_pos rfl]
        exact PySem.W.kat_yes (ih (i + 1) hy)
      · have e : ¬ x = y := by simpa using e
        unfold lexF
        rw [if_neg e]
        refine PySem.W.kat_no ?_
        cases hb : (true && i == 0) with
        | true => exact oneLt_int ⟨rfl, rfl⟩
        | false => exact PySem.W.kat_one _ _ (PyProof.Rows.lt_int (show s = s ∧ decide (x < y) = decide (x < y) from ⟨rfl, rfl⟩))
theorem swo_lexI (k : Value → List Int) : Swo fun v u => lexI (k v) (k u) := ⟨fun _ _ h => lexI_asym h, fun _ _ _ h1 h2 => lexI_tr h1 h2⟩
/-- tuples of ints, none empty, sort by their order -/
theorem tups_sortable {a : Addr} {vs : List Value} {k : Value → List Int} (h0 : 0 < vs.length) (hp : ∀ v ∈ vs, TS.TupInts s.heap v (k v) ∧ k v ≠ []) (ha : ∀ o, s.heap.get? a = some o → o.cls ≠ .type "tuple") : SortableO P w A s a vs fun v u => lexI (k v) (k u) := by
  intro h' keep
  have hp' : ∀ v ∈ vs, TS.TupInts h' v (k v) := fun v hv => (hp v hv).1.keeps fun b o e c => keep b o (fun z => ha o (z ▸ e) c) e
  have firsts : ∀ us : List Value, (∀ v ∈ us, v ∈ vs) → ∃ fs : List Value, PySem.W.KatTups h' us fs ∧ fs.length = us.length ∧ ∀ f ∈ fs, ∃ x t, f = Value.int x t := by
    intro us
    induction us with
    | nil => exact fun _ => ⟨[], PySem.W.KatTups.nil, rfl, fun _ hm => nomatch hm⟩
    | cons v us ih =>
      intro hu
      obtain ⟨fs, g1, g2, g3⟩ := ih fun z hz => hu z (List.mem_cons_of_mem _ hz)
      have hv := hu v (List.mem_cons_self ..)
      obtain ⟨b, xs, rfl, ⟨o, ho, hc, n, hd⟩, hi⟩ := hp' v hv
      have ne := (hp _ hv).2
      generalize k (.ref b) = kb at hi ne
      obtain ⟨l⟩ := xs
      cases l with
      | nil =>
        have hi : IntsAre [] kb := hi
        cases hi
        exact absurd rfl ne
      | cons f l =>
        have hf : ∃ x t, f = Value.int x t := by
          have hi : IntsAre (f :: l) kb := hi
          cases hi
          exact ⟨_, _, rfl⟩
        refine ⟨f :: fs, PySem.W.KatTups.cons ho hc hd rfl g1, by rw [List.length_cons, List.length_cons, g2], fun z hz => ?_⟩
        rcases List.mem_cons.mp hz with rfl | hz
        · exact hf
        · exact g3 z hz
  obtain ⟨fs, g1, g2, g3⟩ := firsts vs fun _ h => h
  refine ⟨tuples' true, fun Q E hq => ?_, fun p q hm hm' => ?_⟩
  · refine PySem.W.kat_kind (T := .type "int") g1 (by omega) (fun f hf => ?_) (by rfl) ?_
    · obtain ⟨x, t, rfl⟩ := g3 f hf
      exact PySem.W.Looks.now
    · rw [show (Value.type "int" != Value.type "tuple") = true by decide +kernel]
      exact hq
  · obtain ⟨b, xs, e1, ⟨o, ho, hc, n, hd⟩, hi⟩ := hp' p.1 hm
    obtain ⟨b2, xs2, e2, ⟨o2, ho2, hc2, n2, hd2⟩, hi2⟩ := hp' q.1 hm'
    have fe : (lt2 fun v u => lexI (k v) (k u)) p q = lexI (k p.1) (k q.1) := rfl
    rw [fe, ← lexF_eq]
    have l1 : (k p.1).length = xs.size := by rw [← hi.length]; simp
    have l2 : (k q.1).length = xs2.size := by rw [← hi2.length]; simp
    rw [l1, l2]
    generalize k p.1 = ns at hi
    generalize k q.1 = ms at hi2
    rw [e1, e2]
    exact PySem.W.kat_lt ho hd ho2 hd2 (kat_ints 0 hi hi2)
end

/-- sorted(set), the members tuples of ints, none empty -/
def rSortedTV (K : PySem.W.Frag) (P : Program) (w : World) : List V → Hp → VK → Prop := fun vs H Q => ∃ (a : Addr) (L : List (Addr × List Int)), vs = [V.ref a] ∧ H a = some (SetTO P w a L) ∧ (∀ p ∈ L, SqT K H p.1 (vi p.2) ∧ p.2 ≠ []) ∧
  ∀ (L' : List (Addr × List Int)) (p : Addr), (∀ q, q ∈ L' ↔ q ∈ L) → (L'.map (·.2)).Pairwise (fun x y => lexI x y = true) → H p = none → Q (.ref p) (upd H p (.lst (L'.map fun q => V.ref q.1)))
theorem cr_sortedTV {X : Cx} (hc : X.calm = true) : CallR X (.builtin "sorted") (rSortedTV X.K X.prog X.w) := by
  intro pins s σ H vs us Q I r h
  obtain ⟨a, L, rfl, ha, hk, q⟩ := h
  rw [Vals.ref1 r]
  have R0 : SetT0 X.prog X.w s.heap a L := (I.hok a _ ha).1
  obtain ⟨es, ep, t, R⟩ := R0.full fun p hp => I.isT (hk p hp).1
  have few := R.few
  have rows : es.toList.map (·.2) = L.map fun q => Value.ref q.1 := by
    rw [R.rows]
    unfold rowsOf
    rw [List.map_map]
    rfl
  have one : ∀ q ∈ L, ∀ r ∈ L, q.1 = r.1 → q = r := fun q hq r hr e => by
    have a1 := R.tup q hq
    rw [e] at a1
    exact Prod.ext e (a1.inj (R.tup r hr))
  have tup : ∀ (h' : Heap), (∀ b o, s.heap.get? b = some o → h'.get? b = some o) → ∀ q ∈ L, TS.TupInts h' (.ref q.1) q.2 := fun h' kk q hq => tupInts_of (P := X.prog) (w := X.w) (isT_keep (R.tup q hq) kk)
  obtain ⟨o, ho, hex, hd⟩ := R.ob
  have hsz := R.size
  refine sorted_any (swo_lexI (TS.intsOf s.heap)) (fun us z => (∀ b o, s.heap.get? b = some o → z.heap.get? b = some o) ∧ s.heap.objs.size ≤ z.heap.objs.size ∧ z.gens = s.gens ∧ z.os = s.os ∧ us.Perm (L.map fun q => Value.ref q.1))
    (collect_set (A := X.A.in1) (I.ok.hd hc) ⟨o, ho, hex.1, hd⟩ R.fits (by unfold scanBound; omega) R.tab.ris R.led fun z out k1 k2 k3 k4 k5 => ⟨k1, k2, k3, k4, by rw [← rows]; exact k5⟩) ?_ ?_ ?_
  · rintro us z ⟨_, _, _, _, pm⟩
    rw [pm.length_eq, List.length_map, sizeLine_eq]
    omega
  · rintro us z ⟨k1, _, _, _, pm⟩ h2
    refine tups_sortable (by omega) (fun v hv => ?_) fun o' e => ?_
    · obtain ⟨p, hp, rfl⟩ := List.mem_map.mp (pm.mem_iff.mp hv)
      have e0 : TS.intsOf s.heap (.ref p.1) = p.2 := (tup s.heap (fun _ _ e => e) p hp).ints
      rw [e0]
      exact ⟨tup _ (fun b o e => Heap.get?_push_of_some _ (k1 b o e)) p hp, (hk p hp).2⟩
    · have e' : some o' = some (seqObj "list" us.toArray 0) := e.symm.trans (Heap.get?_push_size _ rfl)
      cases e'
      intro c
      exact absurd (Value.type.inj c) (by decide)
  · rintro us z out ⟨k1, k2, k3, k4, pm⟩ h1 h2
    have pm2 := h2.perm.trans pm
    obtain ⟨L', pL, eL⟩ := perm_map_inv pm2 rfl
    have at0 : (z.heap.push (seqObj "list" us.toArray 0)).get? z.heap.objs.size = some (seqObj "list" us.toArray 0) := Heap.get?_push_size _ rfl
    obtain ⟨e', he'⟩ := sortedHeap_at (vs := us) (out := out.toArray) at0
    have hn : H z.heap.objs.size = none := I.hok.fresh k2
    have kk : ∀ b o, s.heap.get? b = some o → (sortedHeap (z.heap.push (seqObj "list" us.toArray 0)) z.heap.objs.size us out.toArray).get? b = some o := fun b o e => by
      have lt := Heap.lt_size (k1 b o e)
      rw [sortedHeap_old (Nat.ne_of_lt lt) (by rw [size_push']; exact Nat.lt_succ_of_lt lt)]
      exact Heap.get?_push_of_some _ (k1 b o e)
    have rise : (L'.map (·.2)).Pairwise (fun x y => lexI x y = true) := by
      rw [eL] at h1
      have p1 := List.pairwise_map.mp h1
      have nd : (L'.map (·.2)).Nodup := (pL.map _).nodup_iff.mpr R.nd
      refine List.pairwise_map.mpr (List.Pairwise.imp_of_mem ?_ (p1.and (List.pairwise_map.mp nd)))
      rintro q r hq hr ⟨g1, g2⟩
      have f1 : TS.intsOf s.heap (.ref q.1) = q.2 := (tup s.heap (fun _ _ e => e) q (pL.mem_iff.mp hq)).ints
      have f2 : TS.intsOf s.heap (.ref r.1) = r.2 := (tup s.heap (fun _ _ e => e) r (pL.mem_iff.mp hr)).ints
      have g1 : lexI (TS.intsOf s.heap (.ref r.1)) (TS.intsOf s.heap (.ref q.1)) = false := g1
      rw [f1, f2] at g1
      exact lexI_total g1 fun e => g2 e.symm
    have J : Inv X pins σ (upd H z.heap.objs.size (.lst (L'.map fun q => V.ref q.1))) { s with heap := sortedHeap (z.heap.push (seqObj "list" us.toArray 0)) z.heap.objs.size us out.toArray, gens := z.gens, drawn := z.drawn, toks := z.toks } :=
      I.call (ch := []) (Un.laid kk k2 hn) (I.hok.laid kk k2 ⟨by rw [List.length_map, pL.length_eq, sizeLine_eq]; omega, out, e', by rw [eL]; exact vals_of_refs L', he'⟩) (by rw [k3]; exact I.bare) (fun _ z => nomatch z)
    have ez : ({ z with heap := sortedHeap (z.heap.push (seqObj "list" us.toArray 0)) z.heap.objs.size us out.toArray } : Shared) = { s with heap := sortedHeap (z.heap.push (seqObj "list" us.toArray 0)) z.heap.objs.size us out.toArray, gens := z.gens, drawn := z.drawn, toks := z.toks } := by
      cases z
      cases k4
      rfl
    rw [ez]
    exact ⟨.ref z.heap.objs.size, _, J, rfl, q L' _ (fun x => pL.mem_iff) rise hn⟩
end Fw
namespace Fw
open PySem PySem.Spec PyProof.Rows L2

/-- what can be reached from g over rooms of R -/
inductive Wk (D : List (Int × Int)) (R : List Int) (g : Int) : Int → Prop
  | base : Wk D R g g
  | step {v o : Int} : Wk D R g v → adj D v o → o ∈ R → Wk D R g o
section
variable {D : List (Int × Int)} {R : List Int} {g : Int}
theorem Wk.mem {v : Int} (h : Wk D R g v) : v = g ∨ v ∈ R := by
  cases h with
  | base => exact .inl rfl
  | step _ _ m => exact .inr m
theorem Wk.trans {a b c : Int} (h : Wk D R a b) (k : Wk D R b c) : Wk D R a c := by
  induction k with
  | base => exact h
  | step _ r m ih => exact .step ih r m
theorem Wk.symm {v : Int} (hg : g ∈ R) (h : Wk D R g v) : Wk D R v g := by
  induction h with
  | base => exact .base
  | @step v o k r m ih =>
    have mv : v ∈ R := by
      rcases k.mem with e | e
      · rw [e]; exact hg
      · exact e
    exact (Wk.step .base (adj_symm r) mv).trans ih
theorem SDone.wk {n : Int} {kvs : List (Key × V)} (S : SDone n D R g kvs) (v : Int) : isK kvs v = true ↔ Wk D R g v := by
  constructor
  · intro h
    unfold isK at h
    cases e : lk kvs v with
    | none => rw [e] at h; cases h
    | some x =>
      obtain ⟨p, c⟩ := S.inv.way v x e
      clear e h
      induction c with
      | goal _ => exact .base
      | @step v u p e a _ _ ih =>
        rcases S.inv.rng v (by unfold isK; rw [e]; rfl) with e2 | m
        · rw [e2]; exact .base
        · exact .step ih (adj_symm a) m
  · intro h
    induction h with
    | base => unfold isK; rw [S.inv.goal]; rfl
    | step _ r m ih => exact S.closed _ _ ih r m
/-- the component of g, ascending -/
structure IsC (D : List (Int × Int)) (R : List Int) (g : Int) (l : List Int) : Prop where
  up : l.Pairwise (· < ·)
  mem : ∀ v, v ∈ l ↔ Wk D R g v
theorem IsC.one {l l' : List Int} (a : IsC D R g l) (b : IsC D R g l') : l = l' := up_ext a.up b.up fun v => (a.mem v).trans (b.mem v).symm
theorem IsC.of {l ks : List Int} (p : l.Perm ks) (s : l.Pairwise (· ≤ ·)) (n : ks.Nodup) (m : ∀ v, v ∈ ks ↔ Wk D R g v) : IsC D R g l := ⟨up_of s (p.nodup_iff.mpr n), fun v => by rw [p.mem_iff]; exact m v⟩
end
theorem rg_filter_len {n : Int} {p : Int → Bool} : ((rg n).filter p).length ≤ n.toNat := by
  refine Nat.le_trans (List.length_filter_le _ _) ?_
  rw [rg_len]
  exact Nat.le_refl _

end Fw
namespace Fw
open PySem PySem.Spec PyProof.Rows L2
/-- the components of the first i rooms -/
structure CInv (D : List (Int × Int)) (R : List Int) (i : Nat) (Cs : List (Addr × List Int)) : Prop where
  a : ∀ c ∈ Cs, ∃ r ∈ R.take i, IsC D R r c.2
  b : ∀ r ∈ R.take i, ∃ c ∈ Cs, r ∈ c.2
  up : (Cs.map (·.2)).Pairwise (fun x y => lexI x y = true)
  n : Cs.length ≤ i
section
variable {D : List (Int × Int)} {R : List Int}
theorem IsC.has {g : Int} {l : List Int} (h : IsC D R g l) : g ∈ l := (h.mem g).mpr .base
theorem take_succ_mem {R : List Int} {i : Nat} {r x : Int} (e : R[i]? = some r) : x ∈ R.take (i + 1) ↔ x ∈ R.take i ∨ x = r := by
  rw [List.take_add_one, e, List.mem_append]
  simp
theorem CInv.skip {i : Nat} {Cs : List (Addr × List Int)} (C : CInv D R i Cs) {r : Int} (e : R[i]? = some r) (h : ∃ c ∈ Cs, r ∈ c.2) : CInv D R (i + 1) Cs := by
  refine ⟨fun c hc => ?_, fun x hx => ?_, C.up, Nat.le_succ_of_le C.n⟩
  · obtain ⟨r', h1, h2⟩ := C.a c hc
    exact ⟨r', (take_succ_mem e).mpr (.inl h1), h2⟩
  · rcases (take_succ_mem e).mp hx with hx | hx
    · exact C.b x hx
    · rw [hx]; exact h
theorem CInv.add {i : Nat} {Cs : List (Addr × List Int)} (C : CInv D R i Cs) {r : Int} (e : R[i]? = some r) (upR : R.Pairwise (· < ·)) (no : ∀ c ∈ Cs, r ∉ c.2) {t : Addr} {l : List Int} (hl : IsC D R r l) : CInv D R (i + 1) (Cs ++ [(t, l)]) := by
  have hi : i < R.length := (List.getElem?_eq_some_iff.mp e).1
  have er : R[i] = r := (List.getElem?_eq_some_iff.mp e).2
  have mr : r ∈ R := List.mem_of_getElem? e
  have low : ∀ v ∈ R, v < r → v ∈ R.take i := fun v hv hlt => by
    obtain ⟨j, hj, ej⟩ := List.mem_iff_getElem.mp hv
    refine List.mem_take_iff_getElem.mpr ⟨j, ?_, ej⟩
    have : ¬ i ≤ j := fun hij => by
      rcases Nat.lt_or_eq_of_le hij with h | h
      · have := (List.pairwise_iff_getElem.mp upR) i j hi hj h
        omega
      · subst h; omega
    omega
  have least : ∀ v ∈ l, r ≤ v := fun v hv => by
    by_cases hlt : v < r
    · have wv := (hl.mem v).mp hv
      have mv : v ∈ R := by
        rcases wv.mem with z | z
        · omega
        · exact z
      obtain ⟨c, hc, hvc⟩ := C.b v (low v mv hlt)
      obtain ⟨r', h1, h2⟩ := C.a c hc
      have w2 : Wk D R r' r := ((h2.mem v).mp hvc).trans (wv.symm mr)
      exact absurd ((h2.mem r).mpr w2) (no c hc)
    · omega
  refine ⟨fun c hc => ?_, fun x hx => ?_, ?_, ?_⟩
  · rcases List.mem_append.mp hc with hc | hc
    · obtain ⟨r', h1, h2⟩ := C.a c hc
      exact ⟨r', (take_succ_mem e).mpr (.inl h1), h2⟩
    · rw [List.mem_singleton.mp hc]
      exact ⟨r, (take_succ_mem e).mpr (.inr rfl), hl⟩
  · rcases (take_succ_mem e).mp hx with hx | hx
    · obtain ⟨c, hc, h⟩ := C.b x hx
      exact ⟨c, List.mem_append_left _ hc, h⟩
    · exact ⟨(t, l), List.mem_append_right _ (List.mem_singleton.mpr rfl), by rw [hx]; exact hl.has⟩
  · rw [List.map_append, List.pairwise_append]
    refine ⟨C.up, List.pairwise_singleton _ _, fun x hx y hy => ?_⟩
    have ey : y = l := List.mem_singleton.mp hy
    obtain ⟨c, hc, ec⟩ := List.mem_map.mp hx
    obtain ⟨r', h1, h2⟩ := C.a c hc
    have rr : r' < r := by
      obtain ⟨j, hj, ej⟩ := List.mem_take_iff_getElem.mp h1
      have := (List.pairwise_iff_getElem.mp upR) j i (by omega) hi (by omega)
      omega
    subst ey
    subst ec
    have hr' := h2.has
    have u2 := h2.up
    have hr := hl.has
    revert hr' u2 hr least
    cases c.2 with
    | nil => intro _ h; cases h
    | cons a as =>
      cases y with
      | nil => intro _ _ _ h; cases h
      | cons b bs =>
        intro ls hr' u2 _
        refine lexI_head ?_
        have h1 : r ≤ b := ls b (List.mem_cons_self ..)
        have h2 : a ≤ r' := by
          rcases List.mem_cons.mp hr' with z | z
          · omega
          · exact Int.le_of_lt ((List.pairwise_cons.mp u2).1 r' z)
        omega
  · rw [List.length_append, List.length_singleton]
    exact Nat.succ_le_succ C.n
theorem CInv.done {Cs : List (Addr × List Int)} (C : CInv D R R.length Cs) (l : List Int) : l ∈ Cs.map (·.2) ↔ ∃ r ∈ R, IsC D R r l := by
  have ha := C.a
  have hb := C.b
  rw [List.take_length] at ha hb
  constructor
  · intro h
    obtain ⟨c, hc, e⟩ := List.mem_map.mp h
    subst e
    exact ha c hc
  · rintro ⟨r, hr, h⟩
    obtain ⟨c, hc, hrc⟩ := hb r hr
    obtain ⟨r', h1, h2⟩ := ha c hc
    have w := (h2.mem r).mp hrc
    have : c.2 = l := up_ext h2.up h.up fun v => by
      rw [h2.mem, h.mem]
      exact ⟨fun k => (w.symm h1).trans k, fun k => w.trans k⟩
    exact this ▸ List.mem_map_of_mem hc
end

section
variable {P : Program} {w : World} {K : PySem.W.Frag} {mg : Str → Option Value} {base : Heap}
def refs (Cs : List (Addr × List Int)) : List V := Cs.map fun c => V.ref c.1
def TupsAt (H : Hp) (Cs : List (Addr × List Int)) : Prop := ∀ c ∈ Cs, H c.1 = some (.tup (vi c.2)) ∧ c.2.length ≤ 20
theorem TupsAt.same {H H' : Hp} {Cs : List (Addr × List Int)} (h : TupsAt H Cs) (e : Same H H') : TupsAt H' Cs := fun c hc => ⟨e _ _ (h c hc).1, (h c hc).2⟩
theorem get_refs {Cs : List (Addr × List Int)} {i : Nat} {x : V} (h : (refs Cs)[i]? = some x) : ∃ c, Cs[i]? = some c ∧ x = .ref c.1 := by
  unfold refs at h
  rw [List.getElem?_map] at h
  cases e : Cs[i]? with
  | none => rw [e] at h; cases h
  | some v => rw [e] at h; exact ⟨v, rfl, (Option.some.inj h).symm⟩
def spComp (K : PySem.W.Frag) : Sp := fun vs H Q _ => ∃ (h rl : Addr) (n : Int) (D : List (Int × Int)) (R : List Int), vs = [.ref h, .ref rl] ∧ HouseAt H h n D ∧ Forest n D ∧ 0 ≤ n ∧ n ≤ 8 ∧ H rl = some (.tup (vi R)) ∧ R.Pairwise (· < ·) ∧ R.length ≤ 8 ∧
  ∀ H' t Cs, Same H H' → H' t = some (.tup (refs Cs)) → TupsAt H' Cs → (Cs.map (·.2)).Pairwise (fun x y => lexI x y = true) → (∀ l, l ∈ Cs.map (·.2) ↔ ∃ r ∈ R, IsC D R r l) → Cs.length ≤ 8 → Q (.ref t) H'
abbrev nComp : List Str := ["house", "rooms", "found", "room", "component"]
theorem scComp : FnScope nComp ["house", "rooms"] (defScope sComp) := ⟨rfl, rfl, rfl, by decide +kernel, rfl, by decide +kernel, by decide +kernel⟩
theorem ok_comp {f fN fS : Addr} {fd fdN fdS : FuncData} (F : Fun K "components" "components" sComp f fd) (T : Nm mg) (Tany : mg "any" = none) (DN : Def K mg "neighbors" sNb fN fdN ["house", "room"]) (DS : Def K mg "steps_toward" sSteps fS fdS ["house", "goal", "rooms"]) : FnOk P w K mg base CX0 3 f fd ["house", "rooms"] (spComp K) := by
  have GS : FnOk P w K mg base CX0 2 fS fdS ["house", "goal", "rooms"] (spSteps K) := ok_steps DS.F T DN
  refine F.ok scComp (fun vs H Q E h => ?_) (fun cdv A outer s H vs Q E hr h => ?_)
  · obtain ⟨h, rl, n, D, R, rfl, _⟩ := h
    rfl
  · obtain ⟨h, rl, n, D, R, rfl, hH, hF, n0, n1, eR, upR, lR, q⟩ := h
    refine ⟨_, pss_cons (ps_set (i := 2) scComp.nd rfl (.inl rfl) (pe_lst pa_nil))
      (pss_cons (ps_for PassesOwn.never rfl (pi_tup (pv 1)) (pg_name (i := 3) scComp.nd rfl (Or.inr rfl))
        (pss_one (ps_if (pt_not (pt_val (pe_callB (cr_any rfl) (by rfl) Tany (by decide +kernel) (pa_cons
            (pe_lc (own := [("component", 4)]) (g := gName 4) (tt := tYes) (te := tOp (rIn K false) (tVar 3) (tVar 4)) (by rfl) scComp.nd (pi_list (pv 2)) (blkOk_by (own := [("component", 4)]) (N := nComp) (sc := defScope sComp) (by decide +kernel))
              (fun _ _ _ _ _ => pg_name (i := 4) scComp.nd rfl (Or.inl rfl)) (fun _ _ _ _ _ => pts_nil) (fun _ _ _ _ _ => pe_cmpR op_in_seq (pv 3) (pv 4) (by rfl))) pa_nil))))
          (pss_one (ps_expr (pe_bm PySem.F.plainAttrs_list PySem.F.slot_list_append PySem.F.type_list_append mt_append (pv 2) (pa_cons (pe_callTy call_tuple_of (by rfl) T.tuple (by decide +kernel) (pa_cons
            (pe_callB (cr_sortedDI rfl) (by rfl) T.sorted (by decide +kernel) (pa_cons (pe_call GS hr (by rfl) DS.g DS.F.kp DS.b .nil pass0 (pa_cons (pv 0) (pa_cons (pv 3) (pa_cons (pv 1) pa_nil)))) pa_nil)) pa_nil)) pa_nil))))
          pss_nil)))
      (pss_one (ps_ret (pe_callTy call_tuple_of (by rfl) T.tuple (by decide +kernel) (pa_cons (pv 2) pa_nil))))), ?_⟩
    refine ⟨Nat.zero_le _, fun fl hfl => ?_⟩
    have t0 : TupsAt (upd H fl (.lst [])) [] := fun c hc => by cases hc
    have c0 : CInv D R 0 [] := ⟨fun c hc => (by cases hc), fun r hr => (by simp at hr), List.Pairwise.nil, Nat.le_refl _⟩
    refine ⟨_, rfl, rl, rfl, ⟨_, SqT.of (same_upd hfl _ _ eR)⟩, for_tup (K := K) (a := rl) (xs := vi R) (fun i σ H' => ∃ (Cs : List (Addr × List Int)) (y3 y4 : Option V), σ = [some (.ref h), some (.ref rl), some (.ref fl), y3, y4] ∧ Same H H' ∧ H' fl = some (.lst (refs Cs)) ∧ TupsAt H' Cs ∧ CInv D R i Cs)
      ⟨[], none, none, rfl, same_upd hfl, upd_same, t0, c0⟩ (fun i σ H' _ ⟨_, _, _, _, sm, _⟩ => SqT.of (sm _ _ eR)) ?_ ?_⟩
    · rintro i x σ H1 hx ⟨Cs, y3, y4, rfl, s1, ef, hT, C⟩
      obtain ⟨r, er, rfl⟩ := get_vi hx
      have hi : i < R.length := (List.getElem?_eq_some_iff.mp er).1
      have Cn := C.n
      dsimp only [gName]
      refine if_by (fun b H2 => Same H1 H2 ∧ (b = true → ∀ c ∈ Cs, r ∉ c.2) ∧ (b = false → ∃ c ∈ Cs, r ∈ c.2)) ?_ ?_ ?_
      · rintro H2 ⟨s2, no, _⟩
        have no := no rfl
        have ef2 := s2 _ _ ef
        refine ⟨_, rfl, .inl ⟨rfl, _, SqL.of ef2⟩, _, rfl, _, rfl, _, rfl, h, rl, n, D, r, R, rfl, hH.same (s1.trans s2), hF, n0, n1, .inr (SqT.of (s2 _ _ (s1 _ _ eR))), fun H3 d kvs s3 hd ed S => ?_⟩
        obtain ⟨ks, k1, k2, k3⟩ := S.inv.keys
        have sl := S.inv.len
        have kl : ks.length = kvs.length := by simpa using (congrArg List.length k1).symm
        refine ⟨d, kvs, ks, rfl, ed, k1, fun ys p pm up hp => ⟨p, _, rfl, .inl ⟨SqL.of upd_same, fun t ht => ?_⟩⟩⟩
        have sA : Same H2 (upd (upd H3 p (.lst (vi ys))) t (.tup (vi ys))) := s3.trans ((same_upd hp).trans (same_upd ht))
        have ef4 := sA _ _ ef2
        have hl : IsC D R r ys := IsC.of pm up k2 fun v => (k3 v).trans (S.wk v)
        refine ⟨fl, _, _, rfl, rfl, ef4, by unfold refs; rw [List.length_map]; exact small1000 (by omega), ?_⟩
        refine ⟨Cs ++ [(t, ys)], _, _, rfl, same_put (s1.trans (s2.trans sA)) hfl, ?_, fun c hc => ?_, C.add er upR no hl⟩
        · rw [upd_same]
          unfold refs
          rw [List.map_append]
          rfl
        · rcases List.mem_append.mp hc with hc | hc
          · have h1 := hT.same (s2.trans sA) c hc
            exact ⟨(upd_ne (ne_of h1.1 ef4 (by intro z; cases z))).trans h1.1, h1.2⟩
          · rw [List.mem_singleton.mp hc]
            have h1 : (upd (upd H3 p (.lst (vi ys))) t (.tup (vi ys))) t = some (.tup (vi ys)) := upd_same
            exact ⟨(upd_ne (ne_of h1 ef4 (by intro z; cases z))).trans h1, by show ys.length ≤ 20; rw [pm.length_eq]; omega⟩
      · rintro H2 ⟨s2, _, yes⟩
        exact ⟨Cs, _, _, rfl, s1.trans s2, s2 _ _ ef, hT.same s2, C.skip er (yes rfl)⟩
      · intro QQ hQ
        refine ⟨_, rfl, fl, rfl, ⟨_, SqL.of ef⟩, fun L hL => lc_list (K := K) (a := fl) (xs := refs Cs) (fun j H2 => Same H1 H2 ∧ H2 L = some (.lst ((Cs.take j).map fun c => V.bl (decide (r ∈ c.2))))) ⟨same_upd hL, upd_same⟩ (fun j H2 _ hh => SqL.of (hh.1 _ _ ef)) ?_ ?_⟩
        · rintro j x H2 hx ⟨s2, e2⟩
          obtain ⟨c, ec, rfl⟩ := get_refs hx
          have hc := hT.same s2 c (List.mem_of_getElem? ec)
          have hj : j < Cs.length := (List.getElem?_eq_some_iff.mp ec).1
          refine ⟨rfl, ?_⟩
          unfold tYes
          refine iteT ?_
          refine ⟨_, rfl, _, rfl, c.1, _, rfl, .inr (SqT.of hc.1), rfl, flat_ints c.2, _, e2, ?_, same_put s2 hL, ?_⟩
          · rw [List.length_map, List.length_take]
            exact small1000 (by omega)
          · rw [upd_same, List.take_add_one, ec, List.map_append]
            show some (HO.lst (_ ++ [V.bl (inV (.int r) (vi c.2))])) = _
            rw [inV_ints]
            rfl
        · rintro H2 ⟨s2, e2⟩
          have el : (refs Cs).length = Cs.length := by unfold refs; rw [List.length_map]
          rw [el, List.take_length] at e2
          refine ⟨L, Cs.map fun c => decide (r ∈ c.2), rfl, SqL.of (by rw [List.map_map]; exact e2), _, rfl, hQ _ _ ⟨s2, fun e c hc m => ?_, fun e => ?_⟩⟩
          · have : ((Cs.map fun c => decide (r ∈ c.2)).any id) = true := List.any_eq_true.mpr ⟨true, List.mem_map.mpr ⟨c, hc, decide_eq_true m⟩, rfl⟩
            rw [this] at e
            cases e
          · have e : ((Cs.map fun c => decide (r ∈ c.2)).any id) = true := by simpa using e
            obtain ⟨b, hb, hb2⟩ := List.any_eq_true.mp e
            obtain ⟨c, hc, e3⟩ := List.mem_map.mp hb
            have hb2 : b = true := hb2
            rw [hb2] at e3
            exact ⟨c, hc, of_decide_eq_true e3⟩
    · rintro σ H1 ⟨Cs, y3, y4, rfl, s1, ef, hT, C⟩
      rw [List.length_map] at C
      have Cn := C.n
      refine ⟨_, rfl, fl, _, rfl, .inl ⟨SqL.of ef, fun t ht => ?_⟩⟩
      exact q _ t Cs (s1.trans (same_upd ht)) upd_same (hT.same (same_upd ht)) C.up C.done (by omega)
end
end Fw
namespace Fw
open PySem PySem.Spec PyProof.Rows L2

/-- the rooms with people; the rooms without -/
def occ (n : Int) (P : List (Str × Int)) : List Int := (rg n).filter fun r => decide (r ∈ P.map (·.2))
def emp (n : Int) (P : List (Str × Int)) : List Int := (rg n).filter fun r => !decide (r ∈ P.map (·.2))
theorem rg_snoc (i : Nat) : (List.range (i + 1)).map (fun (j : Nat) => 0 + (j : Int)) = (List.range i).map (fun (j : Nat) => 0 + (j : Int)) ++ [0 + (i : Int)] := by
  rw [List.range_succ, List.map_append]
  rfl
theorem rg0 (n : Int) : (List.range n.toNat).map (fun (j : Nat) => 0 + (j : Int)) = rg n := List.map_congr_left fun i _ => by omega
theorem mem_occ {n : Int} {P : List (Str × Int)} {r : Int} : r ∈ occ n P ↔ (0 ≤ r ∧ r < n) ∧ r ∈ P.map (·.2) := by
  unfold occ
  rw [List.mem_filter, mem_rg, decide_eq_true_eq]
theorem mem_emp {n : Int} {P : List (Str × Int)} {r : Int} : r ∈ emp n P ↔ (0 ≤ r ∧ r < n) ∧ r ∉ P.map (·.2) := by
  unfold emp
  rw [List.mem_filter, mem_rg, Bool.not_eq_true', decide_eq_false_iff_not]
theorem Pl.mem_occ {n : Int} {P : List (Str × Int)} (h : Pl n P) {r : Int} : r ∈ occ n P ↔ r ∈ P.map (·.2) := by
  rw [Fw.mem_occ]
  refine ⟨fun x => x.2, fun x => ⟨?_, x⟩⟩
  obtain ⟨y, hy, e⟩ := List.mem_map.mp x
  rw [← e]
  exact h.rm y hy
theorem rg_up (n : Int) : (rg n).Pairwise (· < ·) := range_up n.toNat
theorem occ_up (n : Int) (P : List (Str × Int)) : (occ n P).Pairwise (· < ·) := (rg_up n).filter _
theorem emp_up (n : Int) (P : List (Str × Int)) : (emp n P).Pairwise (· < ·) := (rg_up n).filter _
theorem occ_len (n : Int) (P : List (Str × Int)) : (occ n P).length ≤ n.toNat := rg_filter_len
theorem emp_len (n : Int) (P : List (Str × Int)) : (emp n P).length ≤ n.toNat := rg_filter_len
theorem in_empty (P : List (Str × Int)) (r : Int) : ((inside P [r]).map V.str).isEmpty = !decide (r ∈ P.map (·.2)) := by
  rw [Bool.eq_iff_iff, List.isEmpty_iff, List.map_eq_nil_iff, inside_nil, Bool.not_eq_true', decide_eq_false_iff_not]
  constructor
  · intro h m
    obtain ⟨y, hy, e⟩ := List.mem_map.mp m
    exact h y hy (List.mem_singleton.mpr e)
  · intro h x hx m
    rw [List.mem_singleton] at m
    exact h (m ▸ List.mem_map_of_mem (f := (·.2)) hx)
/-- the regions of the rooms R -/
structure Regs (D : List (Int × Int)) (R : List Int) (Ls : List (List Int)) : Prop where
  up : Ls.Pairwise (fun x y => lexI x y = true)
  mem : ∀ l, l ∈ Ls ↔ ∃ r ∈ R, IsC D R r l
def RegsAt (H : Hp) (t : Addr) (D : List (Int × Int)) (R : List Int) (Cs : List (Addr × List Int)) : Prop := H t = some (.tup (refs Cs)) ∧ TupsAt H Cs ∧ Cs.length ≤ 8 ∧ Regs D R (Cs.map (·.2))
theorem RegsAt.same {H H' : Hp} {t : Addr} {D : List (Int × Int)} {R : List Int} {Cs : List (Addr × List Int)} (x : RegsAt H t D R Cs) (e : Same H H') : RegsAt H' t D R Cs := ⟨e _ _ x.1, x.2.1.same e, x.2.2⟩
theorem RegsAt.tk {H H' : Hp} {t : Addr} {D : List (Int × Int)} {R : List Int} {Cs : List (Addr × List Int)} (x : RegsAt H t D R Cs) (e : Tk H H') : RegsAt H' t D R Cs := ⟨e.t x.1, fun c hc => ⟨e.t (x.2.1 c hc).1, (x.2.1 c hc).2⟩, x.2.2⟩
theorem Wk.mono {D : List (Int × Int)} {R R' : List Int} {g v : Int} (h : Wk D R g v) (m : ∀ x ∈ R, x ∈ R') : Wk D R' g v := by
  induction h with
  | base => exact .base
  | step _ a o ih => exact .step ih a (m _ o)
theorem Wk.congr {D : List (Int × Int)} {R R' : List Int} (h : ∀ x, x ∈ R ↔ x ∈ R') {g v : Int} : Wk D R g v ↔ Wk D R' g v := ⟨fun w => w.mono fun x hx => (h x).mp hx, fun w => w.mono fun x hx => (h x).mpr hx⟩
theorem IsC.congr {D : List (Int × Int)} {R R' : List Int} (h : ∀ x, x ∈ R ↔ x ∈ R') {g : Int} {l : List Int} (i : IsC D R g l) : IsC D R' g l := ⟨i.up, fun v => (i.mem v).trans (Wk.congr h)⟩
theorem IsC.re {D : List (Int × Int)} {R : List Int} {g r : Int} {l : List Int} (h : IsC D R g l) (hg : g ∈ R) (hr : r ∈ l) : IsC D R r l := by
  refine ⟨h.up, fun v => ?_⟩
  have w := (h.mem r).mp hr
  rw [h.mem]
  exact ⟨fun k => (w.symm hg).trans k, fun k => w.trans k⟩
theorem IsC.sub {D : List (Int × Int)} {R : List Int} {g : Int} {l : List Int} (h : IsC D R g l) (hg : g ∈ R) : ∀ x ∈ l, x ∈ R := fun x hx => by
  rcases ((h.mem x).mp hx).mem with e | e
  · rw [e]; exact hg
  · exact e
section
variable {D : List (Int × Int)} {R : List Int} {Ls : List (List Int)}
theorem Regs.has (h : Regs D R Ls) {l : List Int} (hl : l ∈ Ls) {r : Int} (hr : r ∈ l) : r ∈ R ∧ IsC D R r l := by
  obtain ⟨g, hg, hc⟩ := (h.mem l).mp hl
  exact ⟨hc.sub hg r hr, hc.re hg hr⟩
theorem Regs.one (h : Regs D R Ls) {l m : List Int} (hl : l ∈ Ls) (hm : m ∈ Ls) {r : Int} (h1 : r ∈ l) (h2 : r ∈ m) : l = m := (h.has hl h1).2.one (h.has hm h2).2
/-- the list of the component of a room: by what can be reached -/
theorem isC_ex (D : List (Int × Int)) {R : List Int} (upR : R.Pairwise (· < ·)) {r : Int} (hr : r ∈ R) : ∃ l, IsC D R r l := by
  classical
  refine ⟨R.filter fun v => decide (Wk D R r v), upR.filter _, fun v => ?_⟩
  rw [List.mem_filter, decide_eq_true_eq]
  refine ⟨fun h => h.2, fun h => ⟨?_, h⟩⟩
  rcases h.mem with e | e
  · rw [e]; exact hr
  · exact e
theorem Regs.ex (h : Regs D R Ls) (upR : R.Pairwise (· < ·)) {r : Int} (hr : r ∈ R) : ∃ l ∈ Ls, r ∈ l := by
  obtain ⟨l, hl⟩ := isC_ex D upR hr
  exact ⟨l, (h.mem l).mpr ⟨r, hr, hl⟩, hl.has⟩
end
theorem IsC.len {D : List (Int × Int)} {n : Int} {P : List (Str × Int)} {r : Int} {l : List Int} (h : IsC D (occ n P) r l) (hr : r ∈ occ n P) (n1 : n ≤ 8) : l.length ≤ 8 := by
  have h1 : l.length ≤ n.toNat := short (h.up.imp fun {a b} z => by omega) fun x hx => by
    have := (Fw.mem_occ.mp (h.sub hr x hx)).1
    omega
  omega
section
variable {P : Program} {w : World} {K : PySem.W.Frag} {mg : Str → Option Value} {base : Heap}

end
end Fw
namespace Fw
open PySem PySem.Spec PyProof.Rows L2
theorem upS_ext : ∀ {xs ys : List Str}, xs.Pairwise ltS → ys.Pairwise ltS → (∀ x, x ∈ xs ↔ x ∈ ys) → xs = ys
  | [], [], _, _, _ => rfl
  | [], y :: ys, _, _, h => absurd ((h y).mpr (List.mem_cons_self ..)) List.not_mem_nil
  | x :: xs, [], _, _, h => absurd ((h x).mp (List.mem_cons_self ..)) List.not_mem_nil
  | x :: xs, y :: ys, hx, hy, h => by
    obtain ⟨hx1, hx2⟩ := List.pairwise_cons.mp hx
    obtain ⟨hy1, hy2⟩ := List.pairwise_cons.mp hy
    have e : x = y := by
      rcases List.mem_cons.mp ((h x).mp (List.mem_cons_self ..)) with e | m
      · exact e
      · rcases List.mem_cons.mp ((h y).mpr (List.mem_cons_self ..)) with e | m'
        · exact e.symm
        · exact absurd (ltS_trans (hy1 x m) (hx1 y m')) (ltS_irr y)
    subst e
    rw [upS_ext hx2 hy2 fun z => ?_]
    constructor
    · intro m
      rcases List.mem_cons.mp ((h z).mp (List.mem_cons_of_mem _ m)) with e | m'
      · rw [e] at m
        exact absurd (hx1 x m) (ltS_irr x)
      · exact m'
    · intro m
      rcases List.mem_cons.mp ((h z).mpr (List.mem_cons_of_mem _ m)) with e | m'
      · rw [e] at m
        exact absurd (hy1 x m) (ltS_irr x)
      · exact m'
theorem sorted_same {ns ys : List Str} (h : Names ns) (p : ys.Perm ns) (s : sortedS ys = true) : ys = ns :=
  upS_ext (sorted_names p s h.nodup h.nam).up h.up fun x => p.mem_iff
theorem subset_len {α : Type} [DecidableEq α] : ∀ {xs ys : List α}, xs.Nodup → (∀ x ∈ xs, x ∈ ys) → xs.length ≤ ys.length
  | [], _, _, _ => Nat.zero_le _
  | x :: xs, ys, nd, h => by
    obtain ⟨h1, h2⟩ := List.nodup_cons.mp nd
    have hx := h x (List.mem_cons_self ..)
    have := subset_len (ys := ys.erase x) h2 fun z hz => (List.mem_erase_of_ne (show z ≠ x from fun e => h1 (e ▸ hz))).mpr (h z (List.mem_cons_of_mem _ hz))
    rw [List.length_erase_of_mem hx] at this
    have := List.length_pos_of_mem hx
    simp only [List.length_cons]
    omega
theorem split_len {α : Type} (p : α → Bool) : ∀ xs : List α, (xs.filter p).length + (xs.filter fun x => !p x).length = xs.length
  | [] => rfl
  | x :: xs => by
    have := split_len p xs
    cases h : p x with
    | true =>
      rw [List.filter_cons_of_pos h, List.filter_cons_of_neg (by simp [h])]
      simp only [List.length_cons]
      omega
    | false =>
      rw [List.filter_cons_of_neg (by simp [h]), List.filter_cons_of_pos (by simp [h])]
      simp only [List.length_cons]
      omega
theorem occ_emp (n : Int) (P : List (Str × Int)) : (occ n P).length + (emp n P).length = n.toNat := by
  have := split_len (fun r => decide (r ∈ P.map (·.2))) (rg n)
  rw [rg_len] at this
  exact this
section
variable {D : List (Int × Int)} {R : List Int} {Ls : List (List Int)}
theorem up_nodup {l : List Int} (h : l.Pairwise (· < ·)) : l.Nodup := List.nodup_iff_pairwise_ne.mpr (h.imp fun {a b} z => by omega)
theorem lex_irr : ∀ l : List Int, lexI l l = false
  | [] => rfl
  | x :: l => by
    rw [lexI, if_pos rfl]
    exact lex_irr l
theorem Regs.flat_nodup (h : Regs D R Ls) : Ls.flatten.Nodup := by
  rw [List.nodup_iff_pairwise_ne, List.pairwise_flatten]
  refine ⟨fun l hl => ?_, ?_⟩
  · obtain ⟨g, _, hc⟩ := (h.mem l).mp hl
    exact List.nodup_iff_pairwise_ne.mp (up_nodup hc.up)
  · refine h.up.imp_of_mem fun {a b} ha hb lt x hx y hy e => ?_
    subst e
    have := h.one ha hb hx hy
    subst this
    rw [lex_irr] at lt
    cases lt
theorem Regs.flat_mem (h : Regs D R Ls) (upR : R.Pairwise (· < ·)) (x : Int) : x ∈ Ls.flatten ↔ x ∈ R := by
  rw [List.mem_flatten]
  constructor
  · rintro ⟨l, hl, hx⟩
    exact (h.has hl hx).1
  · intro hx
    exact h.ex upR hx
theorem Regs.total (h : Regs D R Ls) (upR : R.Pairwise (· < ·)) : (Ls.map List.length).sum = R.length := by
  rw [← List.length_flatten]
  have h1 := subset_len h.flat_nodup fun x hx => (h.flat_mem upR x).mp hx
  have h2 := subset_len (up_nodup upR) fun x hx => (h.flat_mem upR x).mpr hx
  omega
theorem lex_ext : ∀ {xs ys : List (List Int)}, xs.Pairwise (fun a b => lexI a b = true) → ys.Pairwise (fun a b => lexI a b = true) → (∀ x, x ∈ xs ↔ x ∈ ys) → xs = ys
  | [], [], _, _, _ => rfl
  | [], y :: ys, _, _, h => absurd ((h y).mpr (List.mem_cons_self ..)) List.not_mem_nil
  | x :: xs, [], _, _, h => absurd ((h x).mp (List.mem_cons_self ..)) List.not_mem_nil
  | x :: xs, y :: ys, hx, hy, h => by
    obtain ⟨hx1, hx2⟩ := List.pairwise_cons.mp hx
    obtain ⟨hy1, hy2⟩ := List.pairwise_cons.mp hy
    have e : x = y := by
      rcases List.mem_cons.mp ((h x).mp (List.mem_cons_self ..)) with e | m
      · exact e
      · rcases List.mem_cons.mp ((h y).mpr (List.mem_cons_self ..)) with e | m'
        · exact e.symm
        · have a := lexI_asym (hy1 x m)
          rw [hx1 y m'] at a
          cases a
    subst e
    rw [lex_ext hx2 hy2 fun z => ?_]
    constructor
    · intro m
      rcases List.mem_cons.mp ((h z).mp (List.mem_cons_of_mem _ m)) with e | m'
      · rw [e] at m
        have a := hx1 x m
        rw [lex_irr] at a
        cases a
      · exact m'
    · intro m
      rcases List.mem_cons.mp ((h z).mpr (List.mem_cons_of_mem _ m)) with e | m'
      · rw [e] at m
        have a := hy1 x m
        rw [lex_irr] at a
        cases a
      · exact m'
theorem Regs.uniq {Ls' : List (List Int)} (h : Regs D R Ls) (k : Regs D R Ls') : Ls = Ls' := lex_ext h.up k.up fun l => (h.mem l).trans (k.mem l).symm
end
/-- a move takes nobody to an empty room -/
theorem mvd_rooms {P : List (Str × Int)} {nm : Str} {t r : Int} (ht : t ∈ P.map (·.2)) (h : r ∈ (mvd P nm t).map (·.2)) : r ∈ P.map (·.2) := by
  obtain ⟨x, hx, e⟩ := List.mem_map.mp h
  obtain ⟨y, hy, rfl⟩ := List.mem_map.mp hx
  have e : (if y.1 = nm then t else y.2) = r := e
  by_cases c : y.1 = nm
  · rw [if_pos c] at e
    rw [← e]
    exact ht
  · rw [if_neg c] at e
    rw [← e]
    exact List.mem_map_of_mem (f := (·.2)) hy
theorem nil_ne {K : PySem.W.Frag} {σ : L2.St} {L : Addr} {H : Hp} {Q : Bool → Hp → Prop} (e : H L = some (.lst [])) (h : ∀ H', Same H H' → Q false H') : tLst tNil σ H fun y H2 => rNeD K (.ref L) y H2 fun x H3 => ∃ k, x = .bl k ∧ Q k H3 :=
  ⟨Nat.zero_le _, fun p hp => ⟨.list [], .list [], .lst (SqL.of (same_upd hp _ _ e)) .nil, .lst (SqL.of upd_same) .nil, shaped_list [], shaped_list [], false, rfl, h _ (same_upd hp)⟩⟩
theorem nil_eq {K : PySem.W.Frag} {σ : L2.St} {L : Addr} {H : Hp} {Q : Bool → Hp → Prop} (e : H L = some (.lst [])) (h : ∀ H', Same H H' → Q true H') : tLst tNil σ H fun y H2 => rEqD K (.ref L) y H2 fun x H3 => ∃ k, x = .bl k ∧ Q k H3 :=
  ⟨Nat.zero_le _, fun p hp => ⟨.list [], .list [], .lst (SqL.of (same_upd hp _ _ e)) .nil, .lst (SqL.of upd_same) .nil, shaped_list [], shaped_list [], true, rfl, h _ (same_upd hp)⟩⟩
/-- texts as data -/
theorem dp_strs {K : PySem.W.Frag} {H : Hp} : ∀ ns : List Str, DpAll K H (ns.map V.str) (ns.map PyData.str)
  | [] => .nil
  | n :: ns => .cons (.str n) (dp_strs ns)
theorem strs_lay {ns : List Str} (h : ∀ x ∈ ns, PyData.strOk x = true) : PyData.canLayAll0 (ns.map PyData.str) = true := by
  rw [canLayAll_strs', List.all_eq_true]
  exact h
theorem strs_deep : ∀ ns : List Str, PyData.depthAll (ns.map PyData.str) = 0
  | [] => by simp [PyData.depthAll]
  | n :: ns => by
    rw [List.map_cons, PyData.depthAll, strs_deep ns, PyData.depth]
    rfl
theorem strs_shaped {ns : List Str} (h : ∀ x ∈ ns, PyData.strOk x = true) : SeqAt.shaped (.list (ns.map PyData.str)) = true := by
  unfold SeqAt.shaped
  rw [PyData.canLay0, strs_lay h, PyData.depth, strs_deep]
  decide
/-- tuples of ints as data -/
theorem dpR {K : PySem.W.Frag} {H : Hp} : ∀ {Cs : List (Addr × List Int)}, (∀ c ∈ Cs, H c.1 = some (.tup (vi c.2))) → DpAll K H (refs Cs) (Cs.map fun c => PyData.tuple (c.2.map PyData.int))
  | [], _ => .nil
  | c :: Cs, h => .cons (.tup (SqT.of (h c (List.mem_cons_self ..))) (dp_ints _)) (dpR fun q hq => h q (List.mem_cons_of_mem _ hq))
theorem layR : ∀ Cs : List (Addr × List Int), PyData.canLayAll0 (Cs.map fun c => PyData.tuple (c.2.map PyData.int)) = true ∧ PyData.depthAll (Cs.map fun c => PyData.tuple (c.2.map PyData.int)) ≤ 1
  | [] => by simp [PyData.canLayAll0, PyData.depthAll]
  | c :: Cs => by
    obtain ⟨h1, h2⟩ := layR Cs
    rw [List.map_cons, PyData.canLayAll0, PyData.depthAll, h1, PyData.canLay0, lay_ints, PyData.depth, deep_ints]
    exact ⟨rfl, by omega⟩
theorem shapedR (Cs : List (Addr × List Int)) : SeqAt.shaped (.tuple (Cs.map fun c => PyData.tuple (c.2.map PyData.int))) = true := by
  obtain ⟨h1, h2⟩ := layR Cs
  unfold SeqAt.shaped
  rw [PyData.canLay0, h1, PyData.depth]
  simp
  omega
theorem shapedRL (Cs : List (Addr × List Int)) : SeqAt.shaped (.list (Cs.map fun c => PyData.tuple (c.2.map PyData.int))) = true := by
  obtain ⟨h1, h2⟩ := layR Cs
  unfold SeqAt.shaped
  rw [PyData.canLay0, h1, PyData.depth]
  simp
  omega
end Fw
namespace Fw
open PySem PySem.Spec PyProof.Rows L2
open RZ
/-- the same value, to a depth -/
inductive Eqs (H : Hp) : Nat → V → V → Prop
  | non (k : Nat) : Eqs H k .non .non
  | int (k : Nat) (i : Int) : Eqs H k (.int i) (.int i)
  | bl (k : Nat) (b : Bool) : Eqs H k (.bl b) (.bl b)
  | str (k : Nat) (z : Str) : Eqs H k (.str z) (.str z)
  | tup {k : Nat} {a b : Addr} {xs ys : List V} : TpAt H a xs → TpAt H b ys → xs.length = ys.length → xs.length ≤ 500 → (∀ (i : Nat) x y, xs[i]? = some x → ys[i]? = some y → Eqs H k x y) → Eqs H (k + 1) (.ref a) (.ref b)
theorem Eqs.same {H H' : Hp} {k : Nat} {x y : V} (h : Eqs H k x y) (e : Same H H') : Eqs H' k x y := by
  induction h with
  | non k => exact .non k
  | int k i => exact .int k i
  | bl k i => exact .bl k i
  | str k i => exact .str k i
  | tup h1 h2 h3 h4 _ ih => exact .tup (h1.same e) (h2.same e) h3 h4 ih
theorem Eqs.ints {H : Hp} {k : Nat} {a b : Addr} {ns : List Int} (h1 : H a = some (.tup (vi ns))) (h2 : H b = some (.tup (vi ns))) (hl : ns.length ≤ 500) : Eqs H (k + 1) (.ref a) (.ref b) :=
  .tup (.inl h1) (.inl h2) rfl (by rw [List.length_map]; exact hl) fun i x y hx hy => by
    obtain ⟨v, _, rfl⟩ := get_vi hx
    rw [hx] at hy
    cases hy
    exact .int _ v
theorem Eqs.strs {H : Hp} {k : Nat} {a b : Addr} {ns : List Str} (h1 : H a = some (.tup (ns.map V.str))) (h2 : H b = some (.tup (ns.map V.str))) (hl : ns.length ≤ 500) : Eqs H (k + 1) (.ref a) (.ref b) :=
  .tup (.inl h1) (.inl h2) rfl (by rw [List.length_map]; exact hl) fun i x y hx hy => by
    obtain ⟨v, _, rfl⟩ := get_vs hx
    rw [hx] at hy
    cases hy
    exact .str _ v
theorem Eqs.pl {H : Hp} {k : Nat} {a b : Addr} {P : List (Str × Int)} (h1 : PlAt H a P) (h2 : PlAt H b P) (hl : P.length ≤ 500) : Eqs H (k + 2) (.ref a) (.ref b) := by
  obtain ⟨ps, e1, e2, e3⟩ := h1
  obtain ⟨qs, f1, f2, f3⟩ := h2
  have el : ps.length = qs.length := by
    have := congrArg List.length (e2.symm.trans f2)
    rw [List.length_map, List.length_map] at this
    exact this
  refine .tup e1 f1 (by rw [List.length_map, List.length_map, el]) (by rw [List.length_map]; rw [e2, List.length_map] at hl; exact hl) fun i x y hx hy => ?_
  rw [List.getElem?_map] at hx hy
  cases u : ps[i]? with
  | none => rw [u] at hx; cases hx
  | some p =>
    cases v : qs[i]? with
    | none => rw [v] at hy; cases hy
    | some q =>
      rw [u] at hx
      rw [v] at hy
      cases hx
      cases hy
      have e : p.2 = q.2 := by
        have h1 : P[i]? = some p.2 := by rw [e2, List.getElem?_map, u]; rfl
        have h2 : P[i]? = some q.2 := by rw [f2, List.getElem?_map, v]; rfl
        rw [h1] at h2
        exact Option.some.inj h2
      have g1 := e3 p (List.mem_of_getElem? u)
      have g2 := f3 q (List.mem_of_getElem? v)
      rw [← e] at g2
      refine .tup (.inl g1) (.inl g2) rfl (by show 2 ≤ 500; decide) fun j x y hx hy => ?_
      rw [hx] at hy
      cases hy
      match j, hx with
      | 0, hx => cases hx; exact .str _ _
      | 1, hx => cases hx; exact .int _ _
/-- how a zip of two tuples of one length walks -/
theorem both_walk {K : PySem.W.Frag} {a b : Addr} {xs ys : List V} (same : ys.length = xs.length) : Walk (ItzT K a b) xs.length (fun H => SqT K H a xs ∧ SqT K H b ys) (YPair (fun i => xs[i]?) fun i => ys[i]?) where
  goes i H lt q := ⟨_, _, _, _, q.1, q.2, List.getElem?_eq_getElem lt, List.getElem?_eq_getElem (same ▸ lt)⟩
  stops H q := ⟨_, _, q.1, q.2, .inl (Nat.le_refl _)⟩
  yields i H v H' _ q y := by
    obtain ⟨t, x, z, e1, e2, e3, e4, e5⟩ := y
    exact ⟨t, x, z, e1, e2, e3, e4 _ q.1, e5 _ q.2⟩

section
variable {P : Program} {w : World} {K : PySem.W.Frag} {mg : Str → Option Value} {base : Heap}
def spSame (k : Nat) : Sp := fun vs H Q _ => ∃ x y, vs = [x, y] ∧ Eqs H k x y ∧ ∀ H', Same H H' → Q (.bl true) H'
abbrev nSame : List Str := ["_law_found", "_law_expected", "_law_one", "_law_other"]
theorem scSame : FnScope nSame ["_law_found", "_law_expected"] (defScope sSame) := ⟨rfl, rfl, rfl, by decide +kernel, rfl, by decide +kernel, by decide +kernel⟩
theorem tp_tyS {K : PySem.W.Frag} {H : Hp} {p : Addr} {xs : List V} (h : TpAt H p xs) : TyX K H (.ref p) (.type "tuple") := h.elim (fun h => .base (.tup h)) fun ⟨_, _, h⟩ => .fTuple h
theorem k_it : kitB "int" "tuple" = some false := by decide +kernel
theorem k_ib : kitB "int" "bool" = some false := by decide +kernel
theorem k_ii : kitB "int" "int" = some true := by decide +kernel
theorem k_nt : kitB "NoneType" "tuple" = some false := by decide +kernel
theorem k_tt : kitB "tuple" "tuple" = some true := by decide +kernel
theorem k_bt : kitB "bool" "tuple" = some false := by decide +kernel
theorem k_bb : kitB "bool" "bool" = some true := by decide +kernel
theorem k_st : kitB "str" "tuple" = some false := by decide +kernel
theorem k_sb : kitB "str" "bool" = some false := by decide +kernel
theorem k_si : kitB "str" "int" = some false := by decide +kernel
theorem k_ss2 : kitB "str" "str" = some true := by decide +kernel
theorem ok_same0 {f : Addr} {fd : FuncData} (F : Fun K "_law_same" "_law_same" sSame f fd) (T : Nm mg) : FnOk P w K mg base CX0 1 f fd pSame (spSame 0) := by
  refine F.ok scSame (fun vs H Q E h => ?_) (fun cdv A outer s H vs Q E hr h => ?_)
  · obtain ⟨x, y, rfl, _⟩ := h
    rfl
  · obtain ⟨x, y, rfl, he, q⟩ := h
    refine ⟨_, (pss_cons (ps_if (pt_val (pe_callB call_isi (by rfl) T.isinstance (by decide +kernel) (pa_cons (pv 1) (pa_cons (pe_bltn (v := .ty "tuple") (by rfl) T.tuple (by decide +kernel) rfl) pa_nil))))
      pss_never
      pss_nil)
      (pss_cons (ps_if (PW.pt (pw_or (pt_cmp (pc_isN (pv 1))) (pw_or1 (pt_cmp (pc_isN (pv 0))))))
      (pss_one (ps_ret (pe_and (pe_cmp (pc_isN (pv 1)) rfl) (pe_one (pe_cmp (pc_isN (pv 0)) rfl)))))
      pss_nil)
      (pss_cons (ps_if (PW.pt (pw_or (pt_val (pe_callB call_isi (by rfl) T.isinstance (by decide +kernel) (pa_cons (pv 1) (pa_cons (pe_bltn (v := .ty "bool") (by rfl) T.bool (by decide +kernel) rfl) pa_nil)))) (pw_or1 (pt_val (pe_callB call_isi (by rfl) T.isinstance (by decide +kernel) (pa_cons (pv 0) (pa_cons (pe_bltn (v := .ty "bool") (by rfl) T.bool (by decide +kernel) rfl) pa_nil)))))))
      (pss_one (ps_ret (pe_and (pe_callB call_isi (by rfl) T.isinstance (by decide +kernel) (pa_cons (pv 1) (pa_cons (pe_bltn (v := .ty "bool") (by rfl) T.bool (by decide +kernel) rfl) pa_nil))) (pe_and (pe_callB call_isi (by rfl) T.isinstance (by decide +kernel) (pa_cons (pv 0) (pa_cons (pe_bltn (v := .ty "bool") (by rfl) T.bool (by decide +kernel) rfl) pa_nil))) (pe_one (pe_cmpR op_eq (pv 0) (pv 1) (nomark _)))))))
      pss_nil)
      (pss_cons (ps_if (pt_val (pe_callB call_isi (by rfl) T.isinstance (by decide +kernel) (pa_cons (pv 1) (pa_cons (pe_bltn (v := .ty "int") (by rfl) T.int (by decide +kernel) rfl) pa_nil))))
      (pss_one (ps_ret (pe_and (pe_callB call_isi (by rfl) T.isinstance (by decide +kernel) (pa_cons (pv 0) (pa_cons (pe_bltn (v := .ty "int") (by rfl) T.int (by decide +kernel) rfl) pa_nil))) (pe_one (pe_cmpR op_eq (pv 0) (pv 1) (nomark _))))))
      pss_nil)
      (pss_cons (ps_if (PW.pt (pw_or (pt_val (pe_callB call_isi (by rfl) T.isinstance (by decide +kernel) (pa_cons (pv 1) (pa_cons (pe_bltn (v := .ty "str") (by rfl) T.str (by decide +kernel) rfl) pa_nil)))) (pw_or1 (pt_val (pe_callB call_isi (by rfl) T.isinstance (by decide +kernel) (pa_cons (pv 0) (pa_cons (pe_bltn (v := .ty "str") (by rfl) T.str (by decide +kernel) rfl) pa_nil)))))))
      (pss_one (ps_ret (pe_and (pe_callB call_isi (by rfl) T.isinstance (by decide +kernel) (pa_cons (pv 1) (pa_cons (pe_bltn (v := .ty "str") (by rfl) T.str (by decide +kernel) rfl) pa_nil))) (pe_and (pe_callB call_isi (by rfl) T.isinstance (by decide +kernel) (pa_cons (pv 0) (pa_cons (pe_bltn (v := .ty "str") (by rfl) T.str (by decide +kernel) rfl) pa_nil))) (pe_one (pe_cmpR op_eq (pv 0) (pv 1) (nomark _)))))))
      pss_nil)
      pss_never))))), ?_⟩
    cases he with
    | non =>
      refine ⟨_, rfl, _, _, _, _, _, rfl, .ty _, .base .non, kit_ty k_nt, _, rfl, iteF ?_⟩
      refine ⟨_, rfl, _, rfl, iteT (iteT ?_)⟩
      exact ⟨_, rfl, _, rfl, iteT ⟨_, rfl, q _ (Same.refl _)⟩⟩
    | int _ i =>
      refine ⟨_, rfl, _, _, _, _, _, rfl, .ty _, .base (.int _), kit_ty k_it, _, rfl, iteF ?_⟩
      refine ⟨_, rfl, _, rfl, iteF ⟨_, rfl, _, rfl, iteF ?_⟩⟩
      refine ⟨_, rfl, _, _, _, _, _, rfl, .ty _, .base (.int _), kit_ty k_ib, _, rfl, iteF ⟨_, rfl, _, _, _, _, _, rfl, .ty _, .base (.int _), kit_ty k_ib, _, rfl, iteF ?_⟩⟩
      refine ⟨_, rfl, _, _, _, _, _, rfl, .ty _, .base (.int _), kit_ty k_ii, _, rfl, iteT ?_⟩
      refine ⟨_, rfl, _, _, _, _, _, rfl, .ty _, .base (.int _), kit_ty k_ii, _, rfl, iteT ⟨_, rfl, _, rfl, rfl, ?_⟩⟩
      rw [decide_eq_true rfl]
      exact q _ (Same.refl _)
    | bl _ b =>
      refine ⟨_, rfl, _, _, _, _, _, rfl, .ty _, .base (.bl _), kit_ty k_bt, _, rfl, iteF ?_⟩
      refine ⟨_, rfl, _, rfl, iteF ⟨_, rfl, _, rfl, iteF ?_⟩⟩
      refine ⟨_, rfl, _, _, _, _, _, rfl, .ty _, .base (.bl _), kit_ty k_bb, _, rfl, iteT (iteT ?_)⟩
      refine ⟨_, rfl, _, _, _, _, _, rfl, .ty _, .base (.bl _), kit_ty k_bb, _, rfl, iteT ⟨_, rfl, _, _, _, _, _, rfl, .ty _, .base (.bl _), kit_ty k_bb, _, rfl, iteT ⟨_, rfl, _, rfl, rfl, ?_⟩⟩⟩
      rw [decide_eq_true rfl]
      exact q _ (Same.refl _)
    | str _ z =>
      refine ⟨_, rfl, _, _, _, _, _, rfl, .ty _, .base (.str _), kit_ty k_st, _, rfl, iteF ?_⟩
      refine ⟨_, rfl, _, rfl, iteF ⟨_, rfl, _, rfl, iteF ?_⟩⟩
      refine ⟨_, rfl, _, _, _, _, _, rfl, .ty _, .base (.str _), kit_ty k_sb, _, rfl, iteF ⟨_, rfl, _, _, _, _, _, rfl, .ty _, .base (.str _), kit_ty k_sb, _, rfl, iteF ?_⟩⟩
      refine ⟨_, rfl, _, _, _, _, _, rfl, .ty _, .base (.str _), kit_ty k_si, _, rfl, iteF ?_⟩
      refine ⟨_, rfl, _, _, _, _, _, rfl, .ty _, .base (.str _), kit_ty k_ss2, _, rfl, iteT (iteT ?_)⟩
      refine ⟨_, rfl, _, _, _, _, _, rfl, .ty _, .base (.str _), kit_ty k_ss2, _, rfl, iteT ⟨_, rfl, _, _, _, _, _, rfl, .ty _, .base (.str _), kit_ty k_ss2, _, rfl, iteT ⟨_, rfl, _, rfl, rfl, ?_⟩⟩⟩
      rw [decide_eq_true rfl]
      exact q _ (Same.refl _)

/-- one level more -/
theorem ok_sameS {f : Addr} {fd : FuncData} {k : Nat} (F : Fun K "_law_same" "_law_same" sSame f fd) (T : Nm mg) (C_law_same : Cal P w K mg base (k + 1) "_law_same" pSame (spSame k)) : FnOk P w K mg base CX0 (k + 2) f fd pSame (spSame (k + 1)) := by
  refine F.ok scSame (fun vs H Q E h => ?_) (fun cdv A outer s H vs Q E hr h => ?_)
  · obtain ⟨x, y, rfl, _⟩ := h
    rfl
  · obtain ⟨x, y, rfl, he, q⟩ := h
    refine ⟨_, (pss_cons (ps_if (pt_val (pe_callB call_isi (by rfl) T.isinstance (by decide +kernel) (pa_cons (pv 1) (pa_cons (pe_bltn (v := .ty "tuple") (by rfl) T.tuple (by decide +kernel) rfl) pa_nil))))
      (pss_cons (ps_if (PW.pt (pw_or (pt_not (pt_val (pe_callB call_isi (by rfl) T.isinstance (by decide +kernel) (pa_cons (pv 0) (pa_cons (pe_bltn (v := .ty "tuple") (by rfl) T.tuple (by decide +kernel) rfl) pa_nil))))) (pw_or1 (pt_cmpR op_ne (pe_callB (call_lenK K rfl) (by rfl) T.len (by decide +kernel) (pa_cons (pv 0) pa_nil)) (pe_callB (call_lenK K rfl) (by rfl) T.len (by decide +kernel) (pa_cons (pv 1) pa_nil)) (nomark _)))))
       pss_never
       pss_nil)
       (pss_one (ps_ret (pe_callB (cr_all rfl) (by rfl) T.all (by decide +kernel) (pa_cons (pe_lc (own := [("_law_one", 2), ("_law_other", 3)]) (g := gTup K 2 (gCons (gName 2) (gCons (gName 3) gNil))) (by rfl) scSame.nd (pi_zipA (by rfl) T.zip (pa_cons (pv 0) (pa_cons (pv 1) pa_nil)))
 (blkOk_by (own := [("_law_one", 2), ("_law_other", 3)]) (N := nSame) (sc := defScope sSame) (by decide +kernel))
 (fun _ _ _ _ _ => (pg_tup (by rfl) (pgs_cons (pg_name (i := 2) scSame.nd rfl (.inl rfl)) (pgs_cons (pg_name (i := 3) scSame.nd rfl (.inl rfl)) pgs_nil)))) (fun _ _ _ _ _ => pts_nil) (fun _ _ _ _ _ => (pe_cal C_law_same hr (by rfl) (pa_cons (pv 2) (pa_cons (pv 3) pa_nil))))) pa_nil)))))
      pss_nil)
      (pss_cons (ps_if (PW.pt (pw_or (pt_cmp (pc_isN (pv 1))) (pw_or1 (pt_cmp (pc_isN (pv 0))))))
      (pss_one (ps_ret (pe_and (pe_cmp (pc_isN (pv 1)) rfl) (pe_one (pe_cmp (pc_isN (pv 0)) rfl)))))
      pss_nil)
      (pss_cons (ps_if (PW.pt (pw_or (pt_val (pe_callB call_isi (by rfl) T.isinstance (by decide +kernel) (pa_cons (pv 1) (pa_cons (pe_bltn (v := .ty "bool") (by rfl) T.bool (by decide +kernel) rfl) pa_nil)))) (pw_or1 (pt_val (pe_callB call_isi (by rfl) T.isinstance (by decide +kernel) (pa_cons (pv 0) (pa_cons (pe_bltn (v := .ty "bool") (by rfl) T.bool (by decide +kernel) rfl) pa_nil)))))))
      (pss_one (ps_ret (pe_and (pe_callB call_isi (by rfl) T.isinstance (by decide +kernel) (pa_cons (pv 1) (pa_cons (pe_bltn (v := .ty "bool") (by rfl) T.bool (by decide +kernel) rfl) pa_nil))) (pe_and (pe_callB call_isi (by rfl) T.isinstance (by decide +kernel) (pa_cons (pv 0) (pa_cons (pe_bltn (v := .ty "bool") (by rfl) T.bool (by decide +kernel) rfl) pa_nil))) (pe_one (pe_cmpR op_eq (pv 0) (pv 1) (nomark _)))))))
      pss_nil)
      (pss_cons (ps_if (pt_val (pe_callB call_isi (by rfl) T.isinstance (by decide +kernel) (pa_cons (pv 1) (pa_cons (pe_bltn (v := .ty "int") (by rfl) T.int (by decide +kernel) rfl) pa_nil))))
      (pss_one (ps_ret (pe_and (pe_callB call_isi (by rfl) T.isinstance (by decide +kernel) (pa_cons (pv 0) (pa_cons (pe_bltn (v := .ty "int") (by rfl) T.int (by decide +kernel) rfl) pa_nil))) (pe_one (pe_cmpR op_eq (pv 0) (pv 1) (nomark _))))))
      pss_nil)
      (pss_cons (ps_if (PW.pt (pw_or (pt_val (pe_callB call_isi (by rfl) T.isinstance (by decide +kernel) (pa_cons (pv 1) (pa_cons (pe_bltn (v := .ty "str") (by rfl) T.str (by decide +kernel) rfl) pa_nil)))) (pw_or1 (pt_val (pe_callB call_isi (by rfl) T.isinstance (by decide +kernel) (pa_cons (pv 0) (pa_cons (pe_bltn (v := .ty "str") (by rfl) T.str (by decide +kernel) rfl) pa_nil)))))))
      (pss_one (ps_ret (pe_and (pe_callB call_isi (by rfl) T.isinstance (by decide +kernel) (pa_cons (pv 1) (pa_cons (pe_bltn (v := .ty "str") (by rfl) T.str (by decide +kernel) rfl) pa_nil))) (pe_and (pe_callB call_isi (by rfl) T.isinstance (by decide +kernel) (pa_cons (pv 0) (pa_cons (pe_bltn (v := .ty "str") (by rfl) T.str (by decide +kernel) rfl) pa_nil))) (pe_one (pe_cmpR op_eq (pv 0) (pv 1) (nomark _)))))))
      pss_nil)
      pss_never))))), ?_⟩
    cases he with
    | non =>
      refine ⟨_, rfl, _, _, _, _, _, rfl, .ty _, .base .non, kit_ty k_nt, _, rfl, iteF ?_⟩
      refine ⟨_, rfl, _, rfl, iteT (iteT ?_)⟩
      exact ⟨_, rfl, _, rfl, iteT ⟨_, rfl, q _ (Same.refl _)⟩⟩
    | int _ i =>
      refine ⟨_, rfl, _, _, _, _, _, rfl, .ty _, .base (.int _), kit_ty k_it, _, rfl, iteF ?_⟩
      refine ⟨_, rfl, _, rfl, iteF ⟨_, rfl, _, rfl, iteF ?_⟩⟩
      refine ⟨_, rfl, _, _, _, _, _, rfl, .ty _, .base (.int _), kit_ty k_ib, _, rfl, iteF ⟨_, rfl, _, _, _, _, _, rfl, .ty _, .base (.int _), kit_ty k_ib, _, rfl, iteF ?_⟩⟩
      refine ⟨_, rfl, _, _, _, _, _, rfl, .ty _, .base (.int _), kit_ty k_ii, _, rfl, iteT ?_⟩
      refine ⟨_, rfl, _, _, _, _, _, rfl, .ty _, .base (.int _), kit_ty k_ii, _, rfl, iteT ⟨_, rfl, _, rfl, rfl, ?_⟩⟩
      rw [decide_eq_true rfl]
      exact q _ (Same.refl _)
    | bl _ b =>
      refine ⟨_, rfl, _, _, _, _, _, rfl, .ty _, .base (.bl _), kit_ty k_bt, _, rfl, iteF ?_⟩
      refine ⟨_, rfl, _, rfl, iteF ⟨_, rfl, _, rfl, iteF ?_⟩⟩
      refine ⟨_, rfl, _, _, _, _, _, rfl, .ty _, .base (.bl _), kit_ty k_bb, _, rfl, iteT (iteT ?_)⟩
      refine ⟨_, rfl, _, _, _, _, _, rfl, .ty _, .base (.bl _), kit_ty k_bb, _, rfl, iteT ⟨_, rfl, _, _, _, _, _, rfl, .ty _, .base (.bl _), kit_ty k_bb, _, rfl, iteT ⟨_, rfl, _, rfl, rfl, ?_⟩⟩⟩
      rw [decide_eq_true rfl]
      exact q _ (Same.refl _)
    | str _ z =>
      refine ⟨_, rfl, _, _, _, _, _, rfl, .ty _, .base (.str _), kit_ty k_st, _, rfl, iteF ?_⟩
      refine ⟨_, rfl, _, rfl, iteF ⟨_, rfl, _, rfl, iteF ?_⟩⟩
      refine ⟨_, rfl, _, _, _, _, _, rfl, .ty _, .base (.str _), kit_ty k_sb, _, rfl, iteF ⟨_, rfl, _, _, _, _, _, rfl, .ty _, .base (.str _), kit_ty k_sb, _, rfl, iteF ?_⟩⟩
      refine ⟨_, rfl, _, _, _, _, _, rfl, .ty _, .base (.str _), kit_ty k_si, _, rfl, iteF ?_⟩
      refine ⟨_, rfl, _, _, _, _, _, rfl, .ty _, .base (.str _), kit_ty k_ss2, _, rfl, iteT (iteT ?_)⟩
      refine ⟨_, rfl, _, _, _, _, _, rfl, .ty _, .base (.str _), kit_ty k_ss2, _, rfl, iteT ⟨_, rfl, _, _, _, _, _, rfl, .ty _, .base (.str _), kit_ty k_ss2, _, rfl, iteT ⟨_, rfl, _, rfl, rfl, ?_⟩⟩⟩
      rw [decide_eq_true rfl]
      exact q _ (Same.refl _)
    | @tup _ a b xs ys h1 h2 h3 h4 h5 =>
      refine ⟨_, rfl, _, _, _, _, _, rfl, .ty _, tp_tyS h2, kit_ty k_tt, _, rfl, iteT ?_⟩
      refine ⟨_, rfl, _, _, _, _, _, rfl, .ty _, tp_tyS h1, kit_ty k_tt, _, rfl, iteF ⟨_, rfl, a, _, rfl, .inr h1.sq, _, rfl, b, _, rfl, .inr h2.sq, rfl, _, rfl, iteNS (by rw [h3]) ?_⟩⟩
      refine ⟨_, rfl, _, rfl, a, b, xs, ys, rfl, .inr ⟨h1.sq, h2.sq, fun L hL => lc_it (both_walk (K := K) (a := a) (b := b) (xs := xs) (ys := ys) h3.symm) (fun i H1 => Same H H1 ∧ H1 L = some (.lst ((List.replicate i true).map V.bl)))
        ⟨same_upd hL, upd_same⟩ (fun i H1 _ hh => ⟨(h1.same hh.1).sq, (h2.same hh.1).sq⟩) ?_ ?_⟩⟩
      · rintro i _ H1 _ hlt ⟨s1, e1⟩ ⟨t, x, y, rfl, ht, rfl, hx, hy⟩
        refine ⟨t, _, rfl, SqT.of upd_same, rfl, _, _, rfl, _, _, rfl, rfl, rfl, ?_⟩
        unfold tYes
        refine iteT ?_
        refine ⟨_, rfl, _, rfl, x, y, rfl, (h5 i x y hx hy).same (s1.trans (same_upd ht)), fun H2 s2 => ⟨_, s2 _ _ (same_upd ht _ _ e1), ?_, same_put (s1.trans ((same_upd ht).trans s2)) hL, ?_⟩⟩
        · rw [List.length_map, List.length_replicate]
          exact small1000 (by omega)
        · rw [upd_same, List.replicate_succ', List.map_append]
          rfl
      · rintro H1 ⟨s1, e1⟩
        refine ⟨L, List.replicate xs.length true, rfl, SqL.of e1, ?_⟩
        rw [show (List.replicate xs.length true).all id = true by simp]
        exact q _ s1
theorem cal_same (D : DefE K mg "_law_same" sSame pSame) (T : Nm mg) : ∀ k : Nat, Cal P w K mg base (k + 1) "_law_same" pSame (spSame k)
  | 0 => D.cal fun _ _ d => ok_same0 d.F T
  | k + 1 => D.cal fun _ _ d => ok_sameS d.F T (cal_same D T k)
end
end Fw
namespace Fw
open PySem PySem.Spec PyProof.Rows L2
/-- data that can be shown -/
structure Sw (b : Nat) (d : PyData) : Prop where
  s : d.showable = true
  n : d.hasDict = false
  p : d.depth ≤ 10
  l : d.leavesShort 13 = true
  k : d.bulk ≤ b
theorem Sw.shows {b : Nat} {d : PyData} (h : Sw b d) (hb : b ≤ 2 ^ 20) : Shows d := ⟨h.s, h.n, Nat.le_trans h.p (by decide), PyData.shown_fits_bulk (B := 13) (by decide) (by decide) h.l (Nat.le_trans h.k hb)⟩
def pp (x : Str × Int) : PyData := .tuple [.str x.1, .int x.2]
def pld (P : List (Str × Int)) : PyData := .tuple (P.map pp)
theorem pps_all {P : List (Str × Int)} (h : ∀ x ∈ P, Nam x.1 ∧ 0 ≤ x.2 ∧ x.2 ≤ 100) : PyData.showableAll (P.map pp) = true ∧ PyData.hasDictAll (P.map pp) = false ∧ PyData.depthAll (P.map pp) ≤ 1 ∧ PyData.leavesShortAll 13 (P.map pp) = true ∧ PyData.bulkAll (P.map pp) ≤ 20 * P.length := by
  induction P with
  | nil => simp [PyData.showableAll, PyData.hasDictAll, PyData.depthAll, PyData.leavesShortAll, PyData.bulkAll]
  | cons x P ih =>
    obtain ⟨i1, i2, i3, i4, i5⟩ := ih fun y hy => h y (List.mem_cons_of_mem _ hy)
    obtain ⟨hn, a0, a1⟩ := h x (List.mem_cons_self ..)
    have s1 := PyData.shown_int_le2 (i := x.2) (by omega) (by omega)
    have sz : x.1.cps.size ≤ 8 := hn.2.1
    have al : (x.1.cps.toList.all fun c => decide (c < 16 ^ 8)) = true := by
      rw [List.all_eq_true]
      intro c hc
      have := hn.2.2 c hc
      exact decide_eq_true (by omega)
    rw [List.map_cons]
    refine ⟨?_, ?_, ?_, ?_, ?_⟩
    · simp only [pp, PyData.showableAll, PyData.showable, i1, Bool.and_true]
      rw [decide_eq_true (log_small a0 a1)]
      rfl
    · simp only [pp, PyData.hasDictAll, PyData.hasDict, i2, Bool.or_false]
    · simp only [pp, PyData.depthAll, PyData.depth]
      omega
    · simp only [pp, PyData.leavesShortAll, PyData.leavesShort, i4, Bool.and_true]
      rw [decide_eq_true s1, al]
      rfl
    · simp only [pp, PyData.bulkAll, PyData.bulk, List.length_cons]
      omega
theorem pld_sw {P : List (Str × Int)} (h : ∀ x ∈ P, Nam x.1 ∧ 0 ≤ x.2 ∧ x.2 ≤ 100) : Sw (20 * P.length) (pld P) := by
  obtain ⟨i1, i2, i3, i4, i5⟩ := pps_all h
  exact ⟨by simp only [pld, PyData.showable, i1], by simp only [pld, PyData.hasDict, i2], by simp only [pld, PyData.depth]; omega, by simp only [pld, PyData.leavesShort, i4], by simp only [pld, PyData.bulk]; exact i5⟩
theorem Pl.sw {n : Int} {P : List (Str × Int)} (h : Pl n P) (hn : n ≤ 8) (lP : P.length ≤ 100) : Sw 2000 (pld P) := by
  have := pld_sw (P := P) fun x hx => ⟨h.nm.nam _ (List.mem_map_of_mem (f := (·.1)) hx), (h.rm x hx).1, by have := (h.rm x hx).2; omega⟩
  exact ⟨this.s, this.n, this.p, this.l, Nat.le_trans this.k (by omega)⟩
theorem hd_sw {n : Int} {D : List (Int × Int)} (f : Forest n D) (n0 : 0 ≤ n) (n1 : n ≤ 8) : Sw 100 (hd n D) := by
  have h : ∀ d ∈ D, 0 ≤ d.1 ∧ d.1 ≤ 100 ∧ 0 ≤ d.2 ∧ d.2 ≤ 100 := fun d hd => by
    have := f.ends (a := d.1) (b := d.2) hd
    omega
  have hl : D.length ≤ 8 := f.len
  obtain ⟨i1, i2⟩ := pds_show h
  have s1 := PyData.shown_int_le2 (i := n) (by omega) (by omega)
  have dp := pd_deep D
  refine ⟨?_, ?_, ?_, ?_, ?_⟩
  · simp only [hd, PyData.showable, PyData.showableAll, Bool.and_true, i1]
    rw [decide_eq_true (log_small n0 (by omega))]
  · simp only [hd, PyData.hasDict, PyData.hasDictAll, Bool.or_false, Bool.false_or]
    exact pds_nodict D
  · simp only [hd, PyData.depth, PyData.depthAll]
    omega
  · simp only [hd, PyData.leavesShort, PyData.leavesShortAll, Bool.and_true, i2]
    rw [decide_eq_true s1]
  · simp only [hd, PyData.bulk, PyData.bulkAll, pds_bulk]
    omega
theorem sw2 {b c : Nat} {d e : PyData} (x : Sw b d) (y : Sw c e) (h1 : d.depth ≤ 8) (h2 : e.depth ≤ 8) : Sw (b + c + 2) (.list [d, e]) := by
  refine ⟨?_, ?_, ?_, ?_, ?_⟩
  · simp only [PyData.showable, PyData.showableAll, x.s, y.s, Bool.and_true]
  · simp only [PyData.hasDict, PyData.hasDictAll, x.n, y.n, Bool.or_false]
  · simp only [PyData.depth, PyData.depthAll]
    omega
  · simp only [PyData.leavesShort, PyData.leavesShortAll, x.l, y.l, Bool.and_true]
  · simp only [PyData.bulk, PyData.bulkAll]
    have := x.k
    have := y.k
    omega
theorem sw3 {a b c : Nat} {d e f : PyData} (x : Sw a d) (y : Sw b e) (z : Sw c f) (h1 : d.depth ≤ 8) (h2 : e.depth ≤ 8) (h3 : f.depth ≤ 8) : Sw (a + b + c + 3) (.list [d, e, f]) := by
  refine ⟨?_, ?_, ?_, ?_, ?_⟩
  · simp only [PyData.showable, PyData.showableAll, x.s, y.s, z.s, Bool.and_true]
  · simp only [PyData.hasDict, PyData.hasDictAll, x.n, y.n, z.n, Bool.or_false]
  · simp only [PyData.depth, PyData.depthAll]
    omega
  · simp only [PyData.leavesShort, PyData.leavesShortAll, x.l, y.l, z.l, Bool.and_true]
  · simp only [PyData.bulk, PyData.bulkAll]
    have := x.k
    have := y.k
    have := z.k
    omega
theorem hd_deep (n : Int) (D : List (Int × Int)) : (hd n D).depth ≤ 8 := by
  have dp := pd_deep D
  simp only [hd, PyData.depth, PyData.depthAll]
  omega
theorem pps_deep (P : List (Str × Int)) : PyData.depthAll (P.map pp) ≤ 1 := by
  induction P with
  | nil => simp [PyData.depthAll]
  | cons x P ih =>
    rw [List.map_cons]
    simp only [pp, PyData.depthAll, PyData.depth]
    omega
theorem pld_deep (P : List (Str × Int)) : (pld P).depth ≤ 8 := by
  have := pps_deep P
  simp only [pld, PyData.depth]
  omega
theorem dp_pps {K : PySem.W.Frag} {H : Hp} : ∀ {ps : List (Addr × Str × Int)}, (∀ p ∈ ps, H p.1 = some (.tup [.str p.2.1, .int p.2.2])) → DpAll K H (ps.map fun p => V.ref p.1) ((ps.map (·.2)).map pp)
  | [], _ => .nil
  | p :: ps, h => .cons (.tup (SqT.of (h p (List.mem_cons_self ..))) (.cons (.str _) (.cons (.int _) .nil))) (dp_pps fun q hq => h q (List.mem_cons_of_mem _ hq))
theorem PlAt.dp {K : PySem.W.Frag} {H : Hp} {p : Addr} {P : List (Str × Int)} (x : PlAt H p P) : Dp K H (.ref p) (pld P) := by
  obtain ⟨ps, h1, h2, h3⟩ := x
  rw [h2]
  exact .tup h1.sq (dp_pps h3)
theorem sw2T {b c : Nat} {d e : PyData} (x : Sw b d) (y : Sw c e) (h1 : d.depth ≤ 8) (h2 : e.depth ≤ 8) : Sw (b + c + 2) (.tuple [d, e]) := by
  refine ⟨?_, ?_, ?_, ?_, ?_⟩
  · simp only [PyData.showable, PyData.showableAll, x.s, y.s, Bool.and_true]
  · simp only [PyData.hasDict, PyData.hasDictAll, x.n, y.n, Bool.or_false]
  · simp only [PyData.depth, PyData.depthAll]
    omega
  · simp only [PyData.leavesShort, PyData.leavesShortAll, x.l, y.l, Bool.and_true]
  · simp only [PyData.bulk, PyData.bulkAll]
    have := x.k
    have := y.k
    omega
/-- (house, placement) -/
def hpT (n : Int) (D : List (Int × Int)) (P : List (Str × Int)) : PyData := .tuple [hd n D, pld P]
theorem hpT_shows {n : Int} {D : List (Int × Int)} {P : List (Str × Int)} (f : Forest n D) (n0 : 0 ≤ n) (n1 : n ≤ 8) (h : Pl n P) (lP : P.length ≤ 100) : Shows (hpT n D P) :=
  (sw2T (hd_sw f n0 n1) (h.sw n1 lP) (hd_deep _ _) (pld_deep _)).shows (by decide)
theorem hpT_dp {K : PySem.W.Frag} {H : Hp} {l h p : Addr} {n : Int} {D : List (Int × Int)} {P : List (Str × Int)} (e : H l = some (.tup [.ref h, .ref p])) (x : HouseAt H h n D) (y : PlAt H p P) : Dp K H (.ref l) (hpT n D P) :=
  .tup (SqT.of e) (.cons x.dp (.cons y.dp .nil))
/-- [house, placement] -/
def hpd (n : Int) (D : List (Int × Int)) (P : List (Str × Int)) : PyData := .list [hd n D, pld P]
theorem hp_shows {n : Int} {D : List (Int × Int)} {P : List (Str × Int)} (f : Forest n D) (n0 : 0 ≤ n) (n1 : n ≤ 8) (h : Pl n P) (lP : P.length ≤ 100) : Shows (hpd n D P) :=
  (sw2 (hd_sw f n0 n1) (h.sw n1 lP) (hd_deep _ _) (pld_deep _)).shows (by decide)
theorem hp_dp {K : PySem.W.Frag} {H : Hp} {l h p : Addr} {n : Int} {D : List (Int × Int)} {P : List (Str × Int)} (e : H l = some (.lst [.ref h, .ref p])) (x : HouseAt H h n D) (y : PlAt H p P) : Dp K H (.ref l) (hpd n D P) :=
  .lst (SqL.of e) (.cons x.dp (.cons y.dp .nil))
theorem pps_lay : ∀ {X : List (Str × Int)}, (∀ x ∈ X, Nam x.1) → PyData.canLayAll0 (X.map pp) = true
  | [], _ => by simp [PyData.canLayAll0]
  | x :: X, h => by
    rw [List.map_cons, PyData.canLayAll0, pps_lay fun y hy => h y (List.mem_cons_of_mem _ hy)]
    simp [pp, PyData.canLay0, PyData.canLayAll0, nam_ok (h x (List.mem_cons_self ..))]
theorem pps_shapedL {X : List (Str × Int)} (h : ∀ x ∈ X, Nam x.1) : SeqAt.shaped (.list (X.map pp)) = true := by
  unfold SeqAt.shaped
  rw [PyData.canLay0, pps_lay h, PyData.depth]
  have := pps_deep X
  simp
  omega
theorem pld_shaped {X : List (Str × Int)} (h : ∀ x ∈ X, Nam x.1) : SeqAt.shaped (pld X) = true := by
  unfold SeqAt.shaped pld
  rw [PyData.canLay0, pps_lay h, PyData.depth]
  have := pps_deep X
  simp
  omega
theorem Pl.nams {n : Int} {P : List (Str × Int)} (h : Pl n P) : ∀ x ∈ P, Nam x.1 := fun x hx => h.nm.nam _ (List.mem_map_of_mem (f := (·.1)) hx)
theorem eqv_nilP (X : List (Str × Int)) : PyData.eqv (.list (X.map pp)) (.list []) = X.isEmpty := by
  rw [PyData.eqv]
  cases X with
  | nil => rw [List.map_nil, PyData.eqvAll]; rfl
  | cons n ns => rw [List.map_cons, PyData.eqvAll]; rfl
/-- [house, placement, target] -/
def hptd (n : Int) (D : List (Int × Int)) (P G : List (Str × Int)) : PyData := .list [hd n D, pld P, pld G]
theorem hpt_shows {n : Int} {D : List (Int × Int)} {P G : List (Str × Int)} (f : Forest n D) (n0 : 0 ≤ n) (n1 : n ≤ 8) (h : Pl n P) (lP : P.length ≤ 100) (k : Pl n G) (lG : G.length ≤ 100) : Shows (hptd n D P G) :=
  (sw3 (hd_sw f n0 n1) (h.sw n1 lP) (k.sw n1 lG) (hd_deep _ _) (pld_deep _) (pld_deep _)).shows (by decide)
theorem hpt_dp {K : PySem.W.Frag} {H : Hp} {l h p g : Addr} {n : Int} {D : List (Int × Int)} {P G : List (Str × Int)} (e : H l = some (.lst [.ref h, .ref p, .ref g])) (x : HouseAt H h n D) (y : PlAt H p P) (z : PlAt H g G) : Dp K H (.ref l) (hptd n D P G) :=
  .lst (SqL.of e) (.cons x.dp (.cons y.dp (.cons z.dp .nil)))
end Fw
namespace Fw
open PySem PySem.Spec PyProof.Rows L2
/-! ### dicts by names -/
def dk (F : List (Str × V)) : List (Key × V) := F.map fun x => (Sum.inr x.1, x.2)
theorem valV_none {F : List (Str × V)} {nm : Str} (h : nm ∉ F.map (·.1)) : valV (dk F) (Sum.inr nm) = none := by
  induction F with
  | nil => rfl
  | cons x F ih =>
    rw [List.map_cons, List.mem_cons, not_or] at h
    show valV ((Sum.inr x.1, x.2) :: dk F) _ = none
    rw [valV_neg (fun e => h.1 (Sum.inr.inj e).symm)]
    exact ih h.2
theorem valV_dk {F : List (Str × V)} (nd : (F.map (·.1)).Nodup) {nm : Str} {v : V} (h : (nm, v) ∈ F) : valV (dk F) (Sum.inr nm) = some v := by
  induction F with
  | nil => cases h
  | cons x F ih =>
    rw [List.map_cons, List.nodup_cons] at nd
    rcases List.mem_cons.mp h with e | m
    · subst e
      exact valV_pos rfl
    · show valV ((Sum.inr x.1, x.2) :: dk F) _ = _
      rw [valV_neg (fun e => nd.1 (by rw [Sum.inr.inj e]; exact List.mem_map_of_mem (f := (·.1)) m))]
      exact ih nd.2 m
theorem merge_app : ∀ {F G : List (Str × V)}, ((F ++ G).map (·.1)).Nodup → mergeK (dk F) (dk G) = dk (F ++ G)
  | F, [], _ => by rw [List.append_nil]; rfl
  | F, x :: G, nd => by
    have n1 : x.1 ∉ F.map (·.1) := fun m => by
      rw [List.map_append, List.map_cons, List.nodup_append] at nd
      exact nd.2.2 x.1 m x.1 (List.mem_cons_self ..) rfl
    show mergeK (putK (dk F) (Sum.inr x.1) x.2) (dk G) = _
    rw [putK_new _ (valV_none n1)]
    have e : dk F ++ [(Sum.inr x.1, x.2)] = dk (F ++ [x]) := by unfold dk; rw [List.map_append]; rfl
    rw [e, merge_app (by rw [List.append_assoc]; exact nd), List.append_assoc]
    rfl
theorem merge_dk {F : List (Str × V)} (nd : (F.map (·.1)).Nodup) : mergeK [] (dk F) = dk F := merge_app (F := []) nd
theorem dk_keys (F : List (Str × V)) : (dk F).map (·.1) = (F.map (·.1)).map Sum.inr := by
  unfold dk
  rw [List.map_map, List.map_map]
  rfl
theorem dk_len (F : List (Str × V)) : (dk F).length = F.length := by unfold dk; rw [List.length_map]
/-- dict(list of pairs) -/
theorem call_dictK {X : Cx} (K : PySem.W.Frag) (h : X.K = K) (hc : X.calm = true) : CallR X (.type "dict") (fun xs H Q => ∃ (a : Addr) (ps : List Addr) (kvs : List (Key × V)), xs = [.ref a] ∧ SqL K H a (ps.map V.ref) ∧ Paired (fun p kv => SqT K H p [kV kv.1, kv.2]) ps kvs ∧
    ∀ p, H p = none → Q (.ref p) (upd H p (.dK (mergeK [] kvs)))) := by subst h; exact call_dictP hc
theorem paired_of {K : PySem.W.Frag} {H : Hp} : ∀ {ps : List (Addr × Str × V)}, (∀ q ∈ ps, H q.1 = some (.tup [.str q.2.1, q.2.2])) → Paired (fun p kv => SqT K H p [kV kv.1, kv.2]) (ps.map (·.1)) (dk (ps.map (·.2)))
  | [], _ => .nil
  | p :: ps, h => .cons (SqT.of (h p (List.mem_cons_self ..))) (paired_of fun q hq => h q (List.mem_cons_of_mem _ hq))
theorem eqv_nilT (X : List (Str × Int)) : PyData.eqv (pld X) (.tuple []) = X.isEmpty := by
  unfold pld
  rw [PyData.eqv]
  cases X with
  | nil => rw [List.map_nil, PyData.eqvAll]; rfl
  | cons n ns => rw [List.map_cons, PyData.eqvAll]; rfl
theorem PlAt.at {K : PySem.W.Frag} {H : Hp} {l : Addr} {X : List (Str × Int)} (x : PlAt H l X) {r : Int} (h0 : 0 ≤ r) (h1 : r < (X.length : Nat)) : ∃ xs t nm v, SqT K H l xs ∧ atI xs r = some (.ref t) ∧ H t = some (.tup [.str nm, .int v]) ∧ (nm, v) ∈ X := by
  obtain ⟨ps, e1, e2, e3⟩ := x
  have hj : r.toNat < ps.length := by rw [e2, List.length_map] at h1; omega
  have hm := List.getElem_mem hj
  refine ⟨_, ps[r.toNat].1, ps[r.toNat].2.1, ps[r.toNat].2.2, e1.sq, ?_, e3 _ hm, by rw [e2]; exact List.mem_map_of_mem (f := (·.2)) hm⟩
  have := atI_nat (xs := ps.map fun q => V.ref q.1) (j := r.toNat) (v := V.ref ps[r.toNat].1) (by rw [List.getElem?_map, List.getElem?_eq_getElem hj]; rfl)
  rw [show ((r.toNat : Nat) : Int) = r by omega] at this
  exact this
theorem PlAt.sq' {K : PySem.W.Frag} {H : Hp} {l : Addr} {X : List (Str × Int)} (x : PlAt H l X) : ∃ xs, SqT K H l xs ∧ xs.length = X.length := by
  obtain ⟨ps, h1, h2, _⟩ := x
  exact ⟨_, h1.sq, by rw [h2, List.length_map, List.length_map]⟩
/-! ### dict(placement) -/
def dkI (P : List (Str × Int)) : List (Key × V) := dk (P.map fun x => (x.1, V.int x.2))
theorem dkI_keys (P : List (Str × Int)) : (P.map fun x => (x.1, V.int x.2)).map (·.1) = P.map (·.1) := by
  rw [List.map_map]
  rfl
theorem valV_dkI {P : List (Str × Int)} (nd : (P.map (·.1)).Nodup) {nm : Str} {r : Int} (h : (nm, r) ∈ P) : valV (dkI P) (Sum.inr nm) = some (.int r) :=
  valV_dk (by rw [dkI_keys]; exact nd) (List.mem_map.mpr ⟨(nm, r), h, rfl⟩)
theorem valV_dkI_none {P : List (Str × Int)} {nm : Str} (h : nm ∉ P.map (·.1)) : valV (dkI P) (Sum.inr nm) = none := valV_none (by rw [dkI_keys]; exact h)
theorem pairs_in {X : Cx} {pins : List (Addr × Obj)} {σ : L2.St} {H : Hp} {s : Shared} (I : Inv X pins σ H s) : ∀ {ps : List (Addr × Str × Int)}, (∀ q ∈ ps, H q.1 = some (.tup [.str q.2.1, .int q.2.2])) →
    ∃ (vs : List (Value × Value)) (kv : List (Key × Value)), vs.length = ps.length ∧ KV (dkI (ps.map (·.2))) kv ∧ kv.length = ps.length ∧
      ∀ (j : Nat) (u v : Value), vs[j]? = some (u, v) → ∃ q k, ps[j]? = some q ∧ PairAt s.heap q.1 u v ∧ kv[j]? = some (k, v) ∧ (mixKind X.prog X.w).is k u = true
  | [], _ => ⟨[], [], rfl, .nil, rfl, fun j u v e => by cases e⟩
  | p :: ps, h => by
    obtain ⟨vs, kv, l1, rel, l2, f⟩ := pairs_in I fun q hq => h q (List.mem_cons_of_mem _ hq)
    obtain ⟨its, rv, ht, _⟩ := I.tuple (SqT.of (h p (List.mem_cons_self ..)))
    obtain ⟨u, y, ei, ru, ry⟩ := vals2 rv
    subst ei
    refine ⟨(u, y) :: vs, (Sum.inr p.2.1, y) :: kv, by rw [List.length_cons, List.length_cons, l1], .cons ⟨rfl, ry⟩ rel, by rw [List.length_cons, List.length_cons, l2], fun j u' v' e => ?_⟩
    cases j with
    | zero =>
      cases e
      exact ⟨p, _, rfl, .inl ht, rfl, kV_is (P := X.prog) (w := X.w) (k := Sum.inr p.2.1) ru⟩
    | succ j => exact f j u' v' (by simpa using e)
theorem call_dictT {X : Cx} (hcalm : X.calm = true) : CallR X (.type "dict") (fun xs H Q => ∃ (a : Addr) (P : List (Str × Int)), xs = [.ref a] ∧ PlD H a P ∧ (P.map (·.1)).Nodup ∧ P.length ≤ 1000 ∧ ∀ p, H p = none → Q (.ref p) (upd H p (.dK (dkI P)))) := by
  intro pins s σ H xs us Q I r q
  obtain ⟨a, P, rfl, ⟨ps, ob, od, hp, eP, hps⟩, nd, lP, q⟩ := q
  obtain ⟨u, rfl, ru⟩ := vals1 r
  obtain rfl : u = Value.ref a := ru
  obtain ⟨ho, hz, its, rel, ⟨o2, ho2, hc2, n2, hd2⟩⟩ := (show ObjOk X.prog X.w H s.heap a (.frz ob (.tup (ps.map fun q => V.ref q.1))) from I.hok a _ hp)
  have e2 : o2 = ob := by
    rw [ho] at ho2
    exact (Option.some.inj ho2).symm
  subst e2
  have ei : its = (ps.map (·.1)).map Value.ref := refs_at (by rw [List.map_map]; exact rel)
  obtain ⟨vs, kv, l1, rk, l2, f⟩ := pairs_in I hps
  have lp : ps.length = P.length := by rw [eP, List.length_map]
  have hlen : (dkI P).length ≤ sizeLine := by
    unfold dkI
    rw [dk_len, List.length_map]
    exact Nat.le_of_lt (small1000 lP)
  have hsz : vs.length ≤ sizeLine := by
    rw [l1, lp]
    exact Nat.le_of_lt (small1000 lP)
  refine PySem.call_dict_pairs (knd := mixKind X.prog X.w) (kvs := kv) (PairArg.tuple a its.toArray (fun j => (ps.map (·.1)).getD j 0) vs) (I.ok.hd hcalm) ⟨⟨o2, n2, ho, hc2, od, hd2⟩, ?_, fun j k v e => ?_⟩ ⟨by rw [l2, l1], fun j key v e => ?_⟩ hsz fun h' tk hd' k => ?_
  · rw [ei, List.size_toArray, List.length_map, List.length_map, l1]
  · obtain ⟨q', k', hq, hpa, _, _⟩ := f j k v e
    have hg : (ps.map (·.1))[j]? = some q'.1 := by rw [List.getElem?_map, hq]; rfl
    have hT : (ps.map (·.1)).getD j 0 = q'.1 := by rw [List.getD_eq_getElem?_getD, hg]; rfl
    show its.toArray[j]? = some (Value.ref ((ps.map (·.1)).getD j 0)) ∧ PairAt s.heap ((ps.map (·.1)).getD j 0) k v
    rw [hT]
    refine ⟨?_, hpa⟩
    rw [ei, List.getElem?_toArray, List.getElem?_map, hg]
    rfl
  · obtain ⟨q', k', _, _, hk, hi⟩ := f j key v e
    exact ⟨k', hk, hi⟩
  · have hm : (s.heap.objs.size == sysModules) = false := beq_eq_false_iff_ne.mpr (Nat.ne_of_gt I.big)
    have em : mergeK [] (dkI P) = dkI P := merge_dk (by rw [dkI_keys]; exact nd)
    have rk' : KV (dkI P) (merged [] kv) := by
      have := KV.merge (kvs := []) (vs := []) rk .nil
      rw [← eP, em] at this
      exact this
    exact ⟨.ref s.heap.objs.size, upd H s.heap.objs.size (.dK (dkI P)), I.laid (t' := tk) (fun b o e => k b o List.not_mem_nil e) (Nat.le_refl _) (show ObjOk X.prog X.w _ _ _ (.dK (dkI P)) from ⟨hlen, hm, merged [] kv, rk', hd'⟩), rfl, q _ (I.hok.fresh (Nat.le_refl _))⟩
end Fw
namespace Fw
open PySem PySem.Spec PyProof.Rows L2

/-- possible moves, one after another -/
inductive Wlk (n : Int) (D : List (Int × Int)) (P : List (Str × Int)) : List (Str × Int) → List (Str × Int) → Prop
  | nil : Wlk n D P [] P
  | snoc {ms P1 : List (Str × Int)} {nm : Str} {t : Int} : Wlk n D P ms P1 → (nm, t) ∈ mvs n D P1 P1 → Wlk n D P (ms ++ [(nm, t)]) (mvd P1 nm t)
theorem Wlk.keep {n : Int} {D : List (Int × Int)} {P ms P' : List (Str × Int)} (w : Wlk n D P ms P') (pl : Pl n P) : Pl n P' ∧ P'.length = P.length ∧ P'.map (·.1) = P.map (·.1) ∧ (∀ r, r ∈ P'.map (·.2) → r ∈ P.map (·.2)) ∧ ∀ x ∈ ms, Nam x.1 ∧ 0 ≤ x.2 ∧ x.2 < n := by
  induction w with
  | nil => exact ⟨pl, rfl, rfl, fun r hr => hr, fun x hx => absurd hx List.not_mem_nil⟩
  | @snoc ms P1 nm t w hm ih =>
    obtain ⟨i1, i2, i3, i4, i5⟩ := ih
    obtain ⟨c, hc, hr1, hr2⟩ := mvs_mem hm
    obtain ⟨y, hy, ey⟩ := List.mem_map.mp hr2
    have rr : 0 ≤ t ∧ t < n := by rw [← ey]; exact i1.rm y hy
    have nn : Nam nm := i1.nm.nam nm (List.mem_map.mpr ⟨(nm, c), hc, rfl⟩)
    refine ⟨i1.mvd rr.1 rr.2, by rw [mvd_len]; exact i2, by rw [mvd_names]; exact i3, fun r hr => i4 r ?_, fun x hx => ?_⟩
    · obtain ⟨z, hz, rfl⟩ := List.mem_map.mp hr
      obtain ⟨z', hz', rfl⟩ := List.mem_map.mp hz
      show (if z'.1 = nm then t else z'.2) ∈ _
      split
      · exact hr2
      · exact List.mem_map_of_mem (f := (·.2)) hz'
    · rcases List.mem_append.mp hx with hx | hx
      · exact i5 x hx
      · rw [List.mem_singleton.mp hx]
        exact ⟨nn, rr⟩
theorem LsAt.dp {K : PySem.W.Frag} {H : Hp} {l : Addr} {X : List (Str × Int)} (x : LsAt H l X) : Dp K H (.ref l) (.list (X.map pp)) := by
  obtain ⟨ps, h1, h2, h3⟩ := x
  rw [h2]
  exact .lst (SqL.of h1) (dp_pps h3)
theorem mvs_nams {n : Int} {D : List (Int × Int)} {P : List (Str × Int)} (pl : Pl n P) : ∀ x ∈ mvs n D P P, Nam x.1 := fun x hx => by
  obtain ⟨c, hc, _⟩ := mvs_mem (nm := x.1) (t := x.2) hx
  exact pl.nams (x.1, c) hc
section
variable {P : Program} {w : World} {K : PySem.W.Frag} {mg : Str → Option Value} {base : Heap}

def spLWalk : Sp := fun vs H Q _ => ∃ (s A B h p : Addr) (c : Nat) (n : Int) (D : List (Int × Int)) (P : List (Str × Int)) (m : Int), vs = [.ref s, .ref h, .ref p, .int m] ∧ StreamAt H s A B c ∧ c < 2 ^ 30 ∧ HouseAt H h n D ∧ Forest n D ∧ n ≤ 8 ∧ PlD H p P ∧ Pl n P ∧ P.length ≤ 12 ∧ 0 ≤ m ∧ m ≤ 50 ∧
  ∀ H' l t p' ms P', StreamAt H' s A B (c + m.toNat) → Fr s A H H' → H' l = some (.lst [.ref t, .ref p']) → PlD H' t ms → PlD H' p' P' → Wlk n D P ms P' → ms.length ≤ m.toNat → Q (.ref l) H'
abbrev nLWalk : List Str := ["_law_stream_here", "_law_house", "_law_placement", "_law_many", "_law_done", "_law_k", "_law_some"]
theorem scLWalk : FnScope nLWalk ["_law_stream_here", "_law_house", "_law_placement", "_law_many"] (defScope sLWalk) := ⟨rfl, rfl, rfl, by decide +kernel, rfl, by decide +kernel, by decide +kernel⟩
theorem ok_lwalk {f : Addr} {fd : FuncData} (F : Fun K "_law_random_walk" "_law_random_walk" sLWalk f fd) (T : Nm mg) (C_law_draw : Cal P w K mg base 2 "_law_draw" pDraw spDraw) (C_law_moves : Cal P w K mg base 2 "_law_moves" pLMoves spLMoves) (C_law_moved : Cal P w K mg base 2 "_law_moved" pLMoved spLMoved) : FnOk P w K mg base CX0 3 f fd pLWalk spLWalk := by
  refine F.ok scLWalk (fun vs H Q E h => ?_) (fun cdv A outer s H vs Q E hr h => ?_)
  · obtain ⟨s, A, B, h, p, c, n, D, P, m, rfl, _⟩ := h
    rfl
  · obtain ⟨s, A, B, h, p, c, n, D, P, m, rfl, hS, hc, hH, hF, n1, hP, pl, lP, m0, m1, q⟩ := h
    refine ⟨_, (pss_cons (ps_set (i := 4) scLWalk.nd rfl (.inl rfl) (pe_lst pa_nil))
      (pss_cons (ps_for PassesOwn.never rfl (pi_range1 (by rfl) T.range (pa_cons (pv 3) pa_nil)) (pg_name (i := 5) scLWalk.nd rfl (.inl rfl))
      (pss_cons (ps_set (i := 6) scLWalk.nd rfl (.inl rfl) (pe_cal C_law_moves hr (by rfl) (pa_cons (pv 1) (pa_cons (pv 2) pa_nil))))
       (pss_one (ps_if (pt_cmpR (op_neDK K rfl hr.units) (pv 6) (pe_lst pa_nil) (nomark _))
       (pss_cons (ps_expr (pe_bm PySem.F.plainAttrs_list PySem.F.slot_list_append PySem.F.type_list_append mt_append (pv 4) (pa_cons (pe_ix (ix_listK K rfl) (pv 6) (pe_cal C_law_draw hr (by rfl) (pa_cons (pv 0) (pa_cons (pe_callB (call_lenK K rfl) (by rfl) T.len (by decide +kernel) (pa_cons (pv 6) pa_nil)) pa_nil))) (fun _ _ => rfl)) pa_nil)))
        (pss_one (ps_set (i := 2) scLWalk.nd rfl (.inl rfl) (pe_cal C_law_moved hr (by rfl) (pa_cons (pv 2) (pa_cons (pe_ix (ix_tupK K rfl) (pe_ix (ix_listK K rfl) (pv 4) (pe_un un_neg pe_int) (fun _ _ => rfl)) pe_int (fun _ _ => rfl)) (pa_cons (pe_ix (ix_tupK K rfl) (pe_ix (ix_listK K rfl) (pv 4) (pe_un un_neg pe_int) (fun _ _ => rfl)) pe_int (fun _ _ => rfl)) pa_nil)))))))
       pss_nil))))
      (pss_one (ps_ret (pe_lst (pa_cons (pe_callTy (call_tupleF K rfl) (by rfl) T.tuple (by decide +kernel) (pa_cons (pv 4) pa_nil)) (pa_cons (pv 2) pa_nil))))))), ?_⟩
    refine ⟨Nat.zero_le _, fun R hR => ?_⟩
    have zR := hS.ne hR
    have sm := same_upd (o := .lst []) hR
    refine ⟨_, rfl, m, rfl, by omega, by omega, for_range (lo := 0) (n := m.toNat) (fun i σ' H' => ∃ (y5 y6 : Option V) (p' : Addr) (ms P' : List (Str × Int)), σ' = [some (.ref s), some (.ref h), some (.ref p'), some (.int m), some (.ref R), y5, y6] ∧ StreamAt H' s A B (c + i) ∧ Fr s A H H' ∧ HouseAt H' h n D ∧ LsAt H' R ms ∧ PlD H' p' P' ∧ Wlk n D P ms P' ∧ ms.length ≤ i)
      ⟨_, _, p, [], P, rfl, hS.same sm, Fr.of sm, hH.same sm, .nil upd_same, hP.same sm, .nil, Nat.le_refl _⟩ ?_ ?_⟩
    · rintro i σ' H1 hi ⟨y5, y6, p', ms, P', rfl, hS1, fr1, hH1, x1, hP1, wl, lm⟩
      obtain ⟨pl', lP', _, _, _⟩ := wl.keep pl
      refine ⟨_, rfl, _, rfl, h, p', n, D, P', rfl, hH1, hF, n1, hP1.pl, by omega, fun H2 l s2 hl x2 => ?_⟩
      have zl := hS1.ne hl
      refine ⟨_, rfl, Nat.zero_le _, fun e he => ?_⟩
      have s3 := s2.trans (same_upd (o := .lst []) he)
      have x3 := x2.same (same_upd (o := .lst []) he)
      refine ⟨.list ((mvs n D P' P').map pp), .list [], x3.dp, .lst (SqL.of upd_same) .nil, pps_shapedL (mvs_nams pl'), shaped_list [], _, rfl, ?_⟩
      rw [eqv_nilP]
      have hS3 := hS1.same s3
      have hH3 := hH1.same s3
      have hP3 := hP1.same s3
      have xR3 := x1.same s3
      have fr3 := fr1.trans (Fr.of s3)
      generalize upd H2 e (.lst []) = H3 at *
      have lmv := mvs_len n D P' P' n1
      by_cases em : (mvs n D P' P').isEmpty = true
      · rw [em]
        refine iteF ?_
        exact ⟨_, _, p', ms, P', rfl, hS3.mono (by omega), fr3, hH3, xR3, hP3, wl, by omega⟩
      · rw [Bool.eq_false_iff.mpr em]
        have l0 : 0 < (mvs n D P' P').length := by
          rw [List.length_pos_iff]
          exact fun e => em (by rw [e]; rfl)
        obtain ⟨xs, sq, lx⟩ := x3.sq (K := K)
        obtain ⟨rs, sqR, _⟩ := xR3.sq (K := K)
        refine iteT ⟨_, rfl, .inl ⟨rfl, _, sqR⟩, _, rfl, _, rfl, _, rfl, l, _, rfl, .inl sq, s, A, B, c + i, _, rfl, hS3, by omega, ?_, ?_, fun H4 v hS4 fr4 v0 v1 => ?_⟩
        · rw [lx]; omega
        · rw [lx]; omega
        rw [lx] at v1
        have x4 := x3.fr hS3 fr4 zl
        obtain ⟨xs', t, nm, r, sq', at', et, mem⟩ := x4.at (K := K) v0 v1
        obtain ⟨acc, a1, a2, a3⟩ := (xR3.fr hS3 fr4 zR).snoc (t := t) et
        refine ⟨l, _, _, _, rfl, rfl, sq', at', R, _, _, rfl, rfl, a1, ?_, ?_⟩
        · rw [a2]
          exact small1000 (by omega)
        have hS5 := hS4.put (o := .lst (acc ++ [.ref t])) zR
        have fr5 := (fr3.trans fr4).put (o := .lst (acc ++ [.ref t])) hR
        have tk5 : Tk H3 (upd H4 R (.lst (acc ++ [.ref t]))) := (Tk.fr fr4 hS3).put a1
        have et5 : (upd H4 R (.lst (acc ++ [.ref t]))) t = some (.tup [.str nm, .int r]) := by
          rw [upd_ne (ne_of et a1 (by intro z; cases z))]
          exact et
        have eR5 : (upd H4 R (.lst (acc ++ [.ref t]))) R = some (.lst (acc ++ [.ref t])) := upd_same
        generalize upd H4 R (.lst (acc ++ [.ref t])) = H5 at *
        refine ⟨_, rfl, _, rfl, _, rfl, R, _, _, _, rfl, rfl, SqL.of eR5, atI_last _ _, t, _, _, _, rfl, rfl, SqT.of et5, atI0, _, rfl, _, rfl, R, _, _, _, rfl, rfl, SqL.of eR5, atI_last _ _, t, _, _, _, rfl, rfl, SqT.of et5, atI1, ?_⟩
        refine ⟨p', P', nm, r, rfl, (hP3.tk tk5).pl, by omega, fun H6 u s6 pu => ?_⟩
        exact ⟨_, _, u, ms ++ [(nm, r)], _, rfl, hS5.same s6, fr5.trans (Fr.of s6), (hH3.tk tk5).same s6, a3.same s6, pu, wl.snoc mem, by rw [List.length_append, List.length_singleton]; omega⟩
    · rintro σ' H1 ⟨y5, y6, p', ms, P', rfl, hS1, fr1, hH1, x1, hP1, wl, lm⟩
      obtain ⟨xs, e1, e2⟩ := x1.tup
      refine ⟨_, rfl, R, _, rfl, SqL.of e1, fun t ob ht od => ⟨_, rfl, by show 2 ≤ sizeLine; decide, fun l hl => ?_⟩⟩
      have s2 := same_upd (o := .frz ob (.tup xs)) ht
      have s3 := same_upd (o := .lst [.ref t, .ref p']) hl
      exact q _ l t p' ms P' (hS1.same (s2.trans s3)) (fr1.trans (Fr.of (s2.trans s3))) upd_same ((e2 t ob ht od).same s3) (hP1.same (s2.trans s3)) wl lm
end
end Fw
namespace Fw
open PySem PySem.Spec PyProof.Rows L2

theorem put_new {G : List (Str × Int)} {nm : Str} {v : Int} (h : nm ∉ G.map (·.1)) : putK (dkI G) (Sum.inr nm) (.int v) = dkI (G ++ [(nm, v)]) := by
  rw [putK_new _ (valV_dkI_none h)]
  unfold dkI dk
  rw [List.map_append, List.map_append]
  rfl
theorem put_old {G : List (Str × Int)} {nm : Str} {v : Int} (h : nm ∈ G.map (·.1)) : putK (dkI G) (Sum.inr nm) (.int v) = dkI (mvd G nm v) := by
  unfold putK
  rw [if_pos]
  · unfold dkI dk mvd
    rw [List.map_map, List.map_map, List.map_map, List.map_map]
    refine List.map_congr_left fun x _ => ?_
    show (if (Sum.inr x.1 : Key) = Sum.inr nm then (Sum.inr x.1, V.int v) else (Sum.inr x.1, V.int x.2)) = (Sum.inr x.1, V.int (if x.1 = nm then v else x.2))
    by_cases c : x.1 = nm
    · rw [if_pos (by rw [c]), if_pos c]
    · rw [if_neg (fun e => c (Sum.inr.inj e)), if_neg c]
  · obtain ⟨x, hx, e⟩ := List.mem_map.mp h
    rw [List.any_eq_true]
    refine ⟨(Sum.inr x.1, V.int x.2), ?_, decide_eq_true (by rw [← e])⟩
    unfold dkI dk
    rw [List.map_map]
    exact List.mem_map.mpr ⟨x, hx, rfl⟩
theorem dkI_len (G : List (Str × Int)) : (dkI G).length = G.length := by
  unfold dkI
  rw [dk_len, List.length_map]
def InR (n : Int) (G : List (Str × Int)) : Prop := ∀ x ∈ G, 0 ≤ x.2 ∧ x.2 < n
theorem InR.mvd {n : Int} {G : List (Str × Int)} (h : InR n G) {nm : Str} {v : Int} (h0 : 0 ≤ v) (h1 : v < n) : InR n (mvd G nm v) := fun x hx => by
  obtain ⟨y, hy, rfl⟩ := List.mem_map.mp hx
  show 0 ≤ (if y.1 = nm then v else y.2) ∧ (if y.1 = nm then v else y.2) < n
  split
  · exact ⟨h0, h1⟩
  · exact h y hy
theorem InR.snoc {n : Int} {G : List (Str × Int)} (h : InR n G) {nm : Str} {v : Int} (h0 : 0 ≤ v) (h1 : v < n) : InR n (G ++ [(nm, v)]) := fun x hx => by
  rcases List.mem_append.mp hx with hx | hx
  · exact h x hx
  · rw [List.mem_singleton.mp hx]
    exact ⟨h0, h1⟩
theorem key_val {G : List (Str × Int)} {nm : Str} (h : nm ∈ G.map (·.1)) : ∃ r, (nm, r) ∈ G := by
  obtain ⟨x, hx, e⟩ := List.mem_map.mp h
  exact ⟨x.2, by rw [← e]; exact hx⟩
theorem two_at {a b : Int} {k : Bool} : ∃ v, atI [V.int a, V.int b] (if k = true then 1 else 0) = some (.int v) ∧ (v = a ∨ v = b) := by
  cases k with
  | true => exact ⟨b, atI1, .inr rfl⟩
  | false => exact ⟨a, atI0, .inl rfl⟩
theorem at_str {xs : List Str} {r : Int} (h0 : 0 ≤ r) (h1 : r < (xs.length : Nat)) : ∃ x, x ∈ xs ∧ atI (xs.map V.str) r = some (V.str x) := by
  have hj : r.toNat < xs.length := by omega
  refine ⟨xs[r.toNat], List.getElem_mem hj, ?_⟩
  have := atI_nat (xs := xs.map V.str) (j := r.toNat) (v := V.str xs[r.toNat]) (by rw [List.getElem?_map, List.getElem?_eq_getElem hj]; rfl)
  rw [show ((r.toNat : Nat) : Int) = r by omega] at this
  exact this
section
variable {P : Program} {w : World} {K : PySem.W.Frag} {mg : Str → Option Value} {base : Heap}

end
end Fw
namespace Fw
open PySem PySem.Spec PyProof.Rows L2
open RZ
/-- zip of two tuples, the second the shorter -/
theorem lc_zipS {K : PySem.W.Frag} {a b : Addr} {xs ys : List V} {g : TG} {tt : TT} {te : TE} {vs : List Nat} {σ : L2.St} {H1 : Hp} {D : Addr} {Qd : Hp → Prop} (hl : ys.length ≤ xs.length) (Pv : Nat → Hp → Prop) (h0 : Pv 0 (upd H1 D (.lst []))) (hq : ∀ i H, Pv i H → SqT K H a xs ∧ SqT K H b ys)
    (hs : ∀ (i : Nat) (x y : V) (T : Addr) (H : Hp), xs[i]? = some x → ys[i]? = some y → Pv i H → H T = none → g (.ref T) (wipe σ vs) (upd H T (.tup [x, y])) fun σ2 H2 => wipe σ2 vs = wipe σ vs ∧ tt σ2 H2 fun b H3 =>
      if b = true then te σ2 H3 fun y H4 => ∃ acc, H4 D = some (.lst acc) ∧ acc.length < sizeLine ∧ Pv (i + 1) (upd H4 D (.lst (acc ++ [y]))) else Pv (i + 1) H3) (hd : ∀ H, Pv ys.length H → Qd H) :
    ∃ W : Nat → Nat → Hp → Prop, (∃ m, W 0 m (upd H1 D (.lst []))) ∧ ∀ i m H, W i m H →
      ((ItzT K a b).stop i H ∧ Qd H) ∨ ((ItzT K a b).go i H ∧ ∃ Nx : Hp → Prop, (∀ H', Nx H' → ∃ m', m' < m ∧ W (i + 1) m' H') ∧ ∀ x H', (ItzT K a b).yld i H x H' → g x (wipe σ vs) H' fun σ2 H2 => wipe σ2 vs = wipe σ vs ∧ tt σ2 H2 fun b H3 =>
        if b = true then te σ2 H3 fun y H4 => ∃ acc, H4 D = some (.lst acc) ∧ acc.length < sizeLine ∧ Nx (upd H4 D (.lst (acc ++ [y]))) else Nx H3) := by
  refine ⟨fun i m H => m = ys.length - i ∧ i ≤ ys.length ∧ Pv i H, ⟨ys.length, rfl, Nat.zero_le _, h0⟩, ?_⟩
  rintro i m H ⟨rfl, hi, p⟩
  obtain ⟨qx, qy⟩ := hq i H p
  by_cases hlt : i < ys.length
  · have hx : xs[i]? = some xs[i] := List.getElem?_eq_getElem (by omega)
    have hy : ys[i]? = some ys[i] := List.getElem?_eq_getElem hlt
    refine .inr ⟨⟨xs, ys, _, _, qx, qy, hx, hy⟩, Pv (i + 1), fun H' p' => ⟨ys.length - (i + 1), by omega, rfl, hlt, p'⟩, fun v H' y => ?_⟩
    obtain ⟨T, x', y', rfl, hT, rfl, f1, f2⟩ := y
    exact hs i x' y' T H (f1 xs qx) (f2 ys qy) p hT
  · have e : i = ys.length := by omega
    subst e
    exact .inl ⟨⟨xs, ys, qx, qy, Or.inr (Nat.le_refl _)⟩, hd H p⟩
theorem tp_ty {K : PySem.W.Frag} {H : Hp} {p : Addr} {xs : List V} (h : TpAt H p xs) : TyX K H (.ref p) (.type "tuple") := h.elim (fun h => .base (.tup h)) fun ⟨_, _, h⟩ => .fTuple h
theorem k_ss : kitB "str" "str" = some true := by decide +kernel
theorem k_tt' : kitB "tuple" "tuple" = some true := by decide +kernel
theorem cut1 (xs : List V) : cutV xs (some 1) none = xs.drop 1 := by
  unfold cutV
  show (xs.drop (min 1 xs.length)).take (xs.length - min 1 xs.length) = xs.drop 1
  cases xs with
  | nil => rfl
  | cons x r =>
    rw [show min 1 (x :: r).length = 1 by simp]
    exact List.take_of_length_le (by simp)
theorem one_le {c : Nat} (h : 97 ≤ c) : decide ((⟨#[c]⟩ : Str).cps.toList < (Str.ofString "a").cps.toList) = false := by
  rw [show (Str.ofString "a").cps.toList = [97] by decide +kernel]
  rw [decide_eq_false_iff_not]
  intro h2
  have h2 : [c] < [97] := h2
  rw [List.cons_lt_cons_iff] at h2
  rcases h2 with h2 | ⟨_, h2⟩
  · omega
  · exact absurd h2 (List.lt_irrefl _)
theorem one_ge {c : Nat} (h : c ≤ 122) : decide ((Str.ofString "z").cps.toList < (⟨#[c]⟩ : Str).cps.toList) = false := by
  rw [show (Str.ofString "z").cps.toList = [122] by decide +kernel]
  rw [decide_eq_false_iff_not]
  intro h2
  have h2 : [122] < [c] := h2
  rw [List.cons_lt_cons_iff] at h2
  rcases h2 with h2 | ⟨_, h2⟩
  · omega
  · exact absurd h2 (List.lt_irrefl _)
theorem names_snoc {P : List (Str × Int)} {k : Nat} {nm : Str} {r : Int} (h : P[k]? = some (nm, r)) : (P.take (k + 1)).map (·.1) = (P.take k).map (·.1) ++ [nm] := by
  rw [take_snoc h, List.map_append]
  rfl
section
variable {P : Program} {w : World} {K : PySem.W.Frag} {mg : Str → Option Value} {base : Heap}

end
end Fw
namespace Fw
open PySem PySem.Spec PyProof.Rows L2

theorem SP.shape {R : Int → Int → Prop} {a b : Int} {p : List Int} (h : SP R a b p) : (p = [a] ∧ a = b) ∨ ∃ m, p = a :: (m ++ [b]) := by
  induction h with
  | one a => exact .inl ⟨rfl, rfl⟩
  | cons r h n ih =>
    rcases ih with ⟨e, e'⟩ | ⟨m, e⟩
    · exact .inr ⟨[], by rw [e, e']; rfl⟩
    · exact .inr ⟨_ :: m, by rw [e]; rfl⟩
def innr (p : List Int) : List Int := (p.drop 1).take (p.length - 2)
theorem SP.inner {R : Int → Int → Prop} {a b : Int} {p : List Int} (h : SP R a b p) (r : Int) : r ∈ innr p ↔ r ∈ p ∧ r ≠ a ∧ r ≠ b := by
  rcases h.shape with ⟨e, e'⟩ | ⟨m, e⟩
  · rw [e]
    constructor
    · intro z; cases z
    · rintro ⟨z, n, _⟩
      exact absurd (List.mem_singleton.mp z) n
  · have nd := h.nodup
    rw [e] at nd ⊢
    have ei : innr (a :: (m ++ [b])) = m := by
      unfold innr
      rw [List.drop_succ_cons, List.drop_zero, List.length_cons, List.length_append, List.length_singleton]
      exact List.take_left' (by omega)
    rw [ei]
    rw [List.nodup_cons, List.mem_append, not_or, List.nodup_append] at nd
    obtain ⟨⟨n1, n2⟩, n3, _, n4⟩ := nd
    constructor
    · intro hr
      exact ⟨List.mem_cons_of_mem _ (List.mem_append.mpr (.inl hr)), fun e => n1 (e ▸ hr), fun e => n4 r hr b (List.mem_singleton.mpr rfl) e⟩
    · rintro ⟨z, ha, hb⟩
      rcases List.mem_cons.mp z with z | z
      · exact absurd z ha
      · rcases List.mem_append.mp z with z | z
        · exact z
        · exact absurd (List.mem_singleton.mp z) hb
theorem cut_inner (p : List Int) (h : 0 < p.length) : cutV (vi p) (some 1) (some (-1)) = vi (innr p) := by
  unfold cutV innr vi
  rw [List.map_take, List.map_drop]
  show ((p.map V.int).drop (min 1 (p.map V.int).length)).take (((-1 : Int) + ((p.map V.int).length : Nat)).toNat - min 1 (p.map V.int).length) = _
  rw [List.length_map, show min 1 p.length = 1 by omega, show ((-1 : Int) + (p.length : Nat)).toNat - 1 = p.length - 2 by omega]
/-- r lies within the way from a to b -/
def pas (D : List (Int × Int)) (a b r : Int) : Prop := ∃ p, SP (adj D) a b p ∧ r ∈ p ∧ r ≠ a ∧ r ≠ b
open Classical in
noncomputable def psg (D : List (Int × Int)) (G : List (Str × Int)) (r : Int) (X : List (Str × Int)) : List Str := (X.filter fun x => decide (∃ t, (x.1, t) ∈ G ∧ pas D x.2 t r)).map (·.1)
open Classical in
theorem psg_snoc {D : List (Int × Int)} {G X : List (Str × Int)} {r : Int} {k : Nat} {nm : Str} {c t : Int} (nd : (G.map (·.1)).Nodup) (h : X[k]? = some (nm, c)) (ht : (nm, t) ∈ G) : psg D G r (X.take (k + 1)) = psg D G r (X.take k) ++ if pas D c t r then [nm] else [] := by
  unfold psg
  rw [take_snoc h, filter_snoc, List.map_append]
  congr 1
  by_cases z : pas D c t r
  · rw [if_pos z, if_pos (decide_eq_true ⟨t, ht, z⟩)]
    rfl
  · rw [if_neg z, if_neg]
    · rfl
    · rw [decide_eq_true_eq]
      rintro ⟨t', ht', z'⟩
      have e : t = t' := congrArg Prod.snd (key_uniq nd ht ht' rfl)
      exact z (e ▸ z')
theorem psg_len (D : List (Int × Int)) (G : List (Str × Int)) (r : Int) (X : List (Str × Int)) : (psg D G r X).length ≤ X.length := by
  unfold psg
  rw [List.length_map]
  exact List.length_filter_le _ _
theorem pas_of {D : List (Int × Int)} {n a b r : Int} (f : Forest n D) {p : List Int} (h : SP (adj D) a b p) : pas D a b r ↔ r ∈ p ∧ r ≠ a ∧ r ≠ b := by
  constructor
  · rintro ⟨q, hq, z⟩
    rw [f.uniq _ _ _ _ h hq]
    exact z
  · intro z
    exact ⟨p, h, z⟩
section
variable {P : Program} {w : World} {K : PySem.W.Frag} {mg : Str → Option Value} {base : Heap}

def spPTgt : Sp := fun vs H Q _ => ∃ (h p g : Addr) (n : Int) (D : List (Int × Int)) (P G : List (Str × Int)) (nm : Str) (a b : Int), vs = [.ref h, .ref p, .ref g, .str nm] ∧ HouseAt H h n D ∧ Forest n D ∧ n ≤ 8 ∧ PlAt H p P ∧ Pl n P ∧ PlAt H g G ∧ Pl n G ∧ (nm, a) ∈ P ∧ (nm, b) ∈ G ∧
  (∀ H', Same H H' → (∀ p, ¬ SP (adj D) a b p) → Q .non H') ∧ (∀ H' t p, Same H H' → SP (adj D) a b p → p.length ≤ 8 → H' t = some (.tup (vi p)) → Q (.ref t) H')
abbrev nPTgt : List Str := ["house", "placement", "target", "name"]
theorem scPTgt : FnScope nPTgt ["house", "placement", "target", "name"] (defScope sPTgt) := ⟨rfl, rfl, rfl, by decide +kernel, rfl, by decide +kernel, by decide +kernel⟩
theorem ok_ptgt {f : Addr} {fd : FuncData} {k : Nat} (F : Fun K "path_to_target" "path_to_target" sPTgt f fd) (Cpath_between : Cal P w K mg base (k + 3) "path_between" ["house", "a", "b"] spPath) (Croom_of : Cal P w K mg base (k + 3) "room_of" pRoomOf spRoomOf) : FnOk P w K mg base CX0 (k + 4) f fd pPTgt spPTgt := by
  refine F.ok scPTgt (fun vs H Q E h => ?_) (fun cdv A outer s H vs Q E hr h => ?_)
  · obtain ⟨h, p, g, n, D, P, G, nm, a, b, rfl, _⟩ := h
    rfl
  · obtain ⟨h, p, g, n, D, P, G, nm, a, b, rfl, hH, hF, n1, hP, pl, hG, plG, ma, mb, q1, q2⟩ := h
    refine ⟨_, (pss_one (ps_ret (pe_cal Cpath_between hr (by rfl) (pa_cons (pv 0) (pa_cons (pe_cal Croom_of hr (by rfl) (pa_cons (pv 1) (pa_cons (pv 3) pa_nil))) (pa_cons (pe_cal Croom_of hr (by rfl) (pa_cons (pv 2) (pa_cons (pv 3) pa_nil))) pa_nil)))))), ?_⟩
    exact ⟨_, rfl, _, rfl, _, rfl, p, P, nm, a, rfl, hP, ma, pl.nodup, _, rfl, _, rfl, g, G, nm, b, rfl, hG, mb, plG.nodup, h, n, D, a, b, rfl, hH, hF, n1, (pl.rm _ ma).1, (pl.rm _ ma).2, (plG.rm _ mb).1, (plG.rm _ mb).2, q1, q2⟩
def spPassed : Sp := fun vs H Q _ => ∃ (h p g : Addr) (n : Int) (D : List (Int × Int)) (P G : List (Str × Int)) (nm : Str) (a b : Int), vs = [.ref h, .ref p, .ref g, .str nm] ∧ HouseAt H h n D ∧ Forest n D ∧ n ≤ 8 ∧ PlAt H p P ∧ Pl n P ∧ PlAt H g G ∧ Pl n G ∧ (nm, a) ∈ P ∧ (nm, b) ∈ G ∧
  ∀ H' t l, Same H H' → H' t = some (.tup (vi l)) → l.length ≤ 8 → (∀ r, r ∈ l ↔ pas D a b r) → Q (.ref t) H'
abbrev nPassed : List Str := ["house", "placement", "target", "name", "path"]
theorem scPassed : FnScope nPassed ["house", "placement", "target", "name"] (defScope sPassed) := ⟨rfl, rfl, rfl, by decide +kernel, rfl, by decide +kernel, by decide +kernel⟩
theorem ok_passed {f : Addr} {fd : FuncData} {k : Nat} (F : Fun K "passed_rooms" "passed_rooms" sPassed f fd) (Cpath_to_target : Cal P w K mg base (k + 4) "path_to_target" pPTgt spPTgt) : FnOk P w K mg base CX0 (k + 5) f fd pPTgt spPassed := by
  refine F.ok scPassed (fun vs H Q E h => ?_) (fun cdv A outer s H vs Q E hr h => ?_)
  · obtain ⟨h, p, g, n, D, P, G, nm, a, b, rfl, _⟩ := h
    rfl
  · obtain ⟨h, p, g, n, D, P, G, nm, a, b, rfl, hH, hF, n1, hP, pl, hG, plG, ma, mb, q⟩ := h
    refine ⟨_, (pss_cons (ps_set (i := 4) scPassed.nd rfl (.inl rfl) (pe_cal Cpath_to_target hr (by rfl) (pa_cons (pv 0) (pa_cons (pv 1) (pa_cons (pv 2) (pa_cons (pv 3) pa_nil))))))
      (pss_one (ps_ret (pe_ifExp (pt_cmp (pc_isN (pv 4))) (pe_tup pa_nil) (pe_slice sl_tupA (pv 4) (po_some pe_int) (po_some (pe_un un_neg pe_int))))))), ?_⟩
    refine ⟨_, rfl, _, rfl, _, rfl, _, rfl, h, p, g, n, D, P, G, nm, a, b, rfl, hH, hF, n1, hP, pl, hG, plG, ma, mb, fun H1 s1 no => ?_, fun H1 t w s1 sp lw e1 => ?_⟩
    · refine ⟨_, rfl, _, rfl, iteT ⟨Nat.zero_le _, fun t ht => ?_⟩⟩
      refine q _ t [] (s1.trans (same_upd ht)) upd_same (by decide) fun r => ⟨fun z => (by cases z), fun ⟨w, hw, _⟩ => absurd hw (no w)⟩
    · have lw0 : 0 < w.length := List.length_pos_of_mem sp.head
      refine ⟨_, rfl, _, rfl, iteF ⟨_, rfl, _, rfl, _, rfl, _, rfl, t, _, rfl, SqT.of e1, fun hf => ?_, fun _ u hu => ?_⟩⟩
      · have h1 : min 1 (vi w).length = 0 := hf.1
        rw [List.length_map] at h1
        omega
      · have ec := cut_inner w lw0
        rw [show cutV (vi w) (some 1) (some (-1)) = vi (innr w) from ec]
        refine q _ u (innr w) (s1.trans (same_upd hu)) upd_same ?_ fun r => ?_
        · unfold innr
          rw [List.length_take]
          omega
        · rw [sp.inner, pas_of hF sp]
end
end Fw
namespace Fw
open PySem PySem.Spec PyProof.Rows L2
/-- xs.extend(t), t a tuple whose other parts are not told -/
theorem meets_ext (l b : Addr) (mine others : Array Value) (n m : Nat) (dd : Option Addr) (ss : Array (Option Value)) (z : mine.size + others.size ≤ sizeLine) :
    Meets (Builtin.«list.extend» ⟨[.ref l, .ref b], []⟩) (fun _ R s => s.heap.get? l = some { cls := .type "list", data := .seq mine n } ∧ s.heap.get? b = some { cls := .type "tuple", dict := dd, data := .seq others m, slots := ss } ∧
      R (.ok (.ret Value.none)) { s with heap := s.heap.update l (Obj.mapSeq (· ++ others)), toks := s.toks }) :=
  .of_wp fun prog w A R s h => by
    obtain ⟨hp, g, d, tk, os⟩ := s
    obtain ⟨hl, hb, h⟩ := h
    have nl : ¬ (!mine.isEmpty && Builtin.List.listTooLong (mine.size + others.size)) = true := by
      rw [notLongL z, Bool.and_false]
      exact Bool.false_ne_true
    have f2 := AutoSeq1.sub_tuple_tuple
    have f4 := AutoSeq1.sub_tuple_list
    have f3 := AutoSeq1.sub_list_list
    have z1 : (mine ++ others).size ≤ sizeLine + 1 := by rw [Array.size_append]; omega
    wp_walk using (wpAny_updateSeq hl rfl (hz := by omega) (_hz' := z1)), wpAny_loadPart hl, wpAny_loadPart hb
    exact ⟨_, rfl, h⟩
def rExtT (K : PySem.W.Frag) : V → List V → Hp → VK → Prop := fun x vs H Q => ∃ l b xs zs, x = .ref l ∧ vs = [.ref b] ∧ H l = some (.lst xs) ∧ SqT K H b zs ∧ xs.length + zs.length ≤ sizeLine ∧ Q .non (upd H l (.lst (xs ++ zs)))
theorem mt_extendT {X : Cx} : MtM X "list.extend" (rExtT X.K) := by
  intro pins s σ H x vs v us Q I rx rv h
  obtain ⟨l, b, xs, zs, rfl, rfl, hl, hb, hz, q⟩ := h
  cases rx
  obtain ⟨u, rfl, ru⟩ := vals1 rv
  cases ru
  obtain ⟨_, its, n, r, e1, e⟩ := I.lstM hl
  obtain ⟨ys, r2, ⟨o, ho, hc, m, hd⟩, _⟩ := I.tuple hb
  obtain ⟨c, dd, da, ss⟩ := o
  cases hc
  cases hd
  have e2 := r2.length
  refine call_meets F.slot_list_extend ⟨_, e, rfl⟩ F.entry_list_extend (F.args_list_extend_2 _ _) (meets_ext l b its.toArray ys.toArray n m dd ss ?_) ⟨e, ho, ?_⟩
  · rw [List.size_toArray, List.size_toArray]
    omega
  · exact ⟨.non, _, I.lset (its' := its ++ ys) hl e (by simp) (r.append r2) (by rw [List.length_append]; omega), rfl, q⟩
end Fw
namespace Fw
open PySem PySem.Spec PyProof.Rows L2
theorem strs_eq0 {K : PySem.W.Frag} {σ : L2.St} {L : Addr} {H : Hp} {Q : Bool → Hp → Prop} {ns : List Str} (e : H L = some (.lst (ns.map V.str))) (ok : ∀ x ∈ ns, Nam x) (h : ∀ H', Same H H' → Q ns.isEmpty H') :
    tLst tNil σ H fun y H2 => rEqD K (.ref L) y H2 fun x H3 => ∃ k, x = .bl k ∧ Q k H3 := by
  refine ⟨Nat.zero_le _, fun p hp => ⟨.list (ns.map .str), .list [], .lst (SqL.of (same_upd hp _ _ e)) (dp_strs ns), .lst (SqL.of upd_same) .nil, strs_shaped fun x hx => nam_ok (ok x hx), shaped_list [], _, rfl, ?_⟩⟩
  have ee : PyData.eqv (.list (ns.map .str)) (.list []) = ns.isEmpty := by
    rw [PyData.eqv]
    cases ns with
    | nil => rw [List.map_nil, PyData.eqvAll]; rfl
    | cons n ns => rw [List.map_cons, PyData.eqvAll]; rfl
  rw [ee]
  exact h _ (same_upd hp)
open Classical in
/-- who of the rooms R passes r -/
noncomputable def psgW (D : List (Int × Int)) (G : List (Str × Int)) (r : Int) (R : List Int) (X : List (Str × Int)) : List Str := (X.filter fun x => decide (x.2 ∈ R ∧ ∃ t, (x.1, t) ∈ G ∧ pas D x.2 t r)).map (·.1)
open Classical in
theorem psgW_snoc {D : List (Int × Int)} {G X : List (Str × Int)} {r : Int} {R : List Int} {k : Nat} {nm : Str} {c t : Int} (nd : (G.map (·.1)).Nodup) (h : X[k]? = some (nm, c)) (ht : (nm, t) ∈ G) : psgW D G r R (X.take (k + 1)) = psgW D G r R (X.take k) ++ if c ∈ R ∧ pas D c t r then [nm] else [] := by
  have e : (∃ t', (nm, t') ∈ G ∧ pas D c t' r) ↔ pas D c t r := ⟨fun ⟨t', h1, h2⟩ => by rw [show t = t' from congrArg Prod.snd (key_uniq nd ht h1 rfl)]; exact h2, fun h => ⟨t, ht, h⟩⟩
  unfold psgW
  rw [take_snoc h, filter_snoc, List.map_append]
  congr 1
  by_cases z : c ∈ R ∧ pas D c t r
  · rw [if_pos z, if_pos (decide_eq_true ⟨z.1, e.mpr z.2⟩)]
    rfl
  · rw [if_neg z, if_neg (by rw [decide_eq_true_eq]; exact fun y => z ⟨y.1, e.mp y.2⟩)]
    rfl
theorem psgW_len (D : List (Int × Int)) (G : List (Str × Int)) (r : Int) (R : List Int) (X : List (Str × Int)) : (psgW D G r R X).length ≤ X.length := by
  unfold psgW
  rw [List.length_map]
  exact List.length_filter_le _ _
open Classical in
theorem psgW_nil {D : List (Int × Int)} {G : List (Str × Int)} {r : Int} {R : List Int} {X : List (Str × Int)} : (psgW D G r R X).isEmpty = true ↔ ∀ nm c t, (nm, c) ∈ X → c ∈ R → (nm, t) ∈ G → ¬ pas D c t r := by
  unfold psgW
  rw [List.isEmpty_iff, List.map_eq_nil_iff, List.filter_eq_nil_iff]
  constructor
  · intro h nm c t h1 h2 h3 h4
    exact h _ h1 (decide_eq_true ⟨h2, t, h3, h4⟩)
  · intro h x hx z
    obtain ⟨h1, t, h2, h3⟩ := of_decide_eq_true z
    exact h x.1 x.2 t hx h1 h2 h3
theorem psgW_nam {D : List (Int × Int)} {G : List (Str × Int)} {r : Int} {R : List Int} {X : List (Str × Int)} {n : Int} (pl : Pl n X) : ∀ x ∈ psgW D G r R X, Nam x := fun x hx => by
  unfold psgW at hx
  obtain ⟨y, hy, rfl⟩ := List.mem_map.mp hx
  exact pl.nm.nam _ (List.mem_map_of_mem (f := (·.1)) (List.mem_filter.mp hy).1)
open Classical in
/-- the free rooms of R -/
noncomputable def fre (D : List (Int × Int)) (P G : List (Str × Int)) (R : List Int) : List Int := R.filter fun r => decide (∀ nm c t, (nm, c) ∈ P → c ∈ R → (nm, t) ∈ G → r ≠ t ∧ ¬ pas D c t r)
open Classical in
theorem fre_of {D : List (Int × Int)} {P G : List (Str × Int)} {R : List Int} {f : Int → Bool} (h : ∀ r ∈ R, (f r = true ↔ ∀ nm c t, (nm, c) ∈ P → c ∈ R → (nm, t) ∈ G → r ≠ t ∧ ¬ pas D c t r)) : R.filter f = fre D P G R := by
  unfold fre
  refine List.filter_congr fun r hr => ?_
  rw [Bool.eq_iff_iff, decide_eq_true_eq]
  exact h r hr
theorem fre_len (D : List (Int × Int)) (P G : List (Str × Int)) (R : List Int) : (fre D P G R).length ≤ R.length := List.length_filter_le _ _
theorem inside_get {P : List (Str × Int)} {R : List Int} {nm : Str} (h : nm ∈ inside P R) : ∃ c, (nm, c) ∈ P ∧ c ∈ R := by
  unfold inside at h
  obtain ⟨x, hx, rfl⟩ := List.mem_map.mp h
  have := List.mem_filter.mp hx
  exact ⟨x.2, this.1, of_decide_eq_true this.2⟩
theorem mem_inside' {P : List (Str × Int)} {R : List Int} {nm : Str} {c : Int} (h : (nm, c) ∈ P) (hc : c ∈ R) : nm ∈ inside P R := by
  unfold inside
  exact List.mem_map.mpr ⟨(nm, c), List.mem_filter.mpr ⟨h, decide_eq_true hc⟩, rfl⟩
section
variable {P : Program} {w : World} {K : PySem.W.Frag} {mg : Str → Option Value} {base : Heap}
def spFree (K : PySem.W.Frag) : Sp := fun vs H Q _ => ∃ (h p g rl : Addr) (n : Int) (D : List (Int × Int)) (P G : List (Str × Int)) (R : List Int), vs = [.ref h, .ref p, .ref g, .ref rl] ∧ HouseAt H h n D ∧ Forest n D ∧ n ≤ 8 ∧ PlAt H p P ∧ Pl n P ∧ P.length ≤ 60 ∧ PlAt H g G ∧ Pl n G ∧ (∀ x ∈ P.map (·.1), x ∈ G.map (·.1)) ∧ SqT K H rl (vi R) ∧ R.length ≤ 20 ∧
  ∀ H' t, Same H H' → H' t = some (.tup (vi (fre D P G R))) → Q (.ref t) H'
abbrev nFree : List Str := ["house", "placement", "target", "region", "needed", "name", "room"]
theorem scFree : FnScope nFree ["house", "placement", "target", "region"] (defScope sFree) := ⟨rfl, rfl, rfl, by decide +kernel, rfl, by decide +kernel, by decide +kernel⟩
theorem ok_free {f : Addr} {fd : FuncData} {k : Nat} (F : Fun K "free_rooms" "free_rooms" sFree f fd) (T : Nm mg) (Cpeople_within : Cal P w K mg base (k + 5) "people_within" pPWi (spPWi K)) (Croom_of : Cal P w K mg base (k + 5) "room_of" pRoomOf spRoomOf) (Cpassed_rooms : Cal P w K mg base (k + 5) "passed_rooms" pPTgt spPassed) : FnOk P w K mg base CX0 (k + 6) f fd pFree (spFree K) := by
  refine F.ok scFree (fun vs H Q E h => ?_) (fun cdv A outer s H vs Q E hr h => ?_)
  · obtain ⟨h, p, g, rl, n, D, P, G, R, rfl, _⟩ := h
    rfl
  · obtain ⟨h, p, g, rl, n, D, P, G, R, rfl, hH, hF, n1, hP, pl, lP, hG, plG, sub, hR, lR, q⟩ := h
    refine ⟨_, (pss_cons (ps_set (i := 4) scFree.nd rfl (.inr rfl) (pe_lst pa_nil))
      (pss_cons (ps_for PassesOwn.never rfl (pi_tupK K rfl (pe_cal Cpeople_within hr (by rfl) (pa_cons (pv 1) (pa_cons (pv 3) pa_nil)))) (pg_name (i := 5) scFree.nd rfl (.inl rfl))
      (pss_cons (ps_expr (pe_bm PySem.F.plainAttrs_list PySem.F.slot_list_append PySem.F.type_list_append mt_append (pv 4) (pa_cons (pe_cal Croom_of hr (by rfl) (pa_cons (pv 2) (pa_cons (pv 5) pa_nil))) pa_nil)))
       (pss_one (ps_expr (pe_bm PySem.F.plainAttrs_list PySem.F.slot_list_extend PySem.F.type_list_extend mt_extendT (pv 4) (pa_cons (pe_cal Cpassed_rooms hr (by rfl) (pa_cons (pv 0) (pa_cons (pv 1) (pa_cons (pv 2) (pa_cons (pv 5) pa_nil))))) pa_nil))))))
      (pss_one (ps_ret (pe_callTy (call_tupleK K rfl) (by rfl) T.tuple (by decide +kernel) (pa_cons (pe_lc (own := [("room", 6)]) (g := gName 6) (by rfl) scFree.nd (pi_tupK K rfl (pv 3))
 (blkOk_by (own := [("room", 6)]) (N := nFree) (sc := defScope sFree) (by decide +kernel))
 (fun _ _ _ _ _ => (pg_name (i := 6) scFree.nd rfl (.inl rfl))) (fun _ _ _ _ _ => pts_one (pt_cmpR (op_notInK K rfl) (pv 6) (pv 4) (by rfl))) (fun _ _ _ _ _ => (pv 6))) pa_nil)))))), ?_⟩
    refine ⟨Nat.zero_le _, fun L hL => ?_⟩
    have sm := same_upd (o := .lst []) hL
    refine ⟨_, rfl, _, rfl, p, rl, P, R, rfl, hP.same sm, sqT_same sm hR, by omega, fun H1 u s1 e1 => ?_⟩
    have li := inside_len P R
    have sm1 := sm.trans s1
    refine ⟨u, rfl, ⟨_, SqT.of e1⟩, for_tup (K := K) (a := u) (xs := (inside P R).map V.str) (fun i σ' H' => ∃ y5 y6 acc, σ' = [some (.ref h), some (.ref p), some (.ref g), some (.ref rl), some (.ref L), y5, y6] ∧ Same H H' ∧ H' u = some (.tup ((inside P R).map V.str)) ∧ H' L = some (.lst (vi acc)) ∧ acc.length ≤ 9 * i ∧
        ∀ r, r ∈ acc ↔ ∃ nm ∈ (inside P R).take i, ∃ c t, (nm, c) ∈ P ∧ (nm, t) ∈ G ∧ (r = t ∨ pas D c t r))
      ⟨_, _, [], rfl, sm1, e1, s1 _ _ upd_same, Nat.le_refl _, fun r => ⟨fun z => (List.not_mem_nil z).elim, fun ⟨nm, hn, _⟩ => by rw [List.take_zero] at hn; exact (List.not_mem_nil hn).elim⟩⟩ ?_ ?_ ?_⟩
    · rintro i σ' H' _ ⟨_, _, _, _, _, e', _⟩
      exact SqT.of e'
    · rintro i x σ' H2 hx ⟨y5, y6, acc, rfl, s2, e2, a2, l2, m2⟩
      obtain ⟨nm, hk, rfl⟩ := get_vs hx
      have hi : i < (inside P R).length := lt_of_get hk
      obtain ⟨c, hc, cR⟩ := inside_get (List.mem_of_getElem? hk)
      obtain ⟨t, ht⟩ := key_val (sub nm (List.mem_map.mpr ⟨_, hc, rfl⟩))
      refine ⟨_, rfl, .inl ⟨rfl, _, SqL.of a2⟩, _, rfl, _, rfl, g, G, nm, t, rfl, hG.same s2, ht, plG.nodup, L, _, _, rfl, rfl, a2, ?_, ?_⟩
      · rw [List.length_map]
        exact small1000 (by omega)
      have s3 : Same H (upd H2 L (.lst (vi acc ++ [.int t]))) := same_put s2 hL
      have a3 : (upd H2 L (.lst (vi acc ++ [.int t]))) L = some (.lst (vi (acc ++ [t]))) := by rw [upd_same, vi_app]; rfl
      have e3 : (upd H2 L (.lst (vi acc ++ [.int t]))) u = some (.tup ((inside P R).map V.str)) := by rw [upd_ne (ne_of e2 a2 (by intro z; cases z))]; exact e2
      generalize upd H2 L (.lst (vi acc ++ [.int t])) = H3 at *
      refine ⟨_, rfl, .inl ⟨rfl, _, SqL.of a3⟩, _, rfl, _, rfl, _, rfl, _, rfl, h, p, g, n, D, P, G, nm, c, t, rfl, hH.same s3, hF, n1, hP.same s3, pl, hG.same s3, plG, hc, ht, fun H4 v l s4 e4 ll m4 => ?_⟩
      refine ⟨L, v, _, _, rfl, rfl, s4 _ _ a3, SqT.of e4, ?_, _, _, (acc ++ [t]) ++ l, rfl, same_put (s3.trans s4) hL, ?_, ?_, ?_, fun r => ?_⟩
      · rw [List.length_map, List.length_map, List.length_append, List.length_singleton]
        exact Nat.le_of_lt (small1000 (by omega))
      · rw [upd_ne (ne_of (s4 _ _ e3) (s4 _ _ a3) (by intro z; cases z))]
        exact s4 _ _ e3
      · rw [upd_same, ← vi_app]
      · rw [List.length_append, List.length_append, List.length_singleton]
        omega
      · rw [List.mem_append, List.mem_append, List.mem_singleton, m2, m4, take_snoc hk]
        constructor
        · rintro ((⟨nm', h1, h2⟩ | rfl) | h1)
          · exact ⟨nm', List.mem_append_left _ h1, h2⟩
          · exact ⟨nm, List.mem_append_right _ (List.mem_singleton.mpr rfl), c, r, hc, ht, .inl rfl⟩
          · exact ⟨nm, List.mem_append_right _ (List.mem_singleton.mpr rfl), c, t, hc, ht, .inr h1⟩
        · rintro ⟨nm', h1, c', t', h2, h3, h4⟩
          rcases List.mem_append.mp h1 with h1 | h1
          · exact .inl (.inl ⟨nm', h1, c', t', h2, h3, h4⟩)
          · rw [List.mem_singleton] at h1
            subst h1
            have e5 : c' = c := congrArg Prod.snd (key_uniq pl.nodup h2 hc rfl)
            have e6 : t' = t := congrArg Prod.snd (key_uniq plG.nodup h3 ht rfl)
            subst e5 e6
            rcases h4 with h4 | h4
            · exact .inl (.inr h4)
            · exact .inr h4
    · rintro σ' H2 ⟨y5, y6, acc, rfl, s2, e2, a2, l2, m2⟩
      rw [List.length_map, List.take_length] at m2
      rw [List.length_map] at l2
      refine ⟨_, rfl, rl, rfl, ⟨_, sqT_same s2 hR⟩, fun M hM => lc_tup (K := K) (a := rl) (xs := vi R) (fun i H3 => Same H2 H3 ∧ H3 M = some (.lst (vi ((R.take i).filter fun r => !decide (r ∈ acc)))))
        ⟨same_upd hM, upd_same⟩ (fun i H3 _ hh => sqT_same (s2.trans hh.1) hR) ?_ ?_⟩
      · rintro i x H3 hx ⟨s3, e3⟩
        obtain ⟨r, hk, rfl⟩ := get_vi hx
        refine ⟨rfl, _, rfl, _, rfl, L, _, rfl, .inl (SqL.of (s3 _ _ a2)), rfl, flat_vi _, _, rfl, ?_⟩
        rw [if_pos rfl, inV_vi, take_snoc hk, filter_snoc]
        refine ite2 (fun z => ?_) (fun z => ?_)
        · rw [if_pos z]
          refine ⟨_, rfl, _, e3, ?_, same_put s3 hM, ?_⟩
          · rw [List.length_map]
            refine small1000 (Nat.le_trans (List.length_filter_le _ _) ?_)
            rw [List.length_take]
            omega
          · rw [upd_same, vi_app]
            rfl
        · rw [if_neg z, List.append_nil]
          exact ⟨s3, e3⟩
      · rintro H3 ⟨s3, e3⟩
        rw [List.length_map, List.take_length] at e3
        have ef : (R.filter fun r => !decide (r ∈ acc)) = fre D P G R := by
          refine fre_of fun r hr => ?_
          rw [Bool.not_eq_true', decide_eq_false_iff_not, m2]
          constructor
          · intro z nm c t h1 h2 h3
            have mi : nm ∈ inside P R := mem_inside' h1 h2
            exact ⟨fun e => z ⟨nm, mi, c, t, h1, h3, .inl e⟩, fun e => z ⟨nm, mi, c, t, h1, h3, .inr e⟩⟩
          · rintro z ⟨nm, h1, c, t, h2, h3, h4⟩
            obtain ⟨c', hc', cR⟩ := inside_get h1
            have e5 : c' = c := congrArg Prod.snd (key_uniq pl.nodup hc' h2 rfl)
            subst e5
            have := z nm c' t h2 cR h3
            rcases h4 with h4 | h4
            · exact this.1 h4
            · exact this.2 h4
        rw [ef] at e3
        exact ⟨M, _, rfl, .inl ⟨SqL.of e3, fun t ht => q _ t ((s2.trans s3).trans (same_upd ht)) upd_same⟩⟩
end
end Fw
namespace Fw
open PySem PySem.Spec PyProof.Rows L2

/-- who is outside -/
def outs1 (D : List (Int × Int)) (R : List Int) (G : List (Str × Int)) (x : Str × Int) : Prop := ∀ t, (x.1, t) ∈ G → ¬ Wk D R x.2 t
open Classical in
noncomputable def outp (D : List (Int × Int)) (R : List Int) (G X : List (Str × Int)) : List Str := (X.filter fun x => decide (outs1 D R G x)).map (·.1)
open Classical in
theorem outp_snoc {D : List (Int × Int)} {R : List Int} {G X : List (Str × Int)} {k : Nat} {nm : Str} {r : Int} (h : X[k]? = some (nm, r)) : outp D R G (X.take (k + 1)) = outp D R G (X.take k) ++ if outs1 D R G (nm, r) then [nm] else [] := by
  unfold outp
  rw [take_snoc h, filter_snoc, List.map_append]
  congr 1
  by_cases c : outs1 D R G (nm, r)
  · rw [if_pos c, if_pos (decide_eq_true c)]
    rfl
  · rw [if_neg c, if_neg (by simpa using c)]
    rfl
theorem outp_len (D : List (Int × Int)) (R : List Int) (G X : List (Str × Int)) : (outp D R G X).length ≤ X.length := by
  unfold outp
  rw [List.length_map]
  exact List.length_filter_le _ _
open Classical in
theorem outp_self (D : List (Int × Int)) (R : List Int) (P : List (Str × Int)) : outp D R P P = [] := by
  unfold outp
  rw [List.map_eq_nil_iff, List.filter_eq_nil_iff]
  intro x hx z
  exact (of_decide_eq_true z) x.2 hx .base
theorem outs1_iff {D : List (Int × Int)} {R : List Int} {G : List (Str × Int)} (nd : (G.map (·.1)).Nodup) {nm : Str} {r t : Int} (h : (nm, t) ∈ G) : outs1 D R G (nm, r) ↔ ¬ Wk D R r t := by
  refine ⟨fun o => o t h, fun o t' h' => ?_⟩
  have := key_uniq nd h h' rfl
  rw [← show t = t' from congrArg Prod.snd this]
  exact o
open Classical in
/-- who wants a room outside R -/
noncomputable def leavL (G : List (Str × Int)) (R : List Int) (ns : List Str) : List Str := ns.filter fun nm => decide (∀ t, (nm, t) ∈ G → t ∉ R)
noncomputable def leav (P G : List (Str × Int)) (R : List Int) : List Str := leavL G R (inside P R)
theorem leavL_len (G : List (Str × Int)) (R : List Int) (ns : List Str) : (leavL G R ns).length ≤ ns.length := List.length_filter_le _ _
open Classical in
theorem leavL_snoc {G : List (Str × Int)} {R : List Int} {ns : List Str} {k : Nat} {nm : Str} {t : Int} (nd : (G.map (·.1)).Nodup) (h : ns[k]? = some nm) (m : (nm, t) ∈ G) : leavL G R (ns.take (k + 1)) = leavL G R (ns.take k) ++ if t ∈ R then [] else [nm] := by
  unfold leavL
  rw [take_snoc h, filter_snoc]
  congr 1
  have e : (∀ t', (nm, t') ∈ G → t' ∉ R) ↔ t ∉ R := ⟨fun f => f t m, fun n t' m' => by
    have := key_uniq nd m m' rfl
    rw [← show t = t' from congrArg Prod.snd this]
    exact n⟩
  by_cases c : t ∈ R
  · rw [if_pos c, if_neg (by rw [decide_eq_true_eq, e]; exact fun z => z c)]
  · rw [if_neg c, if_pos (decide_eq_true (e.mpr c))]
theorem inside_sub {P : List (Str × Int)} {R : List Int} {nm : Str} (h : nm ∈ inside P R) : nm ∈ P.map (·.1) := by
  unfold inside at h
  obtain ⟨x, hx, rfl⟩ := List.mem_map.mp h
  exact List.mem_map.mpr ⟨x, (List.mem_filter.mp hx).1, rfl⟩
theorem mem_inside {P : List (Str × Int)} {R : List Int} {nm : Str} : nm ∈ inside P R ↔ ∃ r, (nm, r) ∈ P ∧ r ∈ R := by
  unfold inside
  rw [List.mem_map]
  constructor
  · rintro ⟨x, hx, rfl⟩
    have := List.mem_filter.mp hx
    exact ⟨x.2, this.1, of_decide_eq_true this.2⟩
  · rintro ⟨r, h1, h2⟩
    exact ⟨(nm, r), List.mem_filter.mpr ⟨h1, decide_eq_true h2⟩, rfl⟩
theorem inside_up {P : List (Str × Int)} {R : List Int} (h : (P.map (·.1)).Pairwise ltS) : (inside P R).Pairwise ltS := by
  unfold inside
  rw [List.pairwise_map] at h ⊢
  exact h.filter _
theorem nodup_ltS {ns : List Str} (h : ns.Pairwise ltS) : ns.Nodup := List.nodup_iff_pairwise_ne.mpr (h.imp fun {a b} l => fun (e : a = b) => ltS_irr b (by rw [e] at l; exact l))
open Classical in
theorem mem_leav {P G : List (Str × Int)} {R : List Int} {nm : Str} : nm ∈ leav P G R ↔ (∃ r, (nm, r) ∈ P ∧ r ∈ R) ∧ ∀ t, (nm, t) ∈ G → t ∉ R := by
  unfold leav leavL
  rw [List.mem_filter, mem_inside, decide_eq_true_eq]
/-- who is found outside, by the regions so far -/
structure Left (D : List (Int × Int)) (R : List Int) (G P : List (Str × Int)) (Ls : List (List Int)) (acc : List Str) : Prop where
  nd : acc.Nodup
  mem : ∀ nm, nm ∈ acc ↔ ∃ r, (nm, r) ∈ P ∧ outs1 D R G (nm, r) ∧ ∃ C ∈ Ls, r ∈ C
  len : acc.length ≤ P.length
theorem sub_len {xs ys : List Str} (nd : xs.Nodup) (h : ∀ x ∈ xs, x ∈ ys) : xs.length ≤ ys.length := by
  induction xs generalizing ys with
  | nil => exact Nat.zero_le _
  | cons x xs ih =>
    rw [List.nodup_cons] at nd
    have hx := h x (List.mem_cons_self ..)
    have := ih (ys := ys.erase x) nd.2 fun z hz => (List.mem_erase_of_ne (fun e : z = x => nd.1 (by rw [← e]; exact hz))).mpr (h z (List.mem_cons_of_mem _ hz))
    rw [List.length_erase_of_mem hx] at this
    have : 0 < ys.length := List.length_pos_of_mem hx
    simp only [List.length_cons]
    omega
theorem Left.nil {D : List (Int × Int)} {R : List Int} {G P : List (Str × Int)} : Left D R G P [] [] :=
  ⟨List.nodup_nil, fun nm => ⟨fun h => (List.not_mem_nil h).elim, fun ⟨_, _, _, C, hC, _⟩ => (List.not_mem_nil hC).elim⟩, Nat.zero_le _⟩
theorem Left.step {n : Int} {D : List (Int × Int)} {G P : List (Str × Int)} {Ls : List (List Int)} {acc : List Str} {i : Nat} {C : List Int} (l : Left D (occ n P) G P (Ls.take i) acc) (pl : Pl n P) (nd : (G.map (·.1)).Nodup) (sub : ∀ x ∈ P.map (·.1), x ∈ G.map (·.1))
    (RC : Regs D (occ n P) Ls) (hC : Ls[i]? = some C) : Left D (occ n P) G P (Ls.take (i + 1)) (acc ++ leav P G C) := by
  have hCm := List.mem_of_getElem? hC
  obtain ⟨a, ha, ia⟩ := (RC.mem C).mp hCm
  have key : ∀ nm r, (nm, r) ∈ P → r ∈ C → (outs1 D (occ n P) G (nm, r) ↔ ∀ t, (nm, t) ∈ G → t ∉ C) := fun nm r h1 h2 => by
    have ir := ia.re ha h2
    exact ⟨fun o t m z => o t m ((ir.mem t).mp z), fun o t m z => o t m ((ir.mem t).mpr z)⟩
  have mm : ∀ nm, nm ∈ acc ++ leav P G C ↔ ∃ r, (nm, r) ∈ P ∧ outs1 D (occ n P) G (nm, r) ∧ ∃ C' ∈ Ls.take (i + 1), r ∈ C' := fun nm => by
    rw [List.mem_append, l.mem, mem_leav, take_snoc hC]
    constructor
    · rintro (⟨r, h1, h2, C', h3, h4⟩ | ⟨⟨r, h1, h2⟩, h3⟩)
      · exact ⟨r, h1, h2, C', List.mem_append_left _ h3, h4⟩
      · exact ⟨r, h1, (key nm r h1 h2).mpr h3, C, List.mem_append_right _ (List.mem_singleton.mpr rfl), h2⟩
    · rintro ⟨r, h1, h2, C', h3, h4⟩
      rcases List.mem_append.mp h3 with h3 | h3
      · exact .inl ⟨r, h1, h2, C', h3, h4⟩
      · rw [List.mem_singleton] at h3
        subst h3
        exact .inr ⟨⟨r, h1, h4⟩, (key nm r h1 h4).mp h2⟩
  have ndn : (acc ++ leav P G C).Nodup := by
    rw [List.nodup_append]
    refine ⟨l.nd, (nodup_ltS (inside_up pl.nm.up)).filter _, fun x hx y hy e => ?_⟩
    subst e
    obtain ⟨r, h1, _, C', h3, h4⟩ := (l.mem x).mp hx
    obtain ⟨⟨r', h5, h6⟩, _⟩ := mem_leav.mp hy
    have er : r = r' := congrArg Prod.snd (key_uniq pl.nodup h1 h5 rfl)
    subst er
    have eC := RC.one (List.mem_of_mem_take h3) hCm h4 h6
    subst eC
    obtain ⟨j, hj, ej⟩ := List.mem_take_iff_getElem.mp h3
    have hi := lt_of_get hC
    have up := List.pairwise_iff_getElem.mp RC.up j i (by omega) hi (by omega)
    rw [ej, (List.getElem?_eq_some_iff.mp hC).2] at up
    exact absurd up (by rw [lexI_asym up]; exact Bool.false_ne_true)
  refine ⟨ndn, mm, ?_⟩
  have := sub_len (ys := P.map (·.1)) ndn fun x hx => by
    obtain ⟨r, h1, _⟩ := (mm x).mp hx
    exact List.mem_map.mpr ⟨_, h1, rfl⟩
  rw [List.length_map] at this
  exact this
open Classical in
theorem Left.done {n : Int} {D : List (Int × Int)} {G P : List (Str × Int)} {Ls : List (List Int)} {acc ys : List Str} (l : Left D (occ n P) G P Ls acc) (pl : Pl n P) (RC : Regs D (occ n P) Ls) (p : ys.Perm acc) (s : sortedS ys = true) : ys = outp D (occ n P) G P := by
  have up : ys.Pairwise ltS := ((sortedS_le s).and (List.nodup_iff_pairwise_ne.mp (p.nodup_iff.mpr l.nd))).imp fun {a b} h => ltS_of h.1 h.2
  refine upS_ext up ?_ fun nm => ?_
  · unfold outp
    have := pl.nm.up
    rw [List.pairwise_map] at this ⊢
    exact this.filter _
  · rw [p.mem_iff, l.mem]
    unfold outp
    rw [List.mem_map]
    constructor
    · rintro ⟨r, h1, h2, _⟩
      exact ⟨(nm, r), List.mem_filter.mpr ⟨h1, decide_eq_true h2⟩, rfl⟩
    · rintro ⟨x, hx, rfl⟩
      obtain ⟨h1, h2⟩ := List.mem_filter.mp hx
      obtain ⟨C, hC, m⟩ := RC.ex (occ_up n P) (pl.mem_occ.mpr (List.mem_map_of_mem (f := (·.2)) h1))
      exact ⟨x.2, h1, of_decide_eq_true h2, C, hC, m⟩
section
variable {P : Program} {w : World} {K : PySem.W.Frag} {mg : Str → Option Value} {base : Heap}

end
end Fw
namespace Fw
open PySem PySem.Spec PyProof.Rows L2
theorem inV_vs (x : Str) (R : List Str) : inV (.str x) (R.map V.str) = decide (x ∈ R) := by
  unfold inV
  rw [Bool.eq_iff_iff, List.any_eq_true, decide_eq_true_eq]
  constructor
  · rintro ⟨y, hy, e⟩
    obtain ⟨z, hz, rfl⟩ := List.mem_map.mp hy
    have : z = x := by simpa [eqV] using e
    exact this ▸ hz
  · intro h
    exact ⟨.str x, List.mem_map_of_mem h, by simp [eqV]⟩
theorem flat_vs (R : List Str) : (R.map V.str).all flatV = true := by
  rw [List.all_eq_true]
  intro x hx
  obtain ⟨z, _, rfl⟩ := List.mem_map.mp hx
  rfl
open Classical in
/-- a tight region in which nobody is outside -/
noncomputable def ctb (D : List (Int × Int)) (n : Int) (P G : List (Str × Int)) (C : List Int) : Bool := decide ((inside P C).length = C.length ∧ ∀ nm ∈ inside P C, nm ∉ outp D (occ n P) G P)
open Classical in
theorem ctb_iff {D : List (Int × Int)} {n : Int} {P G : List (Str × Int)} {C : List Int} : ctb D n P G C = true ↔ ((inside P C).length = C.length ∧ ∀ nm ∈ inside P C, nm ∉ outp D (occ n P) G P) := by
  unfold ctb
  rw [decide_eq_true_eq]
theorem inside_nam {P : List (Str × Int)} {n : Int} (pl : Pl n P) (R : List Int) : ∀ x ∈ inside P R, Nam x := fun x hx => by
  unfold inside at hx
  obtain ⟨y, hy, rfl⟩ := List.mem_map.mp hx
  exact pl.nm.nam _ (List.mem_map_of_mem (f := (·.1)) (List.mem_filter.mp hy).1)
section
variable {P : Program} {w : World} {K : PySem.W.Frag} {mg : Str → Option Value} {base : Heap}
end
end Fw
namespace Fw
open PySem PySem.Spec PyProof.Rows L2
theorem pickB {r r1 : Int} {i : Nat} (h0 : 0 ≤ r) (h1 : r < 3) (a0 : 0 ≤ r1) (a1 : r1 < 1 + (i : Int)) : ∃ ix : Int, atI [V.int (1 + (i : Int) - 1), V.int (1 + (i : Int) - 1), V.int r1] r = some (.int ix) ∧ 0 ≤ ix ∧ ix ≤ i := by
  have : r = 0 ∨ r = 1 ∨ r = 2 := by omega
  rcases this with rfl | rfl | rfl
  · exact ⟨_, atI0, by omega, by omega⟩
  · exact ⟨_, atI1, by omega, by omega⟩
  · exact ⟨_, atI2, by omega, by omega⟩
section
variable {P : Program} {w : World} {K : PySem.W.Frag} {mg : Str → Option Value} {base : Heap}
def spLFull : Sp := fun vs H Q _ => ∃ (s A B : Addr) (c : Nat) (least most : Int), vs = [.ref s, .int least, .int most] ∧ StreamAt H s A B c ∧ c < 2 ^ 29 ∧ 1 ≤ least ∧ least ≤ most ∧ most ≤ 8 ∧
  ∀ H' l h p n D P, StreamAt H' s A B (c + 80) → Fr s A H H' → H' l = some (.lst [.ref h, .ref p]) → HouseAt H' h n D → Forest n D → D.length + 1 = n.toNat → least ≤ n → n ≤ most → PlD H' p P → Pl n P → (P.map (·.2)).Perm (rg n) → Q (.ref l) H'
abbrev nLFull : List Str := ["_law_stream_here", "_law_least", "_law_most", "_law_rooms", "_law_left", "_law_order", "_law_doors", "_law_k", "_law_on", "_law_spots", "_law_found", "_law_name"]
theorem scLFull : FnScope nLFull ["_law_stream_here", "_law_least", "_law_most"] (defScope sLFull) := ⟨rfl, rfl, rfl, by decide +kernel, rfl, by decide +kernel, by decide +kernel⟩
theorem ok_lfull {f : Addr} {fd : FuncData} {k : Nat} (F : Fun K "_law_full_house" "_law_full_house" sLFull f fd) (T : Nm mg) (C_law_draw : Cal P w K mg base (k + 2) "_law_draw" pDraw spDraw) (C_law_names : Cal P w K mg base (k + 2) "_law_names" pDraw spNames) : FnOk P w K mg base CX0 (k + 3) f fd ["_law_stream_here", "_law_least", "_law_most"] spLFull := by
  refine F.ok scLFull (fun vs H Q E h => ?_) (fun cdv A outer s H vs Q E hr h => ?_)
  · obtain ⟨s, A, B, c, least, most, rfl, _⟩ := h
    rfl
  · obtain ⟨s, A, B, c, least, most, rfl, hS, hc, a0, a1, a2, q⟩ := h
    refine ⟨_, (pss_cons (ps_set (i := 3) scLFull.nd rfl (.inl rfl) (pe_op op_add (pv 1) (pe_cal C_law_draw hr (by rfl) (pa_cons (pv 0) (pa_cons (pe_op op_add (pe_op op_sub (pv 2) (pv 1)) pe_int) pa_nil)))))
      (pss_cons (ps_par3 (i := 4) (j := 5) (l := 6) (by rfl) scLFull.nd rfl rfl rfl (by decide) (by decide) (by decide) rfl rfl rfl (pa_cons (pe_listRg (by rfl) (by rfl) T.list (prg_1 (by rfl) T.range (pv 3))) (pa_cons (pe_lst pa_nil) (pa_cons (pe_lst pa_nil) pa_nil))) (by rfl))
      (pss_cons (ps_while PassesOwn.never (pt_cmpR (op_neDK K rfl hr.units) (pv 4) (pe_lst pa_nil) (nomark _))
      (pss_one (ps_expr (pe_bm PySem.F.plainAttrs_list PySem.F.slot_list_append PySem.F.type_list_append mt_append (pv 5) (pa_cons (pe_bm PySem.F.plainAttrs_list PySem.F.slot_list_pop PySem.F.type_list_pop mt_popAt (pv 4) (pa_cons (pe_cal C_law_draw hr (by rfl) (pa_cons (pv 0) (pa_cons (pe_callB (call_lenK K rfl) (by rfl) T.len (by decide +kernel) (pa_cons (pv 4) pa_nil)) pa_nil))) pa_nil)) pa_nil)))))
      (pss_cons (ps_for PassesOwn.never rfl (pi_range2 (by rfl) T.range (pa_cons pe_int (pa_cons (pv 3) pa_nil))) (pg_name (i := 7) scLFull.nd rfl (.inl rfl))
      (pss_cons (ps_set (i := 8) scLFull.nd rfl (.inl rfl) (pe_ix (ix_listK K rfl) (pv 5) (pe_ix (ix_listK K rfl) (pe_lst (pa_cons (pe_op op_sub (pv 7) pe_int) (pa_cons (pe_op op_sub (pv 7) pe_int) (pa_cons (pe_cal C_law_draw hr (by rfl) (pa_cons (pv 0) (pa_cons (pv 7) pa_nil))) pa_nil)))) (pe_cal C_law_draw hr (by rfl) (pa_cons (pv 0) (pa_cons pe_int pa_nil))) (fun _ _ => rfl)) (fun _ _ => rfl)))
       (pss_one (ps_expr (pe_bm PySem.F.plainAttrs_list PySem.F.slot_list_append PySem.F.type_list_append mt_append (pv 6) (pa_cons (pe_tup (pa_cons (pe_callB (call_min2 rfl) (by rfl) T.min (by decide +kernel) (pa_cons (pv 8) (pa_cons (pe_ix (ix_listK K rfl) (pv 5) (pv 7) (fun _ _ => rfl)) pa_nil))) (pa_cons (pe_callB (call_max2 rfl) (by rfl) T.max (by decide +kernel) (pa_cons (pv 8) (pa_cons (pe_ix (ix_listK K rfl) (pv 5) (pv 7) (fun _ _ => rfl)) pa_nil))) pa_nil))) pa_nil))))))
      (pss_cons (ps_par (i := 9) (j := 10) (by rfl) scLFull.nd rfl rfl (by decide) rfl rfl (pa_cons (pe_listRg (by rfl) (by rfl) T.list (prg_1 (by rfl) T.range (pv 3))) (pa_cons (pe_lst pa_nil) pa_nil)) (by rfl))
      (pss_cons (ps_for PassesOwn.never rfl (pi_listK K rfl (pe_cal C_law_names hr (by rfl) (pa_cons (pv 0) (pa_cons (pv 3) pa_nil)))) (pg_name (i := 11) scLFull.nd rfl (.inl rfl))
      (pss_one (ps_expr (pe_bm PySem.F.plainAttrs_list PySem.F.slot_list_append PySem.F.type_list_append mt_append (pv 10) (pa_cons (pe_tup (pa_cons (pv 11) (pa_cons (pe_bm PySem.F.plainAttrs_list PySem.F.slot_list_pop PySem.F.type_list_pop mt_popAt (pv 9) (pa_cons (pe_cal C_law_draw hr (by rfl) (pa_cons (pv 0) (pa_cons (pe_callB (call_lenK K rfl) (by rfl) T.len (by decide +kernel) (pa_cons (pv 9) pa_nil)) pa_nil))) pa_nil)) pa_nil))) pa_nil)))))
      (pss_one (ps_ret (pe_lst (pa_cons (pe_tup (pa_cons (pv 3) (pa_cons (pe_callTy (call_tupleK K rfl) (by rfl) T.tuple (by decide +kernel) (pa_cons (pe_callB cr_sortedPO (by rfl) T.sorted (by decide +kernel) (pa_cons (pv 6) pa_nil)) pa_nil)) pa_nil))) (pa_cons (pe_callTy (call_tupleF K rfl) (by rfl) T.tuple (by decide +kernel) (pa_cons (pv 10) pa_nil)) pa_nil))))))))))), ?_⟩
    refine ⟨_, rfl, _, rfl, _, rfl, _, rfl, _, _, rfl, rfl, _, _, rfl, rfl, s, A, B, c, _, rfl, hS, by omega, by omega, by omega, fun H1 r hS1 fr1 r0 r1 => ⟨_, _, rfl, rfl, ?_⟩⟩
    show gName 3 (V.int (least + r)) _ _ _
    generalize hn : least + r = n
    have n0 : 1 ≤ n := by omega
    have n1 : n ≤ 8 := by omega
    have n2 : least ≤ n := by omega
    have n3 : n ≤ most := by omega
    clear hn r0 r1
    refine ⟨_, rfl, _, rfl, RgOk.of_le (by omega) (by omega) (by omega) (by omega), fun L hL => ⟨Nat.zero_le _, fun O hO => ⟨Nat.zero_le _, fun R hR => ⟨_, _, _, rfl, ?_⟩⟩⟩⟩
    rw [rg_vi] at hR hO ⊢
    rw [show ((List.range n.toNat).map fun (i : Nat) => (i : Int)) = rg n from rfl] at hR hO ⊢
    have nLO : O ≠ L := fun e => by rw [e, upd_same] at hO; cases hO
    have hO1 : H1 O = none := by rw [upd_ne nLO] at hO; exact hO
    have nOR : R ≠ O := fun e => by rw [e, upd_same] at hR; cases hR
    have nLR : R ≠ L := fun e => by rw [e, upd_ne nLO.symm, upd_same] at hR; cases hR
    have hR1 : H1 R = none := by rw [upd_ne nOR, upd_ne nLR] at hR; exact hR
    have zL := hS1.ne hL
    have zO := hS1.ne hO1
    have zR := hS1.ne hR1
    have gL := fr1.free hS1 hL
    have gO := fr1.free hS1 hO1
    have gR := fr1.free hS1 hR1
    have hS2 : StreamAt (upd (upd (upd H1 L (.lst (vi (rg n)))) O (.lst [])) R (.lst [])) s A B (c + 1) := ((hS1.put zL).put zO).put zR
    have fr2 : Fr s A H (upd (upd (upd H1 L (.lst (vi (rg n)))) O (.lst [])) R (.lst [])) := ((fr1.put gL).put gO).put gR
    -- while left != []: order.append(left.pop(draw(s, len(left))))
    refine ⟨fun m σ H' => ∃ (lft ord : List Int) (c' : Nat), σ = [some (.ref s), some (.int least), some (.int most), some (.int n), some (.ref L), some (.ref O), some (.ref R), none, none, none, none, none] ∧ StreamAt H' s A B c' ∧ c' + lft.length ≤ c + 1 + n.toNat ∧
        Fr s A H H' ∧ H' L = some (.lst (vi lft)) ∧ H' O = some (.lst (vi ord)) ∧ H' R = some (.lst []) ∧ (ord ++ lft).Perm (rg n) ∧ m = lft.length,
      ⟨_, rg n, [], c + 1, rfl, hS2, by rw [rg_len]; omega, fr2, ?_, ?_, upd_same, List.Perm.refl _, rfl⟩, ?_⟩
    · rw [upd_ne nLR.symm, upd_ne nLO.symm, upd_same]
    · rw [upd_ne nOR.symm, upd_same]
      rfl
    clear hS2 fr2 hR hO
    rintro m σ H2 ⟨lft, ord, c2, rfl, hS2, hc2, fr2, eL, eO, eR, pm, rfl⟩
    have plen : ord.length + lft.length = n.toNat := by
      have := pm.length_eq
      rw [List.length_append, rg_len] at this
      exact this
    refine ⟨_, rfl, Nat.zero_le _, fun e he => ?_⟩
    have sm : Same H2 (upd H2 e (.lst [])) := same_upd he
    have hS3 := hS2.same sm
    have fr3 := fr2.put (o := .lst []) (fr2.free hS2 he)
    have eL3 := sm _ _ eL
    have eO3 := sm _ _ eO
    have eR3 := sm _ _ eR
    refine ⟨.list (lft.map .int), .list [], .lst (SqL.of eL3) (dp_ints lft), .lst (SqL.of upd_same) .nil, shaped_list lft, shaped_list [], _, rfl, ?_⟩
    clear eL eO eR hS2 fr2
    generalize upd H2 e (.lst []) = H3 at *
    clear sm he
    rw [eqv_nil]
    cases lft with
    | cons x0 lft0 =>
      generalize hlf : x0 :: lft0 = lft at *
      have lpos : 0 < lft.length := by rw [← hlf]; simp
      have lem : lft.isEmpty = false := by rw [← hlf]; rfl
      rw [lem]
      clear lem hlf
      refine iteT ⟨_, fun _ _ h => h, ?_⟩
      refine ⟨_, rfl, .inl ⟨rfl, _, SqL.of eO3⟩, _, rfl, .inl ⟨rfl, _, SqL.of eL3⟩, _, rfl, _, rfl, L, _, rfl, .inl (SqL.of eL3), s, A, B, c2, _, rfl, hS3, by omega, ?_, ?_, fun H4 r hS4 fr4 r0 r1 => ?_⟩
      · rw [List.length_map]; omega
      · rw [List.length_map]; omega
      rw [List.length_map] at r1
      have eL4 := fr4 _ _ zL.1.symm zL.2.1.symm eL3
      have eO4 := fr4 _ _ zO.1.symm zO.2.1.symm eO3
      have eR4 := fr4 _ _ zR.1.symm zR.2.1.symm eR3
      have hj : r.toNat < lft.length := by omega
      have ixr : ixN (vi lft).length r = some r.toNat := by
        unfold ixN
        rw [List.length_map, if_pos r0, if_pos r1]
      have gx : (vi lft)[r.toNat]? = some (V.int lft[r.toNat]) := by
        rw [List.getElem?_map, List.getElem?_eq_getElem hj]
        rfl
      refine ⟨L, _, r, r.toNat, _, rfl, rfl, eL4, by omega, by omega, (ixN_seq ixr).1, gx, ?_⟩
      have eO5 : (upd H4 L (.lst ((vi lft).eraseIdx r.toNat))) O = some (.lst (vi ord)) := (upd_ne nLO).trans eO4
      refine ⟨O, _, _, rfl, rfl, eO5, ?_, ?_⟩
      · rw [List.length_map]
        exact small1000 (by omega)
      have el : (lft.eraseIdx r.toNat).length = lft.length - 1 := by
        rw [List.length_eraseIdx, if_pos hj]
      refine ⟨(lft.eraseIdx r.toNat).length, by omega, lft.eraseIdx r.toNat, ord ++ [lft[r.toNat]], c2 + 1, rfl, ((hS4.put zL).put zO), by omega, ((fr3.trans fr4).put gL).put gO, ?_, ?_, ?_, ?_, rfl⟩
      · rw [upd_ne nLO.symm, upd_same, vi_erase]
      · rw [upd_same, vi_app]
        rfl
      · rw [upd_ne nOR, upd_ne nLR]
        exact eR4
      · refine List.Perm.trans ?_ pm
        rw [List.append_assoc]
        refine List.Perm.append_left ord ?_
        exact erase_perm hj
    | nil =>
      refine iteF ?_
      rw [List.append_nil] at pm
      clear eL3 zL gL hL nLO nLR hS1 fr1 hO1 hR1
      simp only [List.length_nil, Nat.add_zero] at hc2 plen
      have zO3 := zO
      -- for k in range(1, rooms)
      refine ⟨_, rfl, 1, n, rfl, ⟨by decide, by decide, by omega, by omega⟩, for_range (lo := 1) (n := (n - 1).toNat) (fun i σ H' => ∃ (cc : Nat) (y8 y9 : Option V) (ps : List (Addr × Int × Int)),
        σ = [some (.ref s), some (.int least), some (.int most), some (.int n), some (.ref L), some (.ref O), some (.ref R), y8, y9, none, none, none] ∧ cc ≤ c2 + 2 * i ∧ Mid H s A B O R ord cc ps H' ∧
        ps.length = i ∧ ∃ U E, Grown U E ∧ (∀ x, x ∈ U ↔ x ∈ ord.take (i + 1)) ∧ (ps.map (·.2)).Perm E ∧ U.length = i + 1) ⟨c2, none, none, [], rfl, by omega, ⟨hS3, fr3, eO3, eR3, fun p hp => nomatch hp⟩, rfl, ?_⟩ ?_ ?_⟩
      · have h0 : 0 < ord.length := by omega
        refine ⟨[ord[0]], [], .room _ .nil (by simp), fun x => ?_, .nil, rfl⟩
        rw [List.take_add_one, List.getElem?_eq_getElem h0]
        simp
      · rintro i σ H5 hi ⟨cc, y8, y9, ps, rfl, hcc, M5, hps, U, E, g, hU, pE, lU⟩
        have hi1 : i + 1 < ord.length := by omega
        refine ⟨_, rfl, _, rfl, _, _, rfl, rfl, _, rfl, _, _, rfl, rfl, _, rfl, _, rfl, s, A, B, cc, _, rfl, M5.st, by omega, by omega, by omega, fun H6 r1 hS6 fr6 r10 r11 => ?_⟩
        have M6 := M5.fr hS6 fr6 zO zR
        refine ⟨by show 3 ≤ sizeLine; decide, fun N hN => ?_⟩
        have M7 := M6.new (o := .lst [.int (1 + (i : Int) - 1), .int (1 + (i : Int) - 1), .int r1]) hN
        refine ⟨_, rfl, s, A, B, cc + 1, 3, rfl, M7.st, by omega, by decide, by decide, fun H8 r2 hS8 fr8 r20 r21 => ?_⟩
        have M8 := M7.fr hS8 fr8 zO zR
        have zN := M6.st.ne hN
        have eN8 := fr8 N _ zN.1.symm zN.2.1.symm upd_same
        obtain ⟨ix, eix, hix0, hix1⟩ := pickB (i := i) r20 r21 r10 r11
        have hixl : ix.toNat < ord.length := by omega
        have eon : atI (vi ord) ix = some (V.int ord[ix.toNat]) := by
          have := atI_nat (xs := vi ord) (j := ix.toNat) (v := V.int ord[ix.toNat]) (by rw [List.getElem?_map, List.getElem?_eq_getElem hixl]; rfl)
          rw [show ((ix.toNat : Nat) : Int) = ix by omega] at this
          exact this
        have ekk : atI (vi ord) (1 + (i : Int)) = some (V.int ord[i + 1]) := by
          have := atI_nat (xs := vi ord) (j := i + 1) (v := V.int ord[i + 1]) (by rw [List.getElem?_map, List.getElem?_eq_getElem hi1]; rfl)
          rw [show ((i + 1 : Nat) : Int) = 1 + (i : Int) by omega] at this
          exact this
        refine ⟨N, _, _, _, rfl, rfl, SqL.of eN8, eix, O, _, _, _, rfl, rfl, SqL.of M8.eO, eon, ?_⟩
        clear eN8 fr8 zN hN M7 M6 fr6 eix
        have nd : ord.Nodup := pm.nodup_iff.mpr (rg_nodup n)
        have nv : ord[i + 1] ∉ U := fun m => by
          obtain ⟨j, hj, e⟩ := List.mem_take_iff_getElem.mp ((hU _).mp m)
          exact (List.pairwise_iff_getElem.mp nd) j (i + 1) (by omega) hi1 (by omega) e
        have mu : ord[ix.toNat] ∈ U := (hU _).mpr (List.mem_take_iff_getElem.mpr ⟨ix.toNat, by omega, rfl⟩)
        have hU' : ∀ x, x ∈ (ord[i + 1] :: U) ↔ x ∈ ord.take (i + 1 + 1) := fun x => by
          rw [List.take_add_one (i := i + 1), List.getElem?_eq_getElem hi1, List.mem_append, List.mem_cons, hU]
          simp [or_comm]
        refine ⟨_, rfl, .inl ⟨rfl, _, SqL.of M8.eR⟩, _, rfl, _, rfl, _, rfl, O, _, _, _, rfl, rfl, SqL.of M8.eO, ekk, _, _, rfl, _, rfl, _, rfl, _, rfl, O, _, _, _, rfl, rfl, SqL.of M8.eO, ekk, _, _, rfl, by show 2 ≤ sizeLine; decide, fun t ht => ?_⟩
        generalize hu : ord[ix.toNat] = u at *
        generalize hv : ord[i + 1] = v at *
        have M10 := M8.new (o := .tup [.int (if v < u then v else u), .int (if v > u then v else u)]) ht
        refine ⟨R, _, _, rfl, rfl, M10.eR, ?_, ?_⟩
        · rw [List.length_map]
          exact small1000 (by omega)
        refine ⟨cc + 2, _, _, ps ++ [(t, if v < u then v else u, if v > u then v else u)], rfl, by omega, ⟨M10.st.put zR, M10.frm.put gR, ?_, ?_, ?_⟩, ?_, v :: U, _, .door v u (if v < u then v else u) (if v > u then v else u) g nv mu ?_, hU', ?_, ?_⟩
        · rw [upd_ne nOR.symm]
          exact M10.eO
        · rw [upd_same, List.map_append]
          rfl
        · intro p hp
          rcases List.mem_append.mp hp with hp | hp
          · have h1 := M10.eP p hp
            rw [upd_ne (ne_of h1 M10.eR (by intro q; cases q))]
            exact h1
          · rw [List.mem_singleton.mp hp]
            have h1 : (upd H8 t (.tup [.int (if v < u then v else u), .int (if v > u then v else u)])) t = some (.tup [.int (if v < u then v else u), .int (if v > u then v else u)]) := upd_same
            rw [upd_ne (ne_of h1 M10.eR (by intro q; cases q))]
            exact h1
        · rw [List.length_append, List.length_singleton, hps]
        · constructor
          · split <;> omega
          · split <;> omega
        · rw [List.map_append]
          exact (List.perm_append_comm).trans (pE.cons _)
        · rw [List.length_cons, lU]
      · rintro σ H5 ⟨cc, y8, y9, ps, rfl, hcc, M5, hps, U, E, g, hU, pE, lU⟩
        -- the people
        refine ⟨_, rfl, _, rfl, RgOk.of_le (by omega) (by omega) (by omega) (by omega), fun S hSn => ⟨Nat.zero_le _, fun FL hFL => ⟨_, _, rfl, ?_⟩⟩⟩
        rw [rg_vi] at hFL ⊢
        rw [show ((List.range n.toNat).map fun (i : Nat) => (i : Int)) = rg n from rfl] at hFL ⊢
        have M6 := (M5.new (o := .lst (vi (rg n))) hSn).new (o := .lst []) hFL
        have zS := M5.st.ne hSn
        have gS := M5.frm.free M5.st hSn
        have zF := (M5.new (o := .lst (vi (rg n))) hSn).st.ne hFL
        have gF := (M5.new (o := .lst (vi (rg n))) hSn).frm.free (M5.new (o := .lst (vi (rg n))) hSn).st hFL
        have nSF : S ≠ FL := fun e => by rw [← e, upd_same] at hFL; cases hFL
        have nRS : R ≠ S := ne_of_none M5.eR hSn
        have nRF : R ≠ FL := ne_of_none (M5.new (o := .lst (vi (rg n))) hSn).eR hFL
        have eS6 : (upd (upd H5 S (.lst (vi (rg n)))) FL (.lst [])) S = some (.lst (vi (rg n))) := (upd_ne nSF).trans upd_same
        have eF6 : (upd (upd H5 S (.lst (vi (rg n)))) FL (.lst [])) FL = some (.lst []) := upd_same
        generalize upd (upd H5 S (.lst (vi (rg n)))) FL (.lst []) = H6 at *
        refine ⟨_, rfl, _, rfl, s, A, B, cc, n, rfl, M6.st, by omega, by omega, by omega, fun H7 NL nms hS7 fr7 hNL eN lN nN => ?_⟩
        have zN := M6.st.ne hNL
        have nSN : S ≠ NL := ne_of_none eS6 hNL
        have nFN : FL ≠ NL := ne_of_none eF6 hNL
        have nRN : R ≠ NL := ne_of_none M6.eR hNL
        have M7 := M6.fr hS7 fr7 zO zR
        refine ⟨NL, rfl, ⟨_, SqL.of eN⟩, for_list (K := K) (a := NL) (xs := nms.map V.str) (fun i σ' H' => ∃ (y11 : Option V) (sp : List Int) (qs : List (Addr × Str × Int)),
            σ' = [some (.ref s), some (.int least), some (.int most), some (.int n), some (.ref L), some (.ref O), some (.ref R), y8, y9, some (.ref S), some (.ref FL), y11] ∧ StreamAt H' s A B (cc + 10 + i) ∧ Fr s A H H' ∧ H' NL = some (.lst (nms.map V.str)) ∧ H' S = some (.lst (vi sp)) ∧ sp.length + i = n.toNat ∧
            H' R = some (.lst (ps.map fun p => V.ref p.1)) ∧ (∀ p ∈ ps, H' p.1 = some (.tup [.int p.2.1, .int p.2.2])) ∧
            H' FL = some (.lst (qs.map fun q => V.ref q.1)) ∧ (qs.map (·.2.1)) = nms.take i ∧ (∀ q ∈ qs, H' q.1 = some (.tup [.str q.2.1, .int q.2.2])) ∧ (qs.map (·.2.2) ++ sp).Perm (rg n))
          ⟨_, rg n, [], rfl, M7.st, M7.frm, eN, fr7 _ _ zS.1.symm zS.2.1.symm eS6, by rw [rg_len]; rfl, M7.eR, M7.eP, fr7 _ _ zF.1.symm zF.2.1.symm eF6, rfl, fun q hq => absurd hq List.not_mem_nil, List.Perm.refl _⟩ ?_ ?_ ?_⟩
        · rintro i σ' H' _ ⟨_, _, _, _, _, _, e', _⟩
          exact SqL.of e'
        · rintro i x σ' H8 hx ⟨y11, sp, qs, rfl, hS8, fr8, eN8, es8, l8, eR8, eP8, eF8, en8, ep8, pm8⟩
          obtain ⟨nm, hnm, rfl⟩ := get_vs hx
          have hi : i < nms.length := lt_of_get hnm
          have hqs : qs.length = i := by
            have := congrArg List.length en8
            rw [List.length_map, List.length_take] at this
            omega
          refine ⟨_, rfl, .inl ⟨rfl, _, SqL.of eF8⟩, _, rfl, _, rfl, .inl ⟨rfl, _, SqL.of es8⟩, _, rfl, _, rfl, S, _, rfl, .inl (SqL.of es8), s, A, B, cc + 10 + i, _, rfl, hS8, by omega, ?_, ?_, fun H9 r hS9 fr9 r0 r1 => ?_⟩
          · rw [List.length_map]; omega
          · rw [List.length_map]; omega
          rw [List.length_map] at r1
          have hj : r.toNat < sp.length := by omega
          have ixr : ixN (vi sp).length r = some r.toNat := by
            unfold ixN
            rw [List.length_map, if_pos r0, if_pos r1]
          have gx : (vi sp)[r.toNat]? = some (V.int sp[r.toNat]) := by
            rw [List.getElem?_map, List.getElem?_eq_getElem hj]
            rfl
          have es9 := fr9 _ _ zS.1.symm zS.2.1.symm es8
          refine ⟨S, _, r, r.toNat, _, rfl, rfl, es9, by omega, by omega, (ixN_seq ixr).1, gx, by show 2 ≤ sizeLine; decide, fun t ht => ?_⟩
          have hS10 := (hS9.put (o := .lst ((vi sp).eraseIdx r.toNat)) zS)
          have fr10 := (fr8.trans fr9).put (o := .lst ((vi sp).eraseIdx r.toNat)) gS
          have eF10 : (upd H9 S (.lst ((vi sp).eraseIdx r.toNat))) FL = _ := (upd_ne nSF.symm).trans (fr9 _ _ zF.1.symm zF.2.1.symm eF8)
          have eR10 : (upd H9 S (.lst ((vi sp).eraseIdx r.toNat))) R = _ := (upd_ne nRS).trans (fr9 _ _ zR.1.symm zR.2.1.symm eR8)
          have eN10 : (upd H9 S (.lst ((vi sp).eraseIdx r.toNat))) NL = _ := (upd_ne nSN.symm).trans (fr9 _ _ zN.1.symm zN.2.1.symm eN8)
          have es10 : (upd H9 S (.lst ((vi sp).eraseIdx r.toNat))) S = some (.lst (vi (sp.eraseIdx r.toNat))) := by rw [upd_same, vi_erase]
          have ep10 : ∀ q ∈ qs, (upd H9 S (.lst ((vi sp).eraseIdx r.toNat))) q.1 = some (.tup [.str q.2.1, .int q.2.2]) := fun q hq => by
            have := fr9.tup hS8 (ep8 q hq)
            rw [upd_ne (ne_of this es9 (by intro z; cases z))]
            exact this
          have eP10 : ∀ q ∈ ps, (upd H9 S (.lst ((vi sp).eraseIdx r.toNat))) q.1 = some (.tup [.int q.2.1, .int q.2.2]) := fun q hq => by
            have := fr9.tup hS8 (eP8 q hq)
            rw [upd_ne (ne_of this es9 (by intro z; cases z))]
            exact this
          generalize upd H9 S (.lst ((vi sp).eraseIdx r.toNat)) = H10 at *
          have sm := same_upd (o := .tup [.str nm, .int sp[r.toNat]]) ht
          have eF11 := sm _ _ eF10
          have eR11 := sm _ _ eR10
          have et : (upd H10 t (.tup [.str nm, .int sp[r.toNat]])) t = some (.tup [.str nm, .int sp[r.toNat]]) := upd_same
          have ep11 : ∀ q ∈ qs, (upd H10 t (.tup [.str nm, .int sp[r.toNat]])) q.1 = some (.tup [.str q.2.1, .int q.2.2]) := fun q hq => sm _ _ (ep10 q hq)
          have eP11 : ∀ q ∈ ps, (upd H10 t (.tup [.str nm, .int sp[r.toNat]])) q.1 = some (.tup [.int q.2.1, .int q.2.2]) := fun q hq => sm _ _ (eP10 q hq)
          have hS11 := hS10.same sm
          have fr11 := fr10.trans (Fr.of sm)
          have es11 := sm _ _ es10
          have eN11 := sm _ _ eN10
          generalize upd H10 t (.tup [.str nm, .int sp[r.toNat]]) = H11 at *
          refine ⟨FL, _, _, rfl, rfl, eF11, ?_, _, sp.eraseIdx r.toNat, qs ++ [(t, nm, sp[r.toNat])], rfl, (hS11.put zF).mono (by omega), fr11.put gF, ?_, ?_, ?_, ?_, ?_, ?_, ?_, ?_, ?_⟩
          · rw [List.length_map]
            exact small1000 (by omega)
          · rw [upd_ne nFN.symm]
            exact eN11
          · rw [upd_ne nSF]
            exact es11
          · rw [List.length_eraseIdx, if_pos hj]
            omega
          · rw [upd_ne nRF]
            exact eR11
          · intro q hq
            rw [upd_ne (ne_of (eP11 q hq) eF11 (by intro z; cases z))]
            exact eP11 q hq
          · rw [upd_same, List.map_append]
            rfl
          · rw [List.map_append, List.take_add_one, hnm, en8]
            rfl
          · intro q hq
            rcases List.mem_append.mp hq with hq | hq
            · rw [upd_ne (ne_of (ep11 q hq) eF11 (by intro z; cases z))]
              exact ep11 q hq
            · rw [List.mem_singleton.mp hq]
              rw [upd_ne (ne_of et eF11 (by intro z; cases z))]
              exact et
          · refine List.Perm.trans ?_ pm8
            rw [List.map_append, List.append_assoc]
            exact List.Perm.append_left _ (erase_perm hj)
        · rintro σ' H8 ⟨y11, sp, qs, rfl, hS8, fr8, eN8, es8, l8, eR8, eP8, eF8, en8, ep8, pm8⟩
          rw [List.length_map, List.take_length] at en8
          rw [List.length_map] at hS8 l8
          have kz : ∀ z ∈ ps, twoOf H8 (.ref z.1) = z.2 := fun z hz => twoOf_eq (eP8 z hz)
          refine ⟨_, rfl, _, rfl, R, _, twoOf H8, rfl, SqL.of eR8, ?_, fun ys p hsrt hstb hp => ?_⟩
          · intro x hx
            obtain ⟨z, hz, rfl⟩ := List.mem_map.mp hx
            refine ⟨z.1, rfl, ?_⟩
            rw [kz z hz]
            exact eP8 z hz
          obtain ⟨ps', pp, rfl⟩ := perm_map_inv hstb.perm rfl
          have upD : (ps'.map (·.2)).Pairwise Dlt := by
            have nd : (ps'.map (·.2)).Nodup := ((pp.map _).trans pE).nodup_iff.mpr g.nodup
            rw [List.nodup_iff_pairwise_ne, List.pairwise_map] at nd
            rw [List.pairwise_map]
            have hs : ps'.Pairwise fun x y => ltP (twoOf H8) (.ref y.1) (.ref x.1) = false := List.pairwise_map.mp hsrt
            refine (hs.and nd).imp_of_mem fun {x y} hx hy h => ?_
            have h1 : SrtO.lexB y.2 x.2 = false := by
              have := h.1
              unfold ltP at this
              rw [kz x (pp.mem_iff.mp hx), kz y (pp.mem_iff.mp hy)] at this
              exact this
            exact Dlt_of (SrtO.lexB_no.mp h1) h.2
          have s9 := same_upd (o := .lst (ps'.map fun p => V.ref p.1)) hp
          refine ⟨p, _, rfl, .inl ⟨SqL.of upd_same, fun d hd => ?_⟩⟩
          have s10 := s9.trans (same_upd (o := .tup (ps'.map fun p => V.ref p.1)) hd)
          refine ⟨by show 2 ≤ sizeLine; decide, fun hh hhh => ?_⟩
          have s11 := s10.trans (same_upd (o := .tup [.int n, .ref d]) hhh)
          refine ⟨_, rfl, FL, _, rfl, SqL.of (s11 _ _ eF8), fun t ob ht od => ?_⟩
          have s12a := same_upd (o := .frz ob (.tup (qs.map fun q => V.ref q.1))) ht
          have s12 := s11.trans s12a
          refine ⟨by show 2 ≤ sizeLine; decide, fun l hl => ?_⟩
          have s13a := same_upd (o := .lst [.ref hh, .ref t]) hl
          have s13 := s12.trans s13a
          have tk : ord.take ((n - 1).toNat + 1) = ord := List.take_of_length_le (by omega)
          have lq : qs.length = n.toNat := by
            have := congrArg List.length en8
            rw [List.length_map] at this
            omega
          have sp0 : sp = [] := List.length_eq_zero_iff.mp (by omega)
          refine q _ l hh t n (ps'.map (·.2)) (qs.map (·.2)) ((hS8.same s13).mono (by omega)) (fr8.trans (Fr.of s13)) upd_same ⟨d, ps', (s12a.trans s13a) _ _ upd_same, ?_, rfl, fun z hz => s13 _ _ (eP8 z (pp.mem_iff.mp hz))⟩ ⟨U, E, g, fun x => ?_, (pp.map _).trans pE, by omega, upD⟩ ?_ n2 n3 ⟨qs, ob, od, s13a _ _ upd_same, rfl, fun q hq => s13 _ _ (ep8 q hq)⟩ ⟨?_, fun x hx => ?_⟩ ?_
          · exact (((same_upd (o := .tup [.int n, .ref d]) hhh).trans s12a).trans s13a) _ _ upd_same
          · rw [hU, tk, pm.mem_iff, mem_rg]
          · rw [List.length_map, pp.length_eq, hps]
            omega
          · rw [List.map_map]
            show Names (qs.map (·.2.1))
            rw [en8]
            exact nN
          · obtain ⟨y, hy, rfl⟩ := List.mem_map.mp hx
            refine mem_rg.mp (pm8.mem_iff.mp (List.mem_append_left _ ?_))
            exact List.mem_map.mpr ⟨y, hy, rfl⟩
          · rw [List.map_map]
            rw [sp0, List.append_nil] at pm8
            exact pm8
end
end Fw
namespace Fw
open PySem PySem.Spec PyProof.Rows L2
theorem atI3 {α : Type} {x y z u : α} {xs : List α} : atI (x :: y :: z :: u :: xs) 3 = some u := atI_nat (j := 3) rfl
theorem four_at {a b c d r : Int} (h0 : 0 ≤ r) (h1 : r < 4) : ∃ v, atI [V.int a, V.int b, V.int c, V.int d] r = some (.int v) ∧ (v = a ∨ v = b ∨ v = c ∨ v = d) := by
  have : r = 0 ∨ r = 1 ∨ r = 2 ∨ r = 3 := by omega
  rcases this with rfl | rfl | rfl | rfl
  · exact ⟨_, atI0, .inl rfl⟩
  · exact ⟨_, atI1, .inr (.inl rfl)⟩
  · exact ⟨_, atI2, .inr (.inr (.inl rfl))⟩
  · exact ⟨_, atI3, .inr (.inr (.inr rfl))⟩
section
variable {P : Program} {w : World} {K : PySem.W.Frag} {mg : Str → Option Value} {base : Heap}
def spLNear : Sp := fun vs H Q _ => ∃ (s A B h p : Addr) (c : Nat) (n : Int) (D : List (Int × Int)) (P : List (Str × Int)), vs = [.ref s, .ref h, .ref p] ∧ StreamAt H s A B c ∧ c < 2 ^ 29 ∧ HouseAt H h n D ∧ Forest n D ∧ 1 ≤ n ∧ n ≤ 8 ∧ PlAt H p P ∧ Pl n P ∧ P.length ≤ 12 ∧ P ≠ [] ∧
  ∀ H' t G, StreamAt H' s A B (c + 80) → Fr s A H H' → PlD H' t G → Pl n G → G.map (·.1) = P.map (·.1) → Q (.ref t) H'
abbrev nLNear : List Str := ["_law_stream_here", "_law_house", "_law_placement", "_law_found", "_law_name", "_law_room", "_law_near", "_law_one", "_law_far", "_law_names_here", "_law_other"]
theorem scLNear : FnScope nLNear ["_law_stream_here", "_law_house", "_law_placement"] (defScope sLNear) := ⟨rfl, rfl, rfl, by decide +kernel, rfl, by decide +kernel, by decide +kernel⟩
theorem ok_lnear {f : Addr} {fd : FuncData} {k : Nat} (F : Fun K "_law_near_target" "_law_near_target" sLNear f fd) (T : Nm mg) (C_law_draw : Cal P w K mg base (k + 1) "_law_draw" pDraw spDraw) (C_law_neighbors : Cal P w K mg base (k + 1) "_law_neighbors" pLNb spLNb) : FnOk P w K mg base CX0 (k + 2) f fd pLTarget spLNear := by
  refine F.ok scLNear (fun vs H Q E h => ?_) (fun cdv A outer s H vs Q E hr h => ?_)
  · obtain ⟨s, A, B, h, p, c, n, D, P, rfl, _⟩ := h
    rfl
  · obtain ⟨s, A, B, h, p, c, n, D, P, rfl, hS, hc, hH, hF, n0, n1, hP, pl, lP, ne, q⟩ := h
    refine ⟨_, (pss_cons (ps_set (i := 3) scLNear.nd rfl (.inr rfl) pe_dnewK)
      (pss_cons (ps_if (pt_cmpR (op_eqDK K rfl hr.units) (pv 2) (pe_tup pa_nil) (nomark _))
      pss_never
      pss_nil)
      (pss_cons (ps_for PassesOwn.never rfl (pi_tupK K rfl (pv 2)) (pg_tup (by rfl) (pgs_cons (pg_name (i := 4) scLNear.nd rfl (.inl rfl)) (pgs_cons (pg_name (i := 5) scLNear.nd rfl (.inl rfl)) pgs_nil)))
      (pss_cons (ps_set (i := 6) scLNear.nd rfl (.inl rfl) (pe_op op_cat (pe_cal C_law_neighbors hr (by rfl) (pa_cons (pv 1) (pa_cons (pv 5) pa_nil))) (pe_lst (pa_cons (pv 5) pa_nil))))
       (pss_cons (ps_set (i := 7) scLNear.nd rfl (.inl rfl) (pe_ix (ix_listK K rfl) (pv 6) (pe_cal C_law_draw hr (by rfl) (pa_cons (pv 0) (pa_cons (pe_callB (call_lenK K rfl) (by rfl) T.len (by decide +kernel) (pa_cons (pv 6) pa_nil)) pa_nil))) (fun _ _ => rfl)))
       (pss_cons (ps_set (i := 8) scLNear.nd rfl (.inl rfl) (pe_op op_cat (pe_cal C_law_neighbors hr (by rfl) (pa_cons (pv 1) (pa_cons (pv 7) pa_nil))) (pe_lst (pa_cons (pv 7) pa_nil))))
       (pss_one (ps_asg (pe_ix (ix_listK K rfl) (pe_lst (pa_cons (pv 5) (pa_cons (pv 5) (pa_cons (pv 7) (pa_cons (pe_ix (ix_listK K rfl) (pv 8) (pe_cal C_law_draw hr (by rfl) (pa_cons (pv 0) (pa_cons (pe_callB (call_lenK K rfl) (by rfl) T.len (by decide +kernel) (pa_cons (pv 8) pa_nil)) pa_nil))) (fun _ _ => rfl)) pa_nil))))) (pe_cal C_law_draw hr (by rfl) (pa_cons (pv 0) (pa_cons pe_int pa_nil))) (fun _ _ => rfl)) (pg_sub (pv 3) (pv 4) (set_dict (hu_of hr)))))))))
      (pss_cons (ps_set (i := 9) scLNear.nd rfl (.inl rfl) (pe_callB (call_sortedD rfl) (by rfl) T.sorted (by decide +kernel) (pa_cons (pv 3) pa_nil)))
      (pss_cons (ps_par (i := 7) (j := 10) (by rfl) scLNear.nd rfl rfl (by decide) rfl rfl (pa_cons (pe_ix (ix_listK K rfl) (pv 9) (pe_cal C_law_draw hr (by rfl) (pa_cons (pv 0) (pa_cons (pe_callB (call_lenK K rfl) (by rfl) T.len (by decide +kernel) (pa_cons (pv 9) pa_nil)) pa_nil))) (fun _ _ => rfl)) (pa_cons (pe_ix (ix_listK K rfl) (pv 9) (pe_cal C_law_draw hr (by rfl) (pa_cons (pv 0) (pa_cons (pe_callB (call_lenK K rfl) (by rfl) T.len (by decide +kernel) (pa_cons (pv 9) pa_nil)) pa_nil))) (fun _ _ => rfl)) pa_nil)) (by rfl))
      (pss_cons (ps_if (pt_cmpR op_gt (pe_cal C_law_draw hr (by rfl) (pa_cons (pv 0) (pa_cons pe_int pa_nil))) pe_int (nomark _))
      (pss_one (ps_asg (pe_tup (pa_cons (pe_dget (hu_of hr) (pv 3) (pv 10) (fun _ _ => rfl)) (pa_cons (pe_dget (hu_of hr) (pv 3) (pv 7) (fun _ _ => rfl)) pa_nil))) (pg_tup (by rfl) (pgs_cons (pg_sub (pv 3) (pv 7) (set_dict (hu_of hr))) (pgs_cons (pg_sub (pv 3) (pv 10) (set_dict (hu_of hr))) pgs_nil)))))
      pss_nil)
      (pss_one (ps_ret (pe_callTy (call_tupleF K rfl) (by rfl) T.tuple (by decide +kernel) (pa_cons (pe_lc (own := [("_law_name", 4)]) (g := gName 4) (by rfl) scLNear.nd (pi_listK K rfl (pv 9))
 (blkOk_by (own := [("_law_name", 4)]) (N := nLNear) (sc := defScope sLNear) (by decide +kernel))
 (fun _ _ _ _ _ => (pg_name (i := 4) scLNear.nd rfl (.inl rfl))) (fun _ _ _ _ _ => pts_nil) (fun _ _ _ _ _ => (pe_tup (pa_cons (pv 4) (pa_cons (pe_dget (hu_of hr) (pv 3) (pv 4) (fun _ _ => rfl)) pa_nil))))) pa_nil)))))))))), ?_⟩
    have lp0 : 0 < P.length := List.length_pos_iff.mpr ne
    refine fun fo hfo => ?_
    have zF := hS.ne hfo
    have gF := hfo
    have s1 := same_upd (o := .dK []) hfo
    have eF1 : (upd H fo (.dK [])) fo = some (.dK []) := upd_same
    generalize upd H fo (.dK []) = H1 at *
    refine ⟨_, rfl, Nat.zero_le _, fun e he => ?_⟩
    have s2 := s1.trans (same_upd (o := .tup []) he)
    have eF2 := same_upd (o := .tup []) he _ _ eF1
    refine ⟨pld P, .tuple [], (hP.same s2).dp, .tup (SqT.of upd_same) .nil, pld_shaped pl.nams, shaped_tup [], _, rfl, ?_⟩
    rw [eqv_nilT, show P.isEmpty = false by cases P with | nil => exact absurd rfl ne | cons x P => rfl]
    refine iteF ?_
    generalize upd H1 e (.tup []) = H2 at *
    have hS2 := hS.same s2
    have fr2 : Fr s A H H2 := Fr.of s2
    have hP2 := hP.same s2
    refine ⟨_, rfl, p, rfl, hP2.sq, for_pl hP (fun k σ' H' => ∃ (y4 y5 y6 y7 y8 y9 y10 : Option V) (c' : Nat) (G : List (Str × Int)), σ' = [some (.ref s), some (.ref h), some (.ref p), some (.ref fo), y4, y5, y6, y7, y8, y9, y10] ∧ StreamAt H' s A B c' ∧ c' ≤ c + 3 * k ∧ Fr s A H H' ∧ H' fo = some (.dK (dkI G)) ∧ G.map (·.1) = (P.take k).map (·.1) ∧ InR n G)
      ⟨_, _, _, _, _, _, _, c, [], rfl, hS2, by omega, fr2, eF2, rfl, fun x hx => absurd hx List.not_mem_nil⟩ ?_ ?_ ?_⟩
    · rintro k σ' H' ⟨_, _, _, _, _, _, _, _, _, _, _, _, fr', _⟩
      exact Tk.fr fr' hS
    · rintro k nm r σ' H5 hk ⟨y4, y5, y6, y7, y8, y9, y10, c5, G, rfl, hS5, hc5, fr5, eF5, gn, gr⟩
      have mk' := List.mem_of_getElem? hk
      have rr := pl.rm _ mk'
      have lk := lt_of_get hk
      have hH5 := hH.fr hS fr5
      have lG : G.length = k := by
        have := congrArg List.length gn
        rw [List.length_map, List.length_map, List.length_take] at this
        omega
      have nnew : nm ∉ G.map (·.1) := by
        rw [gn]
        intro m
        obtain ⟨j, hj, ej⟩ := List.mem_iff_getElem.mp m
        rw [List.length_map, List.length_take] at hj
        have h0 := (List.pairwise_iff_getElem.mp (List.nodup_iff_pairwise_ne.mp pl.nodup)) j k (by rw [List.length_map]; omega) (by rw [List.length_map]; exact lk) (by omega)
        have h2 : (P.map (·.1))[k]'(by rw [List.length_map]; exact lk) = nm := by
          have : (P.map (·.1))[k]? = some nm := by rw [List.getElem?_map, hk]; rfl
          exact (List.getElem?_eq_some_iff.mp this).2
        rw [h2] at h0
        rw [List.getElem_map, List.getElem_take] at ej
        rw [List.getElem_map] at h0
        exact h0 ej
      have rng : ∀ x, 0 ≤ x ∧ x < n → ∀ y ∈ nb n D x ++ [x], 0 ≤ y ∧ y < n := fun x hx y hy => by
        rcases List.mem_append.mp hy with hy | hy
        · exact (mem_nb.mp hy).1
        · rw [List.mem_singleton.mp hy]
          exact hx
      have len : ∀ x, 0 < (nb n D x ++ [x]).length ∧ (nb n D x ++ [x]).length ≤ 9 := fun x => by
        have := nb_len n D x
        rw [List.length_append, List.length_singleton]
        omega
      -- near
      refine ⟨_, rfl, _, rfl, h, n, D, r, rfl, hH5, hF, fun H6 ln s6 hln e6 => ⟨_, rfl, by show 1 ≤ sizeLine; decide, fun O hO => ?_⟩⟩
      have s7 := s6.trans (same_upd (o := .lst [.int r]) hO)
      refine ⟨ln, O, _, _, rfl, rfl, same_upd hO _ _ e6, upd_same, ?_, fun N hN => ?_⟩
      · rw [List.length_map]
        have := nb_len n D r
        exact Nat.le_of_lt (small1000 (by show _ + 1 ≤ _; omega))
      have zN := (hS5.same s7).ne hN
      have s8 := s7.trans (same_upd (o := .lst (vi (nb n D r) ++ [.int r])) hN)
      have eN8 : (upd (upd H6 O (.lst [.int r])) N (.lst (vi (nb n D r) ++ [.int r]))) N = some (.lst (vi (nb n D r ++ [r]))) := by rw [upd_same, vi_app]; rfl
      generalize upd (upd H6 O (.lst [.int r])) N (.lst (vi (nb n D r) ++ [.int r])) = H8 at *
      have hS8 := hS5.same s8
      have ln1 := len r
      have rg1 := rng r rr
      generalize nb n D r ++ [r] = near at *
      -- one
      refine ⟨_, rfl, _, rfl, _, rfl, N, _, rfl, .inl (SqL.of eN8), s, A, B, c5, _, rfl, hS8, by omega, ?_, ?_, fun H9 v hS9 fr9 v0 v1 => ?_⟩
      · rw [List.length_map]; omega
      · rw [List.length_map]; omega
      rw [List.length_map] at v1
      obtain ⟨x, hx, ex⟩ := atI_in v0 v1
      have xr := rg1 x hx
      have fr9' : Fr s A H H9 := (fr5.trans (Fr.of s8)).trans fr9
      have hH9 := hH.fr hS fr9'
      have eF9 := fr9 _ _ zF.1.symm zF.2.1.symm (s8 _ _ eF5)
      refine ⟨N, _, _, _, rfl, rfl, SqL.of (fr9 _ _ zN.1.symm zN.2.1.symm eN8), ex, ?_⟩
      -- far
      refine ⟨_, rfl, _, rfl, h, n, D, x, rfl, hH9, hF, fun H10 lm s10 hlm e10 => ⟨_, rfl, by show 1 ≤ sizeLine; decide, fun O2 hO2 => ?_⟩⟩
      have s11 := s10.trans (same_upd (o := .lst [.int x]) hO2)
      refine ⟨lm, O2, _, _, rfl, rfl, same_upd hO2 _ _ e10, upd_same, ?_, fun N2 hN2 => ?_⟩
      · rw [List.length_map]
        have := nb_len n D x
        exact Nat.le_of_lt (small1000 (by show _ + 1 ≤ _; omega))
      have zN2 := (hS9.same s11).ne hN2
      have s12 := s11.trans (same_upd (o := .lst (vi (nb n D x) ++ [.int x])) hN2)
      have eN12 : (upd (upd H10 O2 (.lst [.int x])) N2 (.lst (vi (nb n D x) ++ [.int x]))) N2 = some (.lst (vi (nb n D x ++ [x]))) := by rw [upd_same, vi_app]; rfl
      generalize upd (upd H10 O2 (.lst [.int x])) N2 (.lst (vi (nb n D x) ++ [.int x])) = H12 at *
      have hS12 := hS9.same s12
      have fr12 := fr9'.trans (Fr.of s12)
      have eF12 := s12 _ _ eF9
      have ln2 := len x
      have rg2 := rng x xr
      generalize nb n D x ++ [x] = far at *
      -- found[name] = ..
      refine ⟨_, rfl, _, rfl, _, rfl, _, rfl, _, rfl, _, rfl, N2, _, rfl, .inl (SqL.of eN12), s, A, B, c5 + 1, _, rfl, hS12, by omega, ?_, ?_, fun H13 v' hS13 fr13 v0' v1' => ?_⟩
      · rw [List.length_map]; omega
      · rw [List.length_map]; omega
      rw [List.length_map] at v1'
      obtain ⟨x', hx', ex'⟩ := atI_in v0' v1'
      have xr' := rg2 x' hx'
      refine ⟨N2, _, _, _, rfl, rfl, SqL.of (fr13 _ _ zN2.1.symm zN2.2.1.symm eN12), ex', by show 4 ≤ sizeLine; decide, fun a ha => ?_⟩
      have za := hS13.ne ha
      have s14 := same_upd (o := .lst [.int r, .int r, .int x, .int x']) ha
      refine ⟨_, rfl, s, A, B, c5 + 2, _, rfl, hS13.same s14, by omega, by decide, by decide, fun H15 u hS15 fr15 u0 u1 => ?_⟩
      have ea := fr15 a _ za.1.symm za.2.1.symm upd_same
      obtain ⟨v2, ev2, ov2⟩ := four_at (a := r) (b := r) (c := x) (d := x') u0 u1
      have v2r : 0 ≤ v2 ∧ v2 < n := by
        rcases ov2 with e | e | e | e <;> rw [e] <;> assumption
      have eF15 := fr15 _ _ zF.1.symm zF.2.1.symm (s14 _ _ (fr13 _ _ zF.1.symm zF.2.1.symm eF12))
      have fr15' : Fr s A H H15 := ((fr12.trans fr13).trans (Fr.of s14)).trans fr15
      refine ⟨a, _, _, _, rfl, rfl, SqL.of ea, ev2, _, rfl, _, rfl, fo, _, rfl, DPut.k (k := Sum.inr nm) eF15 (by rw [dkI_len, lG]; exact small1000 (by omega)), ?_⟩
      rw [put_new nnew]
      refine ⟨_, _, _, _, _, _, _, c5 + 3, _, rfl, hS15.put zF, by omega, fr15'.put gF, upd_same, ?_, gr.snoc v2r.1 v2r.2⟩
      rw [List.map_append, gn, take_snoc hk, List.map_append]
      rfl
    · rintro σ' H5 ⟨y4, y5, y6, y7, y8, y9, y10, c5, G, rfl, hS5, hc5, fr5, eF5, gn, gr⟩
      rw [List.take_length] at gn
      have ndG : (G.map (·.1)).Nodup := by rw [gn]; exact pl.nodup
      have lG : G.length = P.length := by
        have := congrArg List.length gn
        rw [List.length_map, List.length_map] at this
        exact this
      have hH5 := hH.fr hS fr5
      have hP5 := hP.tk (Tk.fr fr5 hS)
      -- names_here = sorted(found)
      refine ⟨_, rfl, fo, _, G.map (·.1), rfl, .inl eF5, ?_, ?_, fun ys py hp hs hpy => ?_⟩
      · unfold dkI
        rw [dk_keys, dkI_keys]
      · rw [List.length_map]
        omega
      have eys : ys = P.map (·.1) := by
        rw [gn] at hp
        exact sorted_same pl.nm hp hs
      subst eys
      have zY := hS5.ne hpy
      have s6 := same_upd (o := .lst ((P.map (·.1)).map V.str)) hpy
      have eY6 : (upd H5 py (.lst ((P.map (·.1)).map V.str))) py = some (.lst ((P.map (·.1)).map V.str)) := upd_same
      have hS6 := hS5.same s6
      have fr6 := fr5.trans (Fr.of s6)
      have eF6 := s6 _ _ eF5
      have hH6 := hH5.same s6
      have hP6 := hP5.same s6
      generalize upd H5 py (.lst ((P.map (·.1)).map V.str)) = H6 at *
      -- one, other
      refine ⟨_, rfl, _, rfl, _, rfl, py, _, rfl, .inl (SqL.of eY6), s, A, B, c5, _, rfl, hS6, by omega, ?_, ?_, fun H7 v hS7 fr7 v0 v1 => ?_⟩
      · rw [List.length_map, List.length_map]; omega
      · rw [List.length_map, List.length_map]; omega
      rw [List.length_map] at v1
      obtain ⟨one, h1, e1⟩ := at_str v0 v1
      have eY7 := fr7 _ _ zY.1.symm zY.2.1.symm eY6
      refine ⟨py, _, _, _, rfl, rfl, SqL.of eY7, e1, _, rfl, _, rfl, _, rfl, py, _, rfl, .inl (SqL.of eY7), s, A, B, c5 + 1, _, rfl, hS7, by omega, ?_, ?_, fun H8 v' hS8 fr8 v0' v1' => ?_⟩
      · rw [List.length_map, List.length_map]; omega
      · rw [List.length_map, List.length_map]; omega
      rw [List.length_map] at v1'
      obtain ⟨oth', h2, e2⟩ := at_str v0' v1'
      have eY8 := fr8 _ _ zY.1.symm zY.2.1.symm eY7
      refine ⟨py, _, _, _, rfl, rfl, SqL.of eY8, e2, _, _, rfl, ?_⟩
      have fr8' := (fr6.trans fr7).trans fr8
      have eF8 := fr8 _ _ zF.1.symm zF.2.1.symm (fr7 _ _ zF.1.symm zF.2.1.symm eF6)
      have hH8 := hH.fr hS fr8'
      have hP8 := hP.tk (Tk.fr fr8' hS)
      have i1 : one ∈ G.map (·.1) := by rw [gn]; exact h1
      have i2 : oth' ∈ G.map (·.1) := by rw [gn]; exact h2
      obtain ⟨g1, mg1⟩ := key_val i1
      obtain ⟨g2, mg2⟩ := key_val i2
      have val : ∀ {H' : Hp} {nm : Str} {v : Int}, H' fo = some (.dK (dkI G)) → (nm, v) ∈ G → DGet H' fo (.str nm) (some (.int v)) := fun {H' nm v} e m => .inl ⟨_, Sum.inr nm, .inl e, rfl, (valV_dkI ndG m).symm⟩
      dsimp only
      refine seq_by (a := tIfS _ _ _) (fun σ' H' => ∃ (G' : List (Str × Int)), σ' = [some (.ref s), some (.ref h), some (.ref p), some (.ref fo), y4, y5, y6, some (.str one), y8, some (.ref py), some (.str oth')] ∧ StreamAt H' s A B (c5 + 3) ∧ Fr s A H H' ∧ H' py = some (.lst ((P.map (·.1)).map V.str)) ∧ H' fo = some (.dK (dkI G')) ∧ G'.map (·.1) = P.map (·.1) ∧ InR n G') ?_ ?_
      · intro NN hNN
        refine if_by (fun _ H' => StreamAt H' s A B (c5 + 3) ∧ Fr s A H H' ∧ H' py = some (.lst ((P.map (·.1)).map V.str)) ∧ H' fo = some (.dK (dkI G))) ?_ ?_ ?_
        · rintro H10 ⟨hS10, fr10, eY10, eF10⟩
          refine ⟨_, rfl, _, rfl, fo, _, rfl, val eF10 mg2, _, rfl, _, rfl, fo, _, rfl, val eF10 mg1, by show 2 ≤ sizeLine; decide, fun t ht => ⟨t, _, rfl, SqT.of upd_same, rfl, _, _, rfl, ?_⟩⟩
          have s12 := same_upd (o := .tup [.int g2, .int g1]) ht
          have eF12 := s12 _ _ eF10
          refine ⟨_, rfl, _, rfl, fo, _, rfl, DPut.k (k := Sum.inr one) eF12 (by rw [dkI_len, lG]; exact small1000 (by omega)), ?_⟩
          rw [put_old i1]
          have i2' : oth' ∈ (mvd G one g2).map (·.1) := by rw [mvd_names]; exact i2
          refine ⟨_, _, rfl, _, rfl, _, rfl, fo, _, rfl, DPut.k (k := Sum.inr oth') upd_same (by rw [dkI_len, mvd_len, lG]; exact small1000 (by omega)), rfl, ?_⟩
          rw [put_old i2', upd_upd]
          have nYF : py ≠ fo := ne_of eY10 eF10 (by intro z; cases z)
          refine hNN _ _ ⟨_, rfl, (hS10.same s12).put zF, (fr10.trans (Fr.of s12)).put gF, ?_, upd_same, by rw [mvd_names, mvd_names]; exact gn, (gr.mvd (gr _ mg2).1 (gr _ mg2).2).mvd (gr _ mg1).1 (gr _ mg1).2⟩
          rw [upd_ne nYF]
          exact s12 _ _ eY10
        · rintro H10 ⟨hS10, fr10, eY10, eF10⟩
          exact hNN _ _ ⟨G, rfl, hS10, fr10, eY10, eF10, gn, gr⟩
        · intro Q' hQ'
          refine ⟨_, rfl, s, A, B, c5 + 1 + 1, _, rfl, hS8, by omega, by decide, by decide, fun H9 dv hS9 fr9 _ _ => ⟨_, _, rfl, rfl, _, rfl, ?_⟩⟩
          exact hQ' _ _ ⟨hS9, fr8'.trans fr9, fr9 _ _ zY.1.symm zY.2.1.symm eY8, fr9 _ _ zF.1.symm zF.2.1.symm eF8⟩
      clear val mg1 mg2 i1 i2 gn gr ndG lG
      rintro σ' H11 ⟨G', rfl, hS11, fr11, eY11, eF11, gn, gr⟩
      have plG : Pl n G' := ⟨by rw [gn]; exact pl.nm, gr⟩
      have lG : G'.length = P.length := by
        have := congrArg List.length gn
        rw [List.length_map, List.length_map] at this
        exact this
      rw [← gn] at eY11
      refine ⟨_, rfl, py, rfl, ⟨_, SqL.of eY11⟩, fun M hM => lc_list (K := K) (a := py) (xs := (G'.map (·.1)).map V.str) (fun i H' => Same H11 H' ∧ LsAt H' M (G'.take i)) ⟨same_upd hM, .nil upd_same⟩ (fun i H' _ hh => SqL.of (hh.1 _ _ eY11)) ?_ ?_⟩
      · rintro i x H12 hx ⟨s12, x12⟩
        obtain ⟨nm, hnm, rfl⟩ := get_vs hx
        rw [List.getElem?_map] at hnm
        cases hg : G'[i]? with
        | none => rw [hg] at hnm; cases hnm
        | some y =>
          rw [hg] at hnm
          cases hnm
          have my := List.mem_of_getElem? hg
          have ly := lt_of_get hg
          refine ⟨rfl, ?_⟩
          unfold tYes
          refine iteT ⟨_, rfl, _, rfl, _, rfl, fo, _, rfl, .inl ⟨_, Sum.inr y.1, .inl (s12 _ _ eF11), rfl, (valV_dkI plG.nodup (show (y.1, y.2) ∈ G' from my)).symm⟩, by show 2 ≤ sizeLine; decide, fun t ht => ?_⟩
          have s13 := same_upd (o := .tup [.str y.1, .int y.2]) ht
          obtain ⟨acc, a1, a2, a3⟩ := (x12.same s13).snoc (t := t) upd_same
          refine ⟨acc, a1, ?_, same_put (s12.trans s13) hM, ?_⟩
          · rw [a2, List.length_take]
            exact small1000 (by omega)
          · rw [take_snoc hg]
            exact a3
      · rintro H12 ⟨s12, x12⟩
        rw [List.length_map, List.length_map, List.take_length] at x12
        obtain ⟨xs, b1, b2⟩ := x12.tup
        refine ⟨M, _, rfl, SqL.of b1, fun t ob ht od => ?_⟩
        have s13 := s12.trans (same_upd (o := .frz ob (.tup xs)) ht)
        exact q _ t G' ((hS11.same s13).mono (by omega)) (fr11.trans (Fr.of s13)) (b2 t ob ht od) plG gn
end
end Fw
set_option maxHeartbeats 2000000
namespace Fw
open PySem PySem.Spec PyProof.Rows L2
/-! moves that can be made one after another (math) -/
theorem SP.upto {R : Int → Int → Prop} {a b c : Int} {p : List Int} (h : SP R a b p) : c ∈ p → ∃ q, SP R a c q ∧ ∀ x ∈ q, x ∈ p := by
  induction h with
  | one a =>
    intro m
    rw [List.mem_singleton.mp m]
    exact ⟨_, .one a, fun x hx => hx⟩
  | @cons a c' b p r q n ih =>
    intro m
    rcases List.mem_cons.mp m with e | m
    · rw [e]
      exact ⟨_, .one a, fun x hx => by rw [List.mem_singleton.mp hx]; exact List.mem_cons_self⟩
    · obtain ⟨q', hq, sub⟩ := ih m
      refine ⟨_, .cons r hq fun z => n (sub _ z), fun x hx => ?_⟩
      rcases List.mem_cons.mp hx with e | hx
      · rw [e]; exact List.mem_cons_self
      · exact List.mem_cons_of_mem _ (sub x hx)
/-- a way within -/
theorem Wk.within {D : List (Int × Int)} {U : List Int} {g v : Int} (h : Wk D U g v) : ∃ p, SP (adj D) g v p ∧ ∀ x ∈ p, x = g ∨ x ∈ U := by
  induction h with
  | base => exact ⟨_, .one g, fun x hx => .inl (List.mem_singleton.mp hx)⟩
  | @step v o _ r mo ih =>
    obtain ⟨p, hp, hs⟩ := ih
    by_cases m : o ∈ p
    · obtain ⟨q, hq, sub⟩ := hp.upto m
      exact ⟨q, hq, fun x hx => hs x (sub x hx)⟩
    · refine ⟨_, hp.snoc r m, fun x hx => ?_⟩
      rcases List.mem_append.mp hx with hx | hx
      · exact hs x hx
      · rw [List.mem_singleton.mp hx]
        exact .inr mo
theorem SP.walks {D : List (Int × Int)} {U : List Int} {a b : Int} {p : List Int} (h : SP (adj D) a b p) : (∀ x ∈ p.tail, x ∈ U) → Wk D U a b := by
  induction h with
  | one a => exact fun _ => .base
  | @cons a c b p r q n ih =>
    intro hs
    have hs : ∀ x ∈ p, x ∈ U := hs
    exact (Wk.step .base r (hs c q.head)).trans (ih fun x hx => hs x (List.mem_of_mem_tail hx))
theorem cut_tail (p : List Int) (h : 0 < p.length) : cutV (vi p) (some 1) none = vi p.tail := by
  unfold cutV vi
  show ((p.map V.int).drop (min 1 (p.map V.int).length)).take ((p.map V.int).length - min 1 (p.map V.int).length) = _
  rw [List.length_map, show min 1 p.length = 1 by omega, List.take_of_length_le (by rw [List.length_drop, List.length_map]; exact Nat.le_refl _), ← List.map_drop, List.drop_one]
/-- the moves X lead from P to Q -/
inductive Runs (n : Int) (D : List (Int × Int)) : List (Str × Int) → List (Str × Int) → List (Str × Int) → Prop
  | nil (P : List (Str × Int)) : Runs n D P [] P
  | cons {P X Q : List (Str × Int)} {nm : Str} {c r : Int} : (nm, c) ∈ P → r ∈ nb n D c → r ∈ P.map (·.2) → Runs n D (mvd P nm r) X Q → Runs n D P ((nm, r) :: X) Q
theorem mvd_twice (P : List (Str × Int)) (nm : Str) (a b : Int) : mvd (mvd P nm a) nm b = mvd P nm b := by
  unfold mvd
  rw [List.map_map]
  refine List.map_congr_left fun x _ => ?_
  by_cases e : x.1 = nm
  · simp [e]
  · simp [e]
theorem mvd_stay {P : List (Str × Int)} {nm : Str} {c : Int} (nd : (P.map (·.1)).Nodup) (m : (nm, c) ∈ P) : mvd P nm c = P := by
  unfold mvd
  refine (List.map_congr_left fun x hx => ?_).trans (List.map_id P)
  by_cases e : x.1 = nm
  · have := key_uniq nd m (show (nm, x.2) ∈ P from e ▸ hx) rfl
    rw [if_pos e, show c = x.2 from congrArg Prod.snd this]
    rfl
  · rw [if_neg e]
    rfl
theorem mvd_self {P : List (Str × Int)} {nm : Str} {c r : Int} (m : (nm, c) ∈ P) : (nm, r) ∈ mvd P nm r := List.mem_map.mpr ⟨_, m, by simp⟩
theorem mvd_other {P : List (Str × Int)} {nm : Str} {r : Int} {x : Str × Int} (m : x ∈ P) (ne : x.1 ≠ nm) : x ∈ mvd P nm r := List.mem_map.mpr ⟨_, m, by simp [ne]⟩
/-- a way whose rooms are other people's can be gone -/
theorem SP.runs {n : Int} {D : List (Int × Int)} (hF : Forest n D) {nm : Str} {a b : Int} {p : List Int} (h : SP (adj D) a b p) : ∀ {P : List (Str × Int)}, (P.map (·.1)).Nodup → (nm, a) ∈ P → (∀ t ∈ p.tail, ∃ x ∈ P, x.1 ≠ nm ∧ x.2 = t) → Runs n D P (p.tail.map fun t => (nm, t)) (mvd P nm b) := by
  induction h with
  | one a =>
    intro P nd m _
    rw [mvd_stay nd m]
    exact .nil P
  | @cons a c b p r q ni ih =>
    intro P nd m oth
    have oth : ∀ t ∈ p, ∃ x ∈ P, x.1 ≠ nm ∧ x.2 = t := oth
    have ep : p = c :: p.tail := by
      cases q <;> rfl
    show Runs n D P (p.map fun t => (nm, t)) _
    rw [ep, List.map_cons]
    obtain ⟨x, hx, _, ex⟩ := oth c q.head
    refine .cons m (hF.mem_nb.mpr r) (ex ▸ List.mem_map_of_mem (f := (·.2)) hx) ?_
    have := ih (P := mvd P nm c) (by rw [mvd_names]; exact nd) (mvd_self m) fun t ht => by
      obtain ⟨y, hy, ne, ey⟩ := oth t (List.mem_of_mem_tail ht)
      exact ⟨y, mvd_other hy ne, ne, ey⟩
    rw [mvd_twice] at this
    exact this
end Fw
namespace Fw
open PySem PySem.Spec PyProof.Rows L2
theorem int_dec (a b : Int) : decide (V.int a = V.int b) = decide (a = b) := by
  rw [Bool.eq_iff_iff, decide_eq_true_eq, decide_eq_true_eq]
  exact ⟨V.int.inj, fun e => by rw [e]⟩
section
variable {P : Program} {w : World} {K : PySem.W.Frag} {mg : Str → Option Value} {base : Heap}
end
end Fw
set_option maxHeartbeats 2000000
namespace Fw
open PySem PySem.Spec PyProof.Rows L2
/-- l != [], whatever lies in l -/
def rNeL0 (K : PySem.W.Frag) : R2 := fun x y H Q => ∃ (a b : Addr) (xs : List V), x = .ref a ∧ y = .ref b ∧ SqL K H a xs ∧ SqL K H b [] ∧ Q (.bl (!xs.isEmpty)) H
theorem op_neL0 {X : Cx} (hu : X.A.units < cLine) : OpR X (compareOp .NotEq) (rNeL0 X.K) := by
  rintro pn z σ H _ _ v u Q J rx ry ⟨a, b, xs, rfl, rfl, ha, hb, q⟩
  cases (show v = Value.ref a from rx)
  cases (show u = Value.ref b from ry)
  obtain ⟨ia, ra, pa, _⟩ := J.list ha
  obtain ⟨_, rb, pb, _⟩ := J.list hb
  cases rb
  match xs, ra with
  | [], .nil => exact SeqAt.RcNeAt.lists (e := fun _ => true) pa.isList pb.isList rfl hu (fun j h1 _ => absurd h1 (by simp)) X.prog X.w _ _ ⟨.bl false, H, J, rfl, q⟩
  | _ :: _, .cons _ _ => exact SeqAt.RcNeAt.lists_lengths pa.isList pb.isList (by simp) hu X.prog X.w _ _ ⟨.bl true, H, J, rfl, q⟩
/-! ### placements compared -/
theorem eqvAll_pp : ∀ (R G : List (Str × Int)), PyData.eqvAll (R.map pp) (G.map pp) = decide (R = G)
  | [], [] => rfl
  | [], _ :: _ => by rw [List.map_nil, List.map_cons, PyData.eqvAll]; rfl
  | _ :: _, [] => by rw [List.map_nil, List.map_cons, PyData.eqvAll]; rfl
  | x :: R, y :: G => by
    rw [List.map_cons, List.map_cons, PyData.eqvAll, eqvAll_pp R G]
    obtain ⟨x1, x2⟩ := x
    obtain ⟨y1, y2⟩ := y
    simp only [pp, PyData.eqv, PyData.eqvAll, Bool.and_true]
    rw [Bool.eq_iff_iff]
    simp
theorem eqv_pld (R G : List (Str × Int)) : PyData.eqv (pld R) (pld G) = decide (R = G) := by
  unfold pld
  rw [PyData.eqv]
  exact eqvAll_pp R G
end Fw
set_option maxHeartbeats 2000000
namespace Fw
open PySem PySem.Spec PyProof.Rows L2
/-! dicts keyed by placements -/
/-- a placement as a key -/
def pk (P : List (Str × Int)) : NestedKey := .tup (P.map fun x => .tup [.text x.1, .num x.2])
theorem pk_inj : ∀ {P R : List (Str × Int)}, pk P = pk R → P = R := by
  intro P R h
  injection h with h
  induction P generalizing R with
  | nil => cases R with
    | nil => rfl
    | cons y r => cases h
  | cons x P ih => cases R with
    | nil => cases h
    | cons y R =>
      rw [List.map_cons, List.map_cons] at h
      injection h with h1 h2
      injection h1 with h1
      injection h1 with h1 h3
      injection h1 with h1
      injection h3 with h3 h4
      injection h3 with h3
      rw [ih h2, Prod.ext h1 h3]
theorem pk_depth (P : List (Str × Int)) : (pk P).depth ≤ 2 := by
  have : NestedKey.depthAll (P.map fun x => NestedKey.tup [.text x.1, .num x.2]) ≤ 1 := by
    induction P with
    | nil => exact Nat.zero_le _
    | cons x P ih =>
      rw [List.map_cons]
      simp only [NestedKey.depthAll, NestedKey.depth]
      omega
  unfold pk
  simp only [NestedKey.depth]
  omega
/-- what the object of such a dict is -/
def DnO (P : Program) (w : World) (d : Addr) (xs : List (NestedKey × Addr × Value)) : HO :=
  .ext fun h => ∃ o es ep, h.get? d = some o ∧ o.ExactDict ∧ o.data = .dict es ep ∧ es.toList = xs.map (entryOfKey (nestedKind P w)) ∧ (xs.map (·.1)).Nodup
/-- what ties an entry to what is told of it -/
def DnE (H : Hp) (p : List (Str × Int) × V) (q : NestedKey × Addr × Value) : Prop := pk p.1 = q.1 ∧ PlAt H q.2.1 p.1 ∧ RelV p.2 q.2.2
structure DnAt (P : Program) (w : World) (H : Hp) (d : Addr) (ks : List (List (Str × Int) × V)) : Prop where
  ex : ∃ xs, H d = some (DnO P w d xs) ∧ Paired (DnE H) ks xs
  no : d ≠ sysModules
  z : ks.length ≤ sizeLine
theorem paired_right {α β : Type} {F : α → β → Prop} : ∀ {xs : List α} {ys : List β}, Paired F xs ys → ∀ {y : β}, y ∈ ys → ∃ x, F x y
  | _, _, .nil, _, h => nomatch h
  | _, _, .cons h r, y, m => by
    rcases List.mem_cons.mp m with e | m
    · exact e ▸ ⟨_, h⟩
    · exact paired_right r m
section
variable {X : Cx} {pins : List (Addr × Obj)} {σ : L2.St} {H : Hp} {s : Shared}
theorem nested_row (I : Inv X pins σ H s) {a : Addr} {z : Str} {i : Int} (h : H a = some (.tup [.str z, .int i])) : NestedIs s.heap (.tup [.text z, .num i]) (.ref a) := by
  obtain ⟨its, r, pl, _⟩ := I.tuple (SqT.of h)
  obtain ⟨o, ho, hc, n, hd⟩ := pl
  cases r with
  | cons r1 r =>
    cases r with
    | cons r2 r =>
      cases r
      obtain ⟨t1, e1⟩ := r1
      obtain ⟨t2, e2⟩ := r2
      exact .tup ho hc hd (.cons (by rw [e1]; exact .text _ _) (.cons (by rw [e2]; exact .int _ _) .nil))
theorem nested_rows (I : Inv X pins σ H s) : ∀ {ps : List (Addr × Str × Int)} {its : List Value}, (∀ q ∈ ps, H q.1 = some (.tup [.str q.2.1, .int q.2.2])) → Vals (ps.map fun q => V.ref q.1) its → NestedAll s.heap ((ps.map (·.2)).map fun x => NestedKey.tup [.text x.1, .num x.2]) its
  | [], _, _, r => by cases r; exact .nil
  | q :: ps, _, h, r => by
    cases r with
    | cons r1 r2 =>
      cases r1
      exact .cons (nested_row I (h q (List.mem_cons_self ..))) (nested_rows I (fun y hy => h y (List.mem_cons_of_mem _ hy)) r2)
/-- a placement that lies in memory is that key -/
theorem nested_pl (I : Inv X pins σ H s) {a : Addr} {P : List (Str × Int)} (h : PlAt H a P) : (nestedKind X.prog X.w).is s.heap (pk P) a := by
  obtain ⟨ps, h1, rfl, h3⟩ := h
  obtain ⟨its, r, pl, _⟩ := I.tuple (h1.sq (K := X.K))
  obtain ⟨o, ho, hc, n, hd⟩ := pl
  exact ⟨.tup ho hc hd (nested_rows I h3 r), Nat.le_trans (pk_depth _) (by decide)⟩
theorem keys_pk {ks : List (List (Str × Int) × V)} {xs : List (NestedKey × Addr × Value)} (pr : Paired (DnE H) ks xs) : (pairsH xs).map (·.1) = ks.map fun p => pk p.1 := by
  induction pr with
  | nil => rfl
  | cons h _ ih =>
    exact congr (congrArg List.cons h.1.symm) ih
theorem value_pk {ks : List (List (Str × Int) × V)} {xs : List (NestedKey × Addr × Value)} (pr : Paired (DnE H) ks xs) {P : List (Str × Int)} {v : V} (m : (P, v) ∈ ks) : ∃ u, (pk P, u) ∈ pairsH xs ∧ RelV v u := by
  induction pr with
  | nil => cases m
  | cons h _ ih =>
    rcases List.mem_cons.mp m with e | m
    · subst e
      exact ⟨_, by rw [h.1]; exact List.mem_cons_self, h.2.2⟩
    · obtain ⟨u, hu, r⟩ := ih m
      exact ⟨u, List.mem_cons_of_mem _ hu, r⟩
/-- what the rules of such a dict want -/
theorem DnAt.keyed {ks : List (List (Str × Int) × V)} {d : Addr} (I : Inv X pins σ H s) (h : DnAt X.prog X.w H d ks) : ∃ xs, H d = some (DnO X.prog X.w d xs) ∧ Paired (DnE H) ks xs ∧ s.heap.DictOfH (nestedKind X.prog X.w) d xs := by
  obtain ⟨xs, e, pr⟩ := h.ex
  obtain ⟨⟨o, es, ep, ho, he, hd, hl, hn⟩, _, _⟩ := (show ObjOk X.prog X.w H s.heap d (DnO X.prog X.w d xs) from I.hok d _ e)
  refine ⟨xs, e, pr, o, es, ep, ho, he, hd, hl, fun x hx => ?_, hn⟩
  obtain ⟨p, hp⟩ := paired_right pr hx
  rw [← hp.1]
  exact nested_pl I hp.2.1
theorem op_notInP (hu : X.A.units + 64 < cLine) : OpR X (compareOp .NotIn) (fun x y H Q => ∃ (a d : Addr) (P : List (Str × Int)) (ks : List (List (Str × Int) × V)), x = .ref a ∧ y = .ref d ∧ PlAt H a P ∧ DnAt X.prog X.w H d ks ∧ Q (.bl (!decide (∃ p ∈ ks, p.1 = P))) H) := by
  rintro pn s σ H _ _ v u Q I rx ry ⟨a, d, P, ks, rfl, rfl, hp, hd, q⟩
  cases (show v = Value.ref a from rx)
  cases (show u = Value.ref d from ry)
  obtain ⟨xs, e, pr, hm⟩ := hd.keyed I
  refine notIn_keyed (knd := nestedKind X.prog X.w) (A := X.A) (by show X.A.units + 1 + 8 < cLine; omega) (nested_pl I hp) (by simpa using hd.no) ⟨xs, hm, rfl⟩ ?_
  refine ⟨.bl _, H, I.tok _, ?_, q⟩
  show Value.bool _ = Value.bool _
  congr 2
  rw [Bool.eq_iff_iff, valueAt_isSome, keys_pk pr, decide_eq_true_iff]
  constructor
  · intro m
    obtain ⟨p, hp, e⟩ := List.mem_map.mp m
    exact ⟨p, hp, pk_inj e⟩
  · rintro ⟨p, mp, rfl⟩
    exact List.mem_map_of_mem (f := fun p : List (Str × Int) × V => pk p.1) mp
theorem getItem_pk (hu : X.A.units + 64 < cLine) {d b : Addr} {P : List (Str × Int)} {v : V} {ks : List (List (Str × Int) × V)} {Q : Value → Shared → Prop} {E : Value → Shared → Prop} (I : Inv X pins σ H s) (hp : PlAt H b P) (hd : DnAt X.prog X.w H d ks) (m : (P, v) ∈ ks)
    (h : ∀ u s', Inv X pins σ H s' → RelV v u → Q u s') : wpAny (model X.prog X.w) X.A (getItem (.ref d) (.ref b)) Q E s := by
  obtain ⟨xs, e, pr, hm⟩ := hd.keyed I
  obtain ⟨u, hu', r⟩ := value_pk pr m
  have nd : ((pairsH xs).map (·.1)).Nodup := Heap.DictKeyed.nodup ⟨xs, hm, rfl⟩
  exact getItem_keyed (knd := nestedKind X.prog X.w) (A := X.A) (by show X.A.units + 1 + 8 < cLine; omega) (nested_pl I hp) ⟨xs, hm, rfl⟩ (valueAt_of_mem nd hu') (h u _ (I.tok _) r)
theorem paired_map {α β : Type} {F G : α → β → Prop} (i : ∀ x y, F x y → G x y) : ∀ {xs : List α} {ys : List β}, Paired F xs ys → Paired G xs ys
  | _, _, .nil => .nil
  | _, _, .cons h r => .cons (i _ _ h) (paired_map i r)
theorem paired_snoc {α β : Type} {F : α → β → Prop} {x : α} {y : β} (h : F x y) : ∀ {xs : List α} {ys : List β}, Paired F xs ys → Paired F (xs ++ [x]) (ys ++ [y])
  | _, _, .nil => .cons h .nil
  | _, _, .cons h1 r => .cons h1 (paired_snoc h r)
theorem Tk.putE {H H' : Hp} (a : Tk H H') {L : Addr} {φ : Heap → Prop} {o : HO} (h : H' L = some (.ext φ)) : Tk H (upd H' L o) := by
  refine ⟨fun e => ?_, fun e => ?_⟩
  · rw [upd_ne (ne_of (a.t e) h (by intro z; cases z))]
    exact a.t e
  · rw [upd_ne (ne_of (a.f e) h (by intro z; cases z))]
    exact a.f e
/-- such a dict stays while it and the tuples stay -/
theorem DnAt.tk {P : Program} {w : World} {H H' : Hp} {d : Addr} {ks : List (List (Str × Int) × V)} (h : DnAt P w H d ks) (t : Tk H H') (e : H' d = H d) : DnAt P w H' d ks := by
  obtain ⟨⟨xs, h1, h2⟩, h3, h4⟩ := h
  exact ⟨⟨xs, e.trans h1, paired_map (fun _ _ z => ⟨z.1, z.2.1.tk t, z.2.2⟩) h2⟩, h3, h4⟩
theorem DnAt.same {P : Program} {w : World} {H H' : Hp} {d : Addr} {ks : List (List (Str × Int) × V)} (h : DnAt P w H d ks) (s : Same H H') : DnAt P w H' d ks := by
  obtain ⟨xs, h1, _⟩ := h.ex
  exact h.tk (Tk.of s) ((s _ _ h1).trans h1.symm)
/-- d[p] = v, p not there yet -/
theorem setItem_pk (hu : X.A.units + 64 < cLine) {d b : Addr} {P : List (Str × Int)} {v : V} {u : Value} {ks : List (List (Str × Int) × V)} {Q : Unit → Shared → Prop} {E : Value → Shared → Prop} (I : Inv X pins σ H s) (hp : PlAt H b P) (hd : DnAt X.prog X.w H d ks) (nw : ∀ p ∈ ks, p.1 ≠ P) (z : ks.length < sizeLine) (rv : RelV v u)
    (h : ∀ H' s', Inv X pins σ H' s' → (∃ xs, H' = upd H d (DnO X.prog X.w d xs)) → DnAt X.prog X.w H' d (ks ++ [(P, v)]) → Q () s') : wpAny (model X.prog X.w) X.A (setItem (.ref d) (.ref b) u) Q E s := by
  obtain ⟨xs, e, pr, hm⟩ := hd.keyed I
  have lx : xs.length = ks.length := by
    have := congrArg List.length (keys_pk pr)
    rw [List.length_map, List.length_map, pairsH_length] at this
    exact this
  have no : atKey xs (pk P) = none := by
    cases k : atKey xs (pk P) with
    | none => rfl
    | some y =>
      have : (valueAt (pairsH xs) (pk P)).isSome = true := by rw [valueAt_pairsH, k]; rfl
      rw [valueAt_isSome, keys_pk pr] at this
      obtain ⟨p, m, q⟩ := List.mem_map.mp this
      exact absurd (pk_inj q) (nw p m)
  refine wpAny_setItem_heap (knd := nestedKind X.prog X.w) (A := X.A) (hsz := by rw [lx]; exact hd.z) (by show X.A.units + 1 + 8 < cLine; omega) (nested_pl I hp) hm fun h' hm' hs => ?_
  rw [storedH_new no] at hm'
  obtain ⟨o, es, ep, ho, he, hdt, hl, hk, hn⟩ := hm'
  have new : ObjOk X.prog X.w (upd H d (DnO X.prog X.w d (xs ++ [(pk P, b, u)]))) h' d (DnO X.prog X.w d (xs ++ [(pk P, b, u)])) :=
    ⟨⟨o, es, ep, ho, he, hdt, hl, hn⟩, ⟨o, ho⟩, fun h1 h2 ⟨o, es, ep, ho, r⟩ k => ⟨o, es, ep, k o ho, r⟩⟩
  have t : Tk H (upd H d (DnO X.prog X.w d (xs ++ [(pk P, b, u)]))) := Tk.refl.putE e
  refine h _ _ (d_write I (by rw [e]; exact True.intro) hs ⟨o, ho⟩ new) ⟨_, rfl⟩ ⟨⟨_, upd_same, paired_snoc ⟨rfl, hp.tk t, rv⟩ (paired_map (fun _ _ z => ⟨z.1, z.2.1.tk t, z.2.2⟩) pr)⟩, hd.no, ?_⟩
  rw [List.length_append]
  exact z
theorem dn_empty {P : Program} {w : World} {H : Hp} (h : Heap) : ObjOk P w H (h.push { cls := .type "dict", data := .dict #[] }) h.objs.size (DnO P w h.objs.size []) :=
  ⟨⟨_, #[], 0, Heap.get?_push_size _ rfl, ⟨rfl, rfl, rfl⟩, rfl, rfl, List.nodup_nil⟩, ⟨_, Heap.get?_push_size _ rfl⟩, fun h1 h2 ⟨o, es, ep, ho, r⟩ k => ⟨o, es, ep, k o ho, r⟩⟩
/-- {p: v} -/
def tDNewP (P : Program) (w : World) (tk tv : TE) : TE := fun σ H Q => ∀ d, H d = none → d ≠ sysModules → tk σ (upd H d (DnO P w d [])) fun x H1 => tv σ H1 fun y H2 => ∃ b R, x = .ref b ∧ PlAt H2 b R ∧ H2 d = some (DnO P w d []) ∧
  ∀ H3, (∃ xs, H3 = upd H2 d (DnO P w d xs)) → DnAt P w H3 d [(R, y)] → Q (.ref d) H3
theorem pe_dnewP (hu : X.A.units + 64 < cLine) {k v : Expr} {tk tv : TE} {pos : Pos} (hk : PE X k tk) (hv : PE X v tv) : PE X (.Dict [some k] [v] pos) (tDNewP X.prog X.w tk tv) := by
  refine ⟨fun pn z σ H Q I h => ?_⟩
  have I0 := I.laid (a := z.heap.objs.size) (o := DnO X.prog X.w z.heap.objs.size []) (t' := z.toks) (fun _ _ q => Heap.get?_push_of_some _ q) (Nat.le_refl _) (dn_empty z.heap)
  have h0 := h z.heap.objs.size (I.hok.fresh (Nat.le_refl _)) (fun e => Nat.ne_of_lt I.big e.symm)
  have one := dictDisplay_pairs [(eval k X.env, (do let x ← eval v X.env; standAt pos; pure x : Sem Value))] (by simp) (show 1 < 17 by decide)
  rw [arm_eval_Dict]
  refine wpAny_bind (wpAny_standAt ?_)
  refine (congrArg (fun t => wpAny (model X.prog X.w) X.A t (EP X pn σ Q) X.xe z) one).mpr ?_
  refine wpAny_bind (wpAny_subDictH (knd := nestedKind X.prog X.w) (by show X.A.units + 8 < cLine; omega) (show 1 ≤ 15 by decide) (evalPairs_cons (thn (hk.run pn _ σ _ _ I0 h0) fun kv s1 a1 => ?_)))
  obtain ⟨x, H1, I1, rx, q1⟩ := a1
  refine wpAny_bind (thn (hv.run pn s1 σ H1 _ I1 q1) fun vv s2 a2 => ?_)
  obtain ⟨y, H2, I2, ry, b, R, rfl, hp, e2, q2⟩ := a2
  cases (show kv = Value.ref b from rx)
  have now := I2.hok _ _ e2
  obtain ⟨⟨o, es, ep, ho, he, hd, hl, hn⟩, _, _⟩ := (show ObjOk X.prog X.w H2 s2.heap z.heap.objs.size (DnO X.prog X.w z.heap.objs.size []) from now)
  refine wpAny_bind (wpAny_standAt (wpAny_pure (evalPairs_nil ⟨[(pk R, b, vv)], ⟨rfl, rfl, nested_pl I2 hp, True.intro⟩, ⟨o, es, ep, ho, he, hd, hl, (fun x hx => by cases hx), hn⟩, fun h' tk hm' hs => wpAny_pure ?_⟩)))
  rw [show storedAllH [] [(pk R, b, vv)] = [(pk R, b, vv)] from rfl] at hm'
  obtain ⟨o, es, ep, ho, he, hd, hl, hk, hn⟩ := hm'
  have new : ObjOk X.prog X.w (upd H2 z.heap.objs.size (DnO X.prog X.w z.heap.objs.size [(pk R, b, vv)])) h' z.heap.objs.size (DnO X.prog X.w z.heap.objs.size [(pk R, b, vv)]) :=
    ⟨⟨o, es, ep, ho, he, hd, hl, hn⟩, ⟨o, ho⟩, fun h1 h2 ⟨o, es, ep, ho, r⟩ k => ⟨o, es, ep, k o ho, r⟩⟩
  have t : Tk H2 (upd H2 z.heap.objs.size (DnO X.prog X.w z.heap.objs.size [(pk R, b, vv)])) := Tk.refl.putE e2
  exact ⟨.ref z.heap.objs.size, _, d_write I2 (by rw [e2]; exact True.intro) hs ⟨o, ho⟩ new, rfl, q2 _ ⟨_, rfl⟩ ⟨⟨_, upd_same, .cons ⟨rfl, hp.tk t, ry⟩ .nil⟩, fun e => Nat.ne_of_lt I.big e.symm, by show 1 ≤ sizeLine; decide⟩⟩
/-- d[p], p there -/
def tPGet (P : Program) (w : World) (td ty : TE) : TE := fun σ H Q => td σ H fun x H1 => ty σ H1 fun y H2 => ∃ (d b : Addr) (R : List (Str × Int)) (v : V) (ks : List (List (Str × Int) × V)), x = .ref d ∧ y = .ref b ∧ PlAt H2 b R ∧ DnAt P w H2 d ks ∧ (R, v) ∈ ks ∧ Q v H2
theorem pe_pget (hu : X.A.units + 64 < cLine) {o i : Expr} {pos : Pos} {td ty : TE} (ho : PE X o td) (hi : PE X i ty) (hs : NoSl i) : PE X (.Subscript o i pos) (tPGet X.prog X.w td ty) :=
  ⟨fun pn z σ H Q I h => subD_of PySem.F.slot_dict_getitem.lookup hs (thn (ho.run pn z σ H _ I h) fun u z1 a1 => by
    obtain ⟨x, H1, I1, rx, q1⟩ := a1
    refine thn (hi.run pn z1 σ H1 _ I1 q1) fun iv z2 a2 => ?_
    obtain ⟨y, H2, I2, ry, d, b, R, v, ks, rfl, rfl, hp, hd, m, q⟩ := a2
    cases (show u = Value.ref d from rx)
    cases (show iv = Value.ref b from ry)
    obtain ⟨xs, _, _, hm⟩ := hd.keyed I2
    exact ⟨hm.typeIs, getItem_pk hu I2 hp hd m fun w' z3 I3 rw' => ⟨v, H2, I3, rw', q⟩⟩)⟩
/-- d[p] = v, p not there yet -/
def sPPut (P : Program) (w : World) (td ty tv : TE) : TS := fun D σ H => tv σ H fun v H1 => td σ H1 fun x H2 => ty σ H2 fun y H3 => ∃ (d b : Addr) (R : List (Str × Int)) (ks : List (List (Str × Int) × V)), x = .ref d ∧ y = .ref b ∧ PlAt H3 b R ∧ DnAt P w H3 d ks ∧ (∀ p ∈ ks, p.1 ≠ R) ∧ ks.length < sizeLine ∧
  ∀ H4, (∃ xs, H4 = upd H3 d (DnO P w d xs)) → DnAt P w H4 d (ks ++ [(R, v)]) → D.nx σ H4
theorem ps_pput (hu : X.A.units + 64 < cLine) {o i value : Expr} {pos pos' : Pos} {td ty tv : TE} (ho : PE X o td) (hi : PE X i ty) (hv : PE X value tv) (hs : swapsWith value (some (.Subscript o i pos')) pos.line X.env = pure false) :
    PS X (.Assign [.Subscript o i pos'] value pos) (sPPut X.prog X.w td ty tv) := by
  refine ⟨fun pn z σ H D I h => wpAny_Assign_Subscript (thn (hv.run pn z σ H _ I h) fun r z1 a1 => ?_) hs⟩
  obtain ⟨v, H1, I1, rv, q1⟩ := a1
  refine thn (ho.run pn z1 σ H1 _ I1 q1) fun u z2 a2 => ?_
  obtain ⟨x, H2, I2, rx, q2⟩ := a2
  refine thn (hi.run pn z2 σ H2 _ I2 q2) fun iv z3 a3 => ?_
  obtain ⟨y, H3, I3, ry, d, b, R, ks, rfl, rfl, hp, hd, nw, zz, q⟩ := a3
  cases (show u = Value.ref d from rx)
  cases (show iv = Value.ref b from ry)
  exact setItem_pk hu I3 hp hd nw zz rv fun H4 z4 I4 e d4 => ⟨σ, H4, I4, q H4 e d4⟩
end
end Fw
set_option maxHeartbeats 2000000
namespace Fw
open PySem PySem.Spec PyProof.Rows L2
/-! whether a placement is a key -/
section
variable {X : Cx}
theorem op_inP (hu : X.A.units + 64 < cLine) : OpR X (compareOp .In) (fun x y H Q => ∃ (a d : Addr) (P : List (Str × Int)) (ks : List (List (Str × Int) × V)), x = .ref a ∧ y = .ref d ∧ PlAt H a P ∧ DnAt X.prog X.w H d ks ∧ Q (.bl (decide (P ∈ ks.map (·.1)))) H) := by
  rintro pn s σ H _ _ v u Q I rx ry ⟨a, d, P, ks, rfl, rfl, hp, hd, q⟩
  cases (show v = Value.ref a from rx)
  cases (show u = Value.ref d from ry)
  obtain ⟨xs, e, pr, hm⟩ := hd.keyed I
  refine in_keyed (knd := nestedKind X.prog X.w) (A := X.A) (by show X.A.units + 1 + 8 < cLine; omega) (nested_pl I hp) (by simpa using hd.no) ⟨xs, hm, rfl⟩ ?_
  refine ⟨.bl _, H, I.tok _, ?_, q⟩
  show Value.bool _ = Value.bool _
  congr 1
  rw [Bool.eq_iff_iff, valueAt_isSome, keys_pk pr, decide_eq_true_iff]
  constructor
  · intro m
    obtain ⟨p, hp, e⟩ := List.mem_map.mp m
    exact List.mem_map.mpr ⟨p, hp, pk_inj e⟩
  · intro m
    obtain ⟨p, mp, rfl⟩ := List.mem_map.mp m
    exact List.mem_map_of_mem (f := fun p : List (Str × Int) × V => pk p.1) mp
end
theorem DnAt.fr {P : Program} {w : World} {H H' : Hp} {d : Addr} {ks : List (List (Str × Int) × V)} {s A B : Addr} {c : Nat} (x : DnAt P w H d ks) (hS : StreamAt H s A B c) (f : Fr s A H H') : DnAt P w H' d ks := by
  obtain ⟨xs, e, pr⟩ := x.ex
  refine ⟨⟨xs, f d _ (fun z => ?_) (fun z => ?_) e, paired_map (fun p q h => ⟨h.1, h.2.1.fr hS f, h.2.2⟩) pr⟩, x.no, x.z⟩
  · subst z
    obtain ⟨_, _, _, h1, _⟩ := hS.ex
    rw [h1] at e
    cases e
  · subst z
    obtain ⟨_, _, _, _, h2, _⟩ := hS.ex
    rw [h2] at e
    cases e
end Fw
set_option maxHeartbeats 2000000
namespace Fw
open PySem PySem.Spec PyProof.Rows L2
/-! placements that are reached in so many moves, and how many there can be -/
inductive Rb (n : Int) (D : List (Int × Int)) : Nat → List (Str × Int) → List (Str × Int) → Prop
  | zero {P : List (Str × Int)} : Rb n D 0 P P
  | step {k : Nat} {P Q : List (Str × Int)} {a : Str} {r : Int} : Rb n D k P Q → (a, r) ∈ mvs n D Q Q → Rb n D (k + 1) P (mvd Q a r)
section
variable {n : Int} {D : List (Int × Int)} {P Q R : List (Str × Int)} {k : Nat}
theorem Rb.names (h : Rb n D k P R) : R.map (·.1) = P.map (·.1) := by
  induction h with
  | zero => rfl
  | step _ _ ih => rw [mvd_names, ih]
/-- the rooms with somebody in them only become fewer -/
theorem Rb.rooms (h : Rb n D k P R) {r : Int} (m : r ∈ R.map (·.2)) : r ∈ P.map (·.2) := by
  induction h with
  | zero => exact m
  | step _ ma ih =>
    obtain ⟨c, _, _, ht⟩ := mvs_mem ma
    obtain ⟨x, hx, e⟩ := List.mem_map.mp m
    obtain ⟨y, hy, e'⟩ := List.mem_map.mp hx
    subst e'
    dsimp only at e
    split at e
    · exact ih (e ▸ ht)
    · exact ih (e ▸ List.mem_map_of_mem (f := (·.2)) hy)
theorem Rb.pl (h : Rb n D k P R) (pl : Pl n P) : Pl n R := by
  refine ⟨by rw [h.names]; exact pl.nm, fun x hx => ?_⟩
  obtain ⟨y, hy, e⟩ := List.mem_map.mp (h.rooms (List.mem_map_of_mem (f := (·.2)) hx))
  rw [← e]
  exact pl.rm y hy
end
/-- all placements of these people in n rooms -/
def allP (n : Nat) : List Str → List (List (Str × Int))
  | [] => [[]]
  | z :: zs => (List.range n).flatMap fun r : Nat => (allP n zs).map fun R => (z, Int.ofNat r) :: R
theorem sum_const {α : Type} (m : Nat) : ∀ xs : List α, (xs.map fun _ => m).sum = xs.length * m
  | [] => by simp
  | x :: xs => by rw [List.map_cons, List.sum_cons, sum_const m xs, List.length_cons, Nat.succ_mul, Nat.add_comm]
theorem allP_len (n : Nat) : ∀ zs, (allP n zs).length = n ^ zs.length
  | [] => rfl
  | z :: zs => by
    unfold allP
    rw [List.length_flatMap]
    simp only [List.length_map, allP_len n zs]
    rw [sum_const, List.length_range, List.length_cons, Nat.pow_succ, Nat.mul_comm]
theorem allP_mem {n : Int} : ∀ {R : List (Str × Int)}, (∀ x ∈ R, 0 ≤ x.2 ∧ x.2 < n) → R ∈ allP n.toNat (R.map (·.1))
  | [], _ => List.mem_singleton.mpr rfl
  | x :: R, h => by
    have hx := h x (List.mem_cons_self ..)
    have ih := allP_mem fun y hy => h y (List.mem_cons_of_mem _ hy)
    refine List.mem_flatMap.mpr ⟨x.2.toNat, List.mem_range.mpr (by omega), List.mem_map.mpr ⟨R, ih, ?_⟩⟩
    rw [show Int.ofNat x.2.toNat = x.2 from Int.toNat_of_nonneg hx.1]
theorem len_in {α : Type} [DecidableEq α] : ∀ {xs ys : List α}, xs.Nodup → (∀ x ∈ xs, x ∈ ys) → xs.length ≤ ys.length
  | [], _, _, _ => Nat.zero_le _
  | x :: xs, ys, nd, h => by
    have nd := List.nodup_cons.mp nd
    have i := len_in (xs := xs) (ys := ys.erase x) nd.2 fun y hy => (List.mem_erase_of_ne (show y ≠ x from fun e => nd.1 (e ▸ hy))).mpr (h y (List.mem_cons_of_mem _ hy))
    have e := List.length_erase_of_mem (h x (List.mem_cons_self ..))
    have p := List.length_pos_of_mem (h x (List.mem_cons_self ..))
    rw [List.length_cons]
    omega
/-- so many at most -/
theorem reached_few {n : Int} {P : List (Str × Int)} {Rs : List (List (Str × Int))} (nd : Rs.Nodup) (h : ∀ R ∈ Rs, R.map (·.1) = P.map (·.1) ∧ Pl n R) : Rs.length ≤ n.toNat ^ P.length := by
  have := len_in (ys := allP n.toNat (P.map (·.1))) nd fun R hR => by
    have m := allP_mem (h R hR).2.rm
    rwa [(h R hR).1] at m
  rwa [allP_len, List.length_map] at this
/-- the fewest moves -/
def Few (n : Int) (D : List (Int × Int)) (k : Nat) (P R : List (Str × Int)) : Prop := Rb n D k P R ∧ ∀ i, i < k → ¬ Rb n D i P R
section
variable {n : Int} {D : List (Int × Int)} {P R : List (Str × Int)}
theorem few_of : ∀ {k : Nat}, Rb n D k P R → ∃ j, j ≤ k ∧ Few n D j P R := by
  intro k
  induction k using Nat.strongRecOn with
  | ind k ih =>
    intro h
    by_cases z : ∃ i, i < k ∧ Rb n D i P R
    · obtain ⟨i, hi, hr⟩ := z
      obtain ⟨j, hj, f⟩ := ih i hi hr
      exact ⟨j, by omega, f⟩
    · exact ⟨k, Nat.le_refl _, h, fun i hi hr => z ⟨i, hi, hr⟩⟩
theorem few_one {j k : Nat} (h : Few n D j P R) (g : Few n D k P R) : j = k := by
  rcases Nat.lt_trichotomy j k with l | l | l
  · exact absurd h.1 (g.2 j l)
  · exact l
  · exact absurd g.1 (h.2 k l)
/-- the next layer comes from this one -/
theorem few_step {k : Nat} (h : Few n D (k + 1) P R) : ∃ Q a r, Few n D k P Q ∧ (a, r) ∈ mvs n D Q Q ∧ R = mvd Q a r := by
  obtain ⟨h1, h2⟩ := h
  cases h1 with
  | step hq m => exact ⟨_, _, _, ⟨hq, fun i hi hr => h2 (i + 1) (by omega) (hr.step m)⟩, m, rfl⟩
/-- what is one move from this layer is in the next one or was there -/
theorem few_next {k : Nat} {Q : List (Str × Int)} {a : Str} {r : Int} (h : Few n D k P Q) (m : (a, r) ∈ mvs n D Q Q) : Few n D (k + 1) P (mvd Q a r) ∨ ∃ j, j ≤ k ∧ Few n D j P (mvd Q a r) := by
  obtain ⟨j, hj, f⟩ := few_of (h.1.step m)
  by_cases e : j = k + 1
  · exact .inl (e ▸ f)
  · exact .inr ⟨j, by omega, f⟩
/-- an empty layer is the end -/
theorem few_end {k : Nat} (h : ∀ Q, ¬ Few n D k P Q) : ∀ {j : Nat} {R : List (Str × Int)}, Rb n D j P R → ∃ i, i < k ∧ Rb n D i P R := by
  intro j
  induction j with
  | zero =>
    intro R hr
    cases hr
    cases k with
    | zero => exact absurd ⟨.zero, fun i hi => absurd hi (Nat.not_lt_zero _)⟩ (h P)
    | succ k => exact ⟨0, Nat.succ_pos _, .zero⟩
  | succ j ih =>
    intro R hr
    cases hr with
    | step hq m =>
      obtain ⟨i, hi, hr⟩ := ih hq
      by_cases e : i + 1 < k
      · exact ⟨i + 1, e, hr.step m⟩
      · have e : i + 1 = k := by omega
        obtain ⟨j', hj, f⟩ := few_of (hr.step m)
        by_cases z : j' = k
        · exact absurd (z ▸ f) (h _)
        · exact ⟨j', by omega, f.1⟩
end
/-- the search between two rounds: all within r moves are found, the edge is what takes r -/
structure Lay (n : Int) (D : List (Int × Int)) (P : List (Str × Int)) (r : Nat) (ks : List (List (Str × Int) × V)) (E : List (List (Str × Int))) : Prop where
  nd : (ks.map (·.1)).Nodup
  vl : ∀ p ∈ ks, ∃ j : Nat, p.2 = .int j ∧ Few n D j P p.1
  me : ∀ R, R ∈ ks.map (·.1) ↔ ∃ j, j ≤ r ∧ Few n D j P R
  ed : ∀ R, R ∈ E ↔ Few n D r P R
/-- the search within a round: S are the placements that were looked at -/
structure Mdl (n : Int) (D : List (Int × Int)) (P : List (Str × Int)) (r : Nat) (ks : List (List (Str × Int) × V)) (N S : List (List (Str × Int))) : Prop where
  nd : (ks.map (·.1)).Nodup
  vl : ∀ p ∈ ks, ∃ j : Nat, p.2 = .int j ∧ Few n D j P p.1
  ol : ∀ R j, j ≤ r → Few n D j P R → R ∈ ks.map (·.1)
  nw : ∀ R ∈ ks.map (·.1), (∃ j, j ≤ r ∧ Few n D j P R) ∨ R ∈ N
  nn : ∀ R ∈ N, Few n D (r + 1) P R ∧ R ∈ ks.map (·.1)
  se : ∀ T ∈ S, T ∈ ks.map (·.1)
section
variable {n : Int} {D : List (Int × Int)} {P : List (Str × Int)} {r : Nat} {ks : List (List (Str × Int) × V)} {E N S : List (List (Str × Int))}
theorem Lay.start : Lay n D P 0 [(P, .int 0)] [P] := by
  have z : Few n D 0 P P := ⟨.zero, fun i hi => absurd hi (Nat.not_lt_zero _)⟩
  have one : ∀ R, Few n D 0 P R → R = P := fun R h => by
    obtain ⟨h, _⟩ := h
    cases h
    rfl
  refine ⟨by simp, fun p hp => ?_, fun R => ⟨fun m => ?_, fun ⟨j, hj, f⟩ => ?_⟩, fun R => ⟨fun m => ?_, fun f => ?_⟩⟩
  · rw [List.mem_singleton.mp hp]; exact ⟨0, rfl, z⟩
  · rw [List.mem_singleton.mp m]; exact ⟨0, Nat.le_refl _, z⟩
  · obtain rfl : j = 0 := by omega
    exact List.mem_singleton.mpr (one R f)
  · rw [List.mem_singleton.mp m]; exact z
  · exact List.mem_singleton.mpr (one R f)
theorem Lay.mid (h : Lay n D P r ks E) : Mdl n D P r ks [] [] := ⟨h.nd, h.vl, fun R j hj f => (h.me R).mpr ⟨j, hj, f⟩, fun R m => .inl ((h.me R).mp m), fun R m => (nomatch m), fun T m => (nomatch m)⟩
theorem Mdl.skip (h : Mdl n D P r ks N S) {T : List (Str × Int)} (m : T ∈ ks.map (·.1)) : Mdl n D P r ks N (S ++ [T]) :=
  ⟨h.nd, h.vl, h.ol, h.nw, h.nn, fun R hR => (List.mem_append.mp hR).elim (h.se R) fun e => List.mem_singleton.mp e ▸ m⟩
theorem Mdl.add (h : Mdl n D P r ks N S) {Q : List (Str × Int)} {a : Str} {t : Int} (f : Few n D r P Q) (m : (a, t) ∈ mvs n D Q Q) (no : mvd Q a t ∉ ks.map (·.1)) : Mdl n D P r (ks ++ [(mvd Q a t, .int ((r + 1 : Nat) : Int))]) (N ++ [mvd Q a t]) (S ++ [mvd Q a t]) := by
  have g : Few n D (r + 1) P (mvd Q a t) := (few_next f m).elim id fun ⟨j, hj, f'⟩ => absurd (h.ol _ j hj f') no
  have up : ∀ {R : List (Str × Int)}, R ∈ ks.map (·.1) → R ∈ (ks ++ [(mvd Q a t, V.int ((r + 1 : Nat) : Int))]).map (·.1) := fun {R} hR => by rw [List.map_append]; exact List.mem_append_left _ hR
  have self : mvd Q a t ∈ (ks ++ [(mvd Q a t, V.int ((r + 1 : Nat) : Int))]).map (·.1) := by rw [List.map_append]; exact List.mem_append_right _ (List.mem_singleton.mpr rfl)
  refine ⟨?_, fun p hp => ?_, fun R j hj f' => up (h.ol R j hj f'), fun R hR => ?_, fun R hR => ?_, fun T hT => ?_⟩
  · rw [List.map_append, List.nodup_append]
    exact ⟨h.nd, List.pairwise_singleton _ _, fun x hx y hy e => no (by have z : y = mvd Q a t := List.mem_singleton.mp hy; rw [e, z] at hx; exact hx)⟩
  · rcases List.mem_append.mp hp with hp | hp
    · exact h.vl p hp
    · rw [List.mem_singleton.mp hp]; exact ⟨r + 1, rfl, g⟩
  · rw [List.map_append] at hR
    rcases List.mem_append.mp hR with hR | hR
    · exact (h.nw R hR).imp id (List.mem_append_left _)
    · exact .inr (List.mem_append_right _ hR)
  · rcases List.mem_append.mp hR with hR | hR
    · exact ⟨(h.nn R hR).1, up (h.nn R hR).2⟩
    · rw [List.mem_singleton.mp hR]; exact ⟨g, self⟩
  · rcases List.mem_append.mp hT with hT | hT
    · exact up (h.se T hT)
    · rw [List.mem_singleton.mp hT]; exact self
theorem Mdl.lay (h : Mdl n D P r ks N S) (all : ∀ Q a t, Few n D r P Q → (a, t) ∈ mvs n D Q Q → mvd Q a t ∈ S) : Lay n D P (r + 1) ks N := by
  have nx : ∀ R, Few n D (r + 1) P R → R ∈ ks.map (·.1) := fun R f => by
    obtain ⟨Q, a, t, fq, m, rfl⟩ := few_step f
    exact h.se _ (all Q a t fq m)
  refine ⟨h.nd, h.vl, fun R => ⟨fun m => ?_, fun ⟨j, hj, f⟩ => ?_⟩, fun R => ⟨fun m => (h.nn R m).1, fun f => ?_⟩⟩
  · rcases h.nw R m with ⟨j, hj, f⟩ | m
    · exact ⟨j, by omega, f⟩
    · exact ⟨r + 1, Nat.le_refl _, (h.nn R m).1⟩
  · by_cases e : j = r + 1
    · exact nx R (e ▸ f)
    · exact h.ol R j (by omega) f
  · rcases h.nw R (nx R f) with ⟨j, hj, f'⟩ | m
    · exact absurd (few_one f f') (by omega)
    · exact m
/-- the end of the search -/
theorem Lay.done (h : Lay n D P r ks []) {j : Nat} {R : List (Str × Int)} (hr : Rb n D j P R) : R ∈ ks.map (·.1) := by
  obtain ⟨i, hi, g⟩ := few_end (fun Q f => nomatch (h.ed Q).mpr f) hr
  obtain ⟨j', hj, f⟩ := few_of g
  exact (h.me R).mpr ⟨j', by omega, f⟩
end
end Fw
set_option maxHeartbeats 2000000
namespace Fw
open PySem PySem.Spec PyProof.Rows L2
/-! all placements that are reached, as a dict -/
/-- a list of placements -/
def EdAt (H : Hp) (l : Addr) (E : List (List (Str × Int))) : Prop := ∃ es : List (Addr × List (Str × Int)), H l = some (.lst (es.map fun q => V.ref q.1)) ∧ E = es.map (·.2) ∧ ∀ q ∈ es, PlAt H q.1 q.2
theorem EdAt.tk {H H' : Hp} {l : Addr} {E : List (List (Str × Int))} (x : EdAt H l E) (t : Tk H H') (e : H' l = H l) : EdAt H' l E := by
  obtain ⟨es, h1, h2, h3⟩ := x
  exact ⟨es, e.trans h1, h2, fun q hq => (h3 q hq).tk t⟩
theorem EdAt.same {H H' : Hp} {l : Addr} {E : List (List (Str × Int))} (x : EdAt H l E) (s : Same H H') : EdAt H' l E := by
  obtain ⟨es, h1, h2, h3⟩ := x
  exact ⟨es, s _ _ h1, h2, fun q hq => (h3 q hq).tk (Tk.of s)⟩
theorem EdAt.lst {H : Hp} {l : Addr} {E : List (List (Str × Int))} (x : EdAt H l E) : ∃ xs, H l = some (.lst xs) ∧ xs.length = E.length := by
  obtain ⟨es, h1, rfl, h3⟩ := x
  exact ⟨_, h1, by rw [List.length_map, List.length_map]⟩
theorem EdAt.snoc {H : Hp} {l p : Addr} {E : List (List (Str × Int))} {R : List (Str × Int)} (x : EdAt H l E) (hp : PlAt H p R) : ∃ acc, H l = some (.lst acc) ∧ acc.length = E.length ∧ EdAt (upd H l (.lst (acc ++ [.ref p]))) l (E ++ [R]) := by
  obtain ⟨es, h1, rfl, h3⟩ := x
  refine ⟨_, h1, by rw [List.length_map, List.length_map], es ++ [(p, R)], ?_, by rw [List.map_append]; rfl, fun q hq => ?_⟩
  · rw [upd_same, List.map_append]
    rfl
  · have t : Tk H (upd H l (.lst (es.map (fun q => V.ref q.1) ++ [.ref p]))) := Tk.refl.put h1
    rcases List.mem_append.mp hq with hq | hq
    · exact (h3 q hq).tk t
    · rw [List.mem_singleton.mp hq]
      exact hp.tk t
theorem get_ed {es : List (Addr × List (Str × Int))} {i : Nat} {x : V} (h : (es.map fun p => V.ref p.1)[i]? = some x) : ∃ p, es[i]? = some p ∧ x = .ref p.1 := by
  rw [List.getElem?_map] at h
  cases e : es[i]? with
  | none => rw [e] at h; cases h
  | some v => rw [e] at h; exact ⟨v, rfl, (Option.some.inj h).symm⟩
/-- a loop over a list of placements -/
theorem for_ed {K : PySem.W.Frag} {l : Addr} {E : List (List (Str × Int))} {i : Nat} {tb : TS} {D : Ends} {σ : L2.St} {H0 H : Hp} (x : EdAt H0 l E) (Pv : Nat → L2.St → Hp → Prop) (h0 : Pv 0 σ H) (hl : ∀ k σ H, Pv k σ H → Tk H0 H ∧ H l = H0 l)
    (hs : ∀ k a R σ H, E[k]? = some R → PlAt H a R → Pv k σ H → tb { D with nx := Pv (k + 1), ct := Pv (k + 1), bk := D.nx } (σ.set i (some (.ref a))) H) (hd : ∀ σ H, Pv E.length σ H → D.nx σ H) :
    ∃ W : Nat → Nat → L2.St → Hp → Prop, (∃ m, W 0 m σ H) ∧ ∀ k m σ H, W k m σ H →
      ((Itl K l).stop k H ∧ D.nx σ H) ∨ ((Itl K l).go k H ∧ ∃ N : L2.St → Hp → Prop, (∀ σ' H', N σ' H' → ∃ m', m' < m ∧ W (k + 1) m' σ' H') ∧ ∀ x H', (Itl K l).yld k H x H' → gName i x σ H' fun σ2 H2 => tb { D with nx := N, ct := N, bk := D.nx } σ2 H2) := by
  obtain ⟨es, h1, rfl, h3⟩ := x
  refine for_list (K := K) (a := l) (xs := es.map fun q => V.ref q.1) Pv h0 (fun i σ H _ hp => SqL.of ((hl i σ H hp).2.trans h1)) (fun k x σ H hx hp => ?_) (fun σ H hp => hd σ H (by rw [List.length_map] at hp ⊢; exact hp))
  obtain ⟨q, hq, rfl⟩ := get_ed hx
  exact hs k q.1 q.2 σ H (by rw [List.getElem?_map, hq]; rfl) ((h3 q (List.mem_of_getElem? hq)).tk (hl k σ H hp).1) hp
/-- a loop over a list of pairs, when other lists may change -/
theorem for_lsT {K : PySem.W.Frag} {l : Addr} {X : List (Str × Int)} {i j : Nat} {tb : TS} {D : Ends} {σ : L2.St} {H0 H : Hp} (x : LsAt H0 l X) (Pv : Nat → L2.St → Hp → Prop) (h0 : Pv 0 σ H) (hl : ∀ k σ H, Pv k σ H → Tk H0 H ∧ H l = H0 l)
    (hs : ∀ k nm r σ H, X[k]? = some (nm, r) → Pv k σ H → tb { D with nx := Pv (k + 1), ct := Pv (k + 1), bk := D.nx } ((σ.set i (some (.str nm))).set j (some (.int r))) H) (hd : ∀ σ H, Pv X.length σ H → D.nx σ H) :
    ∃ W : Nat → Nat → L2.St → Hp → Prop, (∃ m, W 0 m σ H) ∧ ∀ k m σ H, W k m σ H →
      ((Itl K l).stop k H ∧ D.nx σ H) ∨ ((Itl K l).go k H ∧ ∃ N : L2.St → Hp → Prop, (∀ σ' H', N σ' H' → ∃ m', m' < m ∧ W (k + 1) m' σ' H') ∧ ∀ x H', (Itl K l).yld k H x H' → gTup K 2 (gCons (gName i) (gCons (gName j) gNil)) x σ H' fun σ2 H2 => tb { D with nx := N, ct := N, bk := D.nx } σ2 H2) := by
  obtain ⟨ps, h1, rfl, h3⟩ := x
  refine for_list (K := K) (a := l) (xs := ps.map fun q => V.ref q.1) Pv h0 (fun i σ H _ hp => SqL.of ((hl i σ H hp).2.trans h1)) (fun k x σ H hx hp => ?_) (fun σ H hp => hd σ H (by rw [List.length_map] at hp ⊢; exact hp))
  obtain ⟨q, hq, rfl⟩ := get_pl hx
  refine ⟨q.1, _, rfl, SqT.of ((hl k σ H hp).1.t (h3 q (List.mem_of_getElem? hq))), rfl, _, _, rfl, _, _, rfl, rfl, ?_⟩
  exact hs k q.2.1 q.2.2 σ H (by rw [List.getElem?_map, hq]; rfl) hp
/-- what stands within a round -/
structure Rnd (Pg : Program) (w : World) (n : Int) (D : List (Int × Int)) (PP : List (Str × Int)) (H : Hp) (d e L : Addr) (E : List (List (Str × Int))) (r z : Nat) (ks : List (List (Str × Int) × V)) (N S : List (List (Str × Int))) (H' : Hp) : Prop where
  sm : Same H H'
  dn : DnAt Pg w H' d ks
  ed : EdAt H' e E
  nw : EdAt H' L N
  md : Mdl n D PP r ks N S
  ln : ks.length = z + N.length
theorem Rnd.same {Pg : Program} {w : World} {n : Int} {D : List (Int × Int)} {PP : List (Str × Int)} {H : Hp} {d e L : Addr} {E : List (List (Str × Int))} {r z : Nat} {ks : List (List (Str × Int) × V)} {N S : List (List (Str × Int))} {H1 H2 : Hp}
    (x : Rnd Pg w n D PP H d e L E r z ks N S H1) (s : Same H1 H2) : Rnd Pg w n D PP H d e L E r z ks N S H2 := ⟨x.sm.trans s, x.dn.same s, x.ed.same s, x.nw.same s, x.md, x.ln⟩
theorem Mdl.small {n : Int} {D : List (Int × Int)} {P : List (Str × Int)} {r : Nat} {ks : List (List (Str × Int) × V)} {N S : List (List (Str × Int))} (m : Mdl n D P r ks N S) (pl : Pl n P) : ks.length ≤ n.toNat ^ P.length := by
  have := reached_few (n := n) (P := P) m.nd fun R hR => by
    obtain ⟨p, hp, rfl⟩ := List.mem_map.mp hR
    obtain ⟨j, _, f⟩ := m.vl p hp
    exact ⟨f.1.names, f.1.pl pl⟩
  rwa [List.length_map] at this
section
variable {P : Program} {w : World} {K : PySem.W.Frag} {mg : Str → Option Value} {base : Heap}
/-- what the dict holds: each placement that is reached, with the fewest moves -/
structure Bfs (n : Int) (D : List (Int × Int)) (P : List (Str × Int)) (ks : List (List (Str × Int) × V)) : Prop where
  nd : (ks.map (·.1)).Nodup
  sd : ∀ p ∈ ks, ∃ j : Nat, p.2 = .int j ∧ Few n D j P p.1
  al : ∀ j R, Rb n D j P R → R ∈ ks.map (·.1)
def spReach (P : Program) (w : World) : Sp := fun vs H Q _ => ∃ (h p : Addr) (n : Int) (D : List (Int × Int)) (PP : List (Str × Int)), vs = [.ref h, .ref p] ∧ HouseAt H h n D ∧ Forest n D ∧ 0 ≤ n ∧ n ≤ 8 ∧ PlAt H p PP ∧ Pl n PP ∧ PP.length ≤ 12 ∧ n.toNat ^ PP.length < sizeLine ∧
  ∀ H' d ks, Same H H' → H d = none → DnAt P w H' d ks → Bfs n D PP ks → Q (.ref d) H'
abbrev nLReach : List Str := ["_law_house", "_law_placement", "_law_found", "_law_edge", "_law_newer", "_law_here", "_law_name", "_law_room", "_law_there"]
theorem scLReach : FnScope nLReach ["_law_house", "_law_placement"] (defScope sLReach) := ⟨rfl, rfl, rfl, by decide +kernel, rfl, by decide +kernel, by decide +kernel⟩
abbrev pLReach : List Str := ["_law_house", "_law_placement"]
theorem ok_lreach {f : Addr} {fd : FuncData} {k : Nat} (F : Fun K "_law_reachable" "_law_reachable" sLReach f fd) (T : Nm mg) (C_law_moves : Cal P w K mg base (k + 2) "_law_moves" ["_law_house", "_law_placement"] spLMoves) (C_law_moved : Cal P w K mg base (k + 2) "_law_moved" pLMoved spLMoved) : FnOk P w K mg base CX0 (k + 3) f fd pLReach (spReach P w) := by
  refine F.ok scLReach (fun vs H Q E h => ?_) (fun cdv A outer s H vs Q E1 hr h => ?_)
  · obtain ⟨h, p, n, D, PP, rfl, _⟩ := h
    rfl
  · obtain ⟨h, p, n, D, PP, rfl, hH, hF, n0, n1, hP, pl, lP, lN, q⟩ := h
    refine ⟨_, (pss_cons (ps_par (i := 2) (j := 3) (by rfl) scLReach.nd rfl rfl (by decide) rfl rfl (pa_cons (pe_dnewP hr.units (pv 1) pe_int) (pa_cons (pe_lst (pa_cons (pv 1) pa_nil)) pa_nil)) (by rfl))
      (pss_cons (ps_while PassesOwn.never (pt_cmpR (op_neL0 (Nat.lt_of_succ_lt (hu_of hr))) (pv 3) (pe_lst pa_nil) (nomark _))
      (pss_cons (ps_set (i := 4) scLReach.nd rfl (.inl rfl) (pe_lst pa_nil))
       (pss_cons (ps_for PassesOwn.never rfl (pi_listK K rfl (pv 3)) (pg_name (i := 5) scLReach.nd rfl (.inl rfl))
       (pss_one (ps_for PassesOwn.never rfl (pi_listK K rfl (pe_cal C_law_moves hr (by rfl) (pa_cons (pv 0) (pa_cons (pv 5) pa_nil)))) (pg_tup (by rfl) (pgs_cons (pg_name (i := 6) scLReach.nd rfl (.inl rfl)) (pgs_cons (pg_name (i := 7) scLReach.nd rfl (.inl rfl)) pgs_nil)))
        (pss_cons (ps_set (i := 8) scLReach.nd rfl (.inl rfl) (pe_cal C_law_moved hr (by rfl) (pa_cons (pv 5) (pa_cons (pv 6) (pa_cons (pv 7) pa_nil)))))
         (pss_one (ps_if (pt_cmpR (op_notInP hr.units) (pv 8) (pv 2) (by rfl))
         (pss_cons (ps_pput hr.units (pv 2) (pv 8) (pe_op op_add (pe_pget hr.units (pv 2) (pv 5) (fun _ _ => rfl)) pe_int) (by rfl))
          (pss_one (ps_expr (pe_bm PySem.F.plainAttrs_list PySem.F.slot_list_append PySem.F.type_list_append mt_append (pv 4) (pa_cons (pv 8) pa_nil)))))
         pss_nil))))))
       (pss_one (ps_set (i := 3) scLReach.nd rfl (.inl rfl) (pv 4))))))
      (pss_one (ps_ret (pv 2))))), ?_⟩
    refine fun d hd nd => ⟨_, rfl, p, PP, rfl, hP.same (same_upd hd), upd_same, fun H1 e1 d1 => ⟨_, rfl, by show 1 ≤ sizeLine; decide, fun l hl => ⟨_, _, rfl, ?_⟩⟩⟩
    dsimp only [gName]
    have s1 : Same H H1 := by
      obtain ⟨xs, rfl⟩ := e1
      exact same_put (same_upd hd) hd
    have s2 := s1.trans (same_upd (o := .lst [V.ref p]) hl)
    have ndl : d ≠ l := by
      obtain ⟨xs, hx, _⟩ := d1.ex
      exact ne_of_none hx hl
    refine ⟨fun m σ H' => ∃ e y4 y5 y6 y7 y8 r ks E, σ = [some (.ref h), some (.ref p), some (.ref d), some (.ref e), y4, y5, y6, y7, y8] ∧ Same H H' ∧ H e = none ∧ DnAt P w H' d ks ∧ EdAt H' e E ∧ Lay n D PP r ks E ∧ m = 2 * (n.toNat ^ PP.length - ks.length) + (if E = [] then 0 else 1), ⟨_, l, none, none, none, none, none, 0, _, [PP], rfl, s2, s1.free hl, d1.same (same_upd hl), ⟨[(p, PP)], upd_same, rfl, fun q hq => ?_⟩, Lay.start, rfl⟩, ?_⟩
    · rw [List.mem_singleton.mp hq]
      exact hP.same s2
    rintro m σ H2 ⟨e, y4, y5, y6, y7, y8, r, ks, E, rfl, sm, he, dn, ed, ly, rfl⟩
    obtain ⟨es, e1', e2', e3'⟩ := ed
    refine ⟨_, rfl, Nat.zero_le _, fun b hb => ⟨e, b, _, rfl, rfl, SqL.of (same_upd hb _ _ e1'), SqL.of upd_same, _, rfl, ?_⟩⟩
    have ed : EdAt H2 e E := ⟨es, e1', e2', e3'⟩
    by_cases ce : E = []
    · have z : es = [] := by
        rw [ce] at e2'
        exact List.map_eq_nil_iff.mp e2'.symm
      rw [z]
      refine iteF ?_
      rw [ce] at ly
      exact ⟨_, rfl, q _ d ks (sm.trans (same_upd hb)) hd (dn.same (same_upd hb)) ⟨ly.nd, ly.vl, fun j R hr => ly.done hr⟩⟩
    · have z : es ≠ [] := fun z => ce (by rw [e2', z]; rfl)
      have zz : (!(es.map fun q => V.ref q.1).isEmpty) = true := by
        cases es with
        | nil => exact absurd rfl z
        | cons _ _ => rfl
      rw [zz, if_neg ce]
      refine iteT ⟨_, fun _ _ h => h, ?_⟩
      have sb := sm.trans (same_upd (o := .lst []) hb)
      refine ⟨Nat.zero_le _, fun L hL => ?_⟩
      have sL := sb.trans (same_upd (o := .lst []) hL)
      have edL := (ed.same (same_upd (o := .lst []) hb)).same (same_upd (o := .lst []) hL)
      have dnL := (dn.same (same_upd (o := .lst []) hb)).same (same_upd (o := .lst []) hL)
      have neL : e ≠ L := by
        obtain ⟨xs, hx, _⟩ := (ed.same (same_upd (o := .lst []) hb)).lst
        exact ne_of_none hx hL
      have ndL : d ≠ L := by
        obtain ⟨xs, hx, _⟩ := (dn.same (same_upd (o := .lst []) hb)).ex
        exact ne_of_none hx hL
      have nde : d ≠ e := by
        obtain ⟨xs, hx, _⟩ := dn.ex
        obtain ⟨ys, hy, _⟩ := ed.lst
        exact ne_of hx hy (by intro z; cases z)
      have fL : H L = none := sb.free hL
      have kz : ks.length ≤ n.toNat ^ PP.length := ly.mid.small pl
      obtain ⟨xsE, hxE, lxE⟩ := edL.lst
      refine ⟨_, rfl, e, rfl, ⟨_, SqL.of hxE⟩, for_ed edL (fun i σ H' => ∃ y5 y6 y7 y8 ks' N S, σ = [some (.ref h), some (.ref p), some (.ref d), some (.ref e), some (.ref L), y5, y6, y7, y8] ∧ Rnd P w n D PP H d e L E r ks.length ks' N S H' ∧ Tk (upd (upd H2 b (.lst [])) L (.lst [])) H' ∧ H' e = (upd (upd H2 b (.lst [])) L (.lst [])) e ∧ (∀ R ∈ E.take i, ∀ a t, (a, t) ∈ mvs n D R R → mvd R a t ∈ S))
        ⟨_, _, _, _, ks, [], [], rfl, ⟨sL, dnL, edL, ⟨[], upd_same, rfl, fun q hq => nomatch hq⟩, ly.mid, rfl⟩, Tk.refl, rfl, fun R hR => nomatch hR⟩ (fun k σ H' hp => ?_) (fun k a R σ H' hk hPa hp => ?_) (fun σ H' hp => ?_)⟩
      · obtain ⟨_, _, _, _, _, _, _, _, _, t, e', _⟩ := hp
        exact ⟨t, e'⟩
      · obtain ⟨y5, y6, y7, y8, ks', N, S, rfl, rn, t, e', all⟩ := hp
        have fR : Few n D r PP R := (ly.ed R).mp (List.mem_of_getElem? hk)
        have plR := fR.1.pl pl
        have lR : R.length = PP.length := by
          have := congrArg List.length fR.1.names
          simpa using this
        refine ⟨_, rfl, _, rfl, h, a, n, D, R, rfl, hH.same rn.sm, hF, n1, hPa, by omega, fun H3 l3 s3 hl3 ls => ?_⟩
        obtain ⟨xs3, sq3, _⟩ := ls.sq (K := K)
        obtain ⟨ps3, e3, _, _⟩ := id ls
        have nl3L : L ≠ l3 := by
          obtain ⟨xs, hx, _⟩ := rn.nw.lst
          exact ne_of_none hx hl3
        have ndl3 : d ≠ l3 := by
          obtain ⟨xs, hx, _⟩ := rn.dn.ex
          exact ne_of_none hx hl3
        refine ⟨l3, rfl, ⟨xs3, sq3⟩, for_lsT ls (fun i σ H' => ∃ y6 y7 y8 ks' N S', σ = [some (.ref h), some (.ref p), some (.ref d), some (.ref e), some (.ref L), some (.ref a), y6, y7, y8] ∧ Rnd P w n D PP H d e L E r ks.length ks' N S' H' ∧ Tk H3 H' ∧ H' l3 = H3 l3 ∧ H' e = H3 e ∧ (∀ T ∈ S, T ∈ S') ∧ (∀ x ∈ (mvs n D R R).take i, mvd R x.1 x.2 ∈ S'))
          ⟨_, _, _, ks', N, S, rfl, rn.same s3, Tk.refl, rfl, rfl, fun T hT => hT, fun x hx => nomatch hx⟩ (fun k σ H' hp => ?_) (fun k nm t' σ H' hk' hp => ?_) (fun σ H' hp => ?_)⟩
        · obtain ⟨_, _, _, _, _, _, _, _, t1, e1, _⟩ := hp
          exact ⟨t1, e1⟩
        · obtain ⟨y6, y7, y8, ks2, N2, S2, rfl, rn2, t2, el2, ee2, sub, all2⟩ := hp
          have mm : (nm, t') ∈ mvs n D R R := List.mem_of_getElem? hk'
          have hPa2 : PlAt H' a R := hPa.tk ((Tk.of s3).trans t2)
          refine ⟨_, rfl, _, rfl, _, rfl, a, R, nm, t', rfl, hPa2, by omega, fun H4 u s4 hu => ?_⟩
          have rn4 := rn2.same s4
          have t4 := t2.trans (Tk.of s4)
          have hPu := hu.pl
          have el4 : H4 l3 = H3 l3 := by
            rw [s4 _ _ (el2.trans e3), e3]
          obtain ⟨xe, hxe, _⟩ := rn2.ed.lst
          have ee4 : H4 e = H3 e := by
            rw [← ee2, s4 _ _ hxe, hxe]
          have key : (∃ p ∈ ks2, p.1 = mvd R nm t') ↔ mvd R nm t' ∈ ks2.map (·.1) := by rw [List.mem_map]
          have stp : ∀ S' : List (List (Str × Int)), (∀ T ∈ S2, T ∈ S') → mvd R nm t' ∈ S' → (∀ T ∈ S, T ∈ S') ∧ ∀ x ∈ (mvs n D R R).take (k + 1), mvd R x.1 x.2 ∈ S' := fun S' i1 i2 => ⟨fun T hT => i1 T (sub T hT), fun x hx => by
            rw [take_snoc hk'] at hx
            rcases List.mem_append.mp hx with hx | hx
            · exact i1 _ (all2 x hx)
            · rw [List.mem_singleton.mp hx]; exact i2⟩
          refine ⟨_, rfl, _, rfl, u, d, _, ks2, rfl, rfl, hPu, rn4.dn, _, rfl, ?_⟩
          refine ite2 (fun c => ?_) (fun c => ?_)
          · have no : ¬ ∃ p ∈ ks2, p.1 = mvd R nm t' := by simpa using c
            obtain ⟨⟨R0, v0⟩, m0, rfl⟩ := List.mem_map.mp (rn2.md.ol R r (Nat.le_refl _) fR)
            obtain ⟨j0, ev, f0⟩ := rn2.md.vl _ m0
            obtain rfl := few_one f0 fR
            dsimp only at ev
            subst ev
            have z2 : ks2.length ≤ n.toNat ^ PP.length := rn2.md.small pl
            have md5 := rn2.md.add fR mm (fun m => no (key.mpr m))
            have z5 := md5.small pl
            refine ⟨_, rfl, _, rfl, d, a, _, _, ks2, rfl, rfl, hPa2.tk (Tk.of s4), rn4.dn, m0, _, _, rfl, rfl, _, rfl, _, rfl, d, u, _, ks2, rfl, rfl, hPu, rn4.dn, fun p hp e => no ⟨p, hp, e⟩, Nat.lt_of_le_of_lt z2 lN, fun H5 e5 dn5 => ?_⟩
            obtain ⟨xd, hd4, _⟩ := rn4.dn.ex
            obtain ⟨xs5, rfl⟩ := e5
            have t5 := t4.putE (o := DnO P w d xs5) hd4
            have t45 : Tk H4 (upd H4 d (DnO P w d xs5)) := Tk.refl.putE hd4
            have nw5 : EdAt (upd H4 d (DnO P w d xs5)) L N2 := rn4.nw.tk t45 (upd_ne ndL.symm)
            obtain ⟨acc, ha, la, nw6⟩ := nw5.snoc (hPu.tk t45)
            have t56 : Tk (upd H4 d (DnO P w d xs5)) (upd (upd H4 d (DnO P w d xs5)) L (.lst (acc ++ [.ref u]))) := Tk.refl.put ha
            have lnk := rn2.ln
            refine ⟨_, rfl, .inl ⟨rfl, _, SqL.of ha⟩, _, rfl, L, _, _, rfl, rfl, ha, by rw [la]; exact Nat.lt_of_le_of_lt (by omega) lN, ?_⟩
            refine ⟨_, _, _, _, _, _, rfl, ⟨same_put (same_put (rn4.sm) hd) fL, dn5.tk t56 (upd_ne ndL), (rn4.ed.tk t45 (upd_ne nde.symm)).tk t56 (upd_ne neL), nw6, ?_, ?_⟩, t5.trans t56, ?_, ?_, stp _ (fun T hT => List.mem_append_left _ hT) (List.mem_append_right _ (List.mem_singleton.mpr rfl))⟩
            · exact md5
            · rw [List.length_append, List.length_append, lnk]
              rfl
            · rw [upd_ne nl3L.symm, upd_ne ndl3.symm, el4]
            · rw [upd_ne neL, upd_ne nde.symm, ee4]
          · have yes : ∃ p ∈ ks2, p.1 = mvd R nm t' := by simpa using c
            exact ⟨_, _, _, ks2, N2, S2 ++ [mvd R nm t'], rfl, ⟨rn4.sm, rn4.dn, rn4.ed, rn4.nw, rn2.md.skip (key.mp yes), rn2.ln⟩, t4, el4, ee4, stp _ (fun T hT => List.mem_append_left _ hT) (List.mem_append_right _ (List.mem_singleton.mpr rfl))⟩
        · obtain ⟨y6, y7, y8, ks2, N2, S2, rfl, rn2, t2, el2, ee2, sub, all2⟩ := hp
          obtain ⟨xe, hxe, _⟩ := rn.ed.lst
          refine ⟨_, _, _, _, ks2, N2, S2, rfl, rn2, (t.trans (Tk.of s3)).trans t2, ?_, fun R' hR' a' t' m' => ?_⟩
          · rw [ee2, s3 _ _ hxe, ← hxe, e']
          · rw [take_snoc hk] at hR'
            rcases List.mem_append.mp hR' with hR' | hR'
            · exact sub _ (all R' hR' a' t' m')
            · rw [List.mem_singleton.mp hR'] at m' ⊢
              rw [List.take_length] at all2
              exact all2 _ m'
      · obtain ⟨y5, y6, y7, y8, ks', N, S, rfl, rn, t, e', all⟩ := hp
        rw [List.take_length] at all
        refine ⟨_, rfl, ?_⟩
        have ly' := rn.md.lay fun Q a t' fQ m => all Q ((ly.ed Q).mpr fQ) a t' m
        have z' := rn.md.small pl
        have lnk := rn.ln
        refine ⟨_, ?_, L, _, _, _, _, _, r + 1, ks', N, rfl, rn.sm, fL, rn.dn, rn.nw, ly', rfl⟩
        by_cases cN : N = []
        · rw [if_pos cN]
          omega
        · rw [if_neg cN]
          have := List.length_pos_iff.mpr cN
          omega
end
end Fw
set_option maxHeartbeats 2000000
namespace Fw
open PySem PySem.Spec PyProof.Rows L2
/-! two people exchange their rooms (math) -/
theorem Runs.app {n : Int} {D : List (Int × Int)} {P X Q : List (Str × Int)} (h : Runs n D P X Q) : ∀ {Y R : List (Str × Int)}, Runs n D Q Y R → Runs n D P (X ++ Y) R := by
  induction h with
  | nil P => exact fun k => k
  | cons m a o _ ih => exact fun k => .cons m a o (ih k)
theorem mvd_comm {P : List (Str × Int)} {a b : Str} {r s : Int} (h : a ≠ b) : mvd (mvd P a r) b s = mvd (mvd P b s) a r := by
  unfold mvd
  rw [List.map_map, List.map_map]
  refine List.map_congr_left fun x _ => ?_
  by_cases e1 : x.1 = a
  · have e2 : x.1 ≠ b := fun e => h (e1.symm.trans e)
    simp [e1, e2, h]
  · by_cases e2 : x.1 = b
    · simp [e1, e2, h, Ne.symm h]
    · simp [e1, e2]
def go (nm : Str) (p : List Int) : List (Str × Int) := p.tail.map fun t => (nm, t)
theorem SP.off {R : Int → Int → Prop} {a b : Int} {p : List Int} (h : SP R a b p) : a ∉ p.tail := by
  cases h with
  | one a => exact List.not_mem_nil
  | cons _ _ n => exact n
theorem Wk.path {n : Int} {D : List (Int × Int)} {U : List Int} {a b : Int} (hF : Forest n D) (wk : Wk D U a b) {p : List Int} (sp : SP (adj D) a b p) : ∀ t ∈ p.tail, t ∈ U := fun t ht => by
  obtain ⟨q, hq, hs⟩ := wk.within
  have e := hF.uniq _ _ _ _ sp hq
  subst e
  rcases hs t (List.mem_of_mem_tail ht) with rfl | h
  · exact absurd ht sp.off
  · exact h
/-- who shares a room in C -/
def shr (P : List (Str × Int)) (C : List Int) : List Str := ((P.filter fun x => decide (x.2 ∈ C)).filter fun x => decide (1 < (inside P [x.2]).length)).map (·.1)
theorem mem_shr {P : List (Str × Int)} {C : List Int} {a : Str} : a ∈ shr P C ↔ ∃ r, (a, r) ∈ P ∧ r ∈ C ∧ 1 < (inside P [r]).length := by
  unfold shr
  constructor
  · intro h
    obtain ⟨x, hx, rfl⟩ := List.mem_map.mp h
    obtain ⟨h1, h2⟩ := List.mem_filter.mp hx
    obtain ⟨h3, h4⟩ := List.mem_filter.mp h1
    exact ⟨x.2, h3, of_decide_eq_true h4, of_decide_eq_true h2⟩
  · rintro ⟨r, h1, h2, h3⟩
    exact List.mem_map.mpr ⟨(a, r), List.mem_filter.mpr ⟨List.mem_filter.mpr ⟨h1, decide_eq_true h2⟩, decide_eq_true h3⟩, rfl⟩
theorem mem_ins1 {P : List (Str × Int)} {r : Int} {a : Str} : a ∈ inside P [r] ↔ (a, r) ∈ P := by
  unfold inside
  constructor
  · intro h
    obtain ⟨x, hx, rfl⟩ := List.mem_map.mp h
    obtain ⟨h1, h2⟩ := List.mem_filter.mp hx
    have : x.2 = r := List.mem_singleton.mp (of_decide_eq_true h2)
    rw [← this]
    exact h1
  · intro h
    exact List.mem_map.mpr ⟨(a, r), List.mem_filter.mpr ⟨h, decide_eq_true (List.mem_singleton.mpr rfl)⟩, rfl⟩
/-- somebody else is there -/
theorem another {P : List (Str × Int)} {r : Int} (nd : (P.map (·.1)).Nodup) (a : Str) (h : 1 < (inside P [r]).length) : ∃ x ∈ P, x.1 ≠ a ∧ x.2 = r := by
  have nd : (inside P [r]).Nodup := (List.filter_sublist.map _).nodup nd
  match e : inside P [r], h, nd with
  | y :: z :: l, _, nd =>
    have my : (y, r) ∈ P := mem_ins1.mp (by rw [e]; exact List.mem_cons_self)
    have mz : (z, r) ∈ P := mem_ins1.mp (by rw [e]; exact List.mem_cons_of_mem _ List.mem_cons_self)
    have ne : y ≠ z := fun q => by
      rw [q, List.nodup_cons] at nd
      exact nd.1 List.mem_cons_self
    by_cases c : y = a
    · exact ⟨_, mz, fun q => ne (c.trans q.symm), rfl⟩
    · exact ⟨_, my, c, rfl⟩
section
variable {n : Int} {D : List (Int × Int)} {P : List (Str × Int)} {C : List Int} {a b : Str} {ra rb : Int}
theorem swap_runs (hF : Forest n D) (nd : (P.map (·.1)).Nodup) (ma : (a, ra) ∈ P) (mb : (b, rb) ∈ P) (ne : ra ≠ rb) {p q : List Int} (hp : SP (adj D) ra rb p) (hq : SP (adj D) rb ra q) (up : ∀ t ∈ p.tail, t ∈ P.map (·.2)) (uq : ∀ t ∈ q.tail, t ∈ P.map (·.2))
    {x0 : Str × Int} (hx : x0 ∈ P) (nx : x0.1 ≠ a) (rx : x0.2 = ra) : Runs n D P (go a p ++ go b q) (mvd (mvd P a rb) b ra) := by
  have at' : ∀ {x : Str × Int} {c : Str} {rc : Int}, (c, rc) ∈ P → x ∈ P → x.1 = c → x.2 = rc := fun {x c rc} m hx e => congrArg Prod.snd (key_uniq nd hx m e)
  have nab : a ≠ b := fun e => ne (at' (e ▸ mb) ma rfl)
  have other : ∀ {t : Int}, t ∈ P.map (·.2) → t ≠ ra → ∃ x ∈ P, x.1 ≠ a ∧ x.2 = t := fun {t} h nt => by
    obtain ⟨x, h1, h2⟩ := List.mem_map.mp h
    exact ⟨x, h1, fun e => nt (h2.symm.trans (at' ma h1 e)), h2⟩
  have r1 := hp.runs hF nd ma fun t ht => other (up t ht) fun e => hp.off (e ▸ ht)
  refine r1.app (hq.runs hF (by rw [mvd_names]; exact nd) (mvd_other mb nab.symm) fun t ht => ?_)
  have tb : t ≠ rb := fun e => hq.off (e ▸ ht)
  by_cases e : t = ra
  · exact ⟨x0, mvd_other hx nx, fun q => ne (rx.symm.trans (at' mb hx q)), rx.trans e.symm⟩
  · obtain ⟨x, h1, n1, e1⟩ := other (uq t ht) e
    exact ⟨x, mvd_other h1 n1, fun q => tb (e1.symm.trans (at' mb h1 q)), e1⟩
/-- what the exchange may answer -/
def Xch (D : List (Int × Int)) (P : List (Str × Int)) (C : List Int) (a : Str) (ra : Int) (b : Str) (rb : Int) (X : List (Str × Int)) : Prop :=
  (ra = rb ∧ X = []) ∨ (ra ≠ rb ∧ ∃ p q, SP (adj D) ra rb p ∧ SP (adj D) rb ra q ∧ ((a ∈ shr P C ∧ X = go a p ++ go b q) ∨ (b ∈ shr P C ∧ X = go b q ++ go a p) ∨
    (a ∉ shr P C ∧ b ∉ shr P C ∧ ∃ k rk u v, (k, rk) ∈ P ∧ k ∈ shr P C ∧ SP (adj D) rk ra u ∧ SP (adj D) ra rk v ∧ X = go k u ++ go a p ++ go b q ++ go k v)))
theorem Xch.runs (hF : Forest n D) (pl : Pl n P) (ma : (a, ra) ∈ P) (mb : (b, rb) ∈ P) (hC : IsC D (occ n P) ra C) (wk : Wk D (P.map (·.2)) ra rb) {X : List (Str × Int)} (h : Xch D P C a ra b rb X) : Runs n D P X (mvd (mvd P a rb) b ra) := by
  have nd := pl.nodup
  have at' : ∀ {x : Str × Int} {c : Str} {rc : Int}, (c, rc) ∈ P → x ∈ P → x.1 = c → x.2 = rc := fun {x c rc} m hx e => congrArg Prod.snd (key_uniq nd hx m e)
  have wk' := wk.symm (List.mem_map_of_mem (f := (·.2)) ma)
  have inC : ∀ r, r ∈ C ↔ Wk D (P.map (·.2)) ra r := fun r => by rw [hC.mem, Wk.congr fun x => pl.mem_occ]
  rcases h with ⟨e, rfl⟩ | ⟨ne, p, q, hp, hq, h⟩
  · subst e
    rw [mvd_stay nd ma, mvd_stay nd mb]
    exact .nil P
  have up := wk.path hF hp
  have uq := wk'.path hF hq
  have nab : a ≠ b := fun e => ne (at' (e ▸ mb) ma rfl)
  rcases h with ⟨sa, rfl⟩ | ⟨sb, rfl⟩ | ⟨sa, sb, k, rk, u, v, mk, sk, hu, hv, rfl⟩
  · obtain ⟨r, h1, _, h3⟩ := mem_shr.mp sa
    obtain rfl : r = ra := at' ma h1 rfl
    obtain ⟨x0, hx, nx, rx⟩ := another nd a h3
    exact swap_runs hF nd ma mb ne hp hq up uq hx nx rx
  · obtain ⟨r, h1, _, h3⟩ := mem_shr.mp sb
    obtain rfl : r = rb := at' mb h1 rfl
    obtain ⟨x0, hx, nx, rx⟩ := another nd b h3
    rw [mvd_comm nab]
    exact swap_runs hF nd mb ma ne.symm hq hp uq up hx nx rx
  · obtain ⟨r, h1, kC, h3⟩ := mem_shr.mp sk
    obtain rfl : r = rk := at' mk h1 rfl
    have nra : r ≠ ra := fun e => sa (mem_shr.mpr ⟨ra, ma, hC.has, e ▸ h3⟩)
    have nrb : r ≠ rb := fun e => sb (mem_shr.mpr ⟨rb, mb, (inC rb).mpr wk, e ▸ h3⟩)
    have nka : k ≠ a := fun e => nra (at' ma mk e)
    have nkb : k ≠ b := fun e => nrb (at' mb mk e)
    obtain ⟨x0, hx, nx, rx⟩ := another nd k h3
    have wkr : Wk D (P.map (·.2)) ra r := (inC r).mp kC
    have uu := (wkr.symm (List.mem_map_of_mem (f := (·.2)) ma)).path hF hu
    have uv := wkr.path hF hv
    have other : ∀ {t : Int}, t ∈ P.map (·.2) → ∃ x ∈ P, x.1 ≠ k ∧ x.2 = t := fun {t} h => by
      obtain ⟨x, h1, h2⟩ := List.mem_map.mp h
      by_cases e : x.1 = k
      · exact ⟨x0, hx, nx, rx.trans ((at' mk h1 e).symm.trans h2)⟩
      · exact ⟨x, h1, e, h2⟩
    have r1 := hu.runs hF nd mk fun t ht => other (uu t ht)
    have nd1 : ((mvd P k ra).map (·.1)).Nodup := by rw [mvd_names]; exact nd
    have st : ∀ t ∈ P.map (·.2), t ∈ (mvd P k ra).map (·.2) := fun t h => by
      obtain ⟨x, h1, h2, h3⟩ := other h
      exact h3 ▸ List.mem_map_of_mem (f := (·.2)) (mvd_other h1 h2)
    have r2 := swap_runs hF nd1 (mvd_other ma nka.symm) (mvd_other mb nkb.symm) ne hp hq (fun t ht => st t (up t ht)) (fun t ht => st t (uq t ht)) (mvd_self mk) nka rfl
    have r3 := hv.runs (nm := k) (P := mvd (mvd (mvd P k ra) a rb) b ra) hF (by rw [mvd_names, mvd_names]; exact nd1) (mvd_other (mvd_other (mvd_self mk) nka) nkb) fun t ht => by
      have ta : t ≠ ra := fun e => hv.off (e ▸ ht)
      by_cases e : t = rb
      · exact ⟨(a, rb), mvd_other (mvd_self (mvd_other ma nka.symm)) nab, nka.symm, e.symm⟩
      · obtain ⟨x, h1, h2, h3⟩ := other (uv t ht)
        exact ⟨x, mvd_other (mvd_other (mvd_other h1 h2) fun q => ta (h3.symm.trans (at' ma h1 q))) fun q => e (h3.symm.trans (at' mb h1 q)), h2, h3⟩
    have eq : mvd (mvd (mvd (mvd P k ra) a rb) b ra) k r = mvd (mvd P a rb) b ra := by
      rw [mvd_comm nkb.symm, mvd_comm (P := mvd P k ra) nka.symm, mvd_twice, mvd_stay nd mk]
    rw [eq] at r3
    have := r1.app (r2.app r3)
    rw [List.append_assoc, List.append_assoc]
    rw [List.append_assoc] at this
    exact this
theorem flt_le {α : Type} {p q : α → Bool} (h : ∀ y, p y = true → q y = true) : ∀ l : List α, (l.filter p).length ≤ (l.filter q).length
  | [] => Nat.le_refl _
  | y :: l => by
    have := flt_le h l
    cases e : p y with
    | true => rw [List.filter_cons_of_pos e, List.filter_cons_of_pos (h y e)]; exact Nat.succ_le_succ this
    | false =>
      rw [List.filter_cons_of_neg (by rw [e]; decide)]
      cases e2 : q y with
      | true => rw [List.filter_cons_of_pos e2]; exact Nat.le_succ_of_le this
      | false => rw [List.filter_cons_of_neg (by rw [e2]; decide)]; exact this
theorem nodup_leS {xs ys : List Int} (nd : xs.Nodup) (h : ∀ x ∈ xs, x ∈ ys) : xs.length ≤ ys.length := by
  induction xs generalizing ys with
  | nil => exact Nat.zero_le _
  | cons x xs ih =>
    rw [List.nodup_cons] at nd
    have hx := h x List.mem_cons_self
    have := ih (ys := ys.erase x) nd.2 fun z hz => (List.mem_erase_of_ne (fun e : z = x => nd.1 (by rw [← e]; exact hz))).mpr (h z (List.mem_cons_of_mem _ hz))
    rw [List.length_erase_of_mem hx] at this
    have : 0 < ys.length := List.length_pos_of_mem hx
    simp only [List.length_cons]
    omega
theorem inside_ge (nd : C.Nodup) (h : ∀ r ∈ C, r ∈ P.map (·.2)) : C.length ≤ (inside P C).length := by
  unfold inside
  rw [List.length_map, ← List.length_map (as := P.filter _) (·.2)]
  refine nodup_leS nd fun r hr => ?_
  obtain ⟨x, h1, h2⟩ := List.mem_map.mp (h r hr)
  exact List.mem_map.mpr ⟨x, List.mem_filter.mpr ⟨h1, decide_eq_true (by rw [h2]; exact hr)⟩, h2⟩
/-- in a loose region somebody shares a room -/
theorem shr_some (h : C.length < (inside P C).length) : shr P C ≠ [] := fun no => by
  have none : ∀ x ∈ P.filter (fun x => decide (x.2 ∈ C)), (inside P [x.2]).length ≤ 1 := fun x hx => by
    obtain ⟨h1, h2⟩ := List.mem_filter.mp hx
    refine Nat.le_of_not_lt fun lt => ?_
    have : x.1 ∈ shr P C := mem_shr.mpr ⟨x.2, h1, of_decide_eq_true h2, lt⟩
    rw [no] at this
    cases this
  have nd : ((P.filter fun x => decide (x.2 ∈ C)).map (·.2)).Nodup := by
    rw [List.nodup_iff_count]
    intro r
    by_cases m : r ∈ (P.filter fun x => decide (x.2 ∈ C)).map (·.2)
    · obtain ⟨x, hx, e⟩ := List.mem_map.mp m
      have l := none x hx
      rw [e] at l
      refine Nat.le_trans ?_ l
      unfold inside
      rw [List.length_map, List.count_eq_length_filter, List.filter_map, List.length_map, List.filter_filter]
      refine flt_le (fun y hy => ?_) P
      rw [Bool.and_eq_true] at hy
      have := hy.1
      simpa using this
    · rw [List.count_eq_zero_of_not_mem m]
      exact Nat.zero_le _
  have := nodup_leS nd fun r hr => by
    obtain ⟨x, hx, e⟩ := List.mem_map.mp hr
    rw [← e]
    exact of_decide_eq_true (List.mem_filter.mp hx).2
  unfold inside at h
  rw [List.length_map] at h this
  exact absurd (Nat.lt_of_lt_of_le h this) (Nat.lt_irrefl _)
end
end Fw
set_option maxHeartbeats 2000000
namespace Fw
open PySem PySem.Spec PyProof.Rows L2
/-! pieces and which of them are solvable (math) -/
/-- everybody in these rooms is in their target room -/
def Stl (P G : List (Str × Int)) (C : List Int) : Prop := ∀ nm c t, (nm, c) ∈ P → c ∈ C → (nm, t) ∈ G → t = c
/-- the person of r goes next to a -/
def Ahd (D : List (Int × Int)) (P G : List (Str × Int)) (r a : Int) : Prop := ∃ nm t q, (nm, r) ∈ P ∧ (nm, t) ∈ G ∧ SP (adj D) r t (r :: a :: q)
/-- the rooms without one of them -/
def cut (C : List Int) (r : Int) : List Int := C.filter fun x => !decide (x = r)
theorem mem_cut {C : List Int} {r x : Int} : x ∈ cut C r ↔ x ∈ C ∧ x ≠ r := by
  unfold cut
  rw [List.mem_filter, Bool.not_eq_true', decide_eq_false_iff_not]
theorem cut_up {C : List Int} {r : Int} (h : C.Pairwise (· < ·)) : (cut C r).Pairwise (· < ·) := h.filter _
theorem cut_len {C : List Int} {r : Int} (h : r ∈ C) : (cut C r).length < C.length := by
  unfold cut
  have : (C.filter fun x => !decide (x = r)).length + (C.filter fun x => decide (x = r)).length = C.length := by
    clear h
    induction C with
    | nil => rfl
    | cons x C ih =>
      by_cases e : x = r
      · rw [List.filter_cons_of_neg (by simpa using e), List.filter_cons_of_pos (by simpa using e), List.length_cons, List.length_cons]
        omega
      · rw [List.filter_cons_of_pos (by simpa using e), List.filter_cons_of_neg (by simpa using e), List.length_cons, List.length_cons]
        omega
  have p : 0 < (C.filter fun x => decide (x = r)).length := List.length_pos_of_mem (List.mem_filter.mpr ⟨h, decide_eq_true rfl⟩)
  omega
theorem cut_lenle (C : List Int) (r : Int) : (cut C r).length ≤ C.length := List.length_filter_le _ _
theorem up_len {L C : List Int} (h : L.Pairwise (· < ·)) (s : ∀ x ∈ L, x ∈ C) : L.length ≤ C.length := by
  have nd : L.Nodup := List.nodup_iff_pairwise_ne.mpr (h.imp fun {a b} z => by omega)
  clear h
  induction L generalizing C with
  | nil => exact Nat.zero_le _
  | cons x L ih =>
    have nd := List.nodup_cons.mp nd
    have i := ih (C := C.erase x) (fun y hy => (List.mem_erase_of_ne (show y ≠ x from fun e => nd.1 (e ▸ hy))).mpr (s y (List.mem_cons_of_mem _ hy))) nd.2
    have e := List.length_erase_of_mem (s x (List.mem_cons_self ..))
    have p := List.length_pos_of_mem (s x (List.mem_cons_self ..))
    rw [List.length_cons]
    omega
/-- solvable, by the definition -/
inductive Sol (D : List (Int × Int)) (P G : List (Str × Int)) : List Int → Prop
  | still {C : List Int} : Stl P G C → Sol D P G C
  | leave {C : List Int} {r : Int} : r ∈ fre D P G C → (∀ s ∈ cut C r, ∀ L, IsC D (cut C r) s L → (∀ a, Ahd D P G r a → a ∉ L) → Sol D P G L) → Sol D P G C
/-- a connected set of rooms, one person in each, nobody of them outside -/
structure Pce (D : List (Int × Int)) (P G : List (Str × Int)) (C : List Int) : Prop where
  up : C.Pairwise (· < ·)
  who : ∀ r ∈ C, ∃ nm, (nm, r) ∈ P ∧ ∀ nm', (nm', r) ∈ P → nm' = nm
  con : ∀ a ∈ C, ∀ b ∈ C, Wk D C a b
  tgt : ∀ nm c t, (nm, c) ∈ P → c ∈ C → (nm, t) ∈ G → t ∈ C
theorem SP.hd {R : Int → Int → Prop} {a b : Int} {p : List Int} (h : SP R a b p) : ∃ q, p = a :: q := by
  cases h with
  | one => exact ⟨[], rfl⟩
  | cons r q n => exact ⟨_, rfl⟩
/-- a way that is more than one room -/
theorem SP.two {R : Int → Int → Prop} {a b : Int} {p : List Int} (h : SP R a b p) (n : b ≠ a) : ∃ c q, p = a :: c :: q ∧ R a c := by
  cases h with
  | one => exact absurd rfl n
  | cons r q _ =>
    obtain ⟨q', rfl⟩ := q.hd
    exact ⟨_, q', rfl, r⟩
section
variable {n : Int} {D : List (Int × Int)} {P G : List (Str × Int)} {C L : List Int} {r s : Int}
open Classical in
theorem fre_mem (h : r ∈ fre D P G C) : r ∈ C ∧ ∀ nm c t, (nm, c) ∈ P → c ∈ C → (nm, t) ∈ G → r ≠ t ∧ ¬ pas D c t r := by
  unfold fre at h
  obtain ⟨h1, h2⟩ := List.mem_filter.mp h
  exact ⟨h1, of_decide_eq_true h2⟩
open Classical in
theorem mem_fre (h : r ∈ C) (f : ∀ nm c t, (nm, c) ∈ P → c ∈ C → (nm, t) ∈ G → r ≠ t ∧ ¬ pas D c t r) : r ∈ fre D P G C := by
  unfold fre
  exact List.mem_filter.mpr ⟨h, decide_eq_true f⟩
theorem IsC.sub' (hs : s ∈ C) (h : IsC D C s L) {v : Int} (m : v ∈ L) : v ∈ C := by
  rcases ((h.mem v).mp m).mem with e | e
  · rw [e]; exact hs
  · exact e
theorem IsC.closed (h : IsC D C s L) {a b : Int} (ma : a ∈ L) (w : Wk D C a b) : Wk D L a b ∧ b ∈ L := by
  induction w with
  | base => exact ⟨.base, ma⟩
  | @step v o k ad mo ih =>
    have mo' : o ∈ L := (h.mem o).mpr (.step ((h.mem v).mp ih.2) ad mo)
    exact ⟨.step ih.1 ad mo', mo'⟩
/-- what is left of a piece without a free room are pieces -/
theorem Pce.cut (pc : Pce D P G C) (fr : r ∈ fre D P G C) (hs : s ∈ cut C r) (ic : IsC D (cut C r) s L) : Pce D P G L := by
  obtain ⟨rC, fr⟩ := fre_mem fr
  have sub : ∀ v ∈ L, v ∈ C := fun v m => (mem_cut.mp (ic.sub' hs m)).1
  have both : ∀ a ∈ L, ∀ b ∈ L, Wk D (Fw.cut C r) a b := fun a ha b hb => (((ic.mem a).mp ha).symm hs).trans ((ic.mem b).mp hb)
  refine ⟨ic.up, fun v m => pc.who v (sub v m), fun a ha b hb => (ic.closed ha (both a ha b hb)).1, fun nm c t h1 h2 h3 => ?_⟩
  have cC := sub c h2
  have tC := pc.tgt nm c t h1 cC h3
  obtain ⟨p, hp, ins⟩ := (pc.con c cC t tC).within
  obtain ⟨z1, z2⟩ := fr nm c t h1 cC h3
  have cr := (mem_cut.mp (ic.sub' hs h2)).2
  have off : ∀ x ∈ p, x ∈ Fw.cut C r := fun x hx => mem_cut.mpr ⟨(ins x hx).elim (fun e => e ▸ cC) id, fun e => z2 ⟨p, hp, e ▸ hx, fun e => cr e.symm, z1⟩⟩
  exact (ic.closed h2 (hp.walks fun x hx => off x (List.mem_of_mem_tail hx))).2
/-- where the person of a free room goes -/
theorem Pce.ahead (pc : Pce D P G C) (sub : ∀ x ∈ P.map (·.1), x ∈ G.map (·.1)) (fr : r ∈ fre D P G C) : ∃ nm t a q, (nm, r) ∈ P ∧ (nm, t) ∈ G ∧ SP (adj D) r t (r :: a :: q) ∧ a ∈ C := by
  obtain ⟨rC, fr⟩ := fre_mem fr
  obtain ⟨nm, m, _⟩ := pc.who r rC
  obtain ⟨y, hy, e⟩ := List.mem_map.mp (sub nm (List.mem_map_of_mem (f := (·.1)) m))
  have mt : (nm, y.2) ∈ G := by rw [← e]; exact hy
  obtain ⟨z1, _⟩ := fr nm r y.2 m rC mt
  obtain ⟨p, hp, ins⟩ := (pc.con r rC _ (pc.tgt nm r y.2 m rC mt)).within
  obtain ⟨a, q, rfl, _⟩ := hp.two fun e => z1 e.symm
  refine ⟨nm, y.2, a, q, m, mt, hp, (ins a (by simp)).elim (fun e => e ▸ rC) id⟩
theorem Pce.ahd_one (pc : Pce D P G C) (hF : Forest n D) (nd : (G.map (·.1)).Nodup) (rC : r ∈ C) {a b : Int} (h : Ahd D P G r a) (k : Ahd D P G r b) : a = b := by
  obtain ⟨nm, m, u⟩ := pc.who r rC
  obtain ⟨x, t, q, x1, x2, x3⟩ := h
  obtain ⟨y, t', q', y1, y2, y3⟩ := k
  obtain rfl := u _ x1
  obtain rfl := u _ y1
  obtain rfl : t = t' := congrArg Prod.snd (key_uniq nd x2 y2 rfl)
  have := hF.uniq _ _ _ _ x3 y3
  injection this with _ this
  injection this
end
end Fw
set_option maxHeartbeats 4000000
namespace Fw
open PySem PySem.Spec PyProof.Rows L2
/-! which pieces are solvable: the program's own defs -/
open Classical in
noncomputable def stlB (P G : List (Str × Int)) (C : List Int) : Bool := decide (Stl P G C)
open Classical in
noncomputable def solB (D : List (Int × Int)) (P G : List (Str × Int)) (C : List Int) : Bool := decide (Sol D P G C)
/-- what is left of C without r is solvable -/
def Lve (D : List (Int × Int)) (P G : List (Str × Int)) (C : List Int) (r : Int) : Prop := ∀ s ∈ cut C r, ∀ L, IsC D (cut C r) s L → (∀ a, Ahd D P G r a → a ∉ L) → Sol D P G L
open Classical in
noncomputable def lveB (D : List (Int × Int)) (P G : List (Str × Int)) (C : List Int) (r : Int) : Bool := decide (Lve D P G C r)
open Classical in
theorem stlB_iff {P G : List (Str × Int)} {C : List Int} : stlB P G C = true ↔ Stl P G C := by unfold stlB; rw [decide_eq_true_eq]
open Classical in
theorem solB_iff {D : List (Int × Int)} {P G : List (Str × Int)} {C : List Int} : solB D P G C = true ↔ Sol D P G C := by unfold solB; rw [decide_eq_true_eq]
open Classical in
theorem lveB_iff {D : List (Int × Int)} {P G : List (Str × Int)} {C : List Int} {r : Int} : lveB D P G C r = true ↔ Lve D P G C r := by unfold lveB; rw [decide_eq_true_eq]
theorem sol_iff {D : List (Int × Int)} {P G : List (Str × Int)} {C : List Int} : Sol D P G C ↔ Stl P G C ∨ ∃ r ∈ fre D P G C, Lve D P G C r := by
  constructor
  · intro h
    cases h with
    | still h => exact .inl h
    | leave h k => exact .inr ⟨_, h, k⟩
  · rintro (h | ⟨r, h, k⟩)
    · exact .still h
    · exact .leave h k
theorem Pce.len {n : Int} {D : List (Int × Int)} {P G : List (Str × Int)} {C : List Int} (pc : Pce D P G C) (pl : Pl n P) (n1 : n ≤ 8) : C.length ≤ 8 := by
  have := up_len pc.up (C := rg n) fun x hx => by
    obtain ⟨nm, m, _⟩ := pc.who x hx
    exact mem_rg.mpr (pl.rm _ m)
  rw [rg_len] at this
  omega
theorem inside_all {P : List (Str × Int)} {nm : Str} {r : Int} (m : (nm, r) ∈ P) (u : ∀ nm', (nm', r) ∈ P → nm' = nm) : ∃ q, inside P [r] = nm :: q := by
  have h : nm ∈ inside P [r] := mem_inside' m (List.mem_singleton.mpr rfl)
  match e : inside P [r], h with
  | x :: q, _ =>
    have : x ∈ inside P [r] := by rw [e]; exact List.mem_cons_self ..
    obtain ⟨c, h1, h2⟩ := inside_get this
    rw [List.mem_singleton.mp h2] at h1
    exact ⟨q, by rw [u x h1]⟩
section
variable {P : Program} {w : World} {K : PySem.W.Frag} {mg : Str → Option Value} {base : Heap}
def spAllAt (K : PySem.W.Frag) : Sp := fun vs H Q _ => ∃ (p g rl : Addr) (n : Int) (P G : List (Str × Int)) (C : List Int), vs = [.ref p, .ref g, .ref rl] ∧ PlAt H p P ∧ Pl n P ∧ P.length ≤ 100 ∧ PlAt H g G ∧ Pl n G ∧ (∀ x ∈ P.map (·.1), x ∈ G.map (·.1)) ∧ SqT K H rl (vi C) ∧ ∀ H', Same H H' → Q (.bl (stlB P G C)) H'
abbrev nAllAt : List Str := ["placement", "target", "rooms", "name"]
theorem scAllAt : FnScope nAllAt ["placement", "target", "rooms"] (defScope sAllAt) := ⟨rfl, rfl, rfl, by decide +kernel, rfl, by decide +kernel, by decide +kernel⟩
abbrev pAllAt : List Str := ["placement", "target", "rooms"]
theorem ok_allat {f : Addr} {fd : FuncData} {k : Nat} (F : Fun K "all_at_target" "all_at_target" sAllAt f fd) (T : Nm mg) (Cpeople_within : Cal P w K mg base (k + 1) "people_within" pPWi (spPWi K)) (Croom_of : Cal P w K mg base (k + 1) "room_of" pRoomOf spRoomOf) : FnOk P w K mg base CX0 (k + 2) f fd pAllAt (spAllAt K) := by
  refine F.ok scAllAt (fun vs H Q E h => ?_) (fun cdv A outer s H vs Q E hr h => ?_)
  · obtain ⟨p, g, rl, n, P, G, C, rfl, _⟩ := h
    rfl
  · obtain ⟨p, g, rl, n, P, G, C, rfl, hP, pl, lP, hG, plG, sub, hC, q⟩ := h
    refine ⟨_, (pss_one (ps_ret (pe_callB (cr_all rfl) (by rfl) T.all (by decide +kernel) (pa_cons (pe_lc (own := [("name", 3)]) (g := gName 3) (by rfl) scAllAt.nd (pi_tupK K rfl (pe_cal Cpeople_within hr (by rfl) (pa_cons (pv 0) (pa_cons (pv 2) pa_nil))))
 (blkOk_by (own := [("name", 3)]) (N := nAllAt) (sc := defScope sAllAt) (by decide +kernel))
 (fun _ _ _ _ _ => (pg_name (i := 3) scAllAt.nd rfl (.inl rfl))) (fun _ _ _ _ _ => pts_nil) (fun _ _ _ _ _ => (pe_cmpR op_eq (pe_cal Croom_of hr (by rfl) (pa_cons (pv 1) (pa_cons (pv 3) pa_nil))) (pe_cal Croom_of hr (by rfl) (pa_cons (pv 0) (pa_cons (pv 3) pa_nil))) (nomark _)))) pa_nil)))), ?_⟩
    refine ⟨_, rfl, _, rfl, p, rl, P, C, rfl, hP, hC, lP, fun H1 u s1 e1 => ?_⟩
    refine ⟨u, rfl, ⟨_, SqT.of e1⟩, fun L hL => lc_tup (K := K) (a := u) (xs := (inside P C).map V.str) (fun i H' => Same H1 H' ∧ ∃ bs : List Bool, H' L = some (.lst (bs.map V.bl)) ∧ bs.length = i ∧ (bs.all id = true ↔ ∀ nm ∈ (inside P C).take i, ∀ c t, (nm, c) ∈ P → (nm, t) ∈ G → t = c))
      ⟨same_upd hL, [], upd_same, rfl, ⟨fun _ nm h => (by cases h), fun _ => rfl⟩⟩ (fun i H' _ hh => SqT.of (hh.1 _ _ e1)) ?_ ?_⟩
    · rintro i x H2 hx ⟨s2, bs, eb, lb, hb⟩
      obtain ⟨nm, hn, rfl⟩ : ∃ nm, (inside P C)[i]? = some nm ∧ x = .str nm := by
        rw [List.getElem?_map] at hx
        cases e : (inside P C)[i]? with
        | none => rw [e] at hx; cases hx
        | some v => rw [e] at hx; exact ⟨v, rfl, (Option.some.inj hx).symm⟩
      obtain ⟨c, mc, _⟩ := inside_get (List.mem_of_getElem? hn)
      obtain ⟨t, mt⟩ := key_val (sub nm (List.mem_map_of_mem (f := (·.1)) mc))
      have il := lt_of_get hn
      have i2 := inside_len P C
      have s02 := s1.trans s2
      refine ⟨rfl, ?_⟩
      unfold tYes
      refine iteT ⟨_, rfl, _, rfl, g, G, nm, t, rfl, hG.same s02, mt, plG.nodup, _, rfl, _, rfl, p, P, nm, c, rfl, hP.same s02, mc, pl.nodup, rfl, _, eb, ?_, same_put s2 hL, bs ++ [decide (t = c)], ?_, ?_, ?_⟩
      · rw [List.length_map]
        exact small1000 (by omega)
      · rw [upd_same, List.map_append]
        show some (HO.lst (_ ++ [V.bl (decide (V.int t = V.int c))])) = _
        rw [int_dec]
        rfl
      · rw [List.length_append, lb]
        rfl
      · rw [List.all_append, Bool.and_eq_true, hb, take_snoc hn]
        constructor
        · rintro ⟨a1, a2⟩ nm' h' c' t' h1 h2
          rcases List.mem_append.mp h' with h' | h'
          · exact a1 nm' h' c' t' h1 h2
          · rw [List.mem_singleton.mp h'] at h1 h2
            have e1 : t' = t := congrArg Prod.snd (key_uniq plG.nodup h2 mt rfl)
            have e2 : c' = c := congrArg Prod.snd (key_uniq pl.nodup h1 mc rfl)
            rw [e1, e2]
            simpa using a2
        · intro a
          refine ⟨fun nm' h' => a nm' (List.mem_append_left _ h'), ?_⟩
          have := a nm (List.mem_append_right _ (List.mem_singleton.mpr rfl)) c t mc mt
          simpa using this
    · rintro H2 ⟨s2, bs, eb, lb, hb⟩
      rw [List.length_map, List.take_length] at hb
      refine ⟨L, bs, rfl, SqL.of eb, ?_⟩
      have : bs.all id = stlB P G C := by
        rw [Bool.eq_iff_iff, hb, stlB_iff]
        constructor
        · intro a nm c t h1 h2 h3
          exact a nm (mem_inside' h1 h2) c t h1 h3
        · intro a nm h c t h1 h3
          obtain ⟨c', h4, h5⟩ := inside_get h
          have e2 : c' = c := congrArg Prod.snd (key_uniq pl.nodup h4 h1 rfl)
          exact a nm c t h1 (e2 ▸ h5) h3
      rw [this]
      exact q _ (s1.trans s2)
/-- the next room of somebody who has a way to go -/
def spNextP : Sp := fun vs H Q _ => ∃ (h p g : Addr) (n : Int) (D : List (Int × Int)) (P G : List (Str × Int)) (nm : Str) (r t a : Int) (q : List Int), vs = [.ref h, .ref p, .ref g, .str nm] ∧ HouseAt H h n D ∧ Forest n D ∧ n ≤ 8 ∧ PlAt H p P ∧ Pl n P ∧ PlAt H g G ∧ Pl n G ∧ (nm, r) ∈ P ∧ (nm, t) ∈ G ∧ SP (adj D) r t (r :: a :: q) ∧ ∀ H', Same H H' → Q (.int a) H'
abbrev nNextT : List Str := ["house", "placement", "target", "name", "path"]
theorem scNextT : FnScope nNextT ["house", "placement", "target", "name"] (defScope sNextT) := ⟨rfl, rfl, rfl, by decide +kernel, rfl, by decide +kernel, by decide +kernel⟩
theorem ok_nextP {f : Addr} {fd : FuncData} {k : Nat} (F : Fun K "next_toward_target" "next_toward_target" sNextT f fd) (T : Nm mg) (Cpath_to_target : Cal P w K mg base (k + 4) "path_to_target" pPTgt spPTgt) : FnOk P w K mg base CX0 (k + 5) f fd pPTgt spNextP := by
  refine F.ok scNextT (fun vs H Q E h => ?_) (fun cdv A outer s H vs Q E hr h => ?_)
  · obtain ⟨h, p, g, n, D, P, G, nm, r, t, a, q, rfl, _⟩ := h
    rfl
  · obtain ⟨h, p, g, n, D, P, G, nm, r, t, a, w, rfl, hH, hF, n1, hP, pl, hG, plG, mr, mt, sp, q⟩ := h
    refine ⟨_, (pss_cons (ps_set (i := 4) scNextT.nd rfl (.inl rfl) (pe_cal Cpath_to_target hr (by rfl) (pa_cons (pv 0) (pa_cons (pv 1) (pa_cons (pv 2) (pa_cons (pv 3) pa_nil))))))
      (pss_cons (ps_if (PW.pt (pw_or (pt_cmp (pc_isN (pv 4))) (pw_or1 (pt_cmpR op_eq (pe_callB (call_lenK K rfl) (by rfl) T.len (by decide +kernel) (pa_cons (pv 4) pa_nil)) pe_int (nomark _)))))
      (pss_one (ps_ret pe_non))
      pss_nil)
      (pss_one (ps_ret (pe_ix (ix_tupK K rfl) (pv 4) pe_int (fun _ _ => rfl)))))), ?_⟩
    refine ⟨_, rfl, _, rfl, _, rfl, _, rfl, h, p, g, n, D, P, G, nm, r, t, rfl, hH, hF, n1, hP, pl, hG, plG, mr, mt, fun H1 s1 no => absurd sp (no _), fun H1 u w' s1 sp' lw e1 => ?_⟩
    obtain rfl := hF.uniq _ _ _ _ sp' sp
    refine ⟨_, rfl, _, rfl, iteF ⟨_, rfl, u, _, rfl, .inr (SqT.of e1), rfl, _, rfl, ?_⟩⟩
    exact iteF ⟨_, rfl, u, _, _, _, rfl, rfl, SqT.of e1, atI1, q _ s1⟩
def spAhead : Sp := fun vs H Q _ => ∃ (h p g : Addr) (n : Int) (D : List (Int × Int)) (P G : List (Str × Int)) (nm : Str) (r t a : Int) (q : List Int), vs = [.ref h, .ref p, .ref g, .int r] ∧ HouseAt H h n D ∧ Forest n D ∧ n ≤ 8 ∧ PlAt H p P ∧ Pl n P ∧ P.length ≤ 100 ∧ PlAt H g G ∧ Pl n G ∧ (nm, r) ∈ P ∧ (∀ nm', (nm', r) ∈ P → nm' = nm) ∧ (nm, t) ∈ G ∧ SP (adj D) r t (r :: a :: q) ∧ ∀ H', Same H H' → Q (.int a) H'
abbrev nAhead : List Str := ["house", "placement", "target", "room"]
theorem scAhead : FnScope nAhead ["house", "placement", "target", "room"] (defScope sAhead) := ⟨rfl, rfl, rfl, by decide +kernel, rfl, by decide +kernel, by decide +kernel⟩
abbrev pAhead : List Str := ["house", "placement", "target", "room"]
theorem ok_ahead {f : Addr} {fd : FuncData} {k : Nat} (F : Fun K "room_ahead" "room_ahead" sAhead f fd) (Cnext_toward_target : Cal P w K mg base (k + 5) "next_toward_target" pPTgt spNextP) (Cpeople_in : Cal P w K mg base (k + 5) "people_in" pPIn spPIn) : FnOk P w K mg base CX0 (k + 6) f fd pAhead spAhead := by
  refine F.ok scAhead (fun vs H Q E h => ?_) (fun cdv A outer s H vs Q E hr h => ?_)
  · obtain ⟨h, p, g, n, D, P, G, nm, r, t, a, q, rfl, _⟩ := h
    rfl
  · obtain ⟨h, p, g, n, D, P, G, nm, r, t, a, w, rfl, hH, hF, n1, hP, pl, lP, hG, plG, mr, un, mt, sp, q⟩ := h
    refine ⟨_, (pss_one (ps_ret (pe_cal Cnext_toward_target hr (by rfl) (pa_cons (pv 0) (pa_cons (pv 1) (pa_cons (pv 2) (pa_cons (pe_ix (ix_tupK K rfl) (pe_cal Cpeople_in hr (by rfl) (pa_cons (pv 1) (pa_cons (pv 3) pa_nil))) pe_int (fun _ _ => rfl)) pa_nil))))))), ?_⟩
    refine ⟨_, rfl, _, rfl, _, rfl, _, rfl, _, rfl, p, P, r, rfl, hP, lP, fun H1 u s1 e1 => ?_⟩
    obtain ⟨w', ew⟩ := inside_all mr un
    rw [ew] at e1
    exact ⟨u, _, _, _, rfl, rfl, SqT.of e1, atI0, h, p, g, n, D, P, G, nm, r, t, a, w, rfl, hH.same s1, hF, n1, hP.same s1, pl, hG.same s1, plG, mr, mt, sp, fun H2 s2 => q _ (s1.trans s2)⟩
def spCWo (K : PySem.W.Frag) : Sp := fun vs H Q _ => ∃ (h rl : Addr) (n : Int) (D : List (Int × Int)) (C : List Int) (r : Int), vs = [.ref h, .ref rl, .int r] ∧ HouseAt H h n D ∧ Forest n D ∧ 0 ≤ n ∧ n ≤ 8 ∧ SqT K H rl (vi C) ∧ C.Pairwise (· < ·) ∧ C.length ≤ 8 ∧ ∀ H' t Cs, Same H H' → RegsAt H' t D (cut C r) Cs → Q (.ref t) H'
abbrev nCWo : List Str := ["house", "rooms", "room", "other"]
theorem scCWo : FnScope nCWo ["house", "rooms", "room"] (defScope sCWo) := ⟨rfl, rfl, rfl, by decide +kernel, rfl, by decide +kernel, by decide +kernel⟩
abbrev pCWo : List Str := ["house", "rooms", "room"]
theorem ok_cwo {f : Addr} {fd : FuncData} {k : Nat} (F : Fun K "components_without" "components_without" sCWo f fd) (T : Nm mg) (Ccomponents : Cal P w K mg base (k + 3) "components" ["house", "rooms"] (spComp K)) : FnOk P w K mg base CX0 (k + 4) f fd pCWo (spCWo K) := by
  refine F.ok scCWo (fun vs H Q E h => ?_) (fun cdv A outer s H vs Q E hr h => ?_)
  · obtain ⟨h, rl, n, D, C, r, rfl, _⟩ := h
    rfl
  · obtain ⟨h, rl, n, D, C, r, rfl, hH, hF, n0, n1, hC, up, lC, q⟩ := h
    refine ⟨_, (pss_one (ps_ret (pe_cal Ccomponents hr (by rfl) (pa_cons (pv 0) (pa_cons (pe_callTy (call_tupleK K rfl) (by rfl) T.tuple (by decide +kernel) (pa_cons (pe_lc (own := [("other", 3)]) (g := gName 3) (by rfl) scCWo.nd (pi_tupK K rfl (pv 1))
 (blkOk_by (own := [("other", 3)]) (N := nCWo) (sc := defScope sCWo) (by decide +kernel))
 (fun _ _ _ _ _ => (pg_name (i := 3) scCWo.nd rfl (.inl rfl))) (fun _ _ _ _ _ => pts_one (pt_cmpR op_ne (pv 3) (pv 2) (nomark _))) (fun _ _ _ _ _ => (pv 3))) pa_nil)) pa_nil))))), ?_⟩
    refine ⟨_, rfl, _, rfl, rl, rfl, ⟨_, hC⟩, fun L hL => lc_tup (K := K) (a := rl) (xs := vi C) (fun i H' => Same H H' ∧ H' L = some (.lst (vi (cut (C.take i) r)))) ⟨same_upd hL, upd_same⟩ (fun i H' _ hh => sqT_same hh.1 hC) ?_ ?_⟩
    · rintro i x H1 hx ⟨s1, e1⟩
      obtain ⟨y, hy, rfl⟩ := get_vi hx
      have es : cut (C.take (i + 1)) r = cut (C.take i) r ++ if (!decide (y = r)) = true then [y] else [] := by
        unfold cut
        rw [take_snoc hy, filter_snoc]
      refine ⟨rfl, _, rfl, _, rfl, rfl, _, rfl, ?_⟩
      rw [int_dec, es]
      refine ite2 (fun c => ?_) (fun c => ?_)
      · rw [if_pos c]
        refine ⟨_, rfl, _, e1, ?_, same_put s1 hL, ?_⟩
        · rw [List.length_map]
          have h1 := cut_lenle (C.take i) r
          rw [List.length_take] at h1
          exact small1000 (by omega)
        · rw [upd_same, vi_app]
          rfl
      · rw [if_neg c, List.append_nil]
        exact ⟨s1, e1⟩
    · rintro H1 ⟨s1, e1⟩
      rw [List.length_map, List.take_length] at e1
      refine ⟨L, _, rfl, .inl ⟨SqL.of e1, fun t ht => ?_⟩⟩
      have s2 := s1.trans (same_upd (o := .tup (vi (cut C r))) ht)
      have lc := cut_lenle C r
      exact ⟨h, t, n, D, cut C r, rfl, hH.same s2, hF, n0, n1, upd_same, cut_up up, by omega, fun H' u Cs s' a1 a2 a3 a4 a5 => q _ u Cs (s2.trans s') ⟨a1, a2, a5, a3, a4⟩⟩
def spSolv (K : PySem.W.Frag) (d : Nat) : Sp := fun vs H Q _ => ∃ (h p g rl : Addr) (n : Int) (D : List (Int × Int)) (P G : List (Str × Int)) (C : List Int), vs = [.ref h, .ref p, .ref g, .ref rl] ∧ HouseAt H h n D ∧ Forest n D ∧ 0 ≤ n ∧ n ≤ 8 ∧ PlAt H p P ∧ Pl n P ∧ P.length ≤ 60 ∧ PlAt H g G ∧ Pl n G ∧ (∀ x ∈ P.map (·.1), x ∈ G.map (·.1)) ∧ SqT K H rl (vi C) ∧ Pce D P G C ∧ C.length ≤ d ∧ ∀ H', Same H H' → Q (.bl (solB D P G C)) H'
def spSolvW (K : PySem.W.Frag) (d : Nat) : Sp := fun vs H Q _ => ∃ (h p g rl : Addr) (n : Int) (D : List (Int × Int)) (P G : List (Str × Int)) (C : List Int) (r : Int), vs = [.ref h, .ref p, .ref g, .ref rl, .int r] ∧ HouseAt H h n D ∧ Forest n D ∧ 0 ≤ n ∧ n ≤ 8 ∧ PlAt H p P ∧ Pl n P ∧ P.length ≤ 60 ∧ PlAt H g G ∧ Pl n G ∧ (∀ x ∈ P.map (·.1), x ∈ G.map (·.1)) ∧ SqT K H rl (vi C) ∧ Pce D P G C ∧ r ∈ fre D P G C ∧ C.length ≤ d ∧ ∀ H', Same H H' → Q (.bl (lveB D P G C r)) H'
abbrev nSolvW : List Str := ["house", "placement", "target", "rooms", "room", "ahead", "component"]
theorem scSolvW : FnScope nSolvW ["house", "placement", "target", "rooms", "room"] (defScope sSolvW) := ⟨rfl, rfl, rfl, by decide +kernel, rfl, by decide +kernel, by decide +kernel⟩
abbrev pSolvW : List Str := ["house", "placement", "target", "rooms", "room"]
abbrev pSolv : List Str := ["house", "placement", "target", "rooms"]
theorem ok_solvw {f : Addr} {fd : FuncData} {k d : Nat} (F : Fun K "is_solvable_without" "is_solvable_without" sSolvW f fd) (Croom_ahead : Cal P w K mg base k "room_ahead" pAhead spAhead) (Ccomponents_without : Cal P w K mg base k "components_without" pCWo (spCWo K)) (Cis_solvable : Cal P w K mg base k "is_solvable" pSolv (spSolv K d)) : FnOk P w K mg base CX0 (k + 1) f fd pSolvW (spSolvW K (d + 1)) := by
  refine F.ok scSolvW (fun vs H Q E h => ?_) (fun cdv A outer s H vs Q E hr h => ?_)
  · obtain ⟨h, p, g, rl, n, D, P, G, C, r, rfl, _⟩ := h
    rfl
  · obtain ⟨h, p, g, rl, n, D, P, G, C, r, rfl, hH, hF, n0, n1, hP, pl, lP, hG, plG, sub, hC, pc, fr, lC, q⟩ := h
    refine ⟨_, (pss_cons (ps_set (i := 5) scSolvW.nd rfl (.inl rfl) (pe_cal Croom_ahead hr (by rfl) (pa_cons (pv 0) (pa_cons (pv 1) (pa_cons (pv 2) (pa_cons (pv 4) pa_nil))))))
      (pss_cons (ps_for PassesOwn.never rfl (pi_tupK K rfl (pe_cal Ccomponents_without hr (by rfl) (pa_cons (pv 0) (pa_cons (pv 3) (pa_cons (pv 4) pa_nil))))) (pg_name (i := 6) scSolvW.nd rfl (.inl rfl))
      (pss_one (ps_if (PW.pt (pw_and (pt_cmpR (op_notInK K rfl) (pv 5) (pv 6) (by rfl)) (pw_and1 (pt_not (pt_val (pe_cal Cis_solvable hr (by rfl) (pa_cons (pv 0) (pa_cons (pv 1) (pa_cons (pv 2) (pa_cons (pv 6) pa_nil))))))))))
       (pss_one (ps_ret pe_bl))
       pss_nil)))
      (pss_one (ps_ret pe_bl)))), ?_⟩
    have rC := (fre_mem fr).1
    obtain ⟨nm, t, a, w, m1, m2, sp, aC⟩ := pc.ahead sub fr
    obtain ⟨nm', mw, un⟩ := pc.who r rC
    have e0 := un nm m1
    have ahd : Ahd D P G r a := ⟨nm, t, w, m1, m2, sp⟩
    have only : ∀ b, Ahd D P G r b → b = a := fun b hb => pc.ahd_one hF plG.nodup rC hb ahd
    refine ⟨_, rfl, _, rfl, _, rfl, _, rfl, h, p, g, n, D, P, G, nm, r, t, a, w, rfl, hH, hF, n1, hP, pl, by omega, hG, plG, m1, fun x hx => (un x hx).trans e0.symm, m2, sp, fun H1 s1 => ?_⟩
    refine ⟨_, rfl, _, rfl, _, rfl, h, rl, n, D, C, r, rfl, hH.same s1, hF, n0, n1, sqT_same s1 hC, pc.up, pc.len pl n1, fun H2 tt Cs s2 rg => ?_⟩
    have s12 := s1.trans s2
    refine ⟨tt, rfl, ⟨_, SqT.of rg.1⟩, for_tup (K := K) (a := tt) (xs := refs Cs) (fun i σ' H' => ∃ y6, σ' = [some (.ref h), some (.ref p), some (.ref g), some (.ref rl), some (.int r), some (.int a), y6] ∧ Same H2 H' ∧ ∀ c ∈ Cs.take i, a ∉ c.2 → Sol D P G c.2)
      ⟨_, rfl, Same.refl _, fun c hc => nomatch hc⟩ (fun i σ' H' _ hh => ?_) ?_ ?_⟩
    · obtain ⟨_, _, s', _⟩ := hh
      exact SqT.of (s' _ _ rg.1)
    · rintro i x σ' H3 hx ⟨y6, rfl, s3, all⟩
      obtain ⟨c, hc, rfl⟩ := get_refs hx
      have mc := List.mem_of_getElem? hc
      obtain ⟨ss, hs, ic⟩ := (rg.2.2.2.mem c.2).mp (List.mem_map_of_mem (f := (·.2)) mc)
      have ec := s3 _ _ (rg.2.1 c mc).1
      have pcc := pc.cut fr hs ic
      have lc : c.2.length ≤ d := by
        have h1 := up_len ic.up fun v hv => ic.sub' hs hv
        have h2 := cut_len rC
        omega
      refine ⟨_, rfl, _, rfl, c.1, _, rfl, .inr (SqT.of ec), rfl, flat_vi _, _, rfl, ?_⟩
      rw [if_pos rfl, inV_vi]
      by_cases ma : a ∈ c.2
      · rw [decide_eq_true ma]
        refine iteF ⟨_, rfl, s3, fun c' hc' => ?_⟩
        rw [take_snoc hc] at hc'
        rcases List.mem_append.mp hc' with hc' | hc'
        · exact all c' hc'
        · rw [List.mem_singleton.mp hc']
          exact fun no => absurd ma no
      · rw [decide_eq_false ma]
        have s03 := s12.trans s3
        refine iteT ⟨_, rfl, _, rfl, _, rfl, _, rfl, h, p, g, c.1, n, D, P, G, c.2, rfl, hH.same s03, hF, n0, n1, hP.same s03, pl, lP, hG.same s03, plG, sub, SqT.of ec, pcc, lc, fun H4 s4 => ⟨_, rfl, ?_⟩⟩
        by_cases so : Sol D P G c.2
        · rw [solB_iff.mpr so]
          refine iteF ⟨_, rfl, s3.trans s4, fun c' hc' => ?_⟩
          rw [take_snoc hc] at hc'
          rcases List.mem_append.mp hc' with hc' | hc'
          · exact all c' hc'
          · rw [List.mem_singleton.mp hc']
            exact fun _ => so
        · rw [Bool.eq_false_iff.mpr fun z => so (solB_iff.mp z)]
          refine iteT ?_
          have : lveB D P G C r = false := Bool.eq_false_iff.mpr fun z => so (lveB_iff.mp z ss hs c.2 ic fun b hb => by rw [only b hb]; exact ma)
          rw [← this]
          exact q _ (s03.trans s4)
    · rintro σ' H3 ⟨y6, rfl, s3, all⟩
      rw [show (refs Cs).length = Cs.length by unfold refs; rw [List.length_map], List.take_length] at all
      have : lveB D P G C r = true := lveB_iff.mpr fun ss hs L ic no => by
        obtain ⟨c, hc, rfl⟩ := List.mem_map.mp ((rg.2.2.2.mem L).mpr ⟨ss, hs, ic⟩)
        exact all c hc (no a ahd)
      rw [← this]
      exact q _ (s12.trans s3)
abbrev nSolv : List Str := ["house", "placement", "target", "rooms", "room"]
theorem scSolv : FnScope nSolv ["house", "placement", "target", "rooms"] (defScope sSolv) := ⟨rfl, rfl, rfl, by decide +kernel, rfl, by decide +kernel, by decide +kernel⟩
theorem ok_solv {f : Addr} {fd : FuncData} {k d : Nat} (F : Fun K "is_solvable" "is_solvable" sSolv f fd) (Call_at_target : Cal P w K mg base k "all_at_target" pAllAt (spAllAt K)) (Cfree_rooms : Cal P w K mg base k "free_rooms" pFree (spFree K)) (Cis_solvable_without : Cal P w K mg base k "is_solvable_without" pSolvW (spSolvW K d)) : FnOk P w K mg base CX0 (k + 1) f fd pSolv (spSolv K d) := by
  refine F.ok scSolv (fun vs H Q E h => ?_) (fun cdv A outer s H vs Q E hr h => ?_)
  · obtain ⟨h, p, g, rl, n, D, P, G, C, rfl, _⟩ := h
    rfl
  · obtain ⟨h, p, g, rl, n, D, P, G, C, rfl, hH, hF, n0, n1, hP, pl, lP, hG, plG, sub, hC, pc, lC, q⟩ := h
    refine ⟨_, (pss_cons (ps_if (pt_val (pe_cal Call_at_target hr (by rfl) (pa_cons (pv 1) (pa_cons (pv 2) (pa_cons (pv 3) pa_nil)))))
      (pss_one (ps_ret pe_bl))
      pss_nil)
      (pss_cons (ps_for PassesOwn.never rfl (pi_tupK K rfl (pe_cal Cfree_rooms hr (by rfl) (pa_cons (pv 0) (pa_cons (pv 1) (pa_cons (pv 2) (pa_cons (pv 3) pa_nil)))))) (pg_name (i := 4) scSolv.nd rfl (.inl rfl))
      (pss_one (ps_if (pt_val (pe_cal Cis_solvable_without hr (by rfl) (pa_cons (pv 0) (pa_cons (pv 1) (pa_cons (pv 2) (pa_cons (pv 3) (pa_cons (pv 4) pa_nil)))))))
       (pss_one (ps_ret pe_bl))
       pss_nil)))
      (pss_one (ps_ret pe_bl)))), ?_⟩
    refine ⟨_, rfl, _, rfl, _, rfl, p, g, rl, n, P, G, C, rfl, hP, pl, by omega, hG, plG, sub, hC, fun H1 s1 => ⟨_, rfl, ?_⟩⟩
    by_cases st : Stl P G C
    · rw [stlB_iff.mpr st]
      refine iteT ?_
      rw [solB_iff.mpr (.still st)] at q
      exact q _ s1
    rw [Bool.eq_false_iff.mpr fun z => st (stlB_iff.mp z)]
    refine iteF ⟨_, rfl, _, rfl, _, rfl, _, rfl, h, p, g, rl, n, D, P, G, C, rfl, hH.same s1, hF, n1, hP.same s1, pl, lP, hG.same s1, plG, sub, sqT_same s1 hC, by have := pc.len pl n1; omega, fun H2 tt s2 et => ?_⟩
    have s12 := s1.trans s2
    refine ⟨tt, rfl, ⟨_, SqT.of et⟩, for_tup (K := K) (a := tt) (xs := vi (fre D P G C)) (fun i σ' H' => ∃ y4, σ' = [some (.ref h), some (.ref p), some (.ref g), some (.ref rl), y4] ∧ Same H2 H' ∧ ∀ r ∈ (fre D P G C).take i, ¬ Lve D P G C r)
      ⟨_, rfl, Same.refl _, fun c hc => nomatch hc⟩ (fun i σ' H' _ hh => ?_) ?_ ?_⟩
    · obtain ⟨_, _, s', _⟩ := hh
      exact SqT.of (s' _ _ et)
    · rintro i x σ' H3 hx ⟨y4, rfl, s3, all⟩
      obtain ⟨r, hr', rfl⟩ := get_vi hx
      have fr := List.mem_of_getElem? hr'
      have s03 := s12.trans s3
      refine ⟨_, rfl, _, rfl, _, rfl, _, rfl, _, rfl, h, p, g, rl, n, D, P, G, C, r, rfl, hH.same s03, hF, n0, n1, hP.same s03, pl, lP, hG.same s03, plG, sub, sqT_same s03 hC, pc, fr, lC, fun H4 s4 => ⟨_, rfl, ?_⟩⟩
      by_cases lv : Lve D P G C r
      · rw [lveB_iff.mpr lv]
        refine iteT ?_
        rw [solB_iff.mpr (.leave fr lv)] at q
        exact q _ (s03.trans s4)
      · rw [Bool.eq_false_iff.mpr fun z => lv (lveB_iff.mp z)]
        refine iteF ⟨_, rfl, s3.trans s4, fun c' hc' => ?_⟩
        rw [take_snoc hr'] at hc'
        rcases List.mem_append.mp hc' with hc' | hc'
        · exact all c' hc'
        · rw [List.mem_singleton.mp hc']
          exact lv
    · rintro σ' H3 ⟨y4, rfl, s3, all⟩
      rw [List.length_map, List.take_length] at all
      have : solB D P G C = false := Bool.eq_false_iff.mpr fun z => by
        rcases sol_iff.mp (solB_iff.mp z) with st' | ⟨r, fr, lv⟩
        · exact st st'
        · exact all r fr lv
      rw [← this]
      exact q _ (s12.trans s3)
/-- at every depth -/
theorem cal_solv (T : Nm mg) (dS : DefE K mg "is_solvable" sSolv pSolv) (dW : DefE K mg "is_solvable_without" sSolvW pSolvW) (Call_at_target : Cal P w K mg base 6 "all_at_target" pAllAt (spAllAt K)) (Cfree_rooms : Cal P w K mg base 6 "free_rooms" pFree (spFree K)) (Croom_ahead : Cal P w K mg base 6 "room_ahead" pAhead spAhead) (Ccomponents_without : Cal P w K mg base 6 "components_without" pCWo (spCWo K)) :
    ∀ d, Cal P w K mg base (2 * d + 7) "is_solvable" pSolv (spSolv K d) ∧ Cal P w K mg base (2 * d + 6) "is_solvable_without" pSolvW (spSolvW K d) := by
  have step : ∀ d, Cal P w K mg base (2 * d + 6) "is_solvable_without" pSolvW (spSolvW K d) → Cal P w K mg base (2 * d + 7) "is_solvable" pSolv (spSolv K d) := fun d C => dS.cal fun _ _ x => ok_solv x.F (Call_at_target.up (by omega)) (Cfree_rooms.up (by omega)) C
  intro d
  induction d with
  | zero =>
    have z : Cal P w K mg base (2 * 0 + 6) "is_solvable_without" pSolvW (spSolvW K 0) := by
      obtain ⟨f, fd, x⟩ := dW
      refine x.cal ⟨fun vs H Q E h => ?_, fun vs H Q E _ _ _ _ _ _ _ _ _ h => ?_⟩
      all_goals
        obtain ⟨_, _, _, _, _, _, _, _, _, _, _, _, _, _, _, _, _, _, _, _, _, _, _, fr, lC, _⟩ := h
        have := List.length_pos_of_mem (fre_mem fr).1
        omega
    exact ⟨step 0 z, z⟩
  | succ d ih =>
    have z : Cal P w K mg base (2 * (d + 1) + 6) "is_solvable_without" pSolvW (spSolvW K (d + 1)) := dW.cal fun _ _ x => ok_solvw x.F (Croom_ahead.up (by omega)) (Ccomponents_without.up (by omega)) ih.1
    exact ⟨step (d + 1) z, z⟩
end
end Fw
set_option maxHeartbeats 2000000
namespace Fw
open PySem PySem.Spec PyProof.Rows L2
/-! where pieces come from (math) -/
theorem Wk.doors {D D' : List (Int × Int)} {R : List Int} {a b : Int} (h : Wk D R a b) (m : ∀ x y, adj D x y → adj D' x y) : Wk D' R a b := by
  induction h with
  | base => exact .base
  | step _ ad mo ih => exact .step ih (m _ _ ad) mo
theorem Wk.wider {D : List (Int × Int)} {R R' : List Int} {a b : Int} (h : Wk D R a b) (m : ∀ x ∈ R, x ∈ R') : Wk D R' a b := by
  induction h with
  | base => exact .base
  | step _ ad mo ih => exact .step ih ad (m _ mo)
/-- a forest has fewer doors than rooms; with one less only, it is connected -/
theorem Grown.conn {U : List Int} {E : List (Int × Int)} (g : Grown U E) : (U = [] → E = []) ∧ (U ≠ [] → E.length + 1 ≤ U.length) ∧ (E.length + 1 = U.length → ∀ a ∈ U, ∀ b ∈ U, Wk E U a b) := by
  induction g with
  | nil => exact ⟨fun _ => rfl, fun h => absurd rfl h, fun _ a ha => nomatch ha⟩
  | @room U E v g nv ih =>
    obtain ⟨i0, i1, i2⟩ := ih
    refine ⟨fun h => (nomatch h), fun _ => ?_, fun e a ha b hb => ?_⟩
    · by_cases z : U = []
      · rw [i0 z, z]
        exact Nat.le_refl _
      · have := i1 z
        rw [List.length_cons]
        omega
    · by_cases z : U = []
      · rw [z] at ha hb
        rw [List.mem_singleton.mp ha, List.mem_singleton.mp hb]
        exact .base
      · have := i1 z
        rw [List.length_cons] at e
        omega
  | @door U E v u a b g nv mu e ih =>
    obtain ⟨i0, i1, i2⟩ := ih
    have z : U ≠ [] := fun z => by rw [z] at mu; cases mu
    have i1 := i1 z
    refine ⟨fun h => (nomatch h), fun _ => ?_, fun ee x hx y hy => ?_⟩
    · rw [List.length_cons, List.length_cons]
      omega
    · rw [List.length_cons, List.length_cons] at ee
      have i2 := i2 (by omega)
      have up : ∀ x y, adj E x y → adj ((a, b) :: E) x y := fun x y h => h.imp (List.mem_cons_of_mem _) (List.mem_cons_of_mem _)
      have uv : adj ((a, b) :: E) u v := by
        rcases minmax u v a b e with ⟨rfl, rfl, _⟩ | ⟨rfl, rfl, _⟩
        · exact .inl (List.mem_cons_self ..)
        · exact .inr (List.mem_cons_self ..)
      have old : ∀ x ∈ U, ∀ y ∈ U, Wk ((a, b) :: E) (v :: U) x y := fun x hx y hy => ((i2 x hx y hy).doors up).wider fun z hz => List.mem_cons_of_mem _ hz
      have to : ∀ x ∈ U, Wk ((a, b) :: E) (v :: U) x v := fun x hx => .step (old x hx u mu) uv (List.mem_cons_self ..)
      have from' : ∀ y ∈ U, Wk ((a, b) :: E) (v :: U) v y := fun y hy => (Wk.step .base (adj_symm uv) (List.mem_cons_of_mem _ mu)).trans (old u mu y hy)
      rcases List.mem_cons.mp hx with rfl | hx' <;> rcases List.mem_cons.mp hy with rfl | hy'
      · exact .base
      · exact from' y hy'
      · exact to x hx'
      · exact old x hx' y hy'
theorem Grown.nodupU {U : List Int} {E : List (Int × Int)} (g : Grown U E) : U.Nodup := by
  induction g with
  | nil => exact List.nodup_nil
  | room v g nv ih => exact List.nodup_cons.mpr ⟨nv, ih⟩
  | door v u a b g nv mu e ih => exact List.nodup_cons.mpr ⟨nv, ih⟩
theorem same_len {xs ys : List Int} (nx : xs.Nodup) (ny : ys.Nodup) (h : ∀ x, x ∈ xs ↔ x ∈ ys) : xs.length = ys.length :=
  Nat.le_antisymm (subset_len nx fun x hx => (h x).mp hx) (subset_len ny fun x hx => (h x).mpr hx)
/-- a house with one door less than rooms is connected -/
theorem Forest.conn {n : Int} {D : List (Int × Int)} (f : Forest n D) (e : D.length + 1 = n.toNat) : ∀ a ∈ rg n, ∀ b ∈ rg n, Wk D (rg n) a b := by
  obtain ⟨U, E, g, mu, pm, _, _⟩ := f
  have l1 : U.length = n.toNat := by
    rw [← rg_len n]
    exact same_len g.nodupU (rg_nodup n) fun x => by rw [mu, mem_rg]
  have l2 := pm.length_eq
  intro a ha b hb
  have := g.conn.2.2 (by omega) a ((mu a).mpr (mem_rg.mp ha)) b ((mu b).mpr (mem_rg.mp hb))
  refine (this.doors fun x y h => ?_).wider fun x hx => mem_rg.mpr ((mu x).mp hx)
  rw [adj_perm pm]
  exact h
/-- the whole of a full house -/
theorem Pce.whole {n : Int} {D : List (Int × Int)} {P G : List (Str × Int)} (f : Forest n D) (e : D.length + 1 = n.toNat) (pm : (P.map (·.2)).Perm (rg n)) (pl : Pl n P) (plG : Pl n G) : Pce D P G (rg n) := by
  refine ⟨rg_up n, fun r hr => ?_, f.conn e, fun nm c t _ _ m => mem_rg.mpr (plG.rm _ m)⟩
  obtain ⟨x, hx, rfl⟩ := List.mem_map.mp (pm.mem_iff.mpr hr)
  refine ⟨x.1, hx, fun nm' m => ?_⟩
  have nd : (P.map (·.2)).Nodup := pm.nodup_iff.mpr (rg_nodup n)
  exact congrArg Prod.fst (map_inj nd m hx rfl)
where
  map_inj {α β : Type} {f : α → β} : ∀ {xs : List α}, (xs.map f).Nodup → ∀ {x y : α}, x ∈ xs → y ∈ xs → f x = f y → x = y
    | [], _, _, _, h, _, _ => nomatch h
    | z :: xs, nd, x, y, hx, hy, e => by
      rw [List.map_cons, List.nodup_cons] at nd
      rcases List.mem_cons.mp hx with e1 | hx' <;> rcases List.mem_cons.mp hy with e2 | hy'
      · rw [e1, e2]
      · exact absurd (by rw [← e1, e]; exact List.mem_map_of_mem hy') nd.1
      · exact absurd (by rw [← e2, ← e]; exact List.mem_map_of_mem hx') nd.1
      · exact map_inj nd.2 hx' hy' e
/-- two of a list with the same mark: one may go and the mark stays -/
theorem mark_stays {α β : Type} [DecidableEq β] {f : α → β} : ∀ {xs : List α}, ∀ {x y : α}, x ∈ xs → y ∈ xs → x ≠ y → f x = f y → f x ∈ (xs.map f).erase (f x)
  | [], _, _, h, _, _, _ => nomatch h
  | z :: xs, x, y, hx, hy, ne, e => by
    rw [List.map_cons]
    by_cases ez : f z = f x
    · rw [← ez, List.erase_cons_head, ez]
      rcases List.mem_cons.mp hx with rfl | hx
      · rcases List.mem_cons.mp hy with rfl | hy
        · exact absurd rfl ne
        · rw [e]; exact List.mem_map_of_mem hy
      · exact List.mem_map_of_mem hx
    · rw [List.erase_cons_tail (by simpa using ez)]
      have hx : x ∈ xs := (List.mem_cons.mp hx).resolve_left fun h => ez (by rw [h])
      have hy : y ∈ xs := (List.mem_cons.mp hy).resolve_left fun h => ez (by rw [← h, e])
      exact List.mem_cons_of_mem _ (mark_stays hx hy ne e)
/-- as many people as rooms, nobody missing: one in each -/
theorem tight_one {P : List (Str × Int)} {C : List Int} (nd : C.Nodup) (occ : ∀ r ∈ C, r ∈ P.map (·.2)) (ti : (inside P C).length = C.length) {r : Int} (rC : r ∈ C) {a b : Str} (ha : (a, r) ∈ P) (hb : (b, r) ∈ P) : a = b := by
  refine Classical.byContradiction fun ne => ?_
  have ll : ((P.filter fun x => decide (x.2 ∈ C)).map (·.2)).length = C.length := by
    unfold inside at ti
    rw [List.length_map] at ti ⊢
    exact ti
  have fa : (a, r) ∈ P.filter fun x => decide (x.2 ∈ C) := List.mem_filter.mpr ⟨ha, decide_eq_true rC⟩
  have fb : (b, r) ∈ P.filter fun x => decide (x.2 ∈ C) := List.mem_filter.mpr ⟨hb, decide_eq_true rC⟩
  have st : r ∈ ((P.filter fun x => decide (x.2 ∈ C)).map (·.2)).erase r := mark_stays (f := fun x : Str × Int => x.2) fa fb (fun e => ne (congrArg Prod.fst e)) rfl
  have all : ∀ x ∈ C, x ∈ ((P.filter fun x => decide (x.2 ∈ C)).map (·.2)).erase r := fun x hx => by
    by_cases e : x = r
    · rw [e]; exact st
    · refine (List.mem_erase_of_ne e).mpr ?_
      obtain ⟨y, hy, rfl⟩ := List.mem_map.mp (occ x hx)
      exact List.mem_map_of_mem (f := fun x : Str × Int => x.2) (List.mem_filter.mpr ⟨hy, show decide (y.2 ∈ C) = true from decide_eq_true hx⟩)
  have := subset_len nd all
  rw [List.length_erase_of_mem (List.mem_map_of_mem (f := (·.2)) fa), ll] at this
  have := List.length_pos_of_mem rC
  omega
/-- a tight region in which nobody is outside is a piece -/
theorem Pce.region {n : Int} {D : List (Int × Int)} {P G : List (Str × Int)} {Ls : List (List Int)} {C : List Int} (pl : Pl n P) (ndG : (G.map (·.1)).Nodup) (sub : ∀ x ∈ P.map (·.1), x ∈ G.map (·.1)) (rg : Regs D (occ n P) Ls) (hC : C ∈ Ls) (ti : (inside P C).length = C.length) (inn : ∀ nm c t, (nm, c) ∈ P → c ∈ C → (nm, t) ∈ G → t ∈ C) : Pce D P G C := by
  obtain ⟨s, hs, ic⟩ := (rg.mem C).mp hC
  have oc : ∀ r ∈ C, r ∈ P.map (·.2) := fun r hr => pl.mem_occ.mp (ic.sub' hs hr)
  refine ⟨ic.up, fun r hr => ?_, fun a ha b hb => ?_, inn⟩
  · obtain ⟨x, hx, rfl⟩ := List.mem_map.mp (oc r hr)
    exact ⟨x.1, hx, fun nm' m => tight_one (up_nodup ic.up) oc ti hr m hx⟩
  · exact (ic.closed ha ((((ic.mem a).mp ha).symm hs).trans ((ic.mem b).mp hb))).1
open Classical in
theorem ctb_in {n : Int} {D : List (Int × Int)} {P G : List (Str × Int)} {Ls : List (List Int)} {C : List Int} (pl : Pl n P) (ndG : (G.map (·.1)).Nodup) (rg : Regs D (occ n P) Ls) (hC : C ∈ Ls) (h : ctb D n P G C = true) : ∀ nm c t, (nm, c) ∈ P → c ∈ C → (nm, t) ∈ G → t ∈ C := by
  obtain ⟨s, hs, ic⟩ := (rg.mem C).mp hC
  obtain ⟨_, ct⟩ := ctb_iff.mp h
  intro nm c t h1 h2 h3
  refine Classical.byContradiction fun no => ct nm (mem_inside' h1 h2) ?_
  unfold outp
  refine List.mem_map.mpr ⟨(nm, c), List.mem_filter.mpr ⟨h1, decide_eq_true fun t' m w => no ?_⟩, rfl⟩
  have e : t' = t := congrArg Prod.snd (key_uniq ndG m h3 rfl)
  rw [← e]
  exact (ic.mem t').mpr (((ic.mem c).mp h2).trans w)
end Fw
set_option maxHeartbeats 2000000
namespace Fw
open PySem PySem.Spec PyProof.Rows L2
/-! the regions exist (math; cut out of Sf) -/
theorem up_minA {y : Int} {ys : List Int} (h : (y :: ys).Pairwise (· < ·)) : ∀ v ∈ y :: ys, y ≤ v := fun v hv => by
  rcases List.mem_cons.mp hv with e | e
  · omega
  · have := (List.pairwise_cons.mp h).1 v e
    omega
theorem regs_exA (D : List (Int × Int)) {R : List Int} (upR : R.Pairwise (· < ·)) : ∃ Ls, Regs D R Ls := by
  classical
  have ex : ∀ r, ∃ l, r ∈ R → IsC D R r l := fun r => by
    by_cases h : r ∈ R
    · obtain ⟨l, hl⟩ := isC_ex D upR h
      exact ⟨l, fun _ => hl⟩
    · exact ⟨[], fun z => absurd z h⟩
  let C : Int → List Int := fun r => (ex r).choose
  have hC : ∀ r ∈ R, IsC D R r (C r) := fun r hr => (ex r).choose_spec hr
  have hd : ∀ r ∈ R, (∀ v ∈ C r, r ≤ v) → ∃ ys, C r = r :: ys := fun r hr hm => by
    have h1 := (hC r hr).has
    have h2 := (hC r hr).up
    cases e : C r with
    | nil => rw [e] at h1; cases h1
    | cons y ys =>
      rw [e] at h1 h2 hm
      have a := up_minA h2 r h1
      have b := hm y List.mem_cons_self
      exact ⟨ys, by rw [show y = r by omega]⟩
  refine ⟨(R.filter fun r => decide (∀ v ∈ C r, r ≤ v)).map C, ?_, fun l => ⟨fun hl => ?_, fun hl => ?_⟩⟩
  · rw [List.pairwise_map]
    refine List.Pairwise.imp_of_mem (R := (· < ·)) (fun {x y} hx hy h => ?_) (upR.filter _)
    obtain ⟨hx1, hx2⟩ := List.mem_filter.mp hx
    obtain ⟨hy1, hy2⟩ := List.mem_filter.mp hy
    obtain ⟨xs, ex⟩ := hd x hx1 (of_decide_eq_true hx2)
    obtain ⟨ys, ey⟩ := hd y hy1 (of_decide_eq_true hy2)
    rw [ex, ey]
    exact lexI_head h
  · obtain ⟨r, hr, rfl⟩ := List.mem_map.mp hl
    have := (List.mem_filter.mp hr).1
    exact ⟨r, this, hC r this⟩
  · obtain ⟨r, hr, ic⟩ := hl
    have h1 := ic.has
    cases e : l with
    | nil => rw [e] at h1; cases h1
    | cons y ys =>
      have my : y ∈ l := by rw [e]; exact List.mem_cons_self
      have yR := ic.sub hr y my
      have icy := ic.re hr my
      have ey := (hC y yR).one icy
      refine List.mem_map.mpr ⟨y, List.mem_filter.mpr ⟨yR, decide_eq_true ?_⟩, by rw [ey, e]⟩
      rw [ey, e]
      have := icy.up
      rw [e] at this
      exact up_minA this
end Fw
set_option maxHeartbeats 2000000
namespace Fw
open PySem PySem.Spec PyProof.Rows L2
/-! a loose region reaches every target inside it (math) -/
/-- where somebody wants to be -/
def tgt (G : List (Str × Int)) (nm : Str) : Int := ((G.find? fun y => decide (y.1 = nm)).map (·.2)).getD 0
theorem tgt_of {G : List (Str × Int)} {nm : Str} {t : Int} (nd : (G.map (·.1)).Nodup) (m : (nm, t) ∈ G) : tgt G nm = t := by
  unfold tgt
  cases e : G.find? fun y => decide (y.1 = nm) with
  | none =>
    have := List.find?_eq_none.mp e (nm, t) m
    simp at this
  | some y =>
    have h1 := List.mem_of_find?_eq_some e
    have h2 : y.1 = nm := of_decide_eq_true (p := y.1 = nm) (List.find?_some (p := fun y : Str × Int => decide (y.1 = nm)) e)
    exact congrArg Prod.snd (key_uniq nd h1 m h2)
/-- the people of some rooms at their targets, all others where they are -/
def brt (P G : List (Str × Int)) (C : List Int) : List (Str × Int) := P.map fun x => (x.1, if x.2 ∈ C then tgt G x.1 else x.2)
theorem brt_names (P G : List (Str × Int)) (C : List Int) : (brt P G C).map (·.1) = P.map (·.1) := by
  unfold brt
  rw [List.map_map]
  exact List.map_congr_left fun _ _ => rfl
/-- one is reached from the other -/
def Rch (n : Int) (D : List (Int × Int)) (P Q : List (Str × Int)) : Prop := ∃ X, Runs n D P X Q
theorem Rch.refl {n : Int} {D : List (Int × Int)} (P : List (Str × Int)) : Rch n D P P := ⟨_, .nil P⟩
theorem Rch.trans {n : Int} {D : List (Int × Int)} {P Q R : List (Str × Int)} (h : Rch n D P Q) (k : Rch n D Q R) : Rch n D P R := by
  obtain ⟨X, h⟩ := h
  obtain ⟨Y, k⟩ := k
  exact ⟨_, h.app k⟩
/-- connected occupied rooms with all occupied ones beside them -/
structure Cl (D : List (Int × Int)) (P : List (Str × Int)) (C : List Int) : Prop where
  up : C.Pairwise (· < ·)
  occ : ∀ r ∈ C, r ∈ P.map (·.2)
  con : ∀ a ∈ C, ∀ b ∈ C, Wk D C a b
  cl : ∀ v ∈ C, ∀ o, adj D v o → o ∈ P.map (·.2) → o ∈ C
/-- two placements of the same people, who differ within some rooms -/
structure Mt (P G : List (Str × Int)) (C : List Int) : Prop where
  nm : P.map (·.1) = G.map (·.1)
  inn : ∀ nm c t, (nm, c) ∈ P → (nm, t) ∈ G → (c ∈ C ↔ t ∈ C)
  off : ∀ nm c t, (nm, c) ∈ P → (nm, t) ∈ G → c ∉ C → t = c
theorem pl_eq : ∀ {P G : List (Str × Int)}, P.map (·.1) = G.map (·.1) → (G.map (·.1)).Nodup → (∀ x ∈ P, x ∈ G) → P = G
  | [], [], _, _, _ => rfl
  | [], _ :: _, e, _, _ => by cases e
  | _ :: _, [], e, _, _ => by cases e
  | x :: P, y :: G, e, nd, h => by
    rw [List.map_cons, List.map_cons] at e
    injection e with e1 e2
    obtain rfl : x = y := key_uniq nd (h x (List.mem_cons_self ..)) (List.mem_cons_self ..) e1
    rw [List.map_cons, List.nodup_cons] at nd
    rw [pl_eq e2 nd.2 fun z hz => ?_]
    rcases List.mem_cons.mp (h z (List.mem_cons_of_mem _ hz)) with q | q
    · refine absurd ?_ nd.1
      rw [← e2, ← q]
      exact List.mem_map_of_mem (f := (·.1)) hz
    · exact q
theorem mvd_mem {P : List (Str × Int)} {nm : Str} {t : Int} {y : Str × Int} (h : y ∈ mvd P nm t) : ∃ x ∈ P, y.1 = x.1 ∧ ((x.1 = nm ∧ y.2 = t) ∨ (x.1 ≠ nm ∧ y = x)) := by
  obtain ⟨x, hx, rfl⟩ := List.mem_map.mp h
  refine ⟨x, hx, rfl, ?_⟩
  by_cases e : x.1 = nm
  · exact .inl ⟨e, by simp [e]⟩
  · exact .inr ⟨e, by simp [e]⟩
section
variable {n : Int} {D : List (Int × Int)} {P G : List (Str × Int)} {C : List Int}
theorem Cl.isC (h : Cl D P C) (pl : Pl n P) {s : Int} (hs : s ∈ C) : IsC D (Fw.occ n P) s C := by
  refine ⟨h.up, fun v => ⟨fun m => (h.con s hs v m).mono fun x hx => pl.mem_occ.mpr (h.occ x hx), fun w => ?_⟩⟩
  induction w with
  | base => exact hs
  | step _ ad mo ih => exact h.cl _ ih _ ad (pl.mem_occ.mp mo)
theorem Cl.wk (h : Cl D P C) {a b : Int} (ha : a ∈ C) (hb : b ∈ C) : Wk D (P.map (·.2)) a b := (h.con a ha b hb).mono h.occ
theorem Cl.of {P' : List (Str × Int)} (h : Cl D P C) (e : ∀ r, r ∈ P'.map (·.2) ↔ r ∈ P.map (·.2)) : Cl D P' C :=
  ⟨h.up, fun r hr => (e r).mpr (h.occ r hr), h.con, fun v hv o ad mo => h.cl v hv o ad ((e o).mp mo)⟩
theorem Cl.rng (h : Cl D P C) (pl : Pl n P) : ∀ r ∈ C, 0 ≤ r ∧ r < n := fun r hr => by
  obtain ⟨x, hx, e⟩ := List.mem_map.mp (h.occ r hr)
  rw [← e]
  exact pl.rm x hx
theorem Mt.step (m : Mt P G C) (nd : (P.map (·.1)).Nodup) {a : Str} {r t : Int} (ma : (a, r) ∈ P) (hr : r ∈ C) (ht : t ∈ C) : Mt (mvd P a t) G C := by
  refine ⟨by rw [mvd_names]; exact m.nm, fun nm c u h k => ?_, fun nm c u h k no => ?_⟩
  · obtain ⟨x, hx, e, z⟩ := mvd_mem h
    have e : nm = x.1 := e
    rcases z with ⟨z1, z2⟩ | ⟨z1, z2⟩
    · have z2 : c = t := z2
      have ea : x = (a, r) := key_uniq nd hx ma z1
      rw [e, ea] at k
      have := m.inn _ _ _ ma k
      rw [z2]
      exact ⟨fun _ => this.mp hr, fun _ => ht⟩
    · rw [← z2] at hx
      exact m.inn _ _ _ hx k
  · obtain ⟨x, hx, e, z⟩ := mvd_mem h
    rcases z with ⟨z1, z2⟩ | ⟨z1, z2⟩
    · have z2 : c = t := z2
      exact absurd (z2 ▸ ht) no
    · rw [← z2] at hx
      exact m.off _ _ _ hx k no
theorem Mt.symm (m : Mt P G C) : Mt G P C := by
  refine ⟨m.nm.symm, fun nm c t h k => (m.inn nm t c k h).symm, fun nm c t h k no => ?_⟩
  exact (m.off nm t c k h fun z => no ((m.inn nm t c k h).mp z)).symm
theorem mvd_inside (nd : (P.map (·.1)).Nodup) {a : Str} {r t : Int} (ma : (a, r) ∈ P) (hr : r ∈ C) (ht : t ∈ C) : inside (mvd P a t) C = inside P C := by
  unfold inside mvd
  rw [List.filter_map, List.map_map]
  rw [List.filter_congr (q := fun x : Str × Int => decide (x.2 ∈ C)) fun x hx => ?_]
  · exact List.map_congr_left fun _ _ => rfl
  · show decide ((if x.1 = a then t else x.2) ∈ C) = decide (x.2 ∈ C)
    by_cases c : x.1 = a
    · have e : x = (a, r) := key_uniq nd hx ma c
      rw [if_pos c, e]
      exact decide_eq_decide.mpr ⟨fun _ => hr, fun _ => ht⟩
    · rw [if_neg c]
theorem mem_insC {a : Str} {C : List Int} : a ∈ inside P C ↔ ∃ r, (a, r) ∈ P ∧ r ∈ C := by
  unfold inside
  constructor
  · intro h
    obtain ⟨x, hx, rfl⟩ := List.mem_map.mp h
    obtain ⟨h1, h2⟩ := List.mem_filter.mp hx
    exact ⟨x.2, h1, of_decide_eq_true h2⟩
  · rintro ⟨r, h1, h2⟩
    exact List.mem_map.mpr ⟨(a, r), List.mem_filter.mpr ⟨h1, decide_eq_true h2⟩, rfl⟩
theorem ins_nodup (nd : (P.map (·.1)).Nodup) : (inside P C).Nodup := (List.filter_sublist.map _).nodup nd
theorem Mt.len (m : Mt P G C) (nd : (P.map (·.1)).Nodup) : (inside P C).length ≤ (inside G C).length := by
  refine subset_len (ins_nodup nd) fun a ha => ?_
  obtain ⟨r, h1, h2⟩ := mem_insC.mp ha
  have : a ∈ G.map (·.1) := by rw [← m.nm]; exact List.mem_map_of_mem (f := (·.1)) h1
  obtain ⟨y, hy, e⟩ := List.mem_map.mp this
  have hy : (a, y.2) ∈ G := by rw [← e]; exact hy
  exact mem_insC.mpr ⟨y.2, hy, (m.inn _ _ _ h1 hy).mp h2⟩
/-- who leaves others behind leaves no room empty -/
theorem rooms_stay (nd : (P.map (·.1)).Nodup) {a : Str} {r t : Int} (ma : (a, r) ∈ P) (hx : ∃ x ∈ P, x.1 ≠ a ∧ x.2 = r) (ht : t ∈ P.map (·.2)) (v : Int) : v ∈ (mvd P a t).map (·.2) ↔ v ∈ P.map (·.2) := by
  refine ⟨mvd_rooms ht, fun h => ?_⟩
  obtain ⟨x0, h0, n0, e0⟩ := hx
  obtain ⟨x, hx, e⟩ := List.mem_map.mp h
  by_cases c : x.1 = a
  · have : x = (a, r) := key_uniq nd hx ma c
    rw [← e, this]
    exact List.mem_map.mpr ⟨x0, mvd_other h0 n0, e0⟩
  · exact List.mem_map.mpr ⟨x, mvd_other hx c, e⟩
/-- somebody walks within the region -/
theorem home_runs (hF : Forest n D) (pl : Pl n P) (cl : Cl D P C) {a : Str} {r t : Int} (ma : (a, r) ∈ P) (hr : r ∈ C) (ht : t ∈ C) : Rch n D P (mvd P a t) := by
  obtain ⟨p, hp, _⟩ := (cl.wk hr ht).within
  refine ⟨_, hp.runs hF pl.nodup ma fun u hu => ?_⟩
  obtain ⟨x, hx, e⟩ := List.mem_map.mp ((cl.wk hr ht).path hF hp u hu)
  refine ⟨x, hx, fun c => ?_, e⟩
  have : x = (a, r) := key_uniq pl.nodup hx ma c
  rw [this] at e
  have e : r = u := e
  exact hp.off (e ▸ hu)
/-- how many are astray -/
def asty (P G : List (Str × Int)) : Nat := P.countP fun x => decide (x ∉ G)
theorem mvd_count {f : Str × Int → Bool} {a : Str} {r t : Int} (nd : (P.map (·.1)).Nodup) (ma : (a, r) ∈ P) (h1 : f (a, r) = true) (h2 : f (a, t) = false) : (mvd P a t).countP f < P.countP f := by
  unfold mvd
  rw [List.countP_map]
  refine countP_lt (x := (a, r)) (fun y hy h => ?_) ma h1 ?_
  · by_cases c : y.1 = a
    · rw [show y = (a, r) from key_uniq nd hy ma c]
      exact h1
    · have h : f (y.1, if y.1 = a then t else y.2) = true := h
      rw [if_neg c] at h
      exact h
  · show f (a, if a = a then t else r) = false
    rw [if_pos rfl]
    exact h2
theorem mvd_countle {f : Str × Int → Bool} {a : Str} {r t : Int} (nd : (P.map (·.1)).Nodup) (ma : (a, r) ∈ P) (h1 : f (a, r) = true) : (mvd P a t).countP f ≤ P.countP f := by
  unfold mvd
  rw [List.countP_map]
  refine List.countP_mono_left fun y hy h => ?_
  by_cases c : y.1 = a
  · rw [show y = (a, r) from key_uniq nd hy ma c]
    exact h1
  · have h : f (y.1, if y.1 = a then t else y.2) = true := h
    rw [if_neg c] at h
    exact h
/-- from one placement without empty rooms to another one -/
theorem arr_runs (hF : Forest n D) (plG : Pl n G) (fG : ∀ r ∈ C, r ∈ G.map (·.2)) : ∀ k P, asty P G ≤ k → Pl n P → Cl D P C → Mt P G C → C.length < (inside P C).length → Rch n D P G := by
  intro k
  induction k with
  | zero =>
    intro P h _ _ mt _
    have h0 : P.countP (fun x => decide (x ∉ G)) = 0 := Nat.le_zero.mp h
    rw [List.countP_eq_zero] at h0
    rw [pl_eq mt.nm plG.nodup fun x hx => ?_]
    · exact Rch.refl G
    · have := h0 x hx
      simpa using this
  | succ k ih =>
    intro P h pl cl mt lo
    have nd := pl.nodup
    by_cases al : ∀ x ∈ P, x ∈ G
    · rw [pl_eq mt.nm plG.nodup al]
      exact Rch.refl G
    -- who is astray
    have goal : ∀ {a : Str} {r : Int}, (a, r) ∈ P → (a, r) ∉ G → ∃ t, (a, t) ∈ G ∧ t ≠ r ∧ r ∈ C ∧ t ∈ C := fun {a r} ma no => by
      have : a ∈ G.map (·.1) := by rw [← mt.nm]; exact List.mem_map_of_mem (f := (·.1)) ma
      obtain ⟨y, hy, e⟩ := List.mem_map.mp this
      have hy : (a, y.2) ∈ G := by rw [← e]; exact hy
      have ne : y.2 ≠ r := fun e => no (e ▸ hy)
      have rC : r ∈ C := Classical.byContradiction fun z => ne (mt.off _ _ _ ma hy z)
      exact ⟨y.2, hy, ne, rC, (mt.inn _ _ _ ma hy).mp rC⟩
    by_cases sh : ∃ a r, (a, r) ∈ P ∧ (a, r) ∉ G ∧ 1 < (inside P [r]).length
    · obtain ⟨a, r, ma, no, l1⟩ := sh
      obtain ⟨t, mt', ne, rC, tC⟩ := goal ma no
      have rr := rooms_stay nd ma (another nd a l1) (cl.occ t tC)
      have tr := cl.rng pl t tC
      refine (home_runs hF pl cl ma rC tC).trans (ih _ ?_ (pl.mvd tr.1 tr.2) (cl.of rr) (mt.step nd ma rC tC) ?_)
      · have : asty (mvd P a t) G < asty P G := mvd_count nd ma (decide_eq_true no) (decide_eq_false fun z => z mt')
        omega
      · rw [mvd_inside nd ma rC tC]
        exact lo
    · have alone : ∀ {a : Str} {r : Int}, (a, r) ∈ P → (a, r) ∉ G → ¬ 1 < (inside P [r]).length := fun ma no l => sh ⟨_, _, ma, no, l⟩
      obtain ⟨x, hx, no⟩ : ∃ x ∈ P, x ∉ G := Classical.byContradiction fun z => al fun x hx => Classical.byContradiction fun y => z ⟨x, hx, y⟩
      obtain ⟨a, ra⟩ := x
      obtain ⟨ta, mta, nea, raC, taC⟩ := goal hx no
      obtain ⟨y, hy, e⟩ := List.mem_map.mp (fG ra raC)
      have mb' : (y.1, ra) ∈ G := by rw [← e]; exact hy
      have : y.1 ∈ P.map (·.1) := by rw [mt.nm]; exact List.mem_map_of_mem (f := (·.1)) hy
      obtain ⟨z, hz, ez⟩ := List.mem_map.mp this
      generalize hb : y.1 = b at mb' ez
      have mb : (b, z.2) ∈ P := by rw [← ez]; exact hz
      generalize hrb : z.2 = rb at mb
      have nab : a ≠ b := fun e => nea (congrArg Prod.snd (key_uniq plG.nodup mta mb' e))
      have ne : ra ≠ rb := fun e => alone hx no (by
        have h1 : a ∈ inside P [ra] := mem_ins1.mpr hx
        have h2 : b ∈ inside P [ra] := mem_ins1.mpr (e ▸ mb)
        match q : inside P [ra], h1, h2 with
        | [u], h1, h2 => exact absurd ((List.mem_singleton.mp h1).trans (List.mem_singleton.mp h2).symm) nab
        | _ :: _ :: _, _, _ => simp)
      have nob : (b, rb) ∉ G := fun m => ne (congrArg Prod.snd (key_uniq plG.nodup mb' m rfl))
      have rbC : rb ∈ C := (mt.inn _ _ _ mb mb').mpr raC
      have na : a ∉ shr P C := fun m => by
        obtain ⟨r, h1, _, h3⟩ := mem_shr.mp m
        have : ra = r := congrArg Prod.snd (key_uniq nd hx h1 rfl)
        exact alone hx no (this ▸ h3)
      have nb : b ∉ shr P C := fun m => by
        obtain ⟨r, h1, _, h3⟩ := mem_shr.mp m
        have : rb = r := congrArg Prod.snd (key_uniq nd mb h1 rfl)
        exact alone mb nob (this ▸ h3)
      obtain ⟨c, hc⟩ := List.exists_mem_of_ne_nil _ (shr_some lo)
      obtain ⟨rc, mc, rcC, lc⟩ := mem_shr.mp hc
      obtain ⟨p, hp, _⟩ := (cl.wk raC rbC).within
      obtain ⟨q, hq, _⟩ := (cl.wk rbC raC).within
      obtain ⟨u, hu, _⟩ := (cl.wk rcC raC).within
      obtain ⟨v, hv, _⟩ := (cl.wk raC rcC).within
      have X : Xch D P C a ra b rb (go c u ++ go a p ++ go b q ++ go c v) := .inr ⟨ne, p, q, hp, hq, .inr (.inr ⟨na, nb, c, rc, u, v, mc, hc, hu, hv, rfl⟩)⟩
      have R := X.runs hF pl hx mb (cl.isC pl raC) (cl.wk raC rbC)
      have g1 := cl.rng pl ra raC
      have g2 := cl.rng pl rb rbC
      have pl1 := pl.mvd (nm := a) g2.1 g2.2
      have nd1 := pl1.nodup
      have mb1 : (b, rb) ∈ mvd P a rb := mvd_other mb nab.symm
      have rr : ∀ w, w ∈ (mvd (mvd P a rb) b ra).map (·.2) ↔ w ∈ P.map (·.2) := fun w => by
        constructor
        · intro h
          obtain ⟨x, hx', e⟩ := List.mem_map.mp h
          obtain ⟨x1, k1, _, k2⟩ := mvd_mem hx'
          rcases k2 with ⟨_, k2⟩ | ⟨_, k2⟩
          · rw [← e, k2]; exact cl.occ ra raC
          · rw [← k2] at k1
            obtain ⟨x2, j1, _, j2⟩ := mvd_mem k1
            rcases j2 with ⟨_, j2⟩ | ⟨_, j2⟩
            · rw [← e, j2]; exact cl.occ rb rbC
            · rw [← e, j2]; exact List.mem_map_of_mem (f := (·.2)) j1
        · intro h
          obtain ⟨x, hx', e⟩ := List.mem_map.mp h
          by_cases ea : x.1 = a
          · have : x = (a, ra) := key_uniq nd hx' hx ea
            rw [← e, this]
            exact List.mem_map_of_mem (f := (·.2)) (mvd_self mb1)
          · by_cases eb : x.1 = b
            · have : x = (b, rb) := key_uniq nd hx' mb eb
              rw [← e, this]
              exact List.mem_map_of_mem (f := (·.2)) (mvd_other (mvd_self hx) nab)
            · rw [← e]
              exact List.mem_map_of_mem (f := (·.2)) (mvd_other (mvd_other hx' ea) eb)
      refine Rch.trans ⟨_, R⟩ (ih _ ?_ (pl1.mvd g1.1 g1.2) (cl.of rr) ((mt.step nd hx raC rbC).step nd1 mb1 rbC raC) ?_)
      · have h1 : asty (mvd P a rb) G ≤ asty P G := mvd_countle nd hx (decide_eq_true no)
        have h2 : asty (mvd (mvd P a rb) b ra) G < asty (mvd P a rb) G := mvd_count nd1 mb1 (decide_eq_true nob) (decide_eq_false fun z => z mb')
        omega
      · rw [mvd_inside nd1 mb1 rbC raC, mvd_inside nd hx raC rbC]
        exact lo
/-- the first room without people on a way -/
theorem first_out {O : List Int} {g : Int} (hO : ∀ x, x ∈ O → x ∈ C) (hg : g ∈ O) {v : Int} (w : Wk D C g v) : (Wk D O g v ∧ v ∈ O) ∨ ∃ v o, Wk D O g v ∧ v ∈ O ∧ adj D v o ∧ o ∈ C ∧ o ∉ O := by
  induction w with
  | base => exact .inl ⟨.base, hg⟩
  | @step v o _ ad mo ih =>
    rcases ih with ⟨h1, h2⟩ | h
    · by_cases z : o ∈ O
      · exact .inl ⟨.step h1 ad z, z⟩
      · exact .inr ⟨v, o, h1, h2, ad, mo, z⟩
    · exact .inr h
/-- one step back: somebody who is not alone comes from an empty room -/
theorem grow_step (hF : Forest n D) (pl : Pl n G) {O : List Int} (hO : ∀ x, x ∈ O → x ∈ G.map (·.2)) {k : Str} {g o : Int} (mk : (k, g) ∈ G) (l1 : 1 < (inside G [g]).length) (no : o ∉ G.map (·.2)) (w : Wk D O o g) : ∃ p, SP (adj D) o g p ∧ Runs n D (mvd G k o) (go k p) G := by
  obtain ⟨p, hp, ins⟩ := w.within
  have nd := pl.nodup
  refine ⟨p, hp, ?_⟩
  have := hp.runs (P := mvd G k o) (nm := k) hF (by rw [mvd_names]; exact nd) (mvd_self mk) fun t ht => by
    have to : t ≠ o := fun e => hp.off (e ▸ ht)
    have tO : t ∈ O := (ins t (List.mem_of_mem_tail ht)).resolve_left to
    obtain ⟨x, hx, e⟩ := List.mem_map.mp (hO t tO)
    by_cases c : x.1 = k
    · obtain ⟨x0, h0, n0, e0⟩ := another nd k l1
      have : x = (k, g) := key_uniq nd hx mk c
      rw [this] at e
      exact ⟨x0, mvd_other h0 n0, n0, e0.trans e⟩
    · exact ⟨x, mvd_other hx c, c, e⟩
  rw [mvd_twice, mvd_stay nd mk] at this
  exact this
theorem grow_runs (hF : Forest n D) (up : C.Pairwise (· < ·)) (con : ∀ a ∈ C, ∀ b ∈ C, Wk D C a b) (rng : ∀ r ∈ C, 0 ≤ r ∧ r < n) (pl : Pl n P) : ∀ k G, (C.countP fun r => decide (r ∉ G.map (·.2))) ≤ k → Pl n G → Mt P G C → C.length < (inside G C).length → ∃ G', Pl n G' ∧ Mt P G' C ∧ (∀ r ∈ C, r ∈ G'.map (·.2)) ∧ Rch n D G' G := by
  intro k
  induction k with
  | zero =>
    intro G h plG mt _
    have h0 := List.countP_eq_zero.mp (Nat.le_zero.mp h)
    exact ⟨G, plG, mt, fun r hr => by simpa using h0 r hr, Rch.refl G⟩
  | succ k ih =>
    intro G h plG mt lo
    by_cases al : ∀ r ∈ C, r ∈ G.map (·.2)
    · exact ⟨G, plG, mt, al, Rch.refl G⟩
    obtain ⟨e, eC, ne⟩ : ∃ e ∈ C, e ∉ G.map (·.2) := Classical.byContradiction fun z => al fun x hx => Classical.byContradiction fun y => z ⟨x, hx, y⟩
    obtain ⟨c, hc⟩ := List.exists_mem_of_ne_nil _ (shr_some lo)
    obtain ⟨g, mc, gC, lc⟩ := mem_shr.mp hc
    let O := C.filter fun r => decide (r ∈ G.map (·.2))
    have mO : ∀ x, x ∈ O ↔ x ∈ C ∧ x ∈ G.map (·.2) := fun x => by
      show x ∈ C.filter _ ↔ _
      rw [List.mem_filter]
      exact and_congr Iff.rfl ⟨fun z => of_decide_eq_true z, fun z => decide_eq_true z⟩
    have gO : g ∈ O := (mO g).mpr ⟨gC, List.mem_map_of_mem (f := (·.2)) mc⟩
    rcases first_out (fun x hx => ((mO x).mp hx).1) gO (con g gC e eC) with ⟨_, z⟩ | ⟨v, o, w, vO, ad, oC, noO⟩
    · exact absurd ((mO e).mp z).2 ne
    have no : o ∉ G.map (·.2) := fun z => noO ((mO o).mpr ⟨oC, z⟩)
    have w' : Wk D O o g := (Wk.step .base (adj_symm ad) vO).trans (w.symm gO)
    obtain ⟨p, _, R⟩ := grow_step hF plG (fun x hx => ((mO x).mp hx).2) mc lc no w'
    have nd := plG.nodup
    have ro := rng o oC
    have keep : ∀ x, x ∈ G.map (·.2) → x ∈ (mvd G c o).map (·.2) := fun x hx => by
      obtain ⟨y, hy, e⟩ := List.mem_map.mp hx
      by_cases q : y.1 = c
      · obtain ⟨x0, h0, n0, e0⟩ := another nd c lc
        have : y = (c, g) := key_uniq nd hy mc q
        rw [this] at e
        exact List.mem_map.mpr ⟨x0, mvd_other h0 n0, e0.trans e⟩
      · exact List.mem_map.mpr ⟨y, mvd_other hy q, e⟩
    have new : o ∈ (mvd G c o).map (·.2) := List.mem_map_of_mem (f := (·.2)) (mvd_self mc)
    obtain ⟨G', h1, h2, h3, h4⟩ := ih (mvd G c o) (by
      have : (C.countP fun r => decide (r ∉ (mvd G c o).map (·.2))) < C.countP fun r => decide (r ∉ G.map (·.2)) :=
        countP_lt (x := o) (fun y _ hy => decide_eq_true fun z => of_decide_eq_true hy (keep y z)) oC (decide_eq_true no) (decide_eq_false fun z => z new)
      omega) (plG.mvd ro.1 ro.2) (mt.symm.step nd mc gC oC).symm (by rw [mvd_inside nd mc gC oC]; exact lo)
    exact ⟨G', h1, h2, h3, h4.trans ⟨_, R⟩⟩
/-- a loose region reaches every target inside it -/
theorem loose_rch (hF : Forest n D) (pl : Pl n P) (plG : Pl n G) (cl : Cl D P C) (mt : Mt P G C) (lo : C.length < (inside P C).length) : Rch n D P G := by
  obtain ⟨G', h1, h2, h3, h4⟩ := grow_runs hF cl.up cl.con (cl.rng pl) pl _ G (Nat.le_refl _) plG mt (Nat.lt_of_lt_of_le lo (mt.len pl.nodup))
  exact (arr_runs hF h1 h3 _ P (Nat.le_refl _) pl cl h2 lo).trans h4
end
end Fw
set_option maxHeartbeats 2000000
namespace Fw
open PySem PySem.Spec PyProof.Rows L2
/-! regions one after another; solvable pieces can be solved (math) -/
/-- the same people in these rooms -/
def Agr (P P' : List (Str × Int)) (C : List Int) : Prop := ∀ nm c, c ∈ C → ((nm, c) ∈ P ↔ (nm, c) ∈ P')
/-- the people of these rooms can be brought to their targets, whatever the others do -/
def Can (n : Int) (D : List (Int × Int)) (P G : List (Str × Int)) (C : List Int) : Prop :=
  ∀ P', Pl n P' → P'.map (·.1) = P.map (·.1) → Agr P P' C → Cl D P' C → Rch n D P' (brt P' G C)
theorem g_of {P G : List (Str × Int)} (e : P.map (·.1) = G.map (·.1)) {nm : Str} {c : Int} (m : (nm, c) ∈ P) : ∃ t, (nm, t) ∈ G := by
  have : nm ∈ G.map (·.1) := by rw [← e]; exact List.mem_map_of_mem (f := (·.1)) m
  obtain ⟨y, hy, e⟩ := List.mem_map.mp this
  exact ⟨y.2, by rw [← e]; exact hy⟩
section
variable {n : Int} {D : List (Int × Int)} {P P' G : List (Str × Int)} {C L : List Int}
theorem Can.agr (h : Can n D P G C) (e : P'.map (·.1) = P.map (·.1)) (a : Agr P P' C) : Can n D P' G C := fun Q pl nm ag cl => h Q pl (nm.trans e) (fun x c hc => (a x c hc).trans (ag x c hc)) cl
theorem brt_keep {nm : Str} {c : Int} (m : (nm, c) ∈ P) (no : c ∉ L) : (nm, c) ∈ brt P G L := List.mem_map.mpr ⟨(nm, c), m, by simp [no]⟩
theorem brt_mem {nm : Str} {c : Int} (m : (nm, c) ∈ brt P G L) : ∃ c0, (nm, c0) ∈ P ∧ ((c0 ∈ L ∧ c = tgt G nm) ∨ (c0 ∉ L ∧ c = c0)) := by
  obtain ⟨x, hx, e⟩ := List.mem_map.mp m
  have e1 : x.1 = nm := congrArg Prod.fst e
  have e2 : (if x.2 ∈ L then tgt G x.1 else x.2) = c := congrArg Prod.snd e
  refine ⟨x.2, by rw [← e1]; exact hx, ?_⟩
  by_cases z : x.2 ∈ L
  · rw [if_pos z, e1] at e2
    exact .inl ⟨z, e2.symm⟩
  · rw [if_neg z] at e2
    exact .inr ⟨z, e2.symm⟩
theorem brt_pl (pl : Pl n P) (plG : Pl n G) (e : P.map (·.1) = G.map (·.1)) : Pl n (brt P G L) := by
  refine ⟨by rw [brt_names]; exact pl.nm, fun x hx => ?_⟩
  obtain ⟨c0, m, z⟩ := brt_mem (nm := x.1) (c := x.2) hx
  rcases z with ⟨_, z⟩ | ⟨_, z⟩
  · obtain ⟨t, ht⟩ := g_of e m
    rw [z, tgt_of plG.nodup ht]
    exact plG.rm _ ht
  · rw [z]
    exact pl.rm _ m
theorem loose_can (hF : Forest n D) (pl : Pl n P) (plG : Pl n G) (e : P.map (·.1) = G.map (·.1)) (lo : C.length < (inside P C).length) (tg : ∀ nm c t, (nm, c) ∈ P → c ∈ C → (nm, t) ∈ G → t ∈ C) : Can n D P G C := by
  intro P' pl' nm' ag cl
  have e' := nm'.trans e
  have one : ∀ {nm : Str} {c t : Int}, (nm, c) ∈ P' → (nm, t) ∈ brt P' G C → (c ∈ C ∧ t = tgt G nm) ∨ (c ∉ C ∧ t = c) := fun {nm c t} h k => by
    obtain ⟨c0, m, z⟩ := brt_mem k
    have : c0 = c := congrArg Prod.snd (key_uniq pl'.nodup m h rfl)
    rw [this] at z
    exact z
  refine loose_rch hF pl' (brt_pl pl' plG e') cl ⟨(brt_names _ _ _).symm, fun nm c t h k => ?_, fun nm c t h k no => ?_⟩ (Nat.lt_of_lt_of_le lo (subset_len (ins_nodup pl.nodup) fun a ha => ?_))
  · rcases one h k with ⟨z1, z2⟩ | ⟨z1, z2⟩
    · obtain ⟨u, hu⟩ := g_of e' h
      rw [tgt_of plG.nodup hu] at z2
      rw [z2]
      exact ⟨fun _ => tg nm c u ((ag nm c z1).mpr h) z1 hu, fun _ => z1⟩
    · rw [z2]
  · rcases one h k with ⟨z1, z2⟩ | ⟨z1, z2⟩
    · exact absurd z1 no
    · exact z2
  · obtain ⟨r, h1, h2⟩ := mem_insC.mp ha
    exact mem_insC.mpr ⟨r, (ag a r h2).mp h1, h2⟩
theorem brt_nil (P G : List (Str × Int)) : brt P G [] = P := by
  unfold brt
  refine (List.map_congr_left fun x _ => ?_).trans (List.map_id P)
  show (x.1, if x.2 ∈ ([] : List Int) then tgt G x.1 else x.2) = x
  rw [if_neg List.not_mem_nil]
/-- one region after another -/
theorem comb_rch (plG : Pl n G) : ∀ {Ls : List (List Int)} {P : List (Str × Int)}, Ls.Pairwise (fun a b => ∀ x ∈ a, x ∉ b) → Pl n P → P.map (·.1) = G.map (·.1) → (∀ L ∈ Ls, Cl D P L) → (∀ L ∈ Ls, ∀ nm c t, (nm, c) ∈ P → c ∈ L → (nm, t) ∈ G → t ∈ L) → (∀ L ∈ Ls, Can n D P G L) → Rch n D P (brt P G Ls.flatten)
  | [], P, _, _, _, _, _, _ => by
    rw [List.flatten_nil, brt_nil]
    exact Rch.refl P
  | L :: Ls, P, ap, pl, e, cl, tg, cn => by
    obtain ⟨ap1, ap2⟩ := List.pairwise_cons.mp ap
    have hL := List.mem_cons_self (a := L) (l := Ls)
    have up : ∀ {M : List Int}, M ∈ Ls → M ∈ L :: Ls := List.mem_cons_of_mem _
    have st := cn L hL P pl rfl (fun _ _ _ => Iff.rfl) (cl L hL)
    have gt : ∀ {nm : Str} {c : Int}, (nm, c) ∈ P → c ∈ L → tgt G nm ∈ L := fun {nm c} h hc => by
      obtain ⟨t, ht⟩ := g_of e h
      rw [tgt_of plG.nodup ht]
      exact tg L hL nm c t h hc ht
    have back : ∀ {nm : Str} {c : Int}, (nm, c) ∈ brt P G L → c ∉ L → (nm, c) ∈ P := fun {nm c} h no => by
      obtain ⟨c0, m, z⟩ := brt_mem h
      rcases z with ⟨z1, z2⟩ | ⟨_, z2⟩
      · exact absurd (z2 ▸ gt m z1) no
      · rw [z2]; exact m
    have pl1 : Pl n (brt P G L) := brt_pl pl plG e
    have e1 : (brt P G L).map (·.1) = G.map (·.1) := (brt_names _ _ _).trans e
    have r1 : ∀ r, r ∈ (brt P G L).map (·.2) → r ∈ P.map (·.2) := fun r hr => by
      obtain ⟨x, hx, rfl⟩ := List.mem_map.mp hr
      obtain ⟨c0, m, z⟩ := brt_mem (nm := x.1) (c := x.2) hx
      rcases z with ⟨z1, z2⟩ | ⟨_, z2⟩
      · rw [z2]; exact (cl L hL).occ _ (gt m z1)
      · rw [z2]; exact List.mem_map_of_mem (f := (·.2)) m
    have no : ∀ {M : List Int}, M ∈ Ls → ∀ {c : Int}, c ∈ M → c ∉ L := fun hM _ hc z => ap1 _ hM _ z hc
    have rest := comb_rch (P := brt P G L) plG ap2 pl1 e1
      (fun M hM => by
        have k := cl M (up hM)
        refine ⟨k.up, fun r hr => ?_, k.con, fun v hv o ad mo => k.cl v hv o ad (r1 o mo)⟩
        obtain ⟨x, hx, rfl⟩ := List.mem_map.mp (k.occ r hr)
        exact List.mem_map.mpr ⟨(x.1, x.2), brt_keep hx (no hM hr), rfl⟩)
      (fun M hM nm c t h hc ht => tg M (up hM) nm c t (back h (no hM hc)) hc ht)
      (fun M hM => (cn M (up hM)).agr (brt_names _ _ _) fun nm c hc => ⟨fun h => brt_keep h (no hM hc), fun h => back h (no hM hc)⟩)
    have eq : brt (brt P G L) G Ls.flatten = brt P G (L :: Ls).flatten := by
      unfold brt
      rw [List.map_map]
      refine List.map_congr_left fun x hx => ?_
      show (x.1, if (if x.2 ∈ L then tgt G x.1 else x.2) ∈ Ls.flatten then tgt G x.1 else if x.2 ∈ L then tgt G x.1 else x.2) = (x.1, if x.2 ∈ (L :: Ls).flatten then tgt G x.1 else x.2)
      rw [List.flatten_cons]
      by_cases z : x.2 ∈ L
      · rw [if_pos z, if_pos (List.mem_append_left _ z)]
        split <;> rfl
      · rw [if_neg z]
        by_cases q : x.2 ∈ Ls.flatten
        · rw [if_pos q, if_pos (List.mem_append_right _ q)]
        · rw [if_neg q, if_neg fun h => (List.mem_append.mp h).elim z q]
    rw [← eq]
    exact st.trans rest
theorem Regs.apart {R : List Int} {Ls : List (List Int)} (h : Regs D R Ls) : Ls.Pairwise (fun a b => ∀ x ∈ a, x ∉ b) := by
  refine h.up.imp_of_mem fun {a b} ha hb lt x hx hy => ?_
  have := h.one ha hb hx hy
  rw [this, lex_irr] at lt
  cases lt
/-- a solvable piece can be solved -/
theorem sol_can (hF : Forest n D) (pl : Pl n P) (plG : Pl n G) (e : P.map (·.1) = G.map (·.1)) (so : Sol D P G C) : Pce D P G C → Can n D P G C := by
  induction so with
  | @still C st =>
    intro pc P' pl' nm' ag cl
    have : brt P' G C = P' := by
      unfold brt
      refine (List.map_congr_left fun x hx => ?_).trans (List.map_id P')
      show (x.1, if x.2 ∈ C then tgt G x.1 else x.2) = x
      by_cases z : x.2 ∈ C
      · obtain ⟨t, ht⟩ := g_of (nm'.trans e) (show (x.1, x.2) ∈ P' from hx)
        rw [if_pos z, tgt_of plG.nodup ht, st x.1 x.2 t ((ag _ _ z).mpr hx) z ht]
      · rw [if_neg z]
    rw [this]
    exact Rch.refl P'
  | @leave C r fr _ ih =>
    intro pc P' pl' nm' ag cl
    have sub : ∀ x ∈ P.map (·.1), x ∈ G.map (·.1) := fun x hx => by rw [← e]; exact hx
    obtain ⟨nm, t, a, q, m, mt, sp, aC⟩ := pc.ahead sub fr
    have rC := (fre_mem fr).1
    obtain ⟨nm0, m0, un⟩ := pc.who r rC
    obtain rfl := un nm m
    have m' : (nm, r) ∈ P' := (ag nm r rC).mp m
    have ar : a ≠ r := fun z => by
      have := sp.nodup
      rw [z, List.nodup_cons] at this
      exact this.1 List.mem_cons_self
    have ad : adj D r a := by
      cases sp with
      | cons h k _ =>
        obtain ⟨q', e'⟩ := k.hd
        injection e' with e1 _
        rw [e1]
        exact h
    have aP := cl.occ a aC
    have ra := cl.rng pl' a aC
    have pl1 : Pl n (mvd P' nm a) := pl'.mvd ra.1 ra.2
    have e1 : (mvd P' nm a).map (·.1) = G.map (·.1) := by rw [mvd_names]; exact nm'.trans e
    have first : Rch n D P' (mvd P' nm a) := ⟨_, .cons m' (hF.mem_nb.mpr ad) aP (.nil _)⟩
    obtain ⟨Ls, rg⟩ := regs_exA D (cut_up (r := r) pc.up)
    -- nobody is left in r
    have emp : ∀ {nm' : Str} {c : Int}, (nm', c) ∈ mvd P' nm a → c ≠ r := fun {nm' c} h z => by
      obtain ⟨x, hx, ex, y⟩ := mvd_mem h
      rcases y with ⟨_, y⟩ | ⟨y1, y2⟩
      · exact ar ((show c = a from y).symm.trans z)
      · rw [← y2, z] at hx
        exact y1 ((congrArg Prod.fst y2).symm.trans (un nm' ((ag nm' r rC).mpr hx)))
    have old : ∀ {nm' : Str} {c : Int}, (nm', c) ∈ mvd P' nm a → (nm' = nm ∧ c = a) ∨ (nm' ≠ nm ∧ (nm', c) ∈ P') := fun {nm' c} h => by
      obtain ⟨x, hx, ex, y⟩ := mvd_mem h
      have ex : nm' = x.1 := ex
      rcases y with ⟨y1, y2⟩ | ⟨y1, y2⟩
      · exact .inl ⟨ex.trans y1, y2⟩
      · exact .inr ⟨fun z => y1 (ex.symm.trans z), by rw [y2]; exact hx⟩
    have new : ∀ {nm' : Str} {c : Int}, (nm', c) ∈ P' → c ≠ r → (nm', c) ∈ mvd P' nm a := fun {nm' c} h z => mvd_other h fun y => z (congrArg Prod.snd (key_uniq pl'.nodup h m' y))
    have comp : ∀ L ∈ Ls, ∃ s ∈ cut C r, IsC D (cut C r) s L := fun L hL => (rg.mem L).mp hL
    have inC : ∀ L ∈ Ls, ∀ v ∈ L, v ∈ C ∧ v ≠ r := fun L hL v hv => by
      obtain ⟨s, hs, ic⟩ := comp L hL
      exact mem_cut.mp (ic.sub' hs hv)
    have pcL : ∀ L ∈ Ls, Pce D P G L := fun L hL => by
      obtain ⟨s, hs, ic⟩ := comp L hL
      exact pc.cut fr hs ic
    have clL : ∀ L ∈ Ls, Cl D (mvd P' nm a) L := fun L hL => by
      obtain ⟨s, hs, ic⟩ := comp L hL
      refine ⟨ic.up, fun v hv => ?_, (pcL L hL).con, fun v hv o ad' mo => ?_⟩
      · obtain ⟨x, hx, rfl⟩ := List.mem_map.mp (cl.occ v (inC L hL v hv).1)
        exact List.mem_map.mpr ⟨(x.1, x.2), new hx (inC L hL _ hv).2, rfl⟩
      · have oC := cl.cl v (inC L hL v hv).1 o ad' (mvd_rooms aP mo)
        obtain ⟨x, hx, rfl⟩ := List.mem_map.mp mo
        have ne := emp (nm' := x.1) (c := x.2) hx
        exact (ic.mem _).mpr (.step ((ic.mem v).mp hv) ad' (mem_cut.mpr ⟨oC, ne⟩))
    have way : Wk D (cut C r) a t := by
      obtain ⟨p', hp', ins⟩ := (pc.con r rC t (pc.tgt nm r t m rC mt)).within
      rw [hF.uniq _ _ _ _ hp' sp] at ins
      have off := sp.off
      have tl : SP (adj D) a t (a :: q) := by
        cases sp with
        | cons h k _ =>
          obtain ⟨q', e'⟩ := k.hd
          injection e' with e1 e2
          subst e1
          exact k
      refine tl.walks fun x hx => mem_cut.mpr ⟨?_, fun z => off (z ▸ List.mem_cons_of_mem _ hx)⟩
      rcases ins x (List.mem_cons_of_mem _ (List.mem_cons_of_mem _ hx)) with z | z
      · rw [z]; exact rC
      · exact z
    have tgL : ∀ L ∈ Ls, ∀ nm' c t', (nm', c) ∈ mvd P' nm a → c ∈ L → (nm', t') ∈ G → t' ∈ L := fun L hL nm' c t' h hc ht => by
      obtain ⟨s, hs, ic⟩ := comp L hL
      rcases old h with ⟨z1, z2⟩ | ⟨_, z⟩
      · rw [z1] at ht
        have : t' = t := congrArg Prod.snd (key_uniq plG.nodup ht mt rfl)
        rw [this]
        rw [z2] at hc
        exact (ic.closed hc way).2
      · exact (pcL L hL).tgt nm' c t' ((ag nm' c (inC L hL c hc).1).mpr z) hc ht
    have cn : ∀ L ∈ Ls, Can n D (mvd P' nm a) G L := fun L hL => by
      obtain ⟨s, hs, ic⟩ := comp L hL
      by_cases aL : a ∈ L
      · refine loose_can hF pl1 plG e1 ?_ (tgL L hL)
        have h1 := inside_ge (P := P) (up_nodup ic.up) fun v hv => by
          obtain ⟨x, hx, _⟩ := (pcL L hL).who v hv
          exact List.mem_map_of_mem (f := (·.2)) hx
        have h2 : (nm :: inside P L).Nodup := by
          refine List.nodup_cons.mpr ⟨fun z => ?_, ins_nodup pl.nodup⟩
          obtain ⟨c, k1, k2⟩ := mem_insC.mp z
          have : c = r := congrArg Prod.snd (key_uniq pl.nodup k1 m rfl)
          exact (inC L hL c k2).2 this
        have h3 := subset_len h2 (ys := inside (mvd P' nm a) L) fun x hx => by
          rcases List.mem_cons.mp hx with z | z
          · rw [z]
            exact mem_insC.mpr ⟨a, mvd_self m', aL⟩
          · obtain ⟨c, k1, k2⟩ := mem_insC.mp z
            obtain ⟨k3, k4⟩ := inC L hL c k2
            exact mem_insC.mpr ⟨c, new ((ag x c k3).mp k1) k4, k2⟩
        rw [List.length_cons] at h3
        omega
      · refine (ih s hs L ic (fun a' ha' z => ?_) (pcL L hL)).agr (by rw [mvd_names]; exact nm') fun nm' c hc => ?_
        · rw [pc.ahd_one hF plG.nodup rC ha' ⟨nm, t, q, m, mt, sp⟩] at z
          exact aL z
        · obtain ⟨k3, k4⟩ := inC L hL c hc
          refine ⟨fun h => new ((ag nm' c k3).mp h) k4, fun h => ?_⟩
          rcases old h with ⟨_, z2⟩ | ⟨_, z⟩
          · exact absurd (z2 ▸ hc) aL
          · exact (ag nm' c k3).mpr z
    have all := comb_rch plG rg.apart pl1 e1 clL tgL cn
    have eq : brt (mvd P' nm a) G Ls.flatten = brt P' G C := by
      unfold brt mvd
      rw [List.map_map]
      refine List.map_congr_left fun x hx => ?_
      have fm := rg.flat_mem (cut_up pc.up)
      show (x.1, if (if x.1 = nm then a else x.2) ∈ Ls.flatten then tgt G x.1 else if x.1 = nm then a else x.2) = (x.1, if x.2 ∈ C then tgt G x.1 else x.2)
      by_cases z : x.1 = nm
      · have : x = (nm, r) := key_uniq pl'.nodup hx m' z
        rw [if_pos z, if_pos ((fm a).mpr (mem_cut.mpr ⟨aC, ar⟩)), this, if_pos rC]
      · rw [if_neg z]
        have xr : x.2 ≠ r := fun y => z (un x.1 ((ag x.1 r rC).mpr (y ▸ hx)))
        by_cases q : x.2 ∈ C
        · rw [if_pos q, if_pos ((fm _).mpr (mem_cut.mpr ⟨q, xr⟩))]
        · rw [if_neg q, if_neg fun h => q (mem_cut.mp ((fm _).mp h)).1]
    rw [← eq]
    exact first.trans all
/-- the regions are closed -/
theorem Cl.region (pl : Pl n P) {Ls : List (List Int)} (rg : Regs D (Fw.occ n P) Ls) (hC : C ∈ Ls) : Cl D P C := by
  obtain ⟨s, hs, ic⟩ := (rg.mem C).mp hC
  refine ⟨ic.up, fun r hr => pl.mem_occ.mp (ic.sub' hs hr), fun a ha b hb => (ic.closed ha ((((ic.mem a).mp ha).symm hs).trans ((ic.mem b).mp hb))).1, fun v hv o ad mo => (ic.mem o).mpr (.step ((ic.mem v).mp hv) ad (pl.mem_occ.mpr mo))⟩
/-- where nobody is outside and every tight region is solvable the target is reached -/
theorem all_rch (hF : Forest n D) (pl : Pl n P) (plG : Pl n G) (e : P.map (·.1) = G.map (·.1)) {Ls : List (List Int)} (rg : Regs D (occ n P) Ls) (out : ∀ nm c t, (nm, c) ∈ P → (nm, t) ∈ G → Wk D (occ n P) c t) (so : ∀ C ∈ Ls, (inside P C).length = C.length → Sol D P G C) : Rch n D P G := by
  have sub : ∀ x ∈ P.map (·.1), x ∈ G.map (·.1) := fun x hx => by rw [← e]; exact hx
  have tg : ∀ L ∈ Ls, ∀ nm c t, (nm, c) ∈ P → c ∈ L → (nm, t) ∈ G → t ∈ L := fun L hL nm c t h hc ht => by
    obtain ⟨s, hs, ic⟩ := (rg.mem L).mp hL
    exact (ic.mem t).mpr (((ic.mem c).mp hc).trans (out nm c t h ht))
  have all := comb_rch plG rg.apart pl e (fun L hL => Cl.region pl rg hL) tg fun L hL => by
    by_cases ti : (inside P L).length = L.length
    · exact sol_can hF pl plG e (so L hL ti) (Pce.region pl plG.nodup sub rg hL ti (tg L hL))
    · refine loose_can hF pl plG e ?_ (tg L hL)
      have := inside_ge (P := P) (up_nodup (Cl.region pl rg hL).up) (Cl.region pl rg hL).occ
      omega
  have eq : brt P G Ls.flatten = G := pl_eq ((brt_names _ _ _).trans e) plG.nodup fun x hx => by
    obtain ⟨c0, m, z⟩ := brt_mem (nm := x.1) (c := x.2) hx
    have oc : c0 ∈ Ls.flatten := (rg.flat_mem (occ_up n P) c0).mpr (pl.mem_occ.mpr (List.mem_map_of_mem (f := (·.2)) m))
    rcases z with ⟨_, z⟩ | ⟨z, _⟩
    · obtain ⟨t, ht⟩ := g_of e m
      rw [tgt_of plG.nodup ht] at z
      have : x = (x.1, t) := by rw [← z]
      rw [this]
      exact ht
    · exact absurd oc z
  rw [eq] at all
  exact all
end
end Fw
set_option maxHeartbeats 2000000
namespace Fw
open PySem PySem.Spec PyProof.Rows L2
/-! what reaches the target: nobody was outside, tight regions were solvable (math) -/
section
variable {n : Int} {D : List (Int × Int)} {P P' G : List (Str × Int)} {C L : List Int}
theorem Agr.symm (h : Agr P P' C) : Agr P' P C := fun x c hc => (h x c hc).symm
theorem Sol.agr (so : Sol D P G C) : ∀ {P'}, Agr P P' C → Sol D P' G C := by
  induction so with
  | still st => exact fun ag => .still fun nm c t h hc ht => st nm c t ((ag nm c hc).mpr h) hc ht
  | @leave C r fr _ ih =>
    intro P' ag
    obtain ⟨rC, fr⟩ := fre_mem fr
    refine .leave (mem_fre rC fun nm c t h hc ht => fr nm c t ((ag nm c hc).mpr h) hc ht) fun s hs L ic no => ih s hs L ic (fun a ⟨nm, t, q, h1, h2, h3⟩ => no a ⟨nm, t, q, (ag nm r rC).mp h1, h2, h3⟩) fun nm c hc => ag nm c (mem_cut.mp (ic.sub' hs hc)).1
theorem Runs.names {X : List (Str × Int)} (h : Runs n D P X G) : P.map (·.1) = G.map (·.1) := by
  induction h with
  | nil => rfl
  | cons _ _ _ _ ih => rw [← ih, mvd_names]
/-- nobody was outside -/
theorem Runs.out {X : List (Str × Int)} (h : Runs n D P X G) (hF : Forest n D) : (P.map (·.1)).Nodup → ∀ nm c t, (nm, c) ∈ P → (nm, t) ∈ G → Wk D (P.map (·.2)) c t := by
  induction h with
  | nil P =>
    intro nd nm c t h k
    have : c = t := congrArg Prod.snd (key_uniq nd h k rfl)
    rw [this]
    exact .base
  | @cons P X Q nm c r m a o k ih =>
    intro nd nm' c' t h ht
    have ih := ih (by rw [mvd_names]; exact nd)
    by_cases z : nm' = nm
    · subst z
      have : c' = c := congrArg Prod.snd (key_uniq nd h m rfl)
      rw [this]
      exact (Wk.step .base (hF.mem_nb.mp a) o).trans ((ih nm' r t (mvd_self m) ht).mono fun x hx => mvd_rooms o hx)
    · exact (ih nm' c' t (mvd_other h z) ht).mono fun x hx => mvd_rooms o hx
/-- tight regions were solvable -/
theorem Runs.sol {X : List (Str × Int)} (h : Runs n D P X G) (hF : Forest n D) : (P.map (·.1)).Nodup → ∀ C : List Int, C.Pairwise (· < ·) → (∀ v ∈ C, ∀ o, adj D v o → o ∈ P.map (·.2) → o ∈ C) → (∀ r ∈ C, ∃ nm, (nm, r) ∈ P ∧ ∀ nm', (nm', r) ∈ P → nm' = nm) → Sol D P G C := by
  induction h with
  | nil P =>
    intro nd C _ _ _
    exact .still fun nm c t h _ k => (congrArg Prod.snd (key_uniq nd h k rfl)).symm
  | @cons P X Q nm c r m a o k ih =>
    intro nd C up cl who
    have nd1 : ((mvd P nm r).map (·.1)).Nodup := by rw [mvd_names]; exact nd
    have ih := ih nd1
    have ad := hF.mem_nb.mp a
    have cP : c ∈ P.map (·.2) := List.mem_map_of_mem (f := (·.2)) m
    have old : ∀ {nm' : Str} {v : Int}, (nm', v) ∈ mvd P nm r → (nm' = nm ∧ v = r) ∨ (nm' ≠ nm ∧ (nm', v) ∈ P) := fun {nm' v} h => by
      obtain ⟨x, hx, ex, y⟩ := mvd_mem h
      have ex : nm' = x.1 := ex
      rcases y with ⟨y1, y2⟩ | ⟨y1, y2⟩
      · exact .inl ⟨ex.trans y1, y2⟩
      · exact .inr ⟨fun z => y1 (ex.symm.trans z), by rw [y2]; exact hx⟩
    have new : ∀ {nm' : Str} {v : Int}, (nm', v) ∈ P → v ≠ c → (nm', v) ∈ mvd P nm r := fun {nm' v} h z => mvd_other h fun y => z (congrArg Prod.snd (key_uniq nd h m y))
    -- rooms that neither end is in
    have keep : ∀ L : List Int, c ∉ L → r ∉ L → Agr (mvd P nm r) P L := fun L h1 h2 nm' v hv => by
      refine ⟨fun h => ?_, fun h => new h fun z => h1 (z ▸ hv)⟩
      rcases old h with ⟨_, z⟩ | ⟨_, z⟩
      · exact absurd (z ▸ hv) h2
      · exact z
    have whoL : ∀ L : List Int, c ∉ L → r ∉ L → (∀ v ∈ L, v ∈ C) → ∀ v ∈ L, ∃ nm', (nm', v) ∈ mvd P nm r ∧ ∀ nm'', (nm'', v) ∈ mvd P nm r → nm'' = nm' := fun L h1 h2 sub v hv => by
      obtain ⟨nm', w1, w2⟩ := who v (sub v hv)
      exact ⟨nm', (keep L h1 h2 nm' v hv).mpr w1, fun nm'' h => w2 nm'' ((keep L h1 h2 nm'' v hv).mp h)⟩
    by_cases cC : c ∈ C
    · have rC : r ∈ C := cl c cC r ad o
      obtain ⟨nm0, m0, un⟩ := who c cC
      obtain rfl := un nm m
      have rc : r ≠ c := fun e => ad.elim (fun h => by have := hF.ends h; omega) fun h => by have := hF.ends h; omega
      have gone : c ∉ (mvd P nm r).map (·.2) := fun h => by
        obtain ⟨x, hx, ex⟩ := List.mem_map.mp h
        rcases old (nm' := x.1) (v := x.2) hx with ⟨_, z⟩ | ⟨z1, z2⟩
        · exact rc (z.symm.trans ex)
        · rw [ex] at z2
          exact z1 (un x.1 z2)
      have out1 := k.out hF nd1
      have off : ∀ {nm' : Str} {v t : Int}, (nm', v) ∈ mvd P nm r → (nm', t) ∈ Q → ∃ p, SP (adj D) v t p ∧ c ∉ p := fun {nm' v t} h ht => by
        obtain ⟨p, hp, ins⟩ := (out1 nm' v t h ht).within
        refine ⟨p, hp, fun z => ?_⟩
        rcases ins c z with e | e
        · exact gone (e ▸ List.mem_map_of_mem (f := (·.2)) h)
        · exact gone e
      refine .leave (r := c) (mem_fre cC fun nm' v t h hv ht => ?_) fun s hs L ic no => ?_
      · by_cases z : nm' = nm
        · subst z
          have : v = c := congrArg Prod.snd (key_uniq nd h m rfl)
          obtain ⟨p, hp, np⟩ := off (mvd_self m) ht
          exact ⟨fun e => np (e ▸ hp.last), fun ⟨_, _, _, q, _⟩ => q this.symm⟩
        · obtain ⟨p, hp, np⟩ := off (mvd_other h z) ht
          refine ⟨fun e => np (e ▸ hp.last), fun ⟨p', hp', q, _⟩ => ?_⟩
          rw [hF.uniq _ _ _ _ hp' hp] at q
          exact np q
      · have sub : ∀ v ∈ L, v ∈ C ∧ v ≠ c := fun v hv => mem_cut.mp (ic.sub' hs hv)
        have cL : c ∉ L := fun z => (sub c z).2 rfl
        have rL : r ∉ L := by
          obtain ⟨t, ht⟩ := g_of (P := P) (G := Q) ((mvd_names P nm r).symm.trans k.names) m
          obtain ⟨p, hp, np⟩ := off (mvd_self m) ht
          obtain ⟨q, rfl⟩ := hp.hd
          exact no r ⟨nm, t, q, m, ht, .cons ad hp np⟩
        refine (ih L ic.up (fun v hv x ad' mx => ?_) (whoL L cL rL fun v hv => (sub v hv).1)).agr (keep L cL rL)
        have xC := cl v (sub v hv).1 x ad' (mvd_rooms o mx)
        exact (ic.mem x).mpr (.step ((ic.mem v).mp hv) ad' (mem_cut.mpr ⟨xC, fun e => gone (e ▸ mx)⟩))
    · have rC : r ∉ C := fun z => cC (cl r z c (adj_symm ad) cP)
      exact (ih C up (fun v hv x ad' mx => cl v hv x ad' (mvd_rooms o mx)) (whoL C cC rC fun v hv => hv)).agr (keep C cC rC)
/-- the target is reached exactly where nobody is outside and every tight region is solvable -/
theorem rch_iff (hF : Forest n D) (pl : Pl n P) (plG : Pl n G) (e : P.map (·.1) = G.map (·.1)) {Ls : List (List Int)} (rg : Regs D (occ n P) Ls) : Rch n D P G ↔ (∀ nm c t, (nm, c) ∈ P → (nm, t) ∈ G → Wk D (occ n P) c t) ∧ ∀ C ∈ Ls, (inside P C).length = C.length → Sol D P G C := by
  refine ⟨fun ⟨X, h⟩ => ⟨fun nm c t h1 h2 => (Wk.congr fun x => pl.mem_occ).mpr (h.out hF pl.nodup nm c t h1 h2), fun C hC ti => ?_⟩, fun ⟨h1, h2⟩ => all_rch hF pl plG e rg h1 h2⟩
  have cl := Cl.region pl rg hC
  refine h.sol hF pl.nodup C cl.up cl.cl fun r hr => ?_
  obtain ⟨x, hx, rfl⟩ := List.mem_map.mp (cl.occ r hr)
  exact ⟨x.1, hx, fun nm' m => tight_one (up_nodup cl.up) cl.occ ti hr m hx⟩
end
end Fw
set_option maxHeartbeats 2000000
namespace Fw
open PySem PySem.Spec PyProof.Rows L2
/-! reached by moves, in two ways; the whole of a full house (math) -/
section
variable {n : Int} {D : List (Int × Int)} {P G : List (Str × Int)}
theorem Rb.rch {k : Nat} {Q : List (Str × Int)} (hF : Forest n D) (h : Rb n D k P Q) : Rch n D P Q := by
  induction h with
  | zero => exact Rch.refl _
  | @step k P Q a r _ m ih =>
    obtain ⟨c, h1, h2, h3⟩ := mvs_mem m
    exact ih.trans ⟨_, .cons h1 h2 h3 (.nil _)⟩
theorem Rb.first {k : Nat} {a : Str} {r : Int} {Q : List (Str × Int)} (m : (a, r) ∈ mvs n D P P) (h : Rb n D k (mvd P a r) Q) : Rb n D (k + 1) P Q := by
  generalize e : mvd P a r = P1 at h
  induction h with
  | zero => rw [← e]; exact .step .zero m
  | step _ m' ih => exact .step (ih e) m'
theorem mem_mvs {P X : List (Str × Int)} {nm : Str} {c t : Int} (h : (nm, c) ∈ X) (h1 : t ∈ nb n D c) (h2 : t ∈ P.map (·.2)) : (nm, t) ∈ mvs n D P X :=
  List.mem_flatMap.mpr ⟨(nm, c), h, List.mem_map.mpr ⟨t, List.mem_filter.mpr ⟨h1, decide_eq_true h2⟩, rfl⟩⟩
theorem Runs.rb {X Q : List (Str × Int)} (h : Runs n D P X Q) : ∃ k, Rb n D k P Q := by
  induction h with
  | nil => exact ⟨0, .zero⟩
  | cons m a o _ ih =>
    obtain ⟨k, hk⟩ := ih
    exact ⟨k + 1, Rb.first (mem_mvs m a o) hk⟩
theorem rch_rb (hF : Forest n D) {Q : List (Str × Int)} : Rch n D P Q ↔ ∃ k, Rb n D k P Q := ⟨fun ⟨_, h⟩ => h.rb, fun ⟨_, h⟩ => h.rch hF⟩
/-- a full house's target is reached exactly where the whole is solvable -/
theorem whole_rch (hF : Forest n D) (ed : D.length + 1 = n.toNat) (pm : (P.map (·.2)).Perm (rg n)) (pl : Pl n P) (plG : Pl n G) (e : P.map (·.1) = G.map (·.1)) : Rch n D P G ↔ Sol D P G (rg n) := by
  have pc := Pce.whole (G := G) hF ed pm pl plG
  have cl : Cl D P (rg n) := ⟨pc.up, fun r hr => pm.mem_iff.mpr hr, pc.con, fun _ _ o _ mo => pm.mem_iff.mp mo⟩
  constructor
  · rintro ⟨X, h⟩
    exact h.sol hF pl.nodup _ cl.up cl.cl pc.who
  · intro so
    have := sol_can hF pl plG e so pc P pl rfl (fun _ _ _ => Iff.rfl) cl
    have eq : brt P G (rg n) = G := pl_eq ((brt_names _ _ _).trans e) plG.nodup fun x hx => by
      obtain ⟨c0, m, z⟩ := brt_mem (nm := x.1) (c := x.2) hx
      rcases z with ⟨_, z⟩ | ⟨z, _⟩
      · obtain ⟨t, ht⟩ := g_of e m
        rw [tgt_of plG.nodup ht] at z
        have : x = (x.1, t) := by rw [← z]
        rw [this]
        exact ht
      · exact absurd (pm.mem_iff.mp (List.mem_map_of_mem (f := (·.2)) m)) z
    rw [eq] at this
    exact this
end
end Fw
namespace Fw
open PySem PySem.Spec PyProof.Rows L2
set_option maxHeartbeats 8000000
section
variable {P : Program} {w : World} {K : PySem.W.Frag} {mg : Str → Option Value} {base : Heap}
def spLaw (K : PySem.W.Frag) : Sp := fun vs H Q _ => ∃ (a : Addr) (ns : List Int), vs = [.ref a] ∧ SqL K H a (vi ns) ∧ ns.length ≤ 63 ∧ ∀ H', Q (.bl true) H'
abbrev nLaw : List Str := ["_law_script", "_law_stream_here", "_law_turn", "_law_house", "_law_placement", "_law_found", "_law_wishes", "_law_name", "_law_room", "_law_target"]
theorem scLaw : FnScope nLaw ["_law_script"] (defScope sLaw) := ⟨rfl, rfl, rfl, by decide +kernel, rfl, by decide +kernel, by decide +kernel⟩
/-- the defs of the text -/
structure All (K : PySem.W.Frag) (mg : Str → Option Value) : Prop where
  T : Nm mg
  any : mg "any" = none
  dneighbors : DefE K mg "neighbors" sNb ["house", "room"]
  dpath_between : DefE K mg "path_between" sPath ["house", "a", "b"]
  dcomponents : DefE K mg "components" sComp ["house", "rooms"]
  dsteps_toward : DefE K mg "steps_toward" sSteps ["house", "goal", "rooms"]
  droom_of : DefE K mg "room_of" sRoomOf ["placement", "name"]
  dpeople_in : DefE K mg "people_in" sPIn ["placement", "room"]
  dpeople_within : DefE K mg "people_within" sPWi ["placement", "rooms"]
  dpassed_rooms : DefE K mg "passed_rooms" sPassed ["house", "placement", "target", "name"]
  dpath_to_target : DefE K mg "path_to_target" sPTgt ["house", "placement", "target", "name"]
  dnext_toward_target : DefE K mg "next_toward_target" sNextT ["house", "placement", "target", "name"]
  dfree_rooms : DefE K mg "free_rooms" sFree ["house", "placement", "target", "region"]
  dis_solvable : DefE K mg "is_solvable" sSolv ["house", "placement", "target", "rooms"]
  dall_at_target : DefE K mg "all_at_target" sAllAt ["placement", "target", "rooms"]
  dis_solvable_without : DefE K mg "is_solvable_without" sSolvW ["house", "placement", "target", "rooms", "room"]
  droom_ahead : DefE K mg "room_ahead" sAhead ["house", "placement", "target", "room"]
  dcomponents_without : DefE K mg "components_without" sCWo ["house", "rooms", "room"]
  d_law_stream : DefE K mg "_law_stream" sStream ["_law_script"]
  d_law_draw : DefE K mg "_law_draw" sDraw ["_law_stream_here", "_law_many"]
  d_law_same : DefE K mg "_law_same" sSame ["_law_found", "_law_expected"]
  d_law_names : DefE K mg "_law_names" sNames ["_law_stream_here", "_law_many"]
  d_law_neighbors : DefE K mg "_law_neighbors" sLNb ["_law_house", "_law_room"]
  d_law_moved : DefE K mg "_law_moved" sLMoved ["_law_placement", "_law_name", "_law_room"]
  d_law_moves : DefE K mg "_law_moves" sLMoves ["_law_house", "_law_placement"]
  d_law_reachable : DefE K mg "_law_reachable" sLReach ["_law_house", "_law_placement"]
  d_law_random_walk : DefE K mg "_law_random_walk" sLWalk ["_law_stream_here", "_law_house", "_law_placement", "_law_many"]
  d_law_full_house : DefE K mg "_law_full_house" sLFull ["_law_stream_here", "_law_least", "_law_most"]
  d_law_near_target : DefE K mg "_law_near_target" sLNear ["_law_stream_here", "_law_house", "_law_placement"]
theorem ok_law {f : Addr} {fd : FuncData} (F : Fun K "law" "law" sLaw f fd) (Z : All K mg) : FnG P w K mg base 24 f fd ["_law_script"] (spLaw K) := by
  have T := Z.T
  have Ccomponents : Cal P w K mg base 3 "components" ["house", "rooms"] (spComp K) := Z.dcomponents.cal fun _ _ d => by
    obtain ⟨af2, bf2, f2⟩ := Z.dneighbors
    obtain ⟨af3, bf3, f3⟩ := Z.dsteps_toward
    exact ok_comp d.F T Z.any f2 f3
  have Croom_of : Cal P w K mg base 1 "room_of" ["placement", "name"] spRoomOf := Z.droom_of.cal fun _ _ d => ok_roomof d.F
  have Cpeople_within : Cal P w K mg base 1 "people_within" ["placement", "rooms"] (spPWi K) := Z.dpeople_within.cal fun _ _ d => ok_pwi d.F T
  have Cpeople_in : Cal P w K mg base 2 "people_in" ["placement", "room"] spPIn := Z.dpeople_in.cal fun _ _ d => ok_pin d.F T (Cpeople_within.up (by decide))
  have Cpath_between : Cal P w K mg base 3 "path_between" ["house", "a", "b"] spPath := Z.dpath_between.cal fun _ _ d => by
    obtain ⟨af2, bf2, f2⟩ := Z.dneighbors
    obtain ⟨af3, bf3, f3⟩ := Z.dsteps_toward
    exact ok_path d.F T f2 f3
  have Cpath_to_target : Cal P w K mg base 4 "path_to_target" ["house", "placement", "target", "name"] spPTgt := Z.dpath_to_target.cal fun _ _ d => ok_ptgt d.F (Cpath_between.up (by decide)) (Croom_of.up (by decide))
  have Cpassed_rooms : Cal P w K mg base 5 "passed_rooms" ["house", "placement", "target", "name"] spPassed := Z.dpassed_rooms.cal fun _ _ d => ok_passed d.F (Cpath_to_target.up (by decide))
  have Cfree_rooms : Cal P w K mg base 6 "free_rooms" ["house", "placement", "target", "region"] (spFree K) := Z.dfree_rooms.cal fun _ _ d => ok_free d.F T (Cpeople_within.up (by decide)) (Croom_of.up (by decide)) (Cpassed_rooms.up (by decide))
  have C_law_stream : Cal P w K mg base 1 "_law_stream" ["_law_script"] (spStream K) := Z.d_law_stream.cal fun _ _ d => ok_stream d.F T
  have C_law_draw : Cal P w K mg base 1 "_law_draw" ["_law_stream_here", "_law_many"] spDraw := Z.d_law_draw.cal fun _ _ d => ok_draw d.F T
  have C_law_same : Cal P w K mg base 2 "_law_same" _ (spSame 1) := cal_same Z.d_law_same T 1
  have C_law_moved : Cal P w K mg base 1 "_law_moved" ["_law_placement", "_law_name", "_law_room"] spLMoved := Z.d_law_moved.cal fun _ _ d => ok_lmoved d.F T
  have C_law_neighbors : Cal P w K mg base 1 "_law_neighbors" ["_law_house", "_law_room"] spLNb := Z.d_law_neighbors.cal fun _ _ d => ok_lnb d.F T
  have C_law_moves : Cal P w K mg base 2 "_law_moves" ["_law_house", "_law_placement"] spLMoves := Z.d_law_moves.cal fun _ _ d => ok_lmoves d.F T (C_law_neighbors.up (by decide))
  have C_law_random_walk : Cal P w K mg base 3 "_law_random_walk" ["_law_stream_here", "_law_house", "_law_placement", "_law_many"] spLWalk := Z.d_law_random_walk.cal fun _ _ d => ok_lwalk d.F T (C_law_draw.up (by decide)) (C_law_moves.up (by decide)) (C_law_moved.up (by decide))
  have C_law_names : Cal P w K mg base 2 "_law_names" ["_law_stream_here", "_law_many"] spNames := Z.d_law_names.cal fun _ _ d => ok_names d.F T (C_law_draw.up (by decide))
  have C_law_full_house : Cal P w K mg base 3 "_law_full_house" ["_law_stream_here", "_law_least", "_law_most"] spLFull := Z.d_law_full_house.cal fun _ _ d => ok_lfull d.F T (C_law_draw.up (by decide)) (C_law_names.up (by decide))
  have C_law_near_target : Cal P w K mg base 2 "_law_near_target" ["_law_stream_here", "_law_house", "_law_placement"] spLNear := Z.d_law_near_target.cal fun _ _ d => ok_lnear d.F T (C_law_draw.up (by decide)) (C_law_neighbors.up (by decide))
  have Call_at_target : Cal P w K mg base 2 "all_at_target" pAllAt (spAllAt K) := Z.dall_at_target.cal fun _ _ d => ok_allat (k := 0) d.F T (Cpeople_within.up (by decide)) (Croom_of.up (by decide))
  have Cnext_toward_target : Cal P w K mg base 5 "next_toward_target" pPTgt spNextP := Z.dnext_toward_target.cal fun _ _ d => ok_nextP (k := 0) d.F T (Cpath_to_target.up (by decide))
  have Croom_ahead : Cal P w K mg base 6 "room_ahead" pAhead spAhead := Z.droom_ahead.cal fun _ _ d => ok_ahead (k := 0) d.F Cnext_toward_target (Cpeople_in.up (by decide))
  have Ccomponents_without : Cal P w K mg base 4 "components_without" pCWo (spCWo K) := Z.dcomponents_without.cal fun _ _ d => ok_cwo (k := 0) d.F T (Ccomponents.up (by decide))
  have Cis_solvable : Cal P w K mg base 23 "is_solvable" pSolv (spSolv K 8) := (cal_solv T Z.dis_solvable Z.dis_solvable_without (Call_at_target.up (by decide)) (Cfree_rooms.up (by decide)) Croom_ahead (Ccomponents_without.up (by decide)) 8).1
  have C_law_reachable : Cal P w K mg base 3 "_law_reachable" pLReach (spReach P w) := Z.d_law_reachable.cal fun _ _ d => ok_lreach (k := 0) d.F T (C_law_moves.up (by decide)) (C_law_moved.up (by decide))
  refine Fun.okG F scLaw (fun vs H Q E h => ?_) (fun cdv A outer s H vs Q gd hr h => ?_)
  · obtain ⟨a, ns, rfl, _⟩ := h
    rfl
  · obtain ⟨a, ns, rfl, hS, hlen, q⟩ := h
    refine ⟨_, (pss_cons (ps_set (i := 1) scLaw.nd rfl (.inr rfl) (pe_cal C_law_stream (hr.mono (by decide)) (by rfl) (pa_cons (pv 0) pa_nil)))
      (pss_cons (ps_for PassesOwn.never rfl (pi_range1 (by rfl) T.range (pa_cons pe_int pa_nil)) (pg_name (i := 2) scLaw.nd rfl (.inl rfl))
      (pss_cons (ps_asg (pe_cal C_law_full_house (hr.mono (by decide)) (by rfl) (pa_cons (pv 1) (pa_cons pe_int (pa_cons pe_int pa_nil)))) (pg_unl (by rfl) (pgs_cons (pg_name (i := 3) scLaw.nd rfl (.inr rfl)) (pgs_cons (pg_name (i := 4) scLaw.nd rfl (.inl rfl)) pgs_nil))))
       (pss_cons (ps_set (i := 5) scLaw.nd rfl (.inl rfl) (pe_cal C_law_reachable (hr.mono (by decide)) (by rfl) (pa_cons (pv 3) (pa_cons (pv 4) pa_nil))))
       (pss_cons (ps_set (i := 6) scLaw.nd rfl (.inl rfl) (pe_lst (pa_cons (pe_cal C_law_near_target (hr.mono (by decide)) (by rfl) (pa_cons (pv 1) (pa_cons (pv 3) (pa_cons (pv 4) pa_nil)))) (pa_cons (pe_cal C_law_near_target (hr.mono (by decide)) (by rfl) (pa_cons (pv 1) (pa_cons (pv 3) (pa_cons (pv 4) pa_nil)))) (pa_cons (pe_cal C_law_near_target (hr.mono (by decide)) (by rfl) (pa_cons (pv 1) (pa_cons (pv 3) (pa_cons (pv 4) pa_nil)))) pa_nil)))))
       (pss_cons (ps_expr (pe_bm PySem.F.plainAttrs_list PySem.F.slot_list_append PySem.F.type_list_append mt_append (pv 6) (pa_cons (pe_callTy (call_tupleF K rfl) (by rfl) T.tuple (by decide +kernel) (pa_cons (pe_lc (own := [("_law_name", 7), ("_law_room", 8)]) (g := gTup K 2 (gCons (gName 7) (gCons (gName 8) gNil))) (by rfl) scLaw.nd (pi_tupK K rfl (pv 4))
 (blkOk_by (own := [("_law_name", 7), ("_law_room", 8)]) (N := nLaw) (sc := defScope sLaw) (by decide +kernel))
 (fun _ _ _ _ _ => (pg_tup (by rfl) (pgs_cons (pg_name (i := 7) scLaw.nd rfl (.inl rfl)) (pgs_cons (pg_name (i := 8) scLaw.nd rfl (.inl rfl)) pgs_nil)))) (fun _ _ _ _ _ => pts_nil) (fun _ _ _ _ _ => (pe_tup (pa_cons (pv 7) (pa_cons (pe_cal C_law_draw (hr.mono (by decide)) (by rfl) (pa_cons (pv 1) (pa_cons (pe_ix (ix_tupK K rfl) (pv 3) pe_int (fun _ _ => rfl)) pa_nil))) pa_nil))))) pa_nil)) pa_nil)))
       (pss_cons (ps_expr (pe_bm PySem.F.plainAttrs_list PySem.F.slot_list_append PySem.F.type_list_append mt_append (pv 6) (pa_cons (pe_ix (ix_listK K rfl) (pe_cal C_law_random_walk (hr.mono (by decide)) (by rfl) (pa_cons (pv 1) (pa_cons (pv 3) (pa_cons (pv 4) (pa_cons (pe_op op_add pe_int (pe_cal C_law_draw (hr.mono (by decide)) (by rfl) (pa_cons (pv 1) (pa_cons pe_int pa_nil)))) pa_nil))))) pe_int (fun _ _ => rfl)) pa_nil)))
       (pss_one (ps_for PassesOwn.never rfl (pi_listK K rfl (pe_op op_cat (pv 6) (pe_lst (pa_cons (pv 4) pa_nil)))) (pg_name (i := 9) scLaw.nd rfl (.inl rfl))
       (pss_one (ps_if (pt_not (pt_val (pe_cal C_law_same (hr.mono (by decide)) (by rfl) (pa_cons (pe_cal Cis_solvable (hr.mono (by decide)) (by rfl) (pa_cons (pv 3) (pa_cons (pv 4) (pa_cons (pv 9) (pa_cons (pe_tupRg (by rfl) (by rfl) T.tuple (prg_1 (by rfl) T.range (pe_ix (ix_tupK K rfl) (pv 3) pe_int (fun _ _ => rfl)))) pa_nil))))) (pa_cons (pe_cmpR (op_inP hr.units) (pv 9) (pv 5) (by rfl)) pa_nil)))))
        (pss_one (ps_ret pe_bl))
        pss_nil))))))))))
      (pss_one (ps_ret pe_bl)))), ?_⟩
    refine ⟨_, rfl, a, ns, rfl, hS, hlen, fun H1 s1 A1 B1 sm1 _ _ hS1 => ?_⟩
    refine ⟨2, rfl, by decide, by decide, for_range (lo := 0) (n := 2) (fun i σ H' => ∃ y2 y3 y4 y5 y6 y9, σ = [some (.ref a), some (.ref s1), y2, y3, y4, y5, y6, none, none, y9] ∧ StreamAt H' s1 A1 B1 (600 * i)) ⟨_, _, _, _, _, _, rfl, hS1⟩ ?_ ?_⟩
    · rintro i σ H2 hi ⟨y2, y3, y4, y5, y6, y9, rfl, hS2⟩
      refine ⟨_, rfl, s1, A1, B1, 600 * i, 1, 5, rfl, hS2, by omega, by decide, by decide, by decide, fun H5 l h p n D PP hS5 fr5 e5 hH5 hF ed n1 n2 hP5 pl pm => ?_⟩
      have lP : PP.length ≤ 5 := by
        have := pm.length_eq
        rw [List.length_map, rg_len] at this
        omega
      have ne : PP ≠ [] := fun e => by
        have := pm.length_eq
        rw [e, rg_len] at this
        simp only [List.map_nil, List.length_nil] at this
        omega
      have few : n.toNat ^ PP.length < sizeLine :=
        Nat.lt_of_le_of_lt (Nat.le_trans (Nat.pow_le_pow_left (show n.toNat ≤ 5 by omega) _) (Nat.pow_le_pow_right (by decide) lP)) (by decide)
      have nn : (0 : Int) ≤ n := by omega
      have n8 : n ≤ 8 := by omega
      refine ⟨l, _, rfl, SqL.of e5, rfl, _, _, rfl, _, _, rfl, rfl, ?_⟩
      dsimp only [gName, gNil]
      refine ⟨_, rfl, _, rfl, h, p, n, D, PP, rfl, hH5, hF, nn, n8, hP5.pl, pl, by omega, few, fun H6 d ks s6 _ dn6 bf => ?_⟩
      have hH6 := hH5.same s6
      have hP6 := hP5.same s6
      have hS6 := hS5.same s6
      refine ⟨_, rfl, _, rfl, _, rfl, s1, A1, B1, h, p, 600 * i + 80, n, D, PP, rfl, hS6, by omega, hH6, hF, n1, n8, hP6.pl, pl, by omega, ne, fun H7 g1 G1 hS7 fr7 hG7 plG1 nmG1 => ?_⟩
      have hH7 := hH6.fr hS6 fr7
      have hP7 := hP6.fr hS6 fr7
      refine ⟨_, rfl, _, rfl, _, rfl, s1, A1, B1, h, p, 600 * i + 80 + 80, n, D, PP, rfl, hS7, by omega, hH7, hF, n1, n8, hP7.pl, pl, by omega, ne, fun H8 g2 G2 hS8 fr8 hG8 plG2 nmG2 => ?_⟩
      have hH8 := hH7.fr hS7 fr8
      have hP8 := hP7.fr hS7 fr8
      refine ⟨_, rfl, _, rfl, _, rfl, s1, A1, B1, h, p, 600 * i + 80 + 80 + 80, n, D, PP, rfl, hS8, by omega, hH8, hF, n1, n8, hP8.pl, pl, by omega, ne, fun H9 g3 G3 hS9 fr9 hG9 plG3 nmG3 => ?_⟩
      have hH9 := hH8.fr hS8 fr9
      have hP9 := hP8.fr hS8 fr9
      have dn9 := ((dn6.fr hS6 fr7).fr hS7 fr8).fr hS8 fr9
      refine ⟨by show 3 ≤ sizeLine; decide, fun L hL => ?_⟩
      have zL := hS9.ne hL
      have s10 := same_upd (o := .lst [.ref g1, .ref g2, .ref g3]) hL
      have eL : (upd H9 L (.lst [.ref g1, .ref g2, .ref g3])) L = some (.lst [.ref g1, .ref g2, .ref g3]) := upd_same
      have hH := hH9.same s10
      have hP := hP9.same s10
      have dn := dn9.same s10
      have hS10 := hS9.same s10
      have t1 := ((hG7.fr hS7 fr8).fr hS8 fr9).same s10
      have t2 := (hG8.fr hS8 fr9).same s10
      have t3 := hG9.same s10
      generalize upd H9 L (.lst [.ref g1, .ref g2, .ref g3]) = H10 at *
      have hG1 := (hG7.fr hS7 fr8).fr hS8 fr9
      have hG2 := hG8.fr hS8 fr9
      clear hS1 hS2 hS5 hS6 fr5 fr7 e5 s6 hH5 hH6 hH7 hH8 hP5 hP6 hP7 hP8 dn6 hG7 hG8 t1 t2 t3 dn fr8 fr9 hS7 hS8
      -- a random target
      refine ⟨_, rfl, .inl ⟨rfl, _, SqL.of eL⟩, _, rfl, p, rfl, hP.pl.sq, fun M hM => ?_⟩
      have zM := hS10.ne hM
      have LM : L ≠ M := ne_of_none eL hM
      refine lc_pl hP.pl (fun k H' => StreamAt H' s1 A1 B1 (600 * i + 320 + k) ∧ Fr s1 A1 H10 H' ∧ ∃ G, LsAt H' M G ∧ G.map (·.1) = (PP.take k).map (·.1) ∧ InR n G) ⟨(hS10.put zM).mono (by omega), Fr.refl.put hM, [], .nil upd_same, rfl, fun x hx => nomatch hx⟩ (fun k H' hh => Tk.fr hh.2.1 hS10) ?_ ?_
      · rintro k nm r H11 hk ⟨hS11, fr11, G, lG, gn, gr⟩
        have lk := lt_of_get hk
        refine ⟨rfl, ?_⟩
        unfold tYes
        obtain ⟨qd, eh⟩ := (hH.fr hS10 fr11).room0
        refine iteT ⟨_, rfl, _, rfl, _, rfl, h, _, _, _, rfl, rfl, SqT.of eh, atI0, s1, A1, B1, _, n, rfl, hS11, by omega, by omega, by omega, fun H12 v hS12 fr12 v0 v1 => ⟨by show 2 ≤ sizeLine; decide, fun t ht => ?_⟩⟩
        have l12 := lG.fr hS11 fr12 zM
        have s13 := same_upd (o := .tup [.str nm, .int v]) ht
        obtain ⟨acc, a1, a2, a3⟩ := (l12.same s13).snoc (t := t) upd_same
        have lG' : G.length ≤ 5 := by
          have := congrArg List.length gn
          rw [List.length_map, List.length_map, List.length_take] at this
          omega
        refine ⟨acc, a1, small1000 (by omega), ((hS12.same s13).mono (by omega)).put zM, ((fr11.trans fr12).trans (Fr.of s13)).put hM, _, a3, ?_, fun x hx => ?_⟩
        · rw [List.map_append, gn, take_snoc hk, List.map_append]
          rfl
        · rcases List.mem_append.mp hx with hx | hx
          · exact gr x hx
          · rw [List.mem_singleton.mp hx]
            exact ⟨v0, v1⟩
      rintro H11 ⟨hS11, fr11, G4, lG4, gn4, gr4⟩
      rw [List.take_length] at gn4
      have plG4 : Pl n G4 := ⟨by rw [gn4]; exact pl.nm, gr4⟩
      obtain ⟨xs, b1, b2⟩ := lG4.tup
      refine ⟨M, _, rfl, SqL.of b1, fun t4 ob ht4 od => ?_⟩
      have s12 := same_upd (o := .frz ob (.tup xs)) ht4
      have hG4 := b2 t4 ob ht4 od
      have fr12 := fr11.trans (Fr.of s12)
      have hS12 := hS11.same s12
      generalize upd H11 t4 (.frz ob (.tup xs)) = H12 at *
      have eL12 := fr12 _ _ zL.1.symm zL.2.1.symm eL
      refine ⟨L, _, _, rfl, rfl, eL12, by show 3 < sizeLine; decide, ?_⟩
      have fr13 : Fr s1 A1 H9 (upd H12 L (.lst ([.ref g1, .ref g2, .ref g3] ++ [.ref t4]))) := ((Fr.of s10).trans fr12).put hL
      have eL13 : (upd H12 L (.lst ([.ref g1, .ref g2, .ref g3] ++ [.ref t4]))) L = some (.lst ([.ref g1, .ref g2, .ref g3] ++ [.ref t4])) := upd_same
      have hS13 := hS12.put (o := .lst ([.ref g1, .ref g2, .ref g3] ++ [.ref t4])) zL
      have hG4 := hG4.tk (Tk.refl.put (o := .lst ([.ref g1, .ref g2, .ref g3] ++ [.ref t4])) eL12)
      clear hS10 hS11 hS12 fr11 fr12 eL12 eL hH hP lG4 b1 b2 s12 hM zM
      generalize upd H12 L (.lst ([.ref g1, .ref g2, .ref g3] ++ [.ref t4])) = H13 at *
      -- the end of a walk
      refine ⟨_, rfl, .inl ⟨rfl, _, SqL.of eL13⟩, _, rfl, _, rfl, _, rfl, _, rfl, s1, A1, B1, _, 9, rfl, hS13, by omega, by decide, by decide, fun H14 v hS14 fr14 v0 v1 => ?_⟩
      have frB := fr13.trans fr14
      refine ⟨_, _, rfl, rfl, s1, A1, B1, h, p, _, n, D, PP, 1 + v, rfl, hS14, by omega, hH9.fr hS9 frB, hF, n8, hP9.fr hS9 frB, pl, by omega, by omega, by omega, fun H15 l5 t5 p5 ms P5 hS15 fr15 e15 _ hp5 wk lm => ?_⟩
      obtain ⟨plP5, lP5, nmP5, _⟩ := wk.keep pl
      have frC := frB.trans fr15
      have eL15 := (fr14.trans fr15) _ _ zL.1.symm zL.2.1.symm eL13
      refine ⟨l5, _, _, _, rfl, rfl, SqL.of e15, atI1, L, _, _, rfl, rfl, eL15, by show 4 < sizeLine; decide, ?_⟩
      have frD : Fr s1 A1 H9 (upd H15 L (.lst (([.ref g1, .ref g2, .ref g3] ++ [.ref t4]) ++ [.ref p5]))) := frC.put hL
      have eL16 : (upd H15 L (.lst (([.ref g1, .ref g2, .ref g3] ++ [.ref t4]) ++ [.ref p5]))) L = some (.lst [.ref g1, .ref g2, .ref g3, .ref t4, .ref p5]) := upd_same
      have tk15 : Tk H15 (upd H15 L (.lst (([.ref g1, .ref g2, .ref g3] ++ [.ref t4]) ++ [.ref p5]))) := Tk.refl.put eL15
      have hG4' := (hG4.fr hS13 (fr14.trans fr15)).tk tk15
      have hP5' := hp5.tk tk15
      have hS16 := hS15.put (o := .lst (([.ref g1, .ref g2, .ref g3] ++ [.ref t4]) ++ [.ref p5])) zL
      generalize upd H15 L (.lst (([.ref g1, .ref g2, .ref g3] ++ [.ref t4]) ++ [.ref p5])) = H16 at *
      refine ⟨_, rfl, _, rfl, by show 1 ≤ sizeLine; decide, fun O hO => ?_⟩
      have s17 := same_upd (o := .lst [.ref p]) hO
      refine ⟨L, O, _, _, rfl, rfl, s17 _ _ eL16, upd_same, by show 6 ≤ sizeLine; decide, fun N hN => ?_⟩
      have s18 := s17.trans (same_upd (o := .lst ([.ref g1, .ref g2, .ref g3, .ref t4, .ref p5] ++ [.ref p])) hN)
      have eN : (upd (upd H16 O (.lst [.ref p])) N (.lst ([.ref g1, .ref g2, .ref g3, .ref t4, .ref p5] ++ [.ref p]))) N = some (.lst [.ref g1, .ref g2, .ref g3, .ref t4, .ref p5, .ref p]) := upd_same
      have frE := frD.trans (Fr.of s18)
      have hH := hH9.fr hS9 frE
      have hP := hP9.fr hS9 frE
      have dn := dn9.fr hS9 frE
      have hSN := hS16.same s18
      have t1 := (hG1.fr hS9 frE).pl
      have t2 := (hG2.fr hS9 frE).pl
      have t3 := (hG9.fr hS9 frE).pl
      have t4' := (hG4'.same s18).pl
      have t5' := (hP5'.same s18).pl
      generalize upd (upd H16 O (.lst [.ref p])) N (.lst ([.ref g1, .ref g2, .ref g3, .ref t4, .ref p5] ++ [.ref p])) = H10 at *
      have el : ∀ (k : Nat) x, ([.ref g1, .ref g2, .ref g3, .ref t4, .ref p5, .ref p] : List V)[k]? = some x → ∃ g G, x = .ref g ∧ PlAt H10 g G ∧ Pl n G ∧ G.map (·.1) = PP.map (·.1) := by
        intro k x hx
        match k, hx with
        | 0, hx => cases hx; exact ⟨_, _, rfl, t1, plG1, nmG1⟩
        | 1, hx => cases hx; exact ⟨_, _, rfl, t2, plG2, nmG2⟩
        | 2, hx => cases hx; exact ⟨_, _, rfl, t3, plG3, nmG3⟩
        | 3, hx => cases hx; exact ⟨_, _, rfl, t4', plG4, gn4⟩
        | 4, hx => cases hx; exact ⟨_, _, rfl, t5', plP5, nmP5⟩
        | 5, hx => cases hx; exact ⟨_, _, rfl, hP.pl, pl, rfl⟩
      refine ⟨N, rfl, ⟨_, SqL.of eN⟩, for_list (K := K) (a := N) (xs := [.ref g1, .ref g2, .ref g3, .ref t4, .ref p5, .ref p]) (fun k σ H' => ∃ y9, σ = [some (.ref a), some (.ref s1), some (.int (0 + (i : Int))), some (.ref h), some (.ref p), some (.ref d), some (.ref L), none, none, y9] ∧ Same H10 H')
        ⟨_, rfl, Same.refl _⟩ ?_ ?_ ?_⟩
      · rintro k σ H' _ ⟨_, _, s'⟩
        exact SqL.of (s' _ _ eN)
      · rintro k x σ H11 hx ⟨z9, rfl, s11⟩
        obtain ⟨g, G, rfl, hG, plG, nmG⟩ := el k x hx
        have lG : G.length = PP.length := by
          have := congrArg List.length nmG
          rw [List.length_map, List.length_map] at this
          exact this
        have sub : ∀ x ∈ PP.map (·.1), x ∈ G.map (·.1) := fun x hx => by rw [nmG]; exact hx
        obtain ⟨qd, eh⟩ := (hH.same s11).room0
        refine ⟨_, rfl, _, rfl, _, rfl, _, rfl, h, _, _, _, rfl, rfl, SqT.of eh, atI0, n, rfl, ⟨by omega, by omega, by omega, by omega, by omega⟩, fun rr hrr => ?_⟩
        have s12 := same_upd (o := .tup (rgV 0 n)) hrr
        have err : (upd H11 rr (.tup (rgV 0 n))) rr = some (.tup (vi (rg n))) := by
          rw [upd_same, rg_vi]
          rfl
        generalize upd H11 rr (.tup (rgV 0 n)) = H12 at *
        have s := s11.trans s12
        have lr : (rg n).length ≤ 8 := by rw [rg_len]; omega
        refine ⟨h, p, g, rr, n, D, PP, G, rg n, rfl, hH.same s, hF, nn, n8, (hP.same s).pl, pl, by omega, hG.same s, plG, sub, SqT.of err, Pce.whole hF ed pm pl plG, lr, fun H13' s13 => ?_⟩
        have s' := s.trans s13
        have key : solB D PP G (rg n) = decide (G ∈ ks.map (·.1)) := by
          have rr : Sol D PP G (rg n) ↔ G ∈ ks.map (·.1) := by
            rw [← whole_rch hF ed pm pl plG nmG.symm, rch_rb hF]
            constructor
            · rintro ⟨j, r⟩
              exact bf.al j G r
            · intro m
              obtain ⟨q, hq, e⟩ := List.mem_map.mp m
              obtain ⟨j, _, f⟩ := bf.sd q hq
              exact ⟨j, e ▸ f.1⟩
          rw [Bool.eq_iff_iff, solB_iff, decide_eq_true_eq]
          exact rr
        refine ⟨_, rfl, _, rfl, g, d, G, ks, rfl, rfl, hG.same s', dn.same s', _, _, rfl, ?_, fun H14' s14 => ⟨_, rfl, iteF ?_⟩⟩
        · rw [key]
          exact .bl _ _
        · exact ⟨_, rfl, s'.trans s14⟩
      · rintro σ H11 ⟨z9, rfl, s11⟩
        exact ⟨_, _, _, _, _, _, rfl, (hSN.same s11).mono (by omega)⟩
    · rintro σ H2 ⟨y2, y3, y4, y5, y6, y9, rfl, hS2⟩
      exact q _
end
end Fw
set_option maxHeartbeats 8000000
namespace Fw
open PySem L2
theorem all_mk {P : Program} {w : World} {K : PySem.W.Frag} {h : Heap} {mg : Str → Option Value} {fa : Addr} (X : K.In h) (G : h.Ns mainGlobals mg) (hfa : mg "law" = some (.ref fa))
    {f1 : Addr} {od1 an1 : Option Addr} {sl1 : Array (Option Value)} {oc1 kV1 dc1 pm1 cd1 ct1 : Value}
    (a1 : PySem.W.nsIn K mainGlobals "neighbors" = some (some (.ref f1)))
    (l1 : K.lookup f1 = some ⟨oc1, od1, .func (PySem.W.fnOf "neighbors" "neighbors" (defArgs sNb) (defBody sNb) (defScope sNb) .none kV1 dc1 pm1 an1 cd1 ct1), sl1⟩)
    (c1 : PySem.W.codeIn K cd1 "neighbors" = true) (k1 : PySem.W.keepIn K (.ref f1) = true)
    {f2 : Addr} {od2 an2 : Option Addr} {sl2 : Array (Option Value)} {oc2 kV2 dc2 pm2 cd2 ct2 : Value}
    (a2 : PySem.W.nsIn K mainGlobals "path_between" = some (some (.ref f2)))
    (l2 : K.lookup f2 = some ⟨oc2, od2, .func (PySem.W.fnOf "path_between" "path_between" (defArgs sPath) (defBody sPath) (defScope sPath) .none kV2 dc2 pm2 an2 cd2 ct2), sl2⟩)
    (c2 : PySem.W.codeIn K cd2 "path_between" = true) (k2 : PySem.W.keepIn K (.ref f2) = true)
    {f3 : Addr} {od3 an3 : Option Addr} {sl3 : Array (Option Value)} {oc3 kV3 dc3 pm3 cd3 ct3 : Value}
    (a3 : PySem.W.nsIn K mainGlobals "components" = some (some (.ref f3)))
    (l3 : K.lookup f3 = some ⟨oc3, od3, .func (PySem.W.fnOf "components" "components" (defArgs sComp) (defBody sComp) (defScope sComp) .none kV3 dc3 pm3 an3 cd3 ct3), sl3⟩)
    (c3 : PySem.W.codeIn K cd3 "components" = true) (k3 : PySem.W.keepIn K (.ref f3) = true)
    {f4 : Addr} {od4 an4 : Option Addr} {sl4 : Array (Option Value)} {oc4 kV4 dc4 pm4 cd4 ct4 : Value}
    (a4 : PySem.W.nsIn K mainGlobals "steps_toward" = some (some (.ref f4)))
    (l4 : K.lookup f4 = some ⟨oc4, od4, .func (PySem.W.fnOf "steps_toward" "steps_toward" (defArgs sSteps) (defBody sSteps) (defScope sSteps) .none kV4 dc4 pm4 an4 cd4 ct4), sl4⟩)
    (c4 : PySem.W.codeIn K cd4 "steps_toward" = true) (k4 : PySem.W.keepIn K (.ref f4) = true)
    {f5 : Addr} {od5 an5 : Option Addr} {sl5 : Array (Option Value)} {oc5 kV5 dc5 pm5 cd5 ct5 : Value}
    (a5 : PySem.W.nsIn K mainGlobals "room_of" = some (some (.ref f5)))
    (l5 : K.lookup f5 = some ⟨oc5, od5, .func (PySem.W.fnOf "room_of" "room_of" (defArgs sRoomOf) (defBody sRoomOf) (defScope sRoomOf) .none kV5 dc5 pm5 an5 cd5 ct5), sl5⟩)
    (c5 : PySem.W.codeIn K cd5 "room_of" = true) (k5 : PySem.W.keepIn K (.ref f5) = true)
    {f6 : Addr} {od6 an6 : Option Addr} {sl6 : Array (Option Value)} {oc6 kV6 dc6 pm6 cd6 ct6 : Value}
    (a6 : PySem.W.nsIn K mainGlobals "people_in" = some (some (.ref f6)))
    (l6 : K.lookup f6 = some ⟨oc6, od6, .func (PySem.W.fnOf "people_in" "people_in" (defArgs sPIn) (defBody sPIn) (defScope sPIn) .none kV6 dc6 pm6 an6 cd6 ct6), sl6⟩)
    (c6 : PySem.W.codeIn K cd6 "people_in" = true) (k6 : PySem.W.keepIn K (.ref f6) = true)
    {f7 : Addr} {od7 an7 : Option Addr} {sl7 : Array (Option Value)} {oc7 kV7 dc7 pm7 cd7 ct7 : Value}
    (a7 : PySem.W.nsIn K mainGlobals "people_within" = some (some (.ref f7)))
    (l7 : K.lookup f7 = some ⟨oc7, od7, .func (PySem.W.fnOf "people_within" "people_within" (defArgs sPWi) (defBody sPWi) (defScope sPWi) .none kV7 dc7 pm7 an7 cd7 ct7), sl7⟩)
    (c7 : PySem.W.codeIn K cd7 "people_within" = true) (k7 : PySem.W.keepIn K (.ref f7) = true)
    {f8 : Addr} {od8 an8 : Option Addr} {sl8 : Array (Option Value)} {oc8 kV8 dc8 pm8 cd8 ct8 : Value}
    (a8 : PySem.W.nsIn K mainGlobals "passed_rooms" = some (some (.ref f8)))
    (l8 : K.lookup f8 = some ⟨oc8, od8, .func (PySem.W.fnOf "passed_rooms" "passed_rooms" (defArgs sPassed) (defBody sPassed) (defScope sPassed) .none kV8 dc8 pm8 an8 cd8 ct8), sl8⟩)
    (c8 : PySem.W.codeIn K cd8 "passed_rooms" = true) (k8 : PySem.W.keepIn K (.ref f8) = true)
    {f9 : Addr} {od9 an9 : Option Addr} {sl9 : Array (Option Value)} {oc9 kV9 dc9 pm9 cd9 ct9 : Value}
    (a9 : PySem.W.nsIn K mainGlobals "path_to_target" = some (some (.ref f9)))
    (l9 : K.lookup f9 = some ⟨oc9, od9, .func (PySem.W.fnOf "path_to_target" "path_to_target" (defArgs sPTgt) (defBody sPTgt) (defScope sPTgt) .none kV9 dc9 pm9 an9 cd9 ct9), sl9⟩)
    (c9 : PySem.W.codeIn K cd9 "path_to_target" = true) (k9 : PySem.W.keepIn K (.ref f9) = true)
    {f10 : Addr} {od10 an10 : Option Addr} {sl10 : Array (Option Value)} {oc10 kV10 dc10 pm10 cd10 ct10 : Value}
    (a10 : PySem.W.nsIn K mainGlobals "next_toward_target" = some (some (.ref f10)))
    (l10 : K.lookup f10 = some ⟨oc10, od10, .func (PySem.W.fnOf "next_toward_target" "next_toward_target" (defArgs sNextT) (defBody sNextT) (defScope sNextT) .none kV10 dc10 pm10 an10 cd10 ct10), sl10⟩)
    (c10 : PySem.W.codeIn K cd10 "next_toward_target" = true) (k10 : PySem.W.keepIn K (.ref f10) = true)
    {f11 : Addr} {od11 an11 : Option Addr} {sl11 : Array (Option Value)} {oc11 kV11 dc11 pm11 cd11 ct11 : Value}
    (a11 : PySem.W.nsIn K mainGlobals "free_rooms" = some (some (.ref f11)))
    (l11 : K.lookup f11 = some ⟨oc11, od11, .func (PySem.W.fnOf "free_rooms" "free_rooms" (defArgs sFree) (defBody sFree) (defScope sFree) .none kV11 dc11 pm11 an11 cd11 ct11), sl11⟩)
    (c11 : PySem.W.codeIn K cd11 "free_rooms" = true) (k11 : PySem.W.keepIn K (.ref f11) = true)
    {f12 : Addr} {od12 an12 : Option Addr} {sl12 : Array (Option Value)} {oc12 kV12 dc12 pm12 cd12 ct12 : Value}
    (a12 : PySem.W.nsIn K mainGlobals "is_solvable" = some (some (.ref f12)))
    (l12 : K.lookup f12 = some ⟨oc12, od12, .func (PySem.W.fnOf "is_solvable" "is_solvable" (defArgs sSolv) (defBody sSolv) (defScope sSolv) .none kV12 dc12 pm12 an12 cd12 ct12), sl12⟩)
    (c12 : PySem.W.codeIn K cd12 "is_solvable" = true) (k12 : PySem.W.keepIn K (.ref f12) = true)
    {f13 : Addr} {od13 an13 : Option Addr} {sl13 : Array (Option Value)} {oc13 kV13 dc13 pm13 cd13 ct13 : Value}
    (a13 : PySem.W.nsIn K mainGlobals "all_at_target" = some (some (.ref f13)))
    (l13 : K.lookup f13 = some ⟨oc13, od13, .func (PySem.W.fnOf "all_at_target" "all_at_target" (defArgs sAllAt) (defBody sAllAt) (defScope sAllAt) .none kV13 dc13 pm13 an13 cd13 ct13), sl13⟩)
    (c13 : PySem.W.codeIn K cd13 "all_at_target" = true) (k13 : PySem.W.keepIn K (.ref f13) = true)
    {f14 : Addr} {od14 an14 : Option Addr} {sl14 : Array (Option Value)} {oc14 kV14 dc14 pm14 cd14 ct14 : Value}
    (a14 : PySem.W.nsIn K mainGlobals "is_solvable_without" = some (some (.ref f14)))
    (l14 : K.lookup f14 = some ⟨oc14, od14, .func (PySem.W.fnOf "is_solvable_without" "is_solvable_without" (defArgs sSolvW) (defBody sSolvW) (defScope sSolvW) .none kV14 dc14 pm14 an14 cd14 ct14), sl14⟩)
    (c14 : PySem.W.codeIn K cd14 "is_solvable_without" = true) (k14 : PySem.W.keepIn K (.ref f14) = true)
    {f15 : Addr} {od15 an15 : Option Addr} {sl15 : Array (Option Value)} {oc15 kV15 dc15 pm15 cd15 ct15 : Value}
    (a15 : PySem.W.nsIn K mainGlobals "room_ahead" = some (some (.ref f15)))
    (l15 : K.lookup f15 = some ⟨oc15, od15, .func (PySem.W.fnOf "room_ahead" "room_ahead" (defArgs sAhead) (defBody sAhead) (defScope sAhead) .none kV15 dc15 pm15 an15 cd15 ct15), sl15⟩)
    (c15 : PySem.W.codeIn K cd15 "room_ahead" = true) (k15 : PySem.W.keepIn K (.ref f15) = true)
    {f16 : Addr} {od16 an16 : Option Addr} {sl16 : Array (Option Value)} {oc16 kV16 dc16 pm16 cd16 ct16 : Value}
    (a16 : PySem.W.nsIn K mainGlobals "components_without" = some (some (.ref f16)))
    (l16 : K.lookup f16 = some ⟨oc16, od16, .func (PySem.W.fnOf "components_without" "components_without" (defArgs sCWo) (defBody sCWo) (defScope sCWo) .none kV16 dc16 pm16 an16 cd16 ct16), sl16⟩)
    (c16 : PySem.W.codeIn K cd16 "components_without" = true) (k16 : PySem.W.keepIn K (.ref f16) = true)
    {f17 : Addr} {od17 an17 : Option Addr} {sl17 : Array (Option Value)} {oc17 kV17 dc17 pm17 cd17 ct17 : Value}
    (a17 : PySem.W.nsIn K mainGlobals "_law_stream" = some (some (.ref f17)))
    (l17 : K.lookup f17 = some ⟨oc17, od17, .func (PySem.W.fnOf "_law_stream" "_law_stream" (defArgs sStream) (defBody sStream) (defScope sStream) .none kV17 dc17 pm17 an17 cd17 ct17), sl17⟩)
    (c17 : PySem.W.codeIn K cd17 "_law_stream" = true) (k17 : PySem.W.keepIn K (.ref f17) = true)
    {f18 : Addr} {od18 an18 : Option Addr} {sl18 : Array (Option Value)} {oc18 kV18 dc18 pm18 cd18 ct18 : Value}
    (a18 : PySem.W.nsIn K mainGlobals "_law_draw" = some (some (.ref f18)))
    (l18 : K.lookup f18 = some ⟨oc18, od18, .func (PySem.W.fnOf "_law_draw" "_law_draw" (defArgs sDraw) (defBody sDraw) (defScope sDraw) .none kV18 dc18 pm18 an18 cd18 ct18), sl18⟩)
    (c18 : PySem.W.codeIn K cd18 "_law_draw" = true) (k18 : PySem.W.keepIn K (.ref f18) = true)
    {f19 : Addr} {od19 an19 : Option Addr} {sl19 : Array (Option Value)} {oc19 kV19 dc19 pm19 cd19 ct19 : Value}
    (a19 : PySem.W.nsIn K mainGlobals "_law_same" = some (some (.ref f19)))
    (l19 : K.lookup f19 = some ⟨oc19, od19, .func (PySem.W.fnOf "_law_same" "_law_same" (defArgs sSame) (defBody sSame) (defScope sSame) .none kV19 dc19 pm19 an19 cd19 ct19), sl19⟩)
    (c19 : PySem.W.codeIn K cd19 "_law_same" = true) (k19 : PySem.W.keepIn K (.ref f19) = true)
    {f20 : Addr} {od20 an20 : Option Addr} {sl20 : Array (Option Value)} {oc20 kV20 dc20 pm20 cd20 ct20 : Value}
    (a20 : PySem.W.nsIn K mainGlobals "_law_names" = some (some (.ref f20)))
    (l20 : K.lookup f20 = some ⟨oc20, od20, .func (PySem.W.fnOf "_law_names" "_law_names" (defArgs sNames) (defBody sNames) (defScope sNames) .none kV20 dc20 pm20 an20 cd20 ct20), sl20⟩)
    (c20 : PySem.W.codeIn K cd20 "_law_names" = true) (k20 : PySem.W.keepIn K (.ref f20) = true)
    {f21 : Addr} {od21 an21 : Option Addr} {sl21 : Array (Option Value)} {oc21 kV21 dc21 pm21 cd21 ct21 : Value}
    (a21 : PySem.W.nsIn K mainGlobals "_law_neighbors" = some (some (.ref f21)))
    (l21 : K.lookup f21 = some ⟨oc21, od21, .func (PySem.W.fnOf "_law_neighbors" "_law_neighbors" (defArgs sLNb) (defBody sLNb) (defScope sLNb) .none kV21 dc21 pm21 an21 cd21 ct21), sl21⟩)
    (c21 : PySem.W.codeIn K cd21 "_law_neighbors" = true) (k21 : PySem.W.keepIn K (.ref f21) = true)
    {f22 : Addr} {od22 an22 : Option Addr} {sl22 : Array (Option Value)} {oc22 kV22 dc22 pm22 cd22 ct22 : Value}
    (a22 : PySem.W.nsIn K mainGlobals "_law_moved" = some (some (.ref f22)))
    (l22 : K.lookup f22 = some ⟨oc22, od22, .func (PySem.W.fnOf "_law_moved" "_law_moved" (defArgs sLMoved) (defBody sLMoved) (defScope sLMoved) .none kV22 dc22 pm22 an22 cd22 ct22), sl22⟩)
    (c22 : PySem.W.codeIn K cd22 "_law_moved" = true) (k22 : PySem.W.keepIn K (.ref f22) = true)
    {f23 : Addr} {od23 an23 : Option Addr} {sl23 : Array (Option Value)} {oc23 kV23 dc23 pm23 cd23 ct23 : Value}
    (a23 : PySem.W.nsIn K mainGlobals "_law_moves" = some (some (.ref f23)))
    (l23 : K.lookup f23 = some ⟨oc23, od23, .func (PySem.W.fnOf "_law_moves" "_law_moves" (defArgs sLMoves) (defBody sLMoves) (defScope sLMoves) .none kV23 dc23 pm23 an23 cd23 ct23), sl23⟩)
    (c23 : PySem.W.codeIn K cd23 "_law_moves" = true) (k23 : PySem.W.keepIn K (.ref f23) = true)
    {f24 : Addr} {od24 an24 : Option Addr} {sl24 : Array (Option Value)} {oc24 kV24 dc24 pm24 cd24 ct24 : Value}
    (a24 : PySem.W.nsIn K mainGlobals "_law_reachable" = some (some (.ref f24)))
    (l24 : K.lookup f24 = some ⟨oc24, od24, .func (PySem.W.fnOf "_law_reachable" "_law_reachable" (defArgs sLReach) (defBody sLReach) (defScope sLReach) .none kV24 dc24 pm24 an24 cd24 ct24), sl24⟩)
    (c24 : PySem.W.codeIn K cd24 "_law_reachable" = true) (k24 : PySem.W.keepIn K (.ref f24) = true)
    {f25 : Addr} {od25 an25 : Option Addr} {sl25 : Array (Option Value)} {oc25 kV25 dc25 pm25 cd25 ct25 : Value}
    (a25 : PySem.W.nsIn K mainGlobals "_law_random_walk" = some (some (.ref f25)))
    (l25 : K.lookup f25 = some ⟨oc25, od25, .func (PySem.W.fnOf "_law_random_walk" "_law_random_walk" (defArgs sLWalk) (defBody sLWalk) (defScope sLWalk) .none kV25 dc25 pm25 an25 cd25 ct25), sl25⟩)
    (c25 : PySem.W.codeIn K cd25 "_law_random_walk" = true) (k25 : PySem.W.keepIn K (.ref f25) = true)
    {f26 : Addr} {od26 an26 : Option Addr} {sl26 : Array (Option Value)} {oc26 kV26 dc26 pm26 cd26 ct26 : Value}
    (a26 : PySem.W.nsIn K mainGlobals "_law_full_house" = some (some (.ref f26)))
    (l26 : K.lookup f26 = some ⟨oc26, od26, .func (PySem.W.fnOf "_law_full_house" "_law_full_house" (defArgs sLFull) (defBody sLFull) (defScope sLFull) .none kV26 dc26 pm26 an26 cd26 ct26), sl26⟩)
    (c26 : PySem.W.codeIn K cd26 "_law_full_house" = true) (k26 : PySem.W.keepIn K (.ref f26) = true)
    {f27 : Addr} {od27 an27 : Option Addr} {sl27 : Array (Option Value)} {oc27 kV27 dc27 pm27 cd27 ct27 : Value}
    (a27 : PySem.W.nsIn K mainGlobals "_law_near_target" = some (some (.ref f27)))
    (l27 : K.lookup f27 = some ⟨oc27, od27, .func (PySem.W.fnOf "_law_near_target" "_law_near_target" (defArgs sLNear) (defBody sLNear) (defScope sLNear) .none kV27 dc27 pm27 an27 cd27 ct27), sl27⟩)
    (c27 : PySem.W.codeIn K cd27 "_law_near_target" = true) (k27 : PySem.W.keepIn K (.ref f27) = true)
    {f28 : Addr} {od28 an28 : Option Addr} {sl28 : Array (Option Value)} {oc28 kV28 dc28 pm28 cd28 ct28 : Value}
    (a28 : PySem.W.nsIn K mainGlobals "law" = some (some (.ref f28)))
    (l28 : K.lookup f28 = some ⟨oc28, od28, .func (PySem.W.fnOf "law" "law" (defArgs sLaw) (defBody sLaw) (defScope sLaw) .none kV28 dc28 pm28 an28 cd28 ct28), sl28⟩)
    (c28 : PySem.W.codeIn K cd28 "law" = true) (k28 : PySem.W.keepIn K (.ref f28) = true)
    (z_abs : PySem.W.nsIn K mainGlobals "abs" = some none) (z_len : PySem.W.nsIn K mainGlobals "len" = some none) (z_list : PySem.W.nsIn K mainGlobals "list" = some none) (z_range : PySem.W.nsIn K mainGlobals "range" = some none) (z_min : PySem.W.nsIn K mainGlobals "min" = some none) (z_max : PySem.W.nsIn K mainGlobals "max" = some none) (z_tuple : PySem.W.nsIn K mainGlobals "tuple" = some none) (z_sorted : PySem.W.nsIn K mainGlobals "sorted" = some none) (z_isinstance : PySem.W.nsIn K mainGlobals "isinstance" = some none) (z_all : PySem.W.nsIn K mainGlobals "all" = some none) (z_zip : PySem.W.nsIn K mainGlobals "zip" = some none) (z_bool : PySem.W.nsIn K mainGlobals "bool" = some none) (z_int : PySem.W.nsIn K mainGlobals "int" = some none) (z_str : PySem.W.nsIn K mainGlobals "str" = some none) (z_repr : PySem.W.nsIn K mainGlobals "repr" = some none) (z_any : PySem.W.nsIn K mainGlobals "any" = some none) : LawAt P w K mg 24 fa (spLaw K) := by
  have e := hfa.symm.trans (PySem.W.mg_of X G a28)
  cases e
  have T : Nm mg := ⟨PySem.W.mg_none_of X G z_abs, PySem.W.mg_none_of X G z_len, PySem.W.mg_none_of X G z_list, PySem.W.mg_none_of X G z_range, PySem.W.mg_none_of X G z_min, PySem.W.mg_none_of X G z_max, PySem.W.mg_none_of X G z_tuple, PySem.W.mg_none_of X G z_sorted, PySem.W.mg_none_of X G z_isinstance, PySem.W.mg_none_of X G z_all, PySem.W.mg_none_of X G z_zip, PySem.W.mg_none_of X G z_bool, PySem.W.mg_none_of X G z_int, PySem.W.mg_none_of X G z_str, PySem.W.mg_none_of X G z_repr⟩
  have F1 := fun_mk (st := sNb) l1 c1 k1
  have b1 := F1.binds (ps := ["house", "room"]) fun _ _ _ _ _ _ us hl => match us, hl with | [_, _], _ => rfl
  have F2 := fun_mk (st := sPath) l2 c2 k2
  have b2 := F2.binds (ps := ["house", "a", "b"]) fun _ _ _ _ _ _ us hl => match us, hl with | [_, _, _], _ => rfl
  have F3 := fun_mk (st := sComp) l3 c3 k3
  have b3 := F3.binds (ps := ["house", "rooms"]) fun _ _ _ _ _ _ us hl => match us, hl with | [_, _], _ => rfl
  have F4 := fun_mk (st := sSteps) l4 c4 k4
  have b4 := F4.binds (ps := ["house", "goal", "rooms"]) fun _ _ _ _ _ _ us hl => match us, hl with | [_, _, _], _ => rfl
  have F5 := fun_mk (st := sRoomOf) l5 c5 k5
  have b5 := F5.binds (ps := ["placement", "name"]) fun _ _ _ _ _ _ us hl => match us, hl with | [_, _], _ => rfl
  have F6 := fun_mk (st := sPIn) l6 c6 k6
  have b6 := F6.binds (ps := ["placement", "room"]) fun _ _ _ _ _ _ us hl => match us, hl with | [_, _], _ => rfl
  have F7 := fun_mk (st := sPWi) l7 c7 k7
  have b7 := F7.binds (ps := ["placement", "rooms"]) fun _ _ _ _ _ _ us hl => match us, hl with | [_, _], _ => rfl
  have F8 := fun_mk (st := sPassed) l8 c8 k8
  have b8 := F8.binds (ps := ["house", "placement", "target", "name"]) fun _ _ _ _ _ _ us hl => match us, hl with | [_, _, _, _], _ => rfl
  have F9 := fun_mk (st := sPTgt) l9 c9 k9
  have b9 := F9.binds (ps := ["house", "placement", "target", "name"]) fun _ _ _ _ _ _ us hl => match us, hl with | [_, _, _, _], _ => rfl
  have F10 := fun_mk (st := sNextT) l10 c10 k10
  have b10 := F10.binds (ps := ["house", "placement", "target", "name"]) fun _ _ _ _ _ _ us hl => match us, hl with | [_, _, _, _], _ => rfl
  have F11 := fun_mk (st := sFree) l11 c11 k11
  have b11 := F11.binds (ps := ["house", "placement", "target", "region"]) fun _ _ _ _ _ _ us hl => match us, hl with | [_, _, _, _], _ => rfl
  have F12 := fun_mk (st := sSolv) l12 c12 k12
  have b12 := F12.binds (ps := ["house", "placement", "target", "rooms"]) fun _ _ _ _ _ _ us hl => match us, hl with | [_, _, _, _], _ => rfl
  have F13 := fun_mk (st := sAllAt) l13 c13 k13
  have b13 := F13.binds (ps := ["placement", "target", "rooms"]) fun _ _ _ _ _ _ us hl => match us, hl with | [_, _, _], _ => rfl
  have F14 := fun_mk (st := sSolvW) l14 c14 k14
  have b14 := F14.binds (ps := ["house", "placement", "target", "rooms", "room"]) fun _ _ _ _ _ _ us hl => match us, hl with | [_, _, _, _, _], _ => rfl
  have F15 := fun_mk (st := sAhead) l15 c15 k15
  have b15 := F15.binds (ps := ["house", "placement", "target", "room"]) fun _ _ _ _ _ _ us hl => match us, hl with | [_, _, _, _], _ => rfl
  have F16 := fun_mk (st := sCWo) l16 c16 k16
  have b16 := F16.binds (ps := ["house", "rooms", "room"]) fun _ _ _ _ _ _ us hl => match us, hl with | [_, _, _], _ => rfl
  have F17 := fun_mk (st := sStream) l17 c17 k17
  have b17 := F17.binds (ps := ["_law_script"]) fun _ _ _ _ _ _ us hl => match us, hl with | [_], _ => rfl
  have F18 := fun_mk (st := sDraw) l18 c18 k18
  have b18 := F18.binds (ps := ["_law_stream_here", "_law_many"]) fun _ _ _ _ _ _ us hl => match us, hl with | [_, _], _ => rfl
  have F19 := fun_mk (st := sSame) l19 c19 k19
  have b19 := F19.binds (ps := ["_law_found", "_law_expected"]) fun _ _ _ _ _ _ us hl => match us, hl with | [_, _], _ => rfl
  have F20 := fun_mk (st := sNames) l20 c20 k20
  have b20 := F20.binds (ps := ["_law_stream_here", "_law_many"]) fun _ _ _ _ _ _ us hl => match us, hl with | [_, _], _ => rfl
  have F21 := fun_mk (st := sLNb) l21 c21 k21
  have b21 := F21.binds (ps := ["_law_house", "_law_room"]) fun _ _ _ _ _ _ us hl => match us, hl with | [_, _], _ => rfl
  have F22 := fun_mk (st := sLMoved) l22 c22 k22
  have b22 := F22.binds (ps := ["_law_placement", "_law_name", "_law_room"]) fun _ _ _ _ _ _ us hl => match us, hl with | [_, _, _], _ => rfl
  have F23 := fun_mk (st := sLMoves) l23 c23 k23
  have b23 := F23.binds (ps := ["_law_house", "_law_placement"]) fun _ _ _ _ _ _ us hl => match us, hl with | [_, _], _ => rfl
  have F24 := fun_mk (st := sLReach) l24 c24 k24
  have b24 := F24.binds (ps := ["_law_house", "_law_placement"]) fun _ _ _ _ _ _ us hl => match us, hl with | [_, _], _ => rfl
  have F25 := fun_mk (st := sLWalk) l25 c25 k25
  have b25 := F25.binds (ps := ["_law_stream_here", "_law_house", "_law_placement", "_law_many"]) fun _ _ _ _ _ _ us hl => match us, hl with | [_, _, _, _], _ => rfl
  have F26 := fun_mk (st := sLFull) l26 c26 k26
  have b26 := F26.binds (ps := ["_law_stream_here", "_law_least", "_law_most"]) fun _ _ _ _ _ _ us hl => match us, hl with | [_, _, _], _ => rfl
  have F27 := fun_mk (st := sLNear) l27 c27 k27
  have b27 := F27.binds (ps := ["_law_stream_here", "_law_house", "_law_placement"]) fun _ _ _ _ _ _ us hl => match us, hl with | [_, _, _], _ => rfl
  have F28 := fun_mk (st := sLaw) l28 c28 k28
  have Z : All K mg := ⟨T, PySem.W.mg_none_of X G z_any, ⟨_, _, ⟨F1, b1, PySem.W.mg_of X G a1⟩⟩, ⟨_, _, ⟨F2, b2, PySem.W.mg_of X G a2⟩⟩, ⟨_, _, ⟨F3, b3, PySem.W.mg_of X G a3⟩⟩, ⟨_, _, ⟨F4, b4, PySem.W.mg_of X G a4⟩⟩, ⟨_, _, ⟨F5, b5, PySem.W.mg_of X G a5⟩⟩, ⟨_, _, ⟨F6, b6, PySem.W.mg_of X G a6⟩⟩, ⟨_, _, ⟨F7, b7, PySem.W.mg_of X G a7⟩⟩, ⟨_, _, ⟨F8, b8, PySem.W.mg_of X G a8⟩⟩, ⟨_, _, ⟨F9, b9, PySem.W.mg_of X G a9⟩⟩, ⟨_, _, ⟨F10, b10, PySem.W.mg_of X G a10⟩⟩, ⟨_, _, ⟨F11, b11, PySem.W.mg_of X G a11⟩⟩, ⟨_, _, ⟨F12, b12, PySem.W.mg_of X G a12⟩⟩, ⟨_, _, ⟨F13, b13, PySem.W.mg_of X G a13⟩⟩, ⟨_, _, ⟨F14, b14, PySem.W.mg_of X G a14⟩⟩, ⟨_, _, ⟨F15, b15, PySem.W.mg_of X G a15⟩⟩, ⟨_, _, ⟨F16, b16, PySem.W.mg_of X G a16⟩⟩, ⟨_, _, ⟨F17, b17, PySem.W.mg_of X G a17⟩⟩, ⟨_, _, ⟨F18, b18, PySem.W.mg_of X G a18⟩⟩, ⟨_, _, ⟨F19, b19, PySem.W.mg_of X G a19⟩⟩, ⟨_, _, ⟨F20, b20, PySem.W.mg_of X G a20⟩⟩, ⟨_, _, ⟨F21, b21, PySem.W.mg_of X G a21⟩⟩, ⟨_, _, ⟨F22, b22, PySem.W.mg_of X G a22⟩⟩, ⟨_, _, ⟨F23, b23, PySem.W.mg_of X G a23⟩⟩, ⟨_, _, ⟨F24, b24, PySem.W.mg_of X G a24⟩⟩, ⟨_, _, ⟨F25, b25, PySem.W.mg_of X G a25⟩⟩, ⟨_, _, ⟨F26, b26, PySem.W.mg_of X G a26⟩⟩, ⟨_, _, ⟨F27, b27, PySem.W.mg_of X G a27⟩⟩⟩
  refine ⟨_, fun s v => ?_, fun base _ _ => ok_law F28 Z⟩
  exact .of_eq rfl
theorem tells : Tells spLaw := fun K H a ns hl hS => ⟨a, ns, rfl, hS, hl, fun _ => rfl⟩
end Fw

open PySem PySem.W PyProof.Rows in
set_option maxRecDepth 100000 in
set_option maxHeartbeats 0 in
theorem PySem.Challenge.cw_fromwithin_k23_whole_solvable_by_search_holds : PySem.Challenge.rw_fromwithin_k23_whole_solvable_by_search.Holds := by
  w_on; o_law; k_head; (case hw => w_witness2)
  k_fill
  refine Fw.walkG (l := PySem.Challenge.rw_fromwithin_k23_whole_solvable_by_search) (k := 24) Fw.tells rfl rfl ⟨rfl, by decide, by decide⟩ (fun w h Y => PySem.W.kIn_of Y) ?F
  case F =>
    intro w mg fa h KX G hmg
    refine' Fw.all_mk KX G hmg ?a1 ?l1 ?c1 ?k1 ?a2 ?l2 ?c2 ?k2 ?a3 ?l3 ?c3 ?k3 ?a4 ?l4 ?c4 ?k4 ?a5 ?l5 ?c5 ?k5 ?a6 ?l6 ?c6 ?k6 ?a7 ?l7 ?c7 ?k7 ?a8 ?l8 ?c8 ?k8 ?a9 ?l9 ?c9 ?k9 ?a10 ?l10 ?c10 ?k10 ?a11 ?l11 ?c11 ?k11 ?a12 ?l12 ?c12 ?k12 ?a13 ?l13 ?c13 ?k13 ?a14 ?l14 ?c14 ?k14 ?a15 ?l15 ?c15 ?k15 ?a16 ?l16 ?c16 ?k16 ?a17 ?l17 ?c17 ?k17 ?a18 ?l18 ?c18 ?k18 ?a19 ?l19 ?c19 ?k19 ?a20 ?l20 ?c20 ?k20 ?a21 ?l21 ?c21 ?k21 ?a22 ?l22 ?c22 ?k22 ?a23 ?l23 ?c23 ?k23 ?a24 ?l24 ?c24 ?k24 ?a25 ?l25 ?c25 ?k25 ?a26 ?l26 ?c26 ?k26 ?a27 ?l27 ?c27 ?k27 ?a28 ?l28 ?c28 ?k28 ?z_abs ?z_len ?z_list ?z_range ?z_min ?z_max ?z_tuple ?z_sorted ?z_isinstance ?z_all ?z_zip ?z_bool ?z_int ?z_str ?z_repr ?z_any
    (case a1 => k_is)
    (case l1 => k_is)
    (case c1 => k_is)
    (case k1 => k_is)
    (case a2 => k_is)
    (case l2 => k_is)
    (case c2 => k_is)
    (case k2 => k_is)
    (case a3 => k_is)
    (case l3 => k_is)
    (case c3 => k_is)
    (case k3 => k_is)
    (case a4 => k_is)
    (case l4 => k_is)
    (case c4 => k_is)
    (case k4 => k_is)
    (case a5 => k_is)
    (case l5 => k_is)
    (case c5 => k_is)
    (case k5 => k_is)
    (case a6 => k_is)
    (case l6 => k_is)
    (case c6 => k_is)
    (case k6 => k_is)
    (case a7 => k_is)
    (case l7 => k_is)
    (case c7 => k_is)
    (case k7 => k_is)
    (case a8 => k_is)
    (case l8 => k_is)
    (case c8 => k_is)
    (case k8 => k_is)
    (case a9 => k_is)
    (case l9 => k_is)
    (case c9 => k_is)
    (case k9 => k_is)
    (case a10 => k_is)
    (case l10 => k_is)
    (case c10 => k_is)
    (case k10 => k_is)
    (case a11 => k_is)
    (case l11 => k_is)
    (case c11 => k_is)
    (case k11 => k_is)
    (case a12 => k_is)
    (case l12 => k_is)
    (case c12 => k_is)
    (case k12 => k_is)
    (case a13 => k_is)
    (case l13 => k_is)
    (case c13 => k_is)
    (case k13 => k_is)
    (case a14 => k_is)
    (case l14 => k_is)
    (case c14 => k_is)
    (case k14 => k_is)
    (case a15 => k_is)
    (case l15 => k_is)
    (case c15 => k_is)
    (case k15 => k_is)
    (case a16 => k_is)
    (case l16 => k_is)
    (case c16 => k_is)
    (case k16 => k_is)
    (case a17 => k_is)
    (case l17 => k_is)
    (case c17 => k_is)
    (case k17 => k_is)
    (case a18 => k_is)
    (case l18 => k_is)
    (case c18 => k_is)
    (case k18 => k_is)
    (case a19 => k_is)
    (case l19 => k_is)
    (case c19 => k_is)
    (case k19 => k_is)
    (case a20 => k_is)
    (case l20 => k_is)
    (case c20 => k_is)
    (case k20 => k_is)
    (case a21 => k_is)
    (case l21 => k_is)
    (case c21 => k_is)
    (case k21 => k_is)
    (case a22 => k_is)
    (case l22 => k_is)
    (case c22 => k_is)
    (case k22 => k_is)
    (case a23 => k_is)
    (case l23 => k_is)
    (case c23 => k_is)
    (case k23 => k_is)
    (case a24 => k_is)
    (case l24 => k_is)
    (case c24 => k_is)
    (case k24 => k_is)
    (case a25 => k_is)
    (case l25 => k_is)
    (case c25 => k_is)
    (case k25 => k_is)
    (case a26 => k_is)
    (case l26 => k_is)
    (case c26 => k_is)
    (case k26 => k_is)
    (case a27 => k_is)
    (case l27 => k_is)
    (case c27 => k_is)
    (case k27 => k_is)
    (case a28 => k_is)
    (case l28 => k_is)
    (case c28 => k_is)
    (case k28 => k_is)
    (case z_abs => k_is)
    (case z_len => k_is)
    (case z_list => k_is)
    (case z_range => k_is)
    (case z_min => k_is)
    (case z_max => k_is)
    (case z_tuple => k_is)
    (case z_sorted => k_is)
    (case z_isinstance => k_is)
    (case z_all => k_is)
    (case z_zip => k_is)
    (case z_bool => k_is)
    (case z_int => k_is)
    (case z_str => k_is)
    (case z_repr => k_is)
    (case z_any => k_is)
