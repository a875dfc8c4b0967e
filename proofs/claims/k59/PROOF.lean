import PyProof.Rows.All
import Wide.All
import OpenK.AllK
import Wide.FinOn
import HandS.ForMost
import HandS.Wide
import HandS.Conv
import HandS.Style
import HandS.Sort
import HandS.SortRule
import HandS.SortInts
import HandS.Deep
import HandS.Text
import HandS.Words
import HandS.IsInst
import HandS.More
import HandS.TupSets
import HandS.Zip
import HandS.Walk
import KE.KDictPairs
import PyProof.EqKinds
import HandS.TupAny
import KE.GoesMore
import HandS.TryOnly
import HandS.ExcInit
import HandS.ExcField
import HandS.SetFor
import KE.KExcIs
import HandS.ExcOwn
import HandS.TryMany
import HandS.WordsExc
import KE.KTryMore
import KE.KDictKeyed
import KE.KeyNested
import KE.KDictLaw
import KE.KDictDisplayH
import KE.SortData
import PyProof.TupleOfSeq
import KE.KDictSum
import KE.KDictWalk
import HandS.TupLen
import HandS.Small
import HandS.TupLe
import PySem.Challenge.RW_fromwithin_k59_whole_fewest_by_search
set_option Elab.async false
set_option linter.all false
set_option maxRecDepth 100000
/-! Forests grown room by room: simple ways in them are unique. -/
namespace Fw

def adj (D : List (Int × Int)) (a b : Int) : Prop := (a, b) ∈ D ∨ (b, a) ∈ D

theorem adj_symm {D : List (Int × Int)} {a b : Int} (h : adj D a b) : adj D b a := h.symm

/-- a way without a room twice -/
inductive SP (R : Int → Int → Prop) : Int → Int → List Int → Prop
  | one (a : Int) : SP R a a [a]
  | cons {a c b : Int} {p : List Int} : R a c → SP R c b p → a ∉ p → SP R a b (a :: p)

section
variable {R R' : Int → Int → Prop}
theorem SP.head {a b : Int} {p : List Int} (h : SP R a b p) : a ∈ p := by
  cases h <;> simp
theorem SP.last {a b : Int} {p : List Int} (h : SP R a b p) : b ∈ p := by
  induction h with
  | one a => simp
  | cons _ _ _ ih => exact List.mem_cons_of_mem _ ih
theorem SP.loop {a : Int} {p : List Int} (h : SP R a a p) : p = [a] := by
  cases h with
  | one => rfl
  | cons r q n => exact absurd q.last n
theorem SP.nodup {a b : Int} {p : List Int} (h : SP R a b p) : p.Nodup := by
  induction h with
  | one a => simp
  | cons _ _ n ih => exact List.nodup_cons.mpr ⟨n, ih⟩
theorem SP.snoc {a b c : Int} {p : List Int} (h : SP R a b p) (r : R b c) (n : c ∉ p) : SP R a c (p ++ [c]) := by
  induction h with
  | one a =>
    refine .cons r (.one c) ?_
    intro e
    have e : a = c := List.mem_singleton.mp e
    exact n (by rw [e]; simp)
  | cons r' q n' ih =>
    rename_i a' c' b' p'
    rw [List.mem_cons, not_or] at n
    refine .cons r' (ih r n.2) ?_
    intro e
    rcases List.mem_append.mp e with e | e
    · exact n' e
    · exact n.1 (List.mem_singleton.mp e).symm
theorem SP.map {a b : Int} {p : List Int} (h : SP R a b p) (f : ∀ x y, x ∈ p → y ∈ p → R x y → R' x y) : SP R' a b p := by
  induction h with
  | one a => exact .one a
  | cons r q n ih =>
    exact .cons (f _ _ (List.mem_cons_self ..) (List.mem_cons_of_mem _ q.head) r) (ih fun x y hx hy => f x y (List.mem_cons_of_mem _ hx) (List.mem_cons_of_mem _ hy)) n
/-- what is closed under R and holds the end holds the start, and the other way -/
theorem SP.back {S : Int → Prop} (hs : ∀ x y, R x y → S y → S x) {a b : Int} {p : List Int} (h : SP R a b p) (e : S b) : S a := by
  induction h with
  | one a => exact e
  | cons r _ _ ih => exact hs _ _ r (ih e)
theorem SP.forth {S : Int → Prop} (hs : ∀ x y, R x y → S x → S y) {a b : Int} {p : List Int} (h : SP R a b p) (e : S a) : S b := by
  induction h with
  | one a => exact e
  | cons r _ _ ih => exact ih (hs _ _ r e)
end

def Uniq (R : Int → Int → Prop) : Prop := ∀ a b p q, SP R a b p → SP R a b q → p = q

section
variable {R R' : Int → Int → Prop} {u v : Int}
/-- one more leaf v, on u -/
structure Leaf (R R' : Int → Int → Prop) (u v : Int) : Prop where
  iff : ∀ x y, R' x y ↔ (R x y ∨ (x = u ∧ y = v) ∨ (x = v ∧ y = u))
  no1 : ∀ x, ¬ R v x
  no2 : ∀ x, ¬ R x v
  ne : u ≠ v
theorem Leaf.into (L : Leaf R R' u v) {x : Int} (h : R' x v) : x = u := by
  rcases (L.iff x v).mp h with h | h | h
  · exact absurd h (L.no2 x)
  · exact h.1
  · exact absurd h.2.symm L.ne
theorem Leaf.out (L : Leaf R R' u v) {x : Int} (h : R' v x) : x = u := by
  rcases (L.iff v x).mp h with h | h | h
  · exact absurd h (L.no1 x)
  · exact absurd h.1.symm L.ne
  · exact h.2
theorem Leaf.off (L : Leaf R R' u v) {x y : Int} (hx : x ≠ v) (hy : y ≠ v) (h : R' x y) : R x y := by
  rcases (L.iff x y).mp h with h | h | h
  · exact h
  · exact absurd h.2 hy
  · exact absurd h.1 hx
theorem Leaf.avoid (L : Leaf R R' u v) {a b : Int} {p : List Int} (h : SP R' a b p) (n : v ∉ p) : SP R a b p :=
  h.map fun x y hx hy r => L.off (fun e => n (e ▸ hx)) (fun e => n (e ▸ hy)) r
theorem Leaf.free (L : Leaf R R' u v) {a b : Int} {p : List Int} (h : SP R' a b p) (ha : a ≠ v) (hb : b ≠ v) : v ∉ p := by
  induction h with
  | one a =>
    intro e
    rw [List.mem_singleton] at e
    exact ha e.symm
  | cons r q n ih =>
    rename_i a' c' b' p'
    by_cases hc : c' = v
    · subst hc
      have e := L.into r
      cases q with
      | one => exact absurd rfl hb
      | cons r2 q2 n2 =>
        rename_i c2 p2
        have e2 := L.out r2
        exact absurd (List.mem_cons_of_mem _ (e ▸ e2 ▸ q2.head)) n
    · intro e
      rw [List.mem_cons] at e
      rcases e with e | e
      · exact ha e.symm
      · exact ih hc hb e
theorem Leaf.from (L : Leaf R R' u v) {b : Int} {p : List Int} (h : SP R' v b p) (hb : b ≠ v) : ∃ p', p = v :: p' ∧ SP R u b p' := by
  cases h with
  | one => exact absurd rfl hb
  | cons r q n =>
    rename_i c p'
    have e := L.out r
    subst e
    exact ⟨p', rfl, L.avoid q n⟩
theorem Leaf.to (L : Leaf R R' u v) {a b : Int} {p : List Int} (h : SP R' a b p) : a ≠ v → b = v → ∃ p', p = p' ++ [v] ∧ SP R a u p' := by
  induction h with
  | one a =>
    intro h1 h2
    exact absurd h2 h1
  | cons r q n ih =>
    rename_i a' c' b' p'
    intro h1 h2
    by_cases hc : c' = v
    · subst hc
      subst h2
      have e := L.into r
      subst e
      have e2 := q.loop
      subst e2
      exact ⟨[a'], rfl, .one _⟩
    · obtain ⟨p2, e, q2⟩ := ih hc h2
      refine ⟨a' :: p2, by rw [e]; rfl, .cons (L.off h1 hc r) q2 ?_⟩
      intro m
      exact n (by rw [e]; exact List.mem_append_left _ m)
theorem Leaf.uniq (L : Leaf R R' u v) (U : Uniq R) : Uniq R' := by
  intro a b p q hp hq
  by_cases ha : a = v
  · subst ha
    by_cases hb : b = a
    · subst hb
      rw [hp.loop, hq.loop]
    · obtain ⟨p', e1, s1⟩ := L.from hp hb
      obtain ⟨q', e2, s2⟩ := L.from hq hb
      rw [e1, e2, U _ _ _ _ s1 s2]
  · by_cases hb : b = v
    · obtain ⟨p', e1, s1⟩ := L.to hp ha hb
      obtain ⟨q', e2, s2⟩ := L.to hq ha hb
      rw [e1, e2, U _ _ _ _ s1 s2]
    · exact U _ _ _ _ (L.avoid hp (L.free hp ha hb)) (L.avoid hq (L.free hq ha hb))
end

/-- a forest, room by room: the rooms that stand, and the doors -/
inductive Grown : List Int → List (Int × Int) → Prop
  | nil : Grown [] []
  | room {U : List Int} {E : List (Int × Int)} (v : Int) : Grown U E → v ∉ U → Grown (v :: U) E
  | door {U : List Int} {E : List (Int × Int)} (v u a b : Int) : Grown U E → v ∉ U → u ∈ U → (a = min u v ∧ b = max u v) → Grown (v :: U) ((a, b) :: E)

theorem minmax (u v a b : Int) (h : a = min u v ∧ b = max u v) : (a = u ∧ b = v ∧ u ≤ v) ∨ (a = v ∧ b = u ∧ v ≤ u) := by
  omega

theorem Grown.ends {U : List Int} {E : List (Int × Int)} (g : Grown U E) : ∀ a b, (a, b) ∈ E → a ∈ U ∧ b ∈ U ∧ a < b := by
  induction g with
  | nil => intro a b h; cases h
  | room v g n ih => intro a b h; exact ⟨List.mem_cons_of_mem _ (ih a b h).1, List.mem_cons_of_mem _ (ih a b h).2.1, (ih a b h).2.2⟩
  | door v u x y g n hu hm ih =>
    intro a b h
    have hne : u ≠ v := fun e => n (e ▸ hu)
    rw [List.mem_cons] at h
    rcases h with h | h
    · injection h with h1 h2
      subst h1 h2
      rcases minmax u v a b hm with ⟨h1, h2, h3⟩ | ⟨h1, h2, h3⟩
      · subst h1 h2
        exact ⟨List.mem_cons_of_mem _ hu, List.mem_cons_self .., by omega⟩
      · subst h1 h2
        exact ⟨List.mem_cons_self .., List.mem_cons_of_mem _ hu, by omega⟩
    · exact ⟨List.mem_cons_of_mem _ (ih a b h).1, List.mem_cons_of_mem _ (ih a b h).2.1, (ih a b h).2.2⟩

theorem Grown.nodup {U : List Int} {E : List (Int × Int)} (g : Grown U E) : E.Nodup := by
  induction g with
  | nil => exact List.nodup_nil
  | room v g n ih => exact ih
  | door v u x y g n hu hm ih =>
    refine List.nodup_cons.mpr ⟨fun h => ?_, ih⟩
    have e := g.ends x y h
    rcases minmax u v x y hm with ⟨h1, h2, _⟩ | ⟨h1, h2, _⟩
    · exact n (h2 ▸ e.2.1)
    · exact n (h1 ▸ e.1)

theorem Grown.length {U : List Int} {E : List (Int × Int)} (g : Grown U E) : E.length ≤ U.length := by
  induction g with
  | nil => exact Nat.le_refl _
  | room v g n ih => exact Nat.le_succ_of_le ih
  | door v u x y g n hu hm ih => exact Nat.succ_le_succ ih

theorem Grown.uniq {U : List Int} {E : List (Int × Int)} (g : Grown U E) : Uniq (adj E) := by
  induction g with
  | nil =>
    intro a b p q hp hq
    have k : ∀ {p : List Int}, SP (adj []) a b p → p = [a] := by
      intro p hp
      cases hp with
      | one => rfl
      | cons r _ _ => rcases r with r | r <;> cases r
    rw [k hp, k hq]
  | room v g n ih => exact ih
  | @door U E v u x y g n hu hm ih =>
    have L : Leaf (adj E) (adj ((x, y) :: E)) u v := by
      refine ⟨fun a b => ?_, fun z h => ?_, fun z h => ?_, fun e => n (e ▸ hu)⟩
      · unfold adj
        simp only [List.mem_cons, Prod.mk.injEq]
        rcases minmax u v x y hm with ⟨h1, h2, _⟩ | ⟨h1, h2, _⟩
        · subst h1 h2
          constructor
          · rintro ((h | h) | (h | h))
            · exact .inr (.inl h)
            · exact .inl (.inl h)
            · exact .inr (.inr ⟨h.2, h.1⟩)
            · exact .inl (.inr h)
          · rintro ((h | h) | h | h)
            · exact .inl (.inr h)
            · exact .inr (.inr h)
            · exact .inl (.inl h)
            · exact .inr (.inl ⟨h.2, h.1⟩)
        · subst h1 h2
          constructor
          · rintro ((h | h) | (h | h))
            · exact .inr (.inr h)
            · exact .inl (.inl h)
            · exact .inr (.inl ⟨h.2, h.1⟩)
            · exact .inl (.inr h)
          · rintro ((h | h) | h | h)
            · exact .inl (.inr h)
            · exact .inr (.inr h)
            · exact .inr (.inl ⟨h.2, h.1⟩)
            · exact .inl (.inl h)
      · rcases h with h | h
        · exact n (g.ends _ _ h).1
        · exact n (g.ends _ _ h).2.1
      · rcases h with h | h
        · exact n (g.ends _ _ h).2.1
        · exact n (g.ends _ _ h).1
    exact L.uniq ih

/-- a door stands ahead of another -/
def Dlt (a b : Int × Int) : Prop := a.1 < b.1 ∨ (a.1 = b.1 ∧ a.2 < b.2)
/-- a forest of n rooms, as an ascending list of doors -/
def Forest (n : Int) (D : List (Int × Int)) : Prop := ∃ U E, Grown U E ∧ (∀ x, x ∈ U ↔ 0 ≤ x ∧ x < n) ∧ D.Perm E ∧ U.length ≤ 8 ∧ D.Pairwise Dlt

theorem adj_perm {D E : List (Int × Int)} (h : D.Perm E) : adj D = adj E := by
  funext a b
  unfold adj
  rw [h.mem_iff, h.mem_iff]
theorem Forest.uniq {n : Int} {D : List (Int × Int)} (f : Forest n D) : Uniq (adj D) := by
  obtain ⟨U, E, g, _, p, _⟩ := f
  rw [adj_perm p]
  exact g.uniq
theorem Forest.nodup {n : Int} {D : List (Int × Int)} (f : Forest n D) : D.Nodup := by
  obtain ⟨U, E, g, _, p, _⟩ := f
  exact p.nodup_iff.mpr g.nodup
theorem Forest.up {n : Int} {D : List (Int × Int)} (f : Forest n D) : D.Pairwise Dlt := by
  obtain ⟨U, E, _, _, _, _, u⟩ := f
  exact u
theorem Forest.len {n : Int} {D : List (Int × Int)} (f : Forest n D) : D.length ≤ 8 := by
  obtain ⟨U, E, g, _, p, l, _⟩ := f
  rw [p.length_eq]
  exact Nat.le_trans g.length l
theorem Forest.ends {n : Int} {D : List (Int × Int)} (f : Forest n D) {a b : Int} (h : (a, b) ∈ D) : 0 ≤ a ∧ a < b ∧ b < n := by
  obtain ⟨U, E, g, u, p, _⟩ := f
  have e := g.ends a b (p.mem_iff.mp h)
  exact ⟨((u a).mp e.1).1, e.2.2, ((u b).mp e.2.1).2⟩
theorem Forest.adj {n : Int} {D : List (Int × Int)} (f : Forest n D) {a b : Int} (h : adj D a b) : 0 ≤ a ∧ a < n ∧ 0 ≤ b ∧ b < n := by
  rcases h with h | h
  · have e := f.ends h; omega
  · have e := f.ends h; omega

/-- the adjacent rooms, ascending -/
def nb (n : Int) (D : List (Int × Int)) (r : Int) : List Int := ((List.range n.toNat).map fun (i : Nat) => (i : Int)).filter fun o => decide ((r, o) ∈ D) || decide ((o, r) ∈ D)
theorem mem_nb {n : Int} {D : List (Int × Int)} {r o : Int} : o ∈ nb n D r ↔ (0 ≤ o ∧ o < n) ∧ adj D r o := by
  unfold nb adj
  rw [List.mem_filter, List.mem_map]
  simp only [List.mem_range, Bool.or_eq_true, decide_eq_true_eq]
  constructor
  · rintro ⟨⟨i, hi, rfl⟩, h⟩
    exact ⟨⟨by omega, by omega⟩, h⟩
  · rintro ⟨⟨h0, h1⟩, h⟩
    exact ⟨⟨o.toNat, by omega, by omega⟩, h⟩
theorem Forest.mem_nb {n : Int} {D : List (Int × Int)} (f : Forest n D) {r o : Int} : o ∈ nb n D r ↔ Fw.adj D r o := by
  rw [Fw.mem_nb]
  exact ⟨fun h => h.2, fun h => ⟨⟨(f.adj h).2.2.1, (f.adj h).2.2.2⟩, h⟩⟩
theorem range_up (n : Nat) : ((List.range n).map fun (i : Nat) => (i : Int)).Pairwise (· < ·) := by
  rw [List.pairwise_map]
  exact List.pairwise_lt_range.imp fun h => by omega
theorem nb_up (n : Int) (D : List (Int × Int)) (r : Int) : (nb n D r).Pairwise (· < ·) := (range_up _).filter _
theorem nb_len (n : Int) (D : List (Int × Int)) (r : Int) : (nb n D r).length ≤ n.toNat := by
  unfold nb
  refine Nat.le_trans (List.length_filter_le _ _) ?_
  simp

/-- two ascending lists with the same members are one -/
theorem up_ext : ∀ {xs ys : List Int}, xs.Pairwise (· < ·) → ys.Pairwise (· < ·) → (∀ x, x ∈ xs ↔ x ∈ ys) → xs = ys
  | [], [], _, _, _ => rfl
  | [], y :: ys, _, _, h => absurd ((h y).mpr (List.mem_cons_self ..)) (by simp)
  | x :: xs, [], _, _, h => absurd ((h x).mp (List.mem_cons_self ..)) (by simp)
  | x :: xs, y :: ys, hx, hy, h => by
    obtain ⟨hx1, hx2⟩ := List.pairwise_cons.mp hx
    obtain ⟨hy1, hy2⟩ := List.pairwise_cons.mp hy
    have e : x = y := by
      have h1 := (h x).mp (List.mem_cons_self ..)
      have h2 := (h y).mpr (List.mem_cons_self ..)
      rw [List.mem_cons] at h1 h2
      rcases h1 with h1 | h1
      · exact h1
      · rcases h2 with h2 | h2
        · exact h2.symm
        · have := hy1 _ h1
          have := hx1 _ h2
          omega
    subst e
    rw [up_ext hx2 hy2 fun z => ?_]
    have hz := h z
    rw [List.mem_cons, List.mem_cons] at hz
    constructor
    · intro m
      rcases hz.mp (.inr m) with e | e
      · subst e; have := hx1 _ m; omega
      · exact e
    · intro m
      rcases hz.mpr (.inr m) with e | e
      · subst e; have := hy1 _ m; omega
      · exact e
theorem up_of {xs : List Int} (h : xs.Pairwise (· ≤ ·)) (n : xs.Nodup) : xs.Pairwise (· < ·) := by
  refine (h.and n).imp ?_
  intro a b ⟨h1, h2⟩
  omega

/-- the doors from r and to r, as the law lists them -/
def outs (D : List (Int × Int)) (r : Int) : List Int := (D.filter fun d => decide (d.1 = r)).map (·.2)
def ins (D : List (Int × Int)) (r : Int) : List Int := (D.filter fun d => decide (d.2 = r)).map (·.1)
theorem mem_outs {D : List (Int × Int)} {r o : Int} : o ∈ outs D r ↔ (r, o) ∈ D := by
  unfold outs
  simp only [List.mem_map, List.mem_filter, decide_eq_true_eq]
  constructor
  · rintro ⟨⟨a, b⟩, ⟨h, rfl⟩, rfl⟩; exact h
  · intro h; exact ⟨(r, o), ⟨h, rfl⟩, rfl⟩
theorem mem_ins {D : List (Int × Int)} {r o : Int} : o ∈ ins D r ↔ (o, r) ∈ D := by
  unfold ins
  simp only [List.mem_map, List.mem_filter, decide_eq_true_eq]
  constructor
  · rintro ⟨⟨a, b⟩, ⟨h, rfl⟩, rfl⟩; exact h
  · intro h; exact ⟨(o, r), ⟨h, rfl⟩, rfl⟩
theorem nodup_map_on {α β : Type} {f : α → β} : ∀ {xs : List α}, xs.Nodup → (∀ x y, x ∈ xs → y ∈ xs → f x = f y → x = y) → (xs.map f).Nodup
  | [], _, _ => List.nodup_nil
  | x :: xs, n, h => by
    obtain ⟨n1, n2⟩ := List.nodup_cons.mp n
    rw [List.map_cons]
    refine List.nodup_cons.mpr ⟨fun m => ?_, nodup_map_on n2 fun a b ha hb => h a b (List.mem_cons_of_mem _ ha) (List.mem_cons_of_mem _ hb)⟩
    obtain ⟨y, hy, e⟩ := List.mem_map.mp m
    have := h y x (List.mem_cons_of_mem _ hy) (List.mem_cons_self ..) e
    subst this
    exact n1 hy
theorem Forest.both_nodup {n : Int} {D : List (Int × Int)} (f : Forest n D) (r : Int) : (outs D r ++ ins D r).Nodup := by
  rw [List.nodup_append]
  refine ⟨?_, ?_, ?_⟩
  · refine nodup_map_on (f.nodup.filter _) ?_
    rintro ⟨a, b⟩ ⟨c, d⟩ h1 h2 e
    have e1 := of_decide_eq_true (List.mem_filter.mp h1).2
    have e2 := of_decide_eq_true (List.mem_filter.mp h2).2
    simp only at e e1 e2
    rw [e, e1, e2]
  · refine nodup_map_on (f.nodup.filter _) ?_
    rintro ⟨a, b⟩ ⟨c, d⟩ h1 h2 e
    have e1 := of_decide_eq_true (List.mem_filter.mp h1).2
    have e2 := of_decide_eq_true (List.mem_filter.mp h2).2
    simp only at e e1 e2
    rw [e, e1, e2]
  · intro a ha b hb e
    subst e
    have h1 := f.ends (mem_outs.mp ha)
    have h2 := f.ends (mem_ins.mp hb)
    omega
theorem Forest.sorted_nb {n : Int} {D : List (Int × Int)} (f : Forest n D) {r : Int} {ys : List Int} (p : ys.Perm (outs D r ++ ins D r)) (s : ys.Pairwise (· ≤ ·)) : ys = nb n D r := by
  refine up_ext (up_of s (p.nodup_iff.mpr (f.both_nodup r))) (nb_up n D r) fun x => ?_
  rw [p.mem_iff, List.mem_append, mem_outs, mem_ins, f.mem_nb]
  exact Iff.rfl

/-- the doors to r and from r, one list behind the other, as the program lists them -/
theorem Forest.nb_eq {n : Int} {D : List (Int × Int)} (f : Forest n D) (r : Int) : ins D r ++ outs D r = nb n D r := by
  refine up_ext ?_ (nb_up n D r) fun x => ?_
  · rw [List.pairwise_append]
    refine ⟨?_, ?_, fun a ha b hb => ?_⟩
    · unfold ins
      rw [List.pairwise_map]
      refine (f.up.filter _).imp_of_mem fun {x y} hx hy h => ?_
      have e1 : x.2 = r := of_decide_eq_true (List.mem_filter.mp hx).2
      have e2 : y.2 = r := of_decide_eq_true (List.mem_filter.mp hy).2
      unfold Dlt at h
      omega
    · unfold outs
      rw [List.pairwise_map]
      refine (f.up.filter _).imp_of_mem fun {x y} hx hy h => ?_
      have e1 : x.1 = r := of_decide_eq_true (List.mem_filter.mp hx).2
      have e2 : y.1 = r := of_decide_eq_true (List.mem_filter.mp hy).2
      unfold Dlt at h
      omega
    · have h1 := f.ends (mem_ins.mp ha)
      have h2 := f.ends (mem_outs.mp hb)
      omega
  · rw [List.mem_append, mem_outs, mem_ins, f.mem_nb]
    exact or_comm
/-- how many rooms below n are not in S: it falls when one more is -/
def left (n : Nat) (S : Int → Bool) : Nat := (List.range n).countP fun (i : Nat) => !S (i : Int)
theorem countP_lt {α : Type} {p q : α → Bool} : ∀ {l : List α} {x : α}, (∀ y ∈ l, q y = true → p y = true) → x ∈ l → p x = true → q x = false → l.countP q < l.countP p
  | [], _, _, m, _, _ => by cases m
  | y :: l, x, h, m, hp, hq => by
    have hm : l.countP q ≤ l.countP p := List.countP_mono_left fun z hz => h z (List.mem_cons_of_mem _ hz)
    rw [List.countP_cons, List.countP_cons]
    rw [List.mem_cons] at m
    by_cases e : x = y
    · subst e
      rw [if_neg (by rw [hq]; exact Bool.false_ne_true), if_pos hp]
      omega
    · have ih := countP_lt (fun z hz => h z (List.mem_cons_of_mem _ hz)) (m.resolve_left e) hp hq
      have hy := h y (List.mem_cons_self ..)
      by_cases c : q y = true
      · rw [if_pos c, if_pos (hy c)]; omega
      · rw [if_neg c]; omega
theorem left_lt {n : Nat} {S S' : Int → Bool} {o : Int} (h : ∀ x, S x = true → S' x = true) (h0 : 0 ≤ o) (h1 : o < n) (hs : S o = false) (hs' : S' o = true) : left n S' < left n S := by
  refine countP_lt (x := o.toNat) (fun y _ hy => ?_) (List.mem_range.mpr (by omega)) ?_ ?_
  · cases e : S (y : Int) with
    | false => rfl
    | true => rw [h _ e] at hy; cases hy
  · rw [show ((o.toNat : Nat) : Int) = o by omega, hs]; rfl
  · rw [show ((o.toNat : Nat) : Int) = o by omega, hs']; rfl
theorem left_le (n : Nat) (S : Int → Bool) : left n S ≤ n := by
  refine Nat.le_trans List.countP_le_length ?_
  simp
end Fw
namespace Fw
open PySem PySem.Spec PyProof.Rows L2
def top (i : Nat) : Stmt := PySem.Challenge.pw_fromwithin_k59_whole_fewest_by_search.main.body.getD i (.Pass ⟨0, 0, 0, 0⟩)
abbrev sIsInt : Stmt := top 1
abbrev sIsPair : Stmt := top 2
abbrev iBlocked : Stmt := inClass (top 5) 0
abbrev sIsRoom : Stmt := top 7
abbrev sNb : Stmt := top 8
abbrev sComp : Stmt := top 9
abbrev sSteps : Stmt := top 10
abbrev sFindCountBlock : Stmt := top 12
abbrev sEmptyWantedRooms : Stmt := top 13
abbrev sUnbalancedRegions : Stmt := top 14
abbrev sOccupiedRooms : Stmt := top 15
abbrev sTotal : Stmt := top 16
abbrev sIsCountBlock : Stmt := top 17
abbrev sNetFlows : Stmt := top 18
abbrev sNetFlow : Stmt := top 19
abbrev sFewestMoves : Stmt := top 20
abbrev sStream : Stmt := top 22
abbrev sDraw : Stmt := top 23
abbrev sHouse : Stmt := top 24
abbrev sLNb : Stmt := top 25
abbrev sLRCts : Stmt := top 26
abbrev sLAnyG : Stmt := top 27
abbrev sLaw : Stmt := top 28
end Fw
namespace Fw
open PySem PySem.Spec PyProof.Rows L2
abbrev vi (ns : List Int) : List V := ns.map V.int

theorem same_upd {H : Hp} {p : Addr} {o : HO} (h : H p = none) : Same H (upd H p o) := fun b x e => by
  rw [upd_ne (ne_of_none e h)]
  exact e

/-- the stream of draws: s the list of three, A the great cells, B all cells; c bounds the count -/
structure StreamAt (H : Hp) (s A B : Addr) (c : Nat) : Prop where
  ex : ∃ (big cells : List Int) (cnt : Int), H s = some (.lst [.ref A, .ref B, .int cnt]) ∧ H A = some (.lst (vi big)) ∧ H B = some (.lst (vi cells)) ∧
    (∀ x ∈ big, 0 ≤ x) ∧ (∀ x ∈ cells, 0 ≤ x) ∧ 0 < cells.length ∧ cells.length ≤ 100 ∧ big.length ≤ 100 ∧ 0 ≤ cnt ∧ cnt ≤ c
  nAB : A ≠ B
  nsA : s ≠ A
  nsB : s ≠ B
/-- all but the stream's own lists stands as before -/
def Fr (s A : Addr) (H H' : Hp) : Prop := ∀ b o, b ≠ s → b ≠ A → H b = some o → H' b = some o
theorem Fr.trans {s A : Addr} {H H1 H2 : Hp} (a : Fr s A H H1) (b : Fr s A H1 H2) : Fr s A H H2 := fun c o h1 h2 e => b c o h1 h2 (a c o h1 h2 e)
theorem Fr.of {s A : Addr} {H H1 : Hp} (a : Same H H1) : Fr s A H H1 := fun c o _ _ e => a c o e

theorem same_put {H H1 : Hp} {p : Addr} {o : HO} (s : Same H H1) (h : H p = none) : Same H (upd H1 p o) := fun b x e => by
  rw [upd_ne (ne_of_none e h)]
  exact s _ _ e
theorem get_vi {ns : List Int} {i : Nat} {x : V} (h : (vi ns)[i]? = some x) : ∃ v, ns[i]? = some v ∧ x = .int v := by
  rw [List.getElem?_map] at h
  cases e : ns[i]? with
  | none => rw [e] at h; cases h
  | some v => rw [e] at h; exact ⟨v, rfl, (Option.some.inj h).symm⟩
theorem vi_app (a b : List Int) : vi (a ++ b) = vi a ++ vi b := List.map_append
def absI (i : Int) : Int := if i < 0 then -i else i
theorem absI_pos (i : Int) : 0 ≤ absI i := by unfold absI; split <;> omega
/-- the builtins' names are not taken -/
structure Nm (mg : Str → Option Value) : Prop where
  abs : mg "abs" = none
  len : mg "len" = none
  list : mg "list" = none
  range : mg "range" = none
  min : mg "min" = none
  max : mg "max" = none
  tuple : mg "tuple" = none
  sorted : mg "sorted" = none
  isinstance : mg "isinstance" = none
  all : mg "all" = none
  zip : mg "zip" = none
  bool : mg "bool" = none
  int : mg "int" = none
  str : mg "str" = none
  repr : mg "repr" = none

/-! ### data -/
theorem dp_ints {K : PySem.W.Frag} {H : Hp} : ∀ ns : List Int, DpAll K H (vi ns) (ns.map PyData.int)
  | [] => .nil
  | n :: ns => .cons (.int n) (dp_ints ns)
theorem lay_ints : ∀ ns : List Int, PyData.canLayAll0 (ns.map PyData.int) = true
  | [] => by simp [PyData.canLayAll0]
  | n :: ns => by
    rw [List.map_cons, PyData.canLayAll0, lay_ints ns, PyData.canLay0]
    rfl
theorem deep_ints : ∀ ns : List Int, PyData.depthAll (ns.map PyData.int) = 0
  | [] => by simp [PyData.depthAll]
  | n :: ns => by
    rw [List.map_cons, PyData.depthAll, deep_ints ns, PyData.depth]
    rfl
theorem shaped_list (ns : List Int) : SeqAt.shaped (.list (ns.map PyData.int)) = true := by
  unfold SeqAt.shaped
  rw [PyData.canLay0, lay_ints, PyData.depth, deep_ints]
  decide
theorem shaped_tup (ns : List Int) : SeqAt.shaped (.tuple (ns.map PyData.int)) = true := by
  unfold SeqAt.shaped
  rw [PyData.canLay0, lay_ints, PyData.depth, deep_ints]
  decide
theorem eqv_nil (ns : List Int) : PyData.eqv (.list (ns.map PyData.int)) (.list []) = ns.isEmpty := by
  rw [PyData.eqv]
  cases ns with
  | nil => rw [List.map_nil, PyData.eqvAll]; rfl
  | cons n ns => rw [List.map_cons, PyData.eqvAll]; rfl
theorem ix0 (n : Nat) : ixN (n + 1) 0 = some 0 := by
  unfold ixN
  rw [if_pos (by omega), if_pos (by omega)]
  rfl
theorem atI0 {α : Type} {x : α} {xs : List α} : atI (x :: xs) 0 = some x := atI_nat (j := 0) rfl
theorem atI1 {α : Type} {x y : α} {xs : List α} : atI (x :: y :: xs) 1 = some y := atI_nat (j := 1) rfl
theorem atI2 {α : Type} {x y z : α} {xs : List α} : atI (x :: y :: z :: xs) 2 = some z := atI_nat (j := 2) rfl

section
variable {P : Program} {w : World} {K : PySem.W.Frag} {mg : Str → Option Value} {base : Heap}

def spStream (K : PySem.W.Frag) : Sp := fun vs H Q _ => ∃ (a : Addr) (ns : List Int), vs = [.ref a] ∧ SqL K H a (ns.map V.int) ∧ ns.length ≤ 63 ∧
  ∀ H' s A B, Same H H' → H s = none → H A = none → StreamAt H' s A B 0 → Q (.ref s) H'

theorem scStream : FnScope ["_law_script", "_law_cells", "_law_cell"] ["_law_script"] (defScope sStream) := ⟨rfl, rfl, rfl, by decide +kernel, rfl, by decide +kernel, by decide +kernel⟩
theorem ok_stream {f : Addr} {fd : FuncData} {k : Nat} (F : Fun K "_law_stream" "_law_stream" sStream f fd) (T : Nm mg) : FnOk P w K mg base CX0 (k + 1) f fd ["_law_script"] (spStream K) := by
  refine F.ok scStream (fun vs H Q E h => ?_) (fun cdv A outer s H vs Q E hr h => ?_)
  · obtain ⟨a, ns, rfl, _⟩ := h
    rfl
  · obtain ⟨a, ns, rfl, hS, hlen, q⟩ := h
    refine ⟨_, pss_cons (ps_setLc (i := 1) (own := [("_law_cell", 2)]) (g := gName 2) (by rfl) scStream.nd rfl rfl (sw_true rfl rfl rfl (by decide +kernel)) (pi_list (pv 0))
        (blkOk_by (own := [("_law_cell", 2)]) (N := ["_law_script", "_law_cells", "_law_cell"]) (sc := defScope sStream) (by decide +kernel))
        (fun _ _ _ _ _ => pg_name (i := 2) scStream.nd rfl (Or.inl rfl)) (fun _ _ _ _ _ => pts_nil)
        (fun _ _ _ _ _ => pe_callB call_abs (by rfl) T.abs (by decide +kernel) (pa_cons (pv 2) pa_nil)))
      (pss_one (ps_ret (pe_lst (pa_cons
        (pe_lc (own := [("_law_cell", 2)]) (g := gName 2) (by rfl) scStream.nd (pi_list (pv 1))
          (blkOk_by (own := [("_law_cell", 2)]) (N := ["_law_script", "_law_cells", "_law_cell"]) (sc := defScope sStream) (by decide +kernel))
          (fun _ _ _ _ _ => pg_name (i := 2) scStream.nd rfl (Or.inl rfl)) (fun _ _ _ _ _ => pts_one (pt_cmpR op_ge (pv 2) (pe_op op_pow pe_int pe_int) (nomark _)))
          (fun _ _ _ _ _ => pv 2))
        (pa_cons (pe_op op_cat (pv 1) (pe_lst (pa_cons (pe_op op_add (pe_callB call_len_seq (by rfl) T.len PySem.boot_len (pa_cons (pv 1) pa_nil)) pe_int) pa_nil)))
        (pa_cons pe_int pa_nil)))))), ?_⟩
    refine ⟨.ref a, rfl, a, rfl, ⟨_, hS⟩, fun D hD => lc_list (K := K) (a := a) (xs := vi ns) (fun i H1 => Same H H1 ∧ H1 D = some (.lst (vi ((ns.map absI).take i))))
      ⟨same_upd hD, upd_same⟩ (fun i H1 _ h => h.1.seq hS) ?_ ?_⟩
    · rintro i x H1 hx ⟨s1, e1⟩
      obtain ⟨v, ev, rfl⟩ := get_vi hx
      refine ⟨rfl, ?_⟩
      unfold tYes
      refine iteT ?_
      refine ⟨_, rfl, v, rfl, _, e1, ?_, ?_, ?_⟩
      · rw [List.length_map, List.length_take, List.length_map]
        exact small1000 (by omega)
      · exact same_put s1 hD
      · rw [upd_same, List.take_add_one, List.getElem?_map, ev, vi_app]
        rfl
    · rintro H1 ⟨s1, e1⟩
      rw [List.length_map, ← List.length_map (f := absI), List.take_length] at e1
      refine ⟨_, rfl, D, rfl, ⟨_, SqL.of e1⟩, fun G hG => lc_list (K := K) (a := D) (xs := vi (ns.map absI)) (fun i H2 => Same H1 H2 ∧ H2 G = some (.lst (vi (((ns.map absI).take i).filter fun x => decide (10 ^ 18 ≤ x)))))
        ⟨same_upd hG, upd_same⟩ (fun i H2 _ h => h.1.seq (SqL.of e1)) ?_ ?_⟩
      · rintro i x H2 hx ⟨s2, e2⟩
        obtain ⟨v, ev, rfl⟩ := get_vi hx
        refine ⟨rfl, _, rfl, _, _, rfl, rfl, ⟨by decide, by decide, by decide⟩, _, _, rfl, rfl, _, rfl, ?_⟩
        have et : ((ns.map absI).take (i + 1)).filter (fun x => decide (10 ^ 18 ≤ x)) = ((ns.map absI).take i).filter (fun x => decide (10 ^ 18 ≤ x)) ++ (if 10 ^ 18 ≤ v then [v] else []) := by
          rw [List.take_add_one, ev, List.filter_append]
          congr 1
          by_cases c : (10 : Int) ^ 18 ≤ v
          · rw [if_pos c]
            show List.filter _ [v] = [v]
            rw [List.filter_cons_of_pos (by simpa using c)]
            rfl
          · rw [if_neg c]
            show List.filter _ [v] = []
            rw [List.filter_cons_of_neg (by simpa using c)]
            rfl
        refine ite2 (fun c => ?_) (fun c => ?_)
        · have c : (10 : Int) ^ 18 ≤ v := of_decide_eq_true c
          refine ⟨_, rfl, _, e2, ?_, same_put s2 hG, ?_⟩
          · rw [List.length_map]
            refine small1000 (Nat.le_trans (List.length_filter_le _ _) ?_)
            rw [List.length_take, List.length_map]
            omega
          · rw [upd_same, et, if_pos c, vi_app]
            rfl
        · have c : ¬ (10 : Int) ^ 18 ≤ v := fun e => c (decide_eq_true e)
          refine ⟨s2, ?_⟩
          rw [et, if_neg c, List.append_nil]
          exact e2
      · rintro H2 ⟨s2, e2⟩
        rw [List.length_map, List.take_length] at e2
        have e1' := s2 _ _ e1
        refine ⟨_, rfl, _, rfl, D, _, rfl, .inl (SqL.of e1'), _, _, rfl, rfl, by show 1 ≤ sizeLine; decide, fun O hO => ?_⟩
        have e1'' := same_upd (o := .lst [.int (((vi (ns.map absI)).length : Nat) + 3)]) hO _ _ e1'
        refine ⟨D, O, _, _, rfl, rfl, e1'', upd_same, ?_, fun B hB => ?_⟩
        · simp only [List.length_map, List.length_append, List.length_cons, List.length_nil]
          exact Nat.le_of_lt (small1000 (by omega))
        refine ⟨by show 3 ≤ sizeLine; decide, fun S hS' => ?_⟩
        have nGS : S ≠ G := fun e => by
          rw [e] at hS'
          exact absurd hS' (by rw [same_upd hB _ _ (same_upd hO _ _ e2)]; exact nofun)
        have nBS : S ≠ B := fun e => by
          rw [e, upd_same] at hS'
          cases hS'
        have nGB : G ≠ B := fun e => by
          rw [← e] at hB
          exact absurd hB (by rw [same_upd hO _ _ e2]; exact nofun)
        have sA : Same H (upd (upd H2 O (.lst [.int (((vi (ns.map absI)).length : Nat) + 3)])) B (.lst (vi (ns.map absI) ++ [.int (((vi (ns.map absI)).length : Nat) + 3)]))) := (s1.trans s2).trans ((same_upd hO).trans (same_upd hB))
        refine q _ S G B (sA.trans (same_upd hS')) (sA.free hS') (s1.free hG) ⟨⟨(ns.map absI).filter (fun x => decide (10 ^ 18 ≤ x)), ns.map absI ++ [((ns.length : Nat) : Int) + 3], 0, upd_same, ?_, ?_, ?_, ?_, ?_, ?_, ?_, Int.le_refl _, Int.le_refl _⟩, nGB, nGS, nBS⟩
        · rw [upd_ne nGS.symm, upd_ne nGB, same_upd hO _ _ e2]
        · rw [upd_ne nBS.symm, upd_same, vi_app]
          show some (HO.lst (vi (ns.map absI) ++ [V.int (((vi (ns.map absI)).length : Nat) + 3)])) = _
          rw [List.length_map, List.length_map]
          rfl
        · intro x hx
          obtain ⟨y, _, rfl⟩ := List.mem_map.mp (List.mem_filter.mp hx).1
          exact absI_pos y
        · intro x hx
          rcases List.mem_append.mp hx with hx | hx
          · obtain ⟨y, _, rfl⟩ := List.mem_map.mp hx
            exact absI_pos y
          · rw [List.mem_singleton.mp hx]
            omega
        · simp
        · simp only [List.length_map, List.length_append, List.length_cons, List.length_nil]
          omega
        · refine Nat.le_trans (List.length_filter_le _ _) ?_
          rw [List.length_map]
          omega

theorem lg60 {m : Int} (h0 : 0 < m) (h1 : m < 2 ^ 60) : m.natAbs.log2 < 9000 := by
  have : m.natAbs ≠ 0 := by omega
  have h2 : m.natAbs < 2 ^ 60 := by omega
  have := (Nat.log2_lt this).mpr h2
  omega
def spDraw : Sp := fun vs H Q _ => ∃ (s A B : Addr) (c : Nat) (m : Int), vs = [.ref s, .int m] ∧ StreamAt H s A B c ∧ c < 2 ^ 40 ∧ 0 < m ∧ m < 2 ^ 60 ∧
  ∀ H' r, StreamAt H' s A B (c + 1) → Fr s A H H' → 0 ≤ r → r < m → Q (.int r) H'

theorem scDraw : FnScope ["_law_stream_here", "_law_many", "_law_rest", "_law_turn", "_law_cell", "_law_mixed"] ["_law_stream_here", "_law_many"] (defScope sDraw) := ⟨rfl, rfl, rfl, by decide +kernel, rfl, by decide +kernel, by decide +kernel⟩
theorem ok_draw {f : Addr} {fd : FuncData} {k : Nat} (F : Fun K "_law_draw" "_law_draw" sDraw f fd) (T : Nm mg) : FnOk P w K mg base CX0 (k + 1) f fd ["_law_stream_here", "_law_many"] spDraw := by
  refine F.ok scDraw (fun vs H Q E h => ?_) (fun cdv A outer s H vs Q E hr h => ?_)
  · obtain ⟨s, A, B, c, m, rfl, _⟩ := h
    rfl
  · obtain ⟨s, A, B, c, m, rfl, hS, hc, hm0, hm1, q⟩ := h
    refine ⟨_, pss_cons (ps_while PassesOwn.never (pt_cmpR (op_neD hr.units) (pe_ix ix_list (pv 0) pe_int (fun _ _ => rfl)) (pe_lst pa_nil) (nomark _))
        (pss_cons (ps_set (i := 2) scDraw.nd rfl (.inl rfl) (pe_ix ix_list (pe_ix ix_list (pv 0) pe_int (fun _ _ => rfl)) pe_int (fun _ _ => rfl)))
        (pss_cons (ps_if (pt_cmpR op_gt (pv 2) pe_int (nomark _))
          (pss_cons (ps_asg (pe_op op_fdivW (pv 2) (pv 1)) (pg_sub (pe_ix ix_list (pv 0) pe_int (fun _ _ => rfl)) pe_int set_list))
          (pss_one (ps_ret (pe_op op_modN (pv 2) (pv 1))))) pss_nil)
        (pss_one (ps_expr (pe_bm PySem.F.plainAttrs_list PySem.F.slot_list_pop PySem.F.type_list_pop mt_popAt (pe_ix ix_list (pv 0) pe_int (fun _ _ => rfl)) (pa_cons pe_int pa_nil)))))))
      (pss_cons (ps_set (i := 3) scDraw.nd rfl (.inl rfl) (pe_op op_add (pe_ix ix_list (pv 0) pe_int (fun _ _ => rfl)) pe_int))
      (pss_cons (ps_asg (pv 3) (pg_sub (pv 0) pe_int set_list))
      (pss_cons (ps_set (i := 4) scDraw.nd rfl (.inl rfl) (pe_op op_modN (pe_ix ix_list (pe_ix ix_list (pv 0) pe_int (fun _ _ => rfl)) (pe_op op_modN (pv 3) (pe_callB call_len_seq (by rfl) T.len PySem.boot_len (pa_cons (pe_ix ix_list (pv 0) pe_int (fun _ _ => rfl)) pa_nil))) (fun _ _ => rfl)) pe_int))
      (pss_cons (ps_set (i := 5) scDraw.nd rfl (.inl rfl) (pe_op op_add (pe_op op_add (pe_op op_mul (pv 4) (pe_op op_add pe_int (pe_op op_mul pe_int (pv 3)))) (pe_op op_mul (pe_op op_mul pe_int (pv 3)) (pv 3))) pe_int))
      (pss_cons (ps_set (i := 5) scDraw.nd rfl (.inl rfl) (pe_op op_modN (pv 5) pe_int))
      (pss_one (ps_ret (pe_op op_modN (pe_op op_fdivN (pe_op op_modN (pe_op op_mul (pv 5) (pv 5)) pe_int) pe_int) (pv 1))))))))), ?_⟩
    have fm : ∀ x y : Int, 0 < y → 0 ≤ x.fmod y ∧ x.fmod y < y := fun x y hy => by
      rw [Int.fmod_eq_emod_of_nonneg x (Int.le_of_lt hy)]
      exact ⟨Int.emod_nonneg x (by omega), Int.emod_lt_of_pos x hy⟩
    refine ⟨fun n σ H' => ∃ y2, σ = [some (.ref s), some (.int m), y2, none, none, none] ∧ StreamAt H' s A B c ∧ Fr s A H H' ∧ ∃ big : List Int, H' A = some (.lst (vi big)) ∧ n = big.length, ?_, ?_⟩
    · obtain ⟨big, cells, cnt, _, h2, _⟩ := hS.ex
      exact ⟨_, none, rfl, hS, fun _ _ _ _ e => e, big, h2, rfl⟩
    rintro n σ H1 ⟨y2, rfl, hS1, fr1, big', hb', rfl⟩
    obtain ⟨big, cells, cnt, h1, h2, h3, p1, p2, l0, l1, l2, c0, c1⟩ := hS1.ex
    have eb : vi big' = vi big := by
      rw [h2] at hb'
      injection hb' with hb'
      injection hb' with hb'
      exact hb'.symm
    have el : big'.length = big.length := by
      have := congrArg List.length eb
      simpa using this
    rw [el]
    refine ⟨_, rfl, s, _, _, _, rfl, rfl, SqL.of h1, atI0, Nat.zero_le _, fun e he => ?_⟩
    have n1 : s ≠ e := ne_of_none h1 he
    have n2 : A ≠ e := ne_of_none h2 he
    have n3 : B ≠ e := ne_of_none h3 he
    have h1' : (upd H1 e (.lst [])) s = _ := (upd_ne n1).trans h1
    have h2' : (upd H1 e (.lst [])) A = _ := (upd_ne n2).trans h2
    have h3' : (upd H1 e (.lst [])) B = _ := (upd_ne n3).trans h3
    have sm : Same H1 (upd H1 e (.lst [])) := same_upd he
    refine ⟨.list (big.map .int), .list [], .lst (SqL.of h2') (dp_ints big), .lst (SqL.of upd_same) .nil, shaped_list big, shaped_list [], _, rfl, ?_⟩
    rw [eqv_nil]
    cases big with
    | nil =>
      refine iteF ?_
      -- turn = s[2] + 1; s[2] = turn
      refine ⟨_, rfl, s, _, _, _, rfl, rfl, SqL.of h1', atI2, _, _, rfl, rfl, ?_⟩
      refine ⟨_, rfl, _, rfl, s, _, _, 2, rfl, rfl, h1', rfl, ?_⟩
      have h3s : (upd (upd H1 e (.lst [])) s (.lst ([V.ref A, V.ref B, V.int cnt].set 2 (V.int (cnt + 1))))) B = _ := (upd_ne hS1.nsB.symm).trans h3'
      have h2s : (upd (upd H1 e (.lst [])) s (.lst ([V.ref A, V.ref B, V.int cnt].set 2 (V.int (cnt + 1))))) A = _ := (upd_ne hS1.nsA.symm).trans h2'
      have hS2 : StreamAt (upd (upd H1 e (.lst [])) s (.lst ([V.ref A, V.ref B, V.int cnt].set 2 (V.int (cnt + 1))))) s A B (c + 1) :=
        ⟨⟨[], cells, cnt + 1, upd_same, h2s, h3s, p1, p2, l0, l1, l2, by omega, by omega⟩, hS1.nAB, hS1.nsA, hS1.nsB⟩
      have fr2 : Fr s A H (upd (upd H1 e (.lst [])) s (.lst ([V.ref A, V.ref B, V.int cnt].set 2 (V.int (cnt + 1))))) := fun b o z1 z2 z3 => by
        rw [upd_ne z1]
        exact sm _ _ (fr1 b o z1 z2 z3)
      have h1s : (upd (upd H1 e (.lst [])) s (.lst ([V.ref A, V.ref B, V.int cnt].set 2 (V.int (cnt + 1))))) s = some (.lst [V.ref A, V.ref B, V.int (cnt + 1)]) := upd_same
      have hl : (0 : Int) < (cells.length : Nat) := by omega
      obtain ⟨g0, g1⟩ := fm (cnt + 1) ((cells.length : Nat) : Int) hl
      have hj : ((cnt + 1).fmod ((cells.length : Nat) : Int)).toNat < cells.length := by omega
      have hat : atI (vi cells) ((cnt + 1).fmod (((vi cells).length : Nat) : Int)) = some (V.int cells[((cnt + 1).fmod ((cells.length : Nat) : Int)).toNat]) := by
        rw [List.length_map]
        have := atI_nat (xs := vi cells) (j := ((cnt + 1).fmod ((cells.length : Nat) : Int)).toNat) (v := V.int cells[((cnt + 1).fmod ((cells.length : Nat) : Int)).toNat]) (by rw [List.getElem?_map, List.getElem?_eq_getElem hj]; rfl)
        rw [show ((((cnt + 1).fmod ((cells.length : Nat) : Int)).toNat : Nat) : Int) = (cnt + 1).fmod ((cells.length : Nat) : Int) by omega] at this
        exact this
      refine ⟨_, rfl, s, _, _, _, rfl, rfl, SqL.of h1s, atI1, _, rfl, _, rfl, s, _, _, _, rfl, rfl, SqL.of h1s, atI1, B, _, rfl, .inl (SqL.of h3s), _, _, rfl, rfl, by rw [List.length_map]; omega, B, _, _, _, rfl, rfl, SqL.of h3s, hat, _, _, rfl, rfl, (by show (2147483647 : Int) ≠ 0; decide), ?_⟩
      generalize cells[((cnt + 1).fmod ((cells.length : Nat) : Int)).toNat] = x
      obtain ⟨x0, x1⟩ := fm x 2147483647 (by decide)
      refine ⟨_, rfl, _, rfl, _, _, rfl, rfl, .inl ⟨by decide, by decide⟩, _, _, rfl, rfl, _, _, rfl, rfl, .inl ⟨by omega, by omega⟩, ?_⟩
      refine ⟨_, rfl, _, _, rfl, rfl, .inl ⟨by decide, by decide⟩, _, rfl, _, _, rfl, rfl, .inr ⟨by omega, by omega⟩, _, _, rfl, rfl, _, _, rfl, rfl, ?_⟩
      refine ⟨_, rfl, _, _, rfl, rfl, (by show (2147483629 : Int) ≠ 0; decide), ?_⟩
      refine ⟨_, rfl, _, rfl, _, _, rfl, rfl, .inl ?_, _, _, rfl, rfl, (by show (2147483587 : Int) ≠ 0; decide), _, _, rfl, rfl, ⟨by decide, by decide⟩, _, rfl, _, _, rfl, rfl, by omega, ?_⟩
      · generalize (x.fmod 2147483647 * _ + _ + _ : Int) = y
        obtain ⟨y0, y1⟩ := fm y 2147483629 (by decide)
        exact ⟨by omega, by omega⟩
      · exact q _ _ hS2 fr2 (fm _ m hm0).1 (fm _ m hm0).2
    | cons x r =>
      refine iteT ⟨_, fun _ _ h => h, ?_⟩
      refine ⟨_, rfl, s, _, _, _, rfl, rfl, SqL.of h1', atI0, A, _, _, _, rfl, rfl, SqL.of h2', atI0, ?_⟩
      refine ⟨_, rfl, _, _, rfl, rfl, _, rfl, ?_⟩
      have hx : 0 ≤ x := p1 x (List.mem_cons_self ..)
      have hr' : ∀ y ∈ r, 0 ≤ y := fun y hy => p1 y (List.mem_cons_of_mem _ hy)
      refine ite2 (fun cx => ?_) (fun cx => ?_)
      · refine ⟨_, rfl, _, rfl, _, _, rfl, rfl, ⟨hm0, lg60 hm0 hm1⟩, ?_⟩
        refine ⟨_, rfl, s, _, _, _, rfl, rfl, SqL.of h1', atI0, A, _, _, 0, rfl, rfl, h2', ix0 _, ?_⟩
        refine ⟨_, rfl, _, rfl, _, _, rfl, rfl, by omega, ?_⟩
        refine q _ _ ⟨⟨x / m :: r, cells, cnt, (upd_ne hS1.nsA).trans h1', upd_same, (upd_ne hS1.nAB.symm).trans h3', ?_, p2, l0, l1, l2, c0, by omega⟩, hS1.nAB, hS1.nsA, hS1.nsB⟩ ?_ (fm x m hm0).1 (fm x m hm0).2
        · intro y hy
          rcases List.mem_cons.mp hy with rfl | hy
          · exact Int.ediv_nonneg hx (Int.le_of_lt hm0)
          · exact hr' y hy
        · intro b o z1 z2 z3
          rw [upd_ne z2]
          exact sm _ _ (fr1 b o z1 z2 z3)
      · refine ⟨_, rfl, s, _, _, _, rfl, rfl, SqL.of h1', atI0, .inl ⟨rfl, _, SqL.of h2'⟩, A, _, _, 0, _, rfl, rfl, h2', by decide, by decide, (ixN_seq (ix0 _)).1, rfl, ?_⟩
        refine ⟨r.length, by simp, _, rfl, ⟨⟨r, cells, cnt, (upd_ne hS1.nsA).trans h1', upd_same, (upd_ne hS1.nAB.symm).trans h3', hr', p2, l0, l1, by simp at l2; omega, c0, c1⟩, hS1.nAB, hS1.nsA, hS1.nsB⟩, ?_, r, upd_same, rfl⟩
        intro b o z1 z2 z3
        rw [upd_ne z2]
        exact sm _ _ (fr1 b o z1 z2 z3)
end
end Fw
namespace Fw
open PySem PySem.Spec PyProof.Rows L2

structure Def (K : PySem.W.Frag) (mg : Str → Option Value) (x : Str) (st : Stmt) (f : Addr) (fd : FuncData) (ps : List Str) : Prop where
  F : Fun K x x st f fd
  b : Binds K fd ps []
  g : mg x = some (.ref f)

section
variable {s A B : Addr} {H H1 H2 : Hp} {c : Nat}
theorem StreamAt.ne (hS : StreamAt H s A B c) {L : Addr} (h : H L = none) : s ≠ L ∧ A ≠ L ∧ B ≠ L := by
  obtain ⟨big, cells, cnt, h1, h2, h3, _⟩ := hS.ex
  exact ⟨ne_of_none h1 h, ne_of_none h2 h, ne_of_none h3 h⟩
theorem StreamAt.put (hS : StreamAt H s A B c) {L : Addr} {o : HO} (n : s ≠ L ∧ A ≠ L ∧ B ≠ L) : StreamAt (upd H L o) s A B c := by
  obtain ⟨big, cells, cnt, h1, h2, h3, r⟩ := hS.ex
  exact ⟨⟨big, cells, cnt, (upd_ne n.1).trans h1, (upd_ne n.2.1).trans h2, (upd_ne n.2.2).trans h3, r⟩, hS.nAB, hS.nsA, hS.nsB⟩
theorem StreamAt.mono (hS : StreamAt H s A B c) {c' : Nat} (h : c ≤ c') : StreamAt H s A B c' := by
  obtain ⟨big, cells, cnt, h1, h2, h3, p1, p2, l0, l1, l2, c0, c1⟩ := hS.ex
  exact ⟨⟨big, cells, cnt, h1, h2, h3, p1, p2, l0, l1, l2, c0, by omega⟩, hS.nAB, hS.nsA, hS.nsB⟩
theorem StreamAt.same (hS : StreamAt H s A B c) (e : Same H H1) : StreamAt H1 s A B c := by
  obtain ⟨big, cells, cnt, h1, h2, h3, r⟩ := hS.ex
  exact ⟨⟨big, cells, cnt, e _ _ h1, e _ _ h2, e _ _ h3, r⟩, hS.nAB, hS.nsA, hS.nsB⟩
theorem StreamAt.tup (hS : StreamAt H s A B c) {t : Addr} {xs : List V} (h : H t = some (.tup xs)) : t ≠ s ∧ t ≠ A ∧ t ≠ B := by
  obtain ⟨big, cells, cnt, h1, h2, h3, _⟩ := hS.ex
  exact ⟨ne_of h h1 (by intro q; cases q), ne_of h h2 (by intro q; cases q), ne_of h h3 (by intro q; cases q)⟩
theorem Fr.refl : Fr s A H H := fun _ _ _ _ e => e
theorem Fr.free (f : Fr s A H H1) (hS : StreamAt H1 s A B c) {L : Addr} (h : H1 L = none) : H L = none := by
  obtain ⟨n1, n2, _⟩ := hS.ne h
  cases e : H L with
  | none => rfl
  | some o =>
    rw [f L o n1.symm n2.symm e] at h
    cases h
theorem Fr.put (f : Fr s A H H1) {L : Addr} {o : HO} (h : H L = none) : Fr s A H (upd H1 L o) := fun b u z1 z2 e => by
  rw [upd_ne (ne_of_none e h)]
  exact f b u z1 z2 e
theorem Fr.tup (f : Fr s A H H1) (hS : StreamAt H s A B c) {t : Addr} {xs : List V} (h : H t = some (.tup xs)) : H1 t = some (.tup xs) :=
  f t _ (hS.tup h).1 (hS.tup h).2.1 h
end

/-- a house, as it stands in memory -/
def HouseAt (H : Hp) (h : Addr) (n : Int) (D : List (Int × Int)) : Prop := ∃ (q : Addr) (ps : List (Addr × Int × Int)),
  H h = some (.tup [.int n, .ref q]) ∧ H q = some (.tup (ps.map fun p => V.ref p.1)) ∧ D = ps.map (·.2) ∧ ∀ p ∈ ps, H p.1 = some (.tup [.int p.2.1, .int p.2.2])
theorem HouseAt.same {H H' : Hp} {h : Addr} {n : Int} {D : List (Int × Int)} (x : HouseAt H h n D) (e : Same H H') : HouseAt H' h n D := by
  obtain ⟨q, ps, h1, h2, h3, h4⟩ := x
  exact ⟨q, ps, e _ _ h1, e _ _ h2, h3, fun p hp => e _ _ (h4 p hp)⟩
theorem HouseAt.fr {s A B : Addr} {c : Nat} {H H' : Hp} {h : Addr} {n : Int} {D : List (Int × Int)} (x : HouseAt H h n D) (hS : StreamAt H s A B c) (e : Fr s A H H') : HouseAt H' h n D := by
  obtain ⟨q, ps, h1, h2, h3, h4⟩ := x
  exact ⟨q, ps, e.tup hS h1, e.tup hS h2, h3, fun p hp => e.tup hS (h4 p hp)⟩

theorem perm_map_inv {α β : Type} {f : α → β} : ∀ {ys zs : List β}, ys.Perm zs → ∀ {ps : List α}, zs = ps.map f → ∃ ps' : List α, ps'.Perm ps ∧ ys = ps'.map f := by
  intro ys zs h
  induction h with
  | nil =>
    intro ps e
    cases ps with
    | nil => exact ⟨[], .nil, rfl⟩
    | cons p r => cases e
  | cons x _ ih =>
    intro ps e
    cases ps with
    | nil => cases e
    | cons p r =>
      rw [List.map_cons] at e
      injection e with e1 e2
      obtain ⟨ps', hp, he⟩ := ih e2
      exact ⟨p :: ps', hp.cons p, by rw [he, List.map_cons, e1]⟩
  | swap x y l =>
    intro ps e
    match ps, e with
    | p :: q :: r, e =>
      rw [List.map_cons, List.map_cons] at e
      injection e with e1 e2
      injection e2 with e2 e3
      exact ⟨q :: p :: r, List.Perm.swap p q r, by rw [List.map_cons, List.map_cons, e1, e2, e3]⟩
  | trans _ _ ih1 ih2 =>
    intro ps e
    obtain ⟨p2, h2, e2⟩ := ih2 e
    obtain ⟨p1, h1, e1⟩ := ih1 e2
    exact ⟨p1, h1.trans h2, e1⟩

theorem rg_vi (n : Int) : rgV 0 n = vi ((List.range n.toNat).map fun (i : Nat) => (i : Int)) := by
  unfold rgV vi
  rw [List.map_map, Int.sub_zero]
  refine List.map_congr_left fun i _ => ?_
  show V.int (0 + (i : Int)) = V.int (i : Int)
  rw [Int.zero_add]
def rg (n : Int) : List Int := (List.range n.toNat).map fun (i : Nat) => (i : Int)
theorem mem_rg {n x : Int} : x ∈ rg n ↔ 0 ≤ x ∧ x < n := by
  unfold rg
  rw [List.mem_map]
  constructor
  · rintro ⟨i, hi, rfl⟩
    rw [List.mem_range] at hi
    omega
  · rintro ⟨h0, h1⟩
    exact ⟨x.toNat, List.mem_range.mpr (by omega), by omega⟩
theorem rg_len (n : Int) : (rg n).length = n.toNat := by simp [rg]
theorem rg_nodup (n : Int) : (rg n).Nodup := (range_up n.toNat).imp fun h => by omega

theorem vi_erase (ns : List Int) (i : Nat) : (vi ns).eraseIdx i = vi (ns.eraseIdx i) := by
  induction ns generalizing i with
  | nil => rfl
  | cons n ns ih =>
    cases i with
    | zero => rfl
    | succ i =>
      show V.int n :: (vi ns).eraseIdx i = V.int n :: vi (ns.eraseIdx i)
      rw [ih]
theorem erase_perm : ∀ {ns : List Int} {i : Nat} (h : i < ns.length), (ns[i] :: ns.eraseIdx i).Perm ns
  | n :: ns, 0, _ => List.Perm.refl _
  | n :: ns, i + 1, h => by
    have h' : i < ns.length := by simpa using h
    show (ns[i] :: n :: ns.eraseIdx i).Perm (n :: ns)
    exact (List.Perm.swap _ _ _).trans ((erase_perm (by simpa using h)).cons n)
theorem lacks {r : Int} (h0 : 0 ≤ r) (h1 : r < 3) : ∃ lk : Int, atI [V.int 0, V.int 0, V.int 6] r = some (.int lk) ∧ (lk = 0 ∨ lk = 6) := by
  have : r = 0 ∨ r = 1 ∨ r = 2 := by omega
  rcases this with rfl | rfl | rfl
  · exact ⟨0, atI0, .inl rfl⟩
  · exact ⟨0, atI1, .inl rfl⟩
  · exact ⟨6, atI2, .inr rfl⟩
theorem pick3 {r r1 : Int} {i : Nat} (h0 : 0 ≤ r) (h1 : r < 3) (a0 : 0 ≤ r1) (a1 : r1 < 1 + (i : Int)) : ∃ ix : Int, atI [V.int (1 + (i : Int) - 1), V.int 0, V.int r1] r = some (.int ix) ∧ 0 ≤ ix ∧ ix ≤ i := by
  have : r = 0 ∨ r = 1 ∨ r = 2 := by omega
  rcases this with rfl | rfl | rfl
  · exact ⟨_, atI0, by omega, by omega⟩
  · exact ⟨_, atI1, by omega, by omega⟩
  · exact ⟨_, atI2, by omega, by omega⟩
/-- the two ints of a pair in memory -/
def twoOf (H : Hp) (x : V) : Int × Int := match x with
  | .ref t => match H t with
    | some (.tup [.int i, .int j]) => (i, j)
    | _ => (0, 0)
  | _ => (0, 0)
theorem twoOf_eq {H : Hp} {t : Addr} {d : Int × Int} (h : H t = some (.tup [.int d.1, .int d.2])) : twoOf H (.ref t) = d := by
  unfold twoOf
  simp only [h]
theorem Dlt_of {x y : Int × Int} (h : ¬ (y.1 < x.1 ∨ (y.1 = x.1 ∧ y.2 < x.2))) (n : x ≠ y) : Dlt x y := by
  unfold Dlt
  have : ¬ (x.1 = y.1 ∧ x.2 = y.2) := fun e => n (Prod.ext e.1 e.2)
  omega
/-- what stands while the doors are made -/
structure Mid (H : Hp) (s A B O R : Addr) (ord : List Int) (c : Nat) (ps : List (Addr × Int × Int)) (H' : Hp) : Prop where
  st : StreamAt H' s A B c
  frm : Fr s A H H'
  eO : H' O = some (.lst (vi ord))
  eR : H' R = some (.lst (ps.map fun p => V.ref p.1))
  eP : ∀ p ∈ ps, H' p.1 = some (.tup [.int p.2.1, .int p.2.2])
theorem Mid.fr {H H1 H2 : Hp} {s A B O R : Addr} {ord : List Int} {c c' : Nat} {ps : List (Addr × Int × Int)} (m : Mid H s A B O R ord c ps H1) (hS : StreamAt H2 s A B c') (f : Fr s A H1 H2) (zO : s ≠ O ∧ A ≠ O ∧ B ≠ O) (zR : s ≠ R ∧ A ≠ R ∧ B ≠ R) : Mid H s A B O R ord c' ps H2 :=
  ⟨hS, m.frm.trans f, f _ _ zO.1.symm zO.2.1.symm m.eO, f _ _ zR.1.symm zR.2.1.symm m.eR, fun p hp => f.tup m.st (m.eP p hp)⟩
theorem Mid.new {H H1 : Hp} {s A B O R : Addr} {ord : List Int} {c : Nat} {ps : List (Addr × Int × Int)} (m : Mid H s A B O R ord c ps H1) {N : Addr} {o : HO} (h : H1 N = none) : Mid H s A B O R ord c ps (upd H1 N o) :=
  ⟨m.st.same (same_upd h), m.frm.put (m.frm.free m.st h), same_upd h _ _ m.eO, same_upd h _ _ m.eR, fun p hp => same_upd h _ _ (m.eP p hp)⟩
theorem if_by {t : TT} {tb te : TS} {D : Ends} {σ : L2.St} {H : Hp} (Good : Bool → Hp → Prop) (hb : ∀ H', Good true H' → tb D σ H') (he : ∀ H', Good false H' → te D σ H')
    (h : ∀ Q : Bool → Hp → Prop, (∀ b H', Good b H' → Q b H') → t σ H Q) : tIfS t tb te D σ H := h _ fun b H' g => by
  cases b with
  | true => exact iteT (hb _ g)
  | false => exact iteF (he _ g)
section
variable {P : Program} {w : World} {K : PySem.W.Frag} {mg : Str → Option Value} {base : Heap}
def spHouse : Sp := fun vs H Q _ => ∃ (s A B : Addr) (c : Nat) (least most : Int), vs = [.ref s, .int least, .int most] ∧ StreamAt H s A B c ∧ c < 2 ^ 30 ∧ 1 ≤ least ∧ least ≤ most ∧ most ≤ 8 ∧
  ∀ H' h n D, StreamAt H' s A B (c + 40) → Fr s A H H' → HouseAt H' h n D → Forest n D → least ≤ n → n ≤ most → Q (.ref h) H'

abbrev nHouse : List Str := ["_law_stream_here", "_law_least", "_law_most", "_law_rooms", "_law_left", "_law_order", "_law_doors", "_law_lacks", "_law_k", "_law_on"]
theorem scHouse : FnScope nHouse ["_law_stream_here", "_law_least", "_law_most"] (defScope sHouse) := ⟨rfl, rfl, rfl, by decide +kernel, rfl, by decide +kernel, by decide +kernel⟩
theorem ok_house {f fD : Addr} {fd fdD : FuncData} (F : Fun K "_law_house" "_law_house" sHouse f fd) (T : Nm mg) (D : Def K mg "_law_draw" sDraw fD fdD ["_law_stream_here", "_law_many"]) : FnOk P w K mg base CX0 2 f fd ["_law_stream_here", "_law_least", "_law_most"] spHouse := by
  have GD : FnOk P w K mg base CX0 1 fD fdD ["_law_stream_here", "_law_many"] spDraw := ok_draw D.F T
  refine F.ok scHouse (fun vs H Q E h => ?_) (fun cdv A outer s H vs Q E hr h => ?_)
  · obtain ⟨s, A, B, c, least, most, rfl, _⟩ := h
    rfl
  · obtain ⟨s, A, B, c, least, most, rfl, hS, hc, hl1, hl2, hl3, q⟩ := h
    refine ⟨_, pss_cons (ps_set (i := 3) scHouse.nd rfl (.inl rfl) (pe_op op_add (pv 1) (pe_call GD hr (by rfl) D.g D.F.kp D.b .nil pass0 (pa_cons (pv 0) (pa_cons (pe_op op_add (pe_op op_sub (pv 2) (pv 1)) pe_int) pa_nil)))))
      (pss_cons (ps_par3 (i := 4) (j := 5) (l := 6) (by rfl) scHouse.nd rfl rfl rfl (by decide) (by decide) (by decide) rfl rfl rfl (pa_cons (pe_listRg (by rfl) (by rfl) T.list (prg_1 (by rfl) T.range (pv 3))) (pa_cons (pe_lst pa_nil) (pa_cons (pe_lst pa_nil) pa_nil))) (by rfl))
      (pss_cons (ps_while PassesOwn.never (pt_cmpR (op_neD hr.units) (pv 4) (pe_lst pa_nil) (nomark _))
        (pss_one (ps_expr (pe_bm PySem.F.plainAttrs_list PySem.F.slot_list_append PySem.F.type_list_append mt_append (pv 5) (pa_cons
          (pe_bm PySem.F.plainAttrs_list PySem.F.slot_list_pop PySem.F.type_list_pop mt_popAt (pv 4) (pa_cons
            (pe_call GD hr (by rfl) D.g D.F.kp D.b .nil pass0 (pa_cons (pv 0) (pa_cons (pe_callB call_len_seq (by rfl) T.len PySem.boot_len (pa_cons (pv 4) pa_nil)) pa_nil))) pa_nil)) pa_nil)))))
      (pss_cons (ps_set (i := 7) scHouse.nd rfl (.inl rfl) (pe_ix ix_list (pe_lst (pa_cons pe_int (pa_cons pe_int (pa_cons pe_int pa_nil)))) (pe_call GD hr (by rfl) D.g D.F.kp D.b .nil pass0 (pa_cons (pv 0) (pa_cons pe_int pa_nil))) (fun _ _ => rfl)))
      (pss_cons (ps_for PassesOwn.never rfl (pi_range2 (by rfl) T.range (pa_cons pe_int (pa_cons (pv 3) pa_nil))) (pg_name (i := 8) scHouse.nd rfl (Or.inl rfl))
        (pss_cons (ps_set (i := 9) scHouse.nd rfl (.inl rfl) (pe_ix ix_list (pv 5) (pe_ix ix_list (pe_lst (pa_cons (pe_op op_sub (pv 8) pe_int) (pa_cons pe_int (pa_cons (pe_call GD hr (by rfl) D.g D.F.kp D.b .nil pass0 (pa_cons (pv 0) (pa_cons (pv 8) pa_nil))) pa_nil))))
            (pe_call GD hr (by rfl) D.g D.F.kp D.b .nil pass0 (pa_cons (pv 0) (pa_cons pe_int pa_nil))) (fun _ _ => rfl)) (fun _ _ => rfl)))
        (pss_one (ps_if (PW.pt (pw_or (pt_cmpR op_eq (pv 7) pe_int (nomark _)) (pw_or1 (pt_cmpR op_gt (pe_call GD hr (by rfl) D.g D.F.kp D.b .nil pass0 (pa_cons (pv 0) (pa_cons (pv 7) pa_nil))) pe_int (nomark _)))))
          (pss_one (ps_expr (pe_bm PySem.F.plainAttrs_list PySem.F.slot_list_append PySem.F.type_list_append mt_append (pv 6) (pa_cons (pe_tup
            (pa_cons (pe_callB (call_min2 rfl) (by rfl) T.min (by decide +kernel) (pa_cons (pv 9) (pa_cons (pe_ix ix_list (pv 5) (pv 8) (fun _ _ => rfl)) pa_nil)))
            (pa_cons (pe_callB (call_max2 rfl) (by rfl) T.max (by decide +kernel) (pa_cons (pv 9) (pa_cons (pe_ix ix_list (pv 5) (pv 8) (fun _ _ => rfl)) pa_nil))) pa_nil))) pa_nil))))
          pss_nil))))
      (pss_one (ps_ret (pe_tup (pa_cons (pv 3) (pa_cons (pe_callTy call_tuple_of (by rfl) T.tuple (by decide +kernel) (pa_cons (pe_callB cr_sortedPO (by rfl) T.sorted (by decide +kernel) (pa_cons (pv 6) pa_nil)) pa_nil)) pa_nil))))))))), ?_⟩
    refine ⟨_, rfl, _, rfl, _, rfl, _, rfl, _, _, rfl, rfl, _, _, rfl, rfl, s, A, B, c, _, rfl, hS, by omega, by omega, by omega, fun H1 r hS1 fr1 r0 r1 => ⟨_, _, rfl, rfl, ?_⟩⟩
    show gName 3 (V.int (least + r)) _ _ _
    generalize hn : least + r = n
    have n0 : 1 ≤ n := by omega
    have n1 : n ≤ 8 := by omega
    have n2 : least ≤ n := by omega
    have n3 : n ≤ most := by omega
    clear hn r0 r1
    refine ⟨_, rfl, _, rfl, RgOk.of_le (by omega) (by omega) (by omega) (by omega), fun L hL => ⟨Nat.zero_le _, fun O hO => ⟨Nat.zero_le _, fun R hR => ⟨_, _, _, rfl, ?_⟩⟩⟩⟩
    rw [rg_vi] at hR hO ⊢
    rw [show ((List.range n.toNat).map fun (i : Nat) => (i : Int)) = rg n from rfl] at hR hO ⊢
    have nLO : O ≠ L := fun e => by rw [e, upd_same] at hO; cases hO
    have hO1 : H1 O = none := by rw [upd_ne nLO] at hO; exact hO
    have nOR : R ≠ O := fun e => by rw [e, upd_same] at hR; cases hR
    have nLR : R ≠ L := fun e => by rw [e, upd_ne nLO.symm, upd_same] at hR; cases hR
    have hR1 : H1 R = none := by rw [upd_ne nOR, upd_ne nLR] at hR; exact hR
    have zL := hS1.ne hL
    have zO := hS1.ne hO1
    have zR := hS1.ne hR1
    have gL := fr1.free hS1 hL
    have gO := fr1.free hS1 hO1
    have gR := fr1.free hS1 hR1
    have hS2 : StreamAt (upd (upd (upd H1 L (.lst (vi (rg n)))) O (.lst [])) R (.lst [])) s A B (c + 1) := ((hS1.put zL).put zO).put zR
    have fr2 : Fr s A H (upd (upd (upd H1 L (.lst (vi (rg n)))) O (.lst [])) R (.lst [])) := ((fr1.put gL).put gO).put gR
    -- while left != []: order.append(left.pop(draw(s, len(left))))
    refine ⟨fun m σ H' => ∃ (lft ord : List Int) (c' : Nat), σ = [some (.ref s), some (.int least), some (.int most), some (.int n), some (.ref L), some (.ref O), some (.ref R), none, none, none] ∧ StreamAt H' s A B c' ∧ c' + lft.length ≤ c + 1 + n.toNat ∧
        Fr s A H H' ∧ H' L = some (.lst (vi lft)) ∧ H' O = some (.lst (vi ord)) ∧ H' R = some (.lst []) ∧ (ord ++ lft).Perm (rg n) ∧ m = lft.length,
      ⟨_, rg n, [], c + 1, rfl, hS2, by rw [rg_len]; omega, fr2, ?_, ?_, upd_same, List.Perm.refl _, rfl⟩, ?_⟩
    · rw [upd_ne nLR.symm, upd_ne nLO.symm, upd_same]
    · rw [upd_ne nOR.symm, upd_same]
      rfl
    clear hS2 fr2 hR hO
    rintro m σ H2 ⟨lft, ord, c2, rfl, hS2, hc2, fr2, eL, eO, eR, pm, rfl⟩
    have plen : ord.length + lft.length = n.toNat := by
      have := pm.length_eq
      rw [List.length_append, rg_len] at this
      exact this
    refine ⟨_, rfl, Nat.zero_le _, fun e he => ?_⟩
    have sm : Same H2 (upd H2 e (.lst [])) := same_upd he
    have hS3 := hS2.same sm
    have fr3 := fr2.put (o := .lst []) (fr2.free hS2 he)
    have eL3 := sm _ _ eL
    have eO3 := sm _ _ eO
    have eR3 := sm _ _ eR
    refine ⟨.list (lft.map .int), .list [], .lst (SqL.of eL3) (dp_ints lft), .lst (SqL.of upd_same) .nil, shaped_list lft, shaped_list [], _, rfl, ?_⟩
    clear eL eO eR hS2 fr2
    generalize upd H2 e (.lst []) = H3 at *
    clear sm he
    rw [eqv_nil]
    cases lft with
    | cons x0 lft0 =>
      generalize hlf : x0 :: lft0 = lft at *
      have lpos : 0 < lft.length := by rw [← hlf]; simp
      have lem : lft.isEmpty = false := by rw [← hlf]; rfl
      rw [lem]
      clear lem hlf
      refine iteT ⟨_, fun _ _ h => h, ?_⟩
      refine ⟨_, rfl, .inl ⟨rfl, _, SqL.of eO3⟩, _, rfl, .inl ⟨rfl, _, SqL.of eL3⟩, _, rfl, _, rfl, L, _, rfl, .inl (SqL.of eL3), s, A, B, c2, _, rfl, hS3, by omega, ?_, ?_, fun H4 r hS4 fr4 r0 r1 => ?_⟩
      · rw [List.length_map]; omega
      · rw [List.length_map]; omega
      rw [List.length_map] at r1
      have eL4 := fr4 _ _ zL.1.symm zL.2.1.symm eL3
      have eO4 := fr4 _ _ zO.1.symm zO.2.1.symm eO3
      have eR4 := fr4 _ _ zR.1.symm zR.2.1.symm eR3
      have hj : r.toNat < lft.length := by omega
      have ixr : ixN (vi lft).length r = some r.toNat := by
        unfold ixN
        rw [List.length_map, if_pos r0, if_pos r1]
      have gx : (vi lft)[r.toNat]? = some (V.int lft[r.toNat]) := by
        rw [List.getElem?_map, List.getElem?_eq_getElem hj]
        rfl
      refine ⟨L, _, r, r.toNat, _, rfl, rfl, eL4, by omega, by omega, (ixN_seq ixr).1, gx, ?_⟩
      have eO5 : (upd H4 L (.lst ((vi lft).eraseIdx r.toNat))) O = some (.lst (vi ord)) := (upd_ne nLO).trans eO4
      refine ⟨O, _, _, rfl, rfl, eO5, ?_, ?_⟩
      · rw [List.length_map]
        exact small1000 (by omega)
      have el : (lft.eraseIdx r.toNat).length = lft.length - 1 := by
        rw [List.length_eraseIdx, if_pos hj]
      refine ⟨(lft.eraseIdx r.toNat).length, by omega, lft.eraseIdx r.toNat, ord ++ [lft[r.toNat]], c2 + 1, rfl, ((hS4.put zL).put zO), by omega, ((fr3.trans fr4).put gL).put gO, ?_, ?_, ?_, ?_, rfl⟩
      · rw [upd_ne nLO.symm, upd_same, vi_erase]
      · rw [upd_same, vi_app]
        rfl
      · rw [upd_ne nOR, upd_ne nLR]
        exact eR4
      · refine List.Perm.trans ?_ pm
        rw [List.append_assoc]
        refine List.Perm.append_left ord ?_
        exact erase_perm hj
    | nil =>
      refine iteF ?_
      rw [List.append_nil] at pm
      clear eL3 zL gL hL nLO nLR hS1 fr1 hO1 hR1
      simp only [List.length_nil, Nat.add_zero] at hc2 plen
      have zO3 := zO
      -- lacks = [0, 0, 6][draw(s, 3)]
      refine ⟨by show 3 ≤ sizeLine; decide, fun M hM => ?_⟩
      have sm : Same H3 (upd H3 M (.lst [.int 0, .int 0, .int 6])) := same_upd hM
      refine ⟨_, rfl, s, A, B, c2, 3, rfl, hS3.same sm, by omega, by decide, by decide, fun H4 r hS4 fr4 r0 r1 => ?_⟩
      have zM := hS3.ne hM
      have eM4 := fr4 M _ zM.1.symm zM.2.1.symm upd_same
      have eO4 := fr4 _ _ zO.1.symm zO.2.1.symm (sm _ _ eO3)
      have eR4 := fr4 _ _ zR.1.symm zR.2.1.symm (sm _ _ eR3)
      have fr4' : Fr s A H H4 := (fr3.put (fr3.free hS3 hM)).trans fr4
      obtain ⟨lk, elk, hlk⟩ := lacks r0 r1
      refine ⟨M, _, _, _, rfl, rfl, SqL.of eM4, elk, ?_⟩
      clear eM4 fr4 sm hM zM elk eO3 eR3 fr3 hS3
      -- for k in range(1, rooms)
      refine ⟨_, rfl, 1, n, rfl, ⟨by decide, by decide, by omega, by omega⟩, for_range (lo := 1) (n := (n - 1).toNat) (fun i σ H' => ∃ (cc : Nat) (y8 y9 : Option V) (ps : List (Addr × Int × Int)),
        σ = [some (.ref s), some (.int least), some (.int most), some (.int n), some (.ref L), some (.ref O), some (.ref R), some (.int lk), y8, y9] ∧ cc ≤ c2 + 1 + 3 * i ∧ Mid H s A B O R ord cc ps H' ∧
        ps.length ≤ i ∧ ∃ U E, Grown U E ∧ (∀ x, x ∈ U ↔ x ∈ ord.take (i + 1)) ∧ (ps.map (·.2)).Perm E ∧ U.length = i + 1) ⟨c2 + 1, none, none, [], rfl, by omega, ⟨hS4, fr4', eO4, eR4, fun p hp => nomatch hp⟩, Nat.le_refl _, ?_⟩ ?_ ?_⟩
      · have h0 : 0 < ord.length := by omega
        refine ⟨[ord[0]], [], .room _ .nil (by simp), fun x => ?_, .nil, rfl⟩
        rw [List.take_add_one, List.getElem?_eq_getElem h0]
        simp
      · rintro i σ H5 hi ⟨cc, y8, y9, ps, rfl, hcc, M5, hps, U, E, g, hU, pE, lU⟩
        have hi1 : i + 1 < ord.length := by omega
        refine ⟨_, rfl, _, rfl, _, _, rfl, rfl, _, rfl, _, rfl, s, A, B, cc, _, rfl, M5.st, by omega, by omega, by omega, fun H6 r1 hS6 fr6 r10 r11 => ?_⟩
        have M6 := M5.fr hS6 fr6 zO zR
        refine ⟨by show 3 ≤ sizeLine; decide, fun N hN => ?_⟩
        have M7 := M6.new (o := .lst [.int (1 + (i : Int) - 1), .int 0, .int r1]) hN
        refine ⟨_, rfl, s, A, B, cc + 1, 3, rfl, M7.st, by omega, by decide, by decide, fun H8 r2 hS8 fr8 r20 r21 => ?_⟩
        have M8 := M7.fr hS8 fr8 zO zR
        have zN := M6.st.ne hN
        have eN8 := fr8 N _ zN.1.symm zN.2.1.symm upd_same
        obtain ⟨ix, eix, hix0, hix1⟩ := pick3 (i := i) r20 r21 r10 r11
        have hixl : ix.toNat < ord.length := by omega
        have eon : atI (vi ord) ix = some (V.int ord[ix.toNat]) := by
          have := atI_nat (xs := vi ord) (j := ix.toNat) (v := V.int ord[ix.toNat]) (by rw [List.getElem?_map, List.getElem?_eq_getElem hixl]; rfl)
          rw [show ((ix.toNat : Nat) : Int) = ix by omega] at this
          exact this
        have ekk : atI (vi ord) (1 + (i : Int)) = some (V.int ord[i + 1]) := by
          have := atI_nat (xs := vi ord) (j := i + 1) (v := V.int ord[i + 1]) (by rw [List.getElem?_map, List.getElem?_eq_getElem hi1]; rfl)
          rw [show ((i + 1 : Nat) : Int) = 1 + (i : Int) by omega] at this
          exact this
        refine ⟨N, _, _, _, rfl, rfl, SqL.of eN8, eix, O, _, _, _, rfl, rfl, SqL.of M8.eO, eon, ?_⟩
        clear eN8 fr8 zN hN M7 M6 fr6 eix
        have nd : ord.Nodup := pm.nodup_iff.mpr (rg_nodup n)
        have nv : ord[i + 1] ∉ U := fun m => by
          obtain ⟨j, hj, e⟩ := List.mem_take_iff_getElem.mp ((hU _).mp m)
          exact (List.pairwise_iff_getElem.mp nd) j (i + 1) (by omega) hi1 (by omega) e
        have mu : ord[ix.toNat] ∈ U := (hU _).mpr (List.mem_take_iff_getElem.mpr ⟨ix.toNat, by omega, rfl⟩)
        have hU' : ∀ x, x ∈ (ord[i + 1] :: U) ↔ x ∈ ord.take (i + 1 + 1) := fun x => by
          rw [List.take_add_one (i := i + 1), List.getElem?_eq_getElem hi1, List.mem_append, List.mem_cons, hU]
          simp [or_comm]
        dsimp only [gName]
        refine if_by (fun _ H' => ∃ c9, c9 ≤ cc + 3 ∧ Mid H s A B O R ord c9 ps H') ?_ ?_ ?_
        · rintro H9 ⟨c9, hc9, M9⟩
          refine ⟨_, rfl, .inl ⟨rfl, _, SqL.of M9.eR⟩, _, rfl, _, rfl, _, rfl, O, _, _, _, rfl, rfl, SqL.of M9.eO, ekk, _, _, rfl, _, rfl, _, rfl, _, rfl, O, _, _, _, rfl, rfl, SqL.of M9.eO, ekk, _, _, rfl, by show 2 ≤ sizeLine; decide, fun t ht => ?_⟩
          generalize hu : ord[ix.toNat] = u at *
          generalize hv : ord[i + 1] = v at *
          have M10 := M9.new (o := .tup [.int (if v < u then v else u), .int (if v > u then v else u)]) ht
          refine ⟨R, _, _, rfl, rfl, M10.eR, ?_, ?_⟩
          · rw [List.length_map]
            exact small1000 (by omega)
          refine ⟨c9, _, _, ps ++ [(t, if v < u then v else u, if v > u then v else u)], rfl, by omega, ⟨M10.st.put zR, M10.frm.put gR, ?_, ?_, ?_⟩, ?_, v :: U, _, .door v u (if v < u then v else u) (if v > u then v else u) g nv mu ?_, hU', ?_, ?_⟩
          · rw [upd_ne nOR.symm]
            exact M10.eO
          · rw [upd_same, List.map_append]
            rfl
          · intro p hp
            rcases List.mem_append.mp hp with hp | hp
            · have h1 := M10.eP p hp
              rw [upd_ne (ne_of h1 M10.eR (by intro q; cases q))]
              exact h1
            · rw [List.mem_singleton.mp hp]
              have h1 : (upd H9 t (.tup [.int (if v < u then v else u), .int (if v > u then v else u)])) t = some (.tup [.int (if v < u then v else u), .int (if v > u then v else u)]) := upd_same
              rw [upd_ne (ne_of h1 M10.eR (by intro q; cases q))]
              exact h1
          · rw [List.length_append, List.length_singleton]
            omega
          · constructor
            · split <;> omega
            · split <;> omega
          · rw [List.map_append]
            exact (List.perm_append_comm).trans (pE.cons _)
          · rw [List.length_cons, lU]
        · rintro H9 ⟨c9, hc9, M9⟩
          exact ⟨c9, _, _, ps, rfl, by omega, M9, by omega, _, _, .room _ g nv, hU', pE, by rw [List.length_cons, lU]⟩
        · intro QQ hQ
          refine ⟨_, rfl, rfl, _, rfl, ?_⟩
          refine ite2 (fun _ => ?_) (fun hz => ?_)
          · exact hQ _ _ ⟨cc + 2, by omega, M8⟩
          · have hlk6 : lk = 6 := by
              rcases hlk with e | e
              · subst e
                exact absurd (decide_eq_true rfl) hz
              · exact e
            subst hlk6
            refine ⟨_, rfl, _, rfl, s, A, B, cc + 2, 6, rfl, M8.st, by omega, by decide, by decide, fun H9 r3 hS9 fr9 _ _ => ?_⟩
            exact ⟨_, _, rfl, rfl, _, rfl, hQ _ _ ⟨cc + 3, by omega, M8.fr hS9 fr9 zO zR⟩⟩
      · rintro σ H5 ⟨cc, y8, y9, ps, rfl, hcc, M5, hps, U, E, g, hU, pE, lU⟩
        have kz : ∀ z ∈ ps, twoOf H5 (.ref z.1) = z.2 := fun z hz => twoOf_eq (M5.eP z hz)
        refine ⟨_, rfl, _, rfl, R, _, twoOf H5, rfl, SqL.of M5.eR, ?_, fun ys p hsrt hstb hp => ?_⟩
        · intro x hx
          obtain ⟨z, hz, rfl⟩ := List.mem_map.mp hx
          refine ⟨z.1, rfl, ?_⟩
          rw [kz z hz]
          exact M5.eP z hz
        obtain ⟨ps', pp, rfl⟩ := perm_map_inv hstb.perm rfl
        have upD : (ps'.map (·.2)).Pairwise Dlt := by
          have nd : (ps'.map (·.2)).Nodup := ((pp.map _).trans pE).nodup_iff.mpr g.nodup
          rw [List.nodup_iff_pairwise_ne, List.pairwise_map] at nd
          rw [List.pairwise_map]
          have hs : ps'.Pairwise fun x y => ltP (twoOf H5) (.ref y.1) (.ref x.1) = false := List.pairwise_map.mp hsrt
          refine (hs.and nd).imp_of_mem fun {x y} hx hy h => ?_
          have h1 : SrtO.lexB y.2 x.2 = false := by
            have := h.1
            unfold ltP at this
            rw [kz x (pp.mem_iff.mp hx), kz y (pp.mem_iff.mp hy)] at this
            exact this
          exact Dlt_of (SrtO.lexB_no.mp h1) h.2
        have M6 := M5.new (o := .lst (ps'.map fun p => V.ref p.1)) hp
        refine ⟨p, _, rfl, .inl ⟨SqL.of upd_same, fun d hd => ?_⟩⟩
        have M7 := M6.new (o := .tup (ps'.map fun p => V.ref p.1)) hd
        refine ⟨by show 2 ≤ sizeLine; decide, fun h hh => ?_⟩
        have M8 := M7.new (o := .tup [.int n, .ref d]) hh
        have tk : ord.take ((n - 1).toNat + 1) = ord := List.take_of_length_le (by omega)
        refine q _ h n (ps'.map (·.2)) (M8.st.mono (by omega)) M8.frm ⟨d, ps', upd_same, ?_, rfl, fun z hz => M8.eP z (pp.mem_iff.mp hz)⟩ ⟨U, E, g, fun x => ?_, (pp.map _).trans pE, by omega, upD⟩ n2 n3
        · rw [upd_ne (fun e => ?_), upd_same]
          rw [← e, upd_same] at hh
          cases hh
        · rw [hU, tk, pm.mem_iff, mem_rg]
end
end Fw
namespace Fw
open PySem PySem.Spec PyProof.Rows L2

/-! ### x in a tuple, by data -/
def rInT (K : PySem.W.Frag) : R2 := fun x y H Q => ∃ d ds, Dp K H x d ∧ Dp K H y (.tuple ds) ∧ SeqAt.shaped d = true ∧ SeqAt.shaped (.tuple ds) = true ∧ Q (.bl (ds.any fun z => PyData.eqv z d)) H
theorem op_inT {X : Cx} (hu : X.A.units + 65 < cLine) : OpR X (compareOp .In) (rInT X.K) := by
  intro pins s σ H x y v u Q I rx ry h
  obtain ⟨d, ds, hd, he, sd, se, q⟩ := h
  obtain ⟨as, r1⟩ := Dp.reads I d x v hd rx
  obtain ⟨bs, r2⟩ := Dp.reads I (.tuple ds) y u he ry
  exact SeqAt.in_tuple_reads r2 r1 (SeqAt.canLay_of_shaped se) (SeqAt.canLay_of_shaped sd) (room_in_shaped sd hu) ⟨.bl _, H, I, rfl, q⟩
theorem units65 {k : Nat} {A : Around} (r : Room k A) : A.units + 65 < cLine := by have := r.un; omega

/-- a door as data -/
def pd (d : Int × Int) : PyData := .tuple [.int d.1, .int d.2]
theorem pd_lay : ∀ D : List (Int × Int), PyData.canLayAll0 (D.map pd) = true
  | [] => by simp [PyData.canLayAll0]
  | d :: D => by
    rw [List.map_cons, PyData.canLayAll0, pd_lay D]
    simp [pd, PyData.canLay0, PyData.canLayAll0]
theorem pd_deep : ∀ D : List (Int × Int), PyData.depthAll (D.map pd) ≤ 1
  | [] => by simp [PyData.depthAll]
  | d :: D => by
    rw [List.map_cons, PyData.depthAll]
    have := pd_deep D
    simp [pd, PyData.depth, PyData.depthAll]
    omega
theorem pd_shaped (d : Int × Int) : SeqAt.shaped (pd d) = true := shaped_tup [d.1, d.2]
theorem pds_shaped (D : List (Int × Int)) : SeqAt.shaped (.tuple (D.map pd)) = true := by
  unfold SeqAt.shaped
  rw [PyData.canLay0, pd_lay, PyData.depth]
  have := pd_deep D
  simp
  omega
theorem pd_eqv (a b : Int × Int) : PyData.eqv (pd a) (pd b) = decide (a = b) := by
  obtain ⟨a1, a2⟩ := a
  obtain ⟨b1, b2⟩ := b
  simp only [pd, PyData.eqv, PyData.eqvAll, Bool.and_true]
  rw [Bool.eq_iff_iff]
  simp
theorem any_pd (D : List (Int × Int)) (d : Int × Int) : ((D.map pd).any fun z => PyData.eqv z (pd d)) = decide (d ∈ D) := by
  rw [Bool.eq_iff_iff, List.any_eq_true, decide_eq_true_eq]
  constructor
  · rintro ⟨z, hz, e⟩
    obtain ⟨y, hy, rfl⟩ := List.mem_map.mp hz
    rw [pd_eqv, decide_eq_true_eq] at e
    exact e ▸ hy
  · intro h
    exact ⟨pd d, List.mem_map_of_mem h, by rw [pd_eqv]; simp⟩
theorem dp_pair {K : PySem.W.Frag} {H : Hp} {t : Addr} {d : Int × Int} (h : H t = some (.tup [.int d.1, .int d.2])) : Dp K H (.ref t) (pd d) :=
  .tup (SqT.of h) (.cons (.int _) (.cons (.int _) .nil))
theorem dp_pairs {K : PySem.W.Frag} {H : Hp} : ∀ {ps : List (Addr × Int × Int)}, (∀ p ∈ ps, H p.1 = some (.tup [.int p.2.1, .int p.2.2])) → DpAll K H (ps.map fun p => V.ref p.1) ((ps.map (·.2)).map pd)
  | [], _ => .nil
  | p :: ps, h => .cons (dp_pair (h p (List.mem_cons_self ..))) (dp_pairs fun q hq => h q (List.mem_cons_of_mem _ hq))
theorem tt_by {t : TT} {Q : Bool → Hp → Prop} {σ : L2.St} {H : Hp} (Good : Bool → Hp → Prop) (h : ∀ Q' : Bool → Hp → Prop, (∀ b H', Good b H' → Q' b H') → t σ H Q') (hq : ∀ b H', Good b H' → Q b H') : t σ H Q := h _ hq

def pr (D : List (Int × Int)) (r : Int) : Int → Bool := fun o => decide ((r, o) ∈ D) || decide ((o, r) ∈ D)
def nbk (D : List (Int × Int)) (r : Int) (i : Nat) : List Int := ((List.range i).map fun (j : Nat) => 0 + (j : Int)).filter (pr D r)
theorem nbk_succ (D : List (Int × Int)) (r : Int) (i : Nat) : nbk D r (i + 1) = nbk D r i ++ if pr D r (0 + (i : Int)) = true then [0 + (i : Int)] else [] := by
  unfold nbk
  rw [List.range_succ, List.map_append, List.filter_append]
  congr 1
  by_cases c : pr D r (0 + (i : Int)) = true
  · rw [if_pos c]
    show List.filter (pr D r) [0 + (i : Int)] = _
    rw [List.filter_cons_of_pos c]
    rfl
  · rw [if_neg c]
    show List.filter (pr D r) [0 + (i : Int)] = _
    rw [List.filter_cons_of_neg c]
    rfl
theorem nbk_len (D : List (Int × Int)) (r : Int) (i : Nat) : (nbk D r i).length ≤ i := by
  refine Nat.le_trans (List.length_filter_le _ _) ?_
  simp
theorem nbk_nb (n : Int) (D : List (Int × Int)) (r : Int) : nbk D r n.toNat = nb n D r := by
  unfold nbk nb
  congr 1
  refine List.map_congr_left fun i _ => ?_
  omega

theorem get_ref {ps : List (Addr × Int × Int)} {i : Nat} {x : V} (h : (ps.map fun p => V.ref p.1)[i]? = some x) : ∃ p, ps[i]? = some p ∧ x = .ref p.1 := by
  rw [List.getElem?_map] at h
  cases e : ps[i]? with
  | none => rw [e] at h; cases h
  | some v => rw [e] at h; exact ⟨v, rfl, (Option.some.inj h).symm⟩
theorem outs_succ {D : List (Int × Int)} {r : Int} {i : Nat} {d : Int × Int} (h : D[i]? = some d) : outs (D.take (i + 1)) r = outs (D.take i) r ++ if d.1 = r then [d.2] else [] := by
  unfold outs
  rw [List.take_add_one, h, List.filter_append, List.map_append]
  congr 1
  by_cases c : d.1 = r
  · rw [if_pos c]
    show List.map _ (List.filter _ [d]) = _
    rw [List.filter_cons_of_pos (by simpa using c)]
    rfl
  · rw [if_neg c]
    show List.map _ (List.filter _ [d]) = _
    rw [List.filter_cons_of_neg (by simpa using c)]
    rfl
theorem ins_succ {D : List (Int × Int)} {r : Int} {i : Nat} {d : Int × Int} (h : D[i]? = some d) : ins (D.take (i + 1)) r = ins (D.take i) r ++ if d.2 = r then [d.1] else [] := by
  unfold ins
  rw [List.take_add_one, h, List.filter_append, List.map_append]
  congr 1
  by_cases c : d.2 = r
  · rw [if_pos c]
    show List.map _ (List.filter _ [d]) = _
    rw [List.filter_cons_of_pos (by simpa using c)]
    rfl
  · rw [if_neg c]
    show List.map _ (List.filter _ [d]) = _
    rw [List.filter_cons_of_neg (by simpa using c)]
    rfl
theorem outs_len (D : List (Int × Int)) (r : Int) : (outs D r).length ≤ D.length := by
  unfold outs
  rw [List.length_map]
  exact List.length_filter_le _ _
theorem ins_len (D : List (Int × Int)) (r : Int) : (ins D r).length ≤ D.length := by
  unfold ins
  rw [List.length_map]
  exact List.length_filter_le _ _
section
variable {P : Program} {w : World} {K : PySem.W.Frag} {mg : Str → Option Value} {base : Heap}
def spNb : Sp := fun vs H Q _ => ∃ (h : Addr) (n : Int) (D : List (Int × Int)) (r : Int), vs = [.ref h, .int r] ∧ HouseAt H h n D ∧ Forest n D ∧
  ∀ H' t, Same H H' → H' t = some (.tup (vi (nb n D r))) → Q (.ref t) H'

abbrev nNb : List Str := ["house", "room", "doors", "a", "b"]
abbrev gAB : PySem.W.Frag → TG := fun K => gTup K 2 (gCons (gName 3) (gCons (gName 4) gNil))
theorem scNb : FnScope nNb ["house", "room"] (defScope sNb) := ⟨rfl, rfl, rfl, by decide +kernel, rfl, by decide +kernel, by decide +kernel⟩
theorem ok_nb {f : Addr} {fd : FuncData} {k : Nat} (F : Fun K "neighbors" "neighbors" sNb f fd) (T : Nm mg) : FnOk P w K mg base CX0 (k + 1) f fd ["house", "room"] spNb := by
  refine F.ok scNb (fun vs H Q E h => ?_) (fun cdv A outer s H vs Q E hr h => ?_)
  · obtain ⟨h, n, D, r, rfl, _⟩ := h
    rfl
  · obtain ⟨h, n, D, r, rfl, ⟨q0, ps, h1, h2, h3, h4⟩, hF, q⟩ := h
    refine ⟨_, pss_cons (ps_set (i := 2) scNb.nd rfl (.inl rfl) (pe_ix ix_tup (pv 0) pe_int (fun _ _ => rfl)))
      (pss_one (ps_ret (pe_callTy call_tuple_of (by rfl) T.tuple (by decide +kernel) (pa_cons (pe_op op_cat
        (pe_lc (own := [("a", 3), ("b", 4)]) (g := gAB K) (by rfl) scNb.nd (pi_tup (pv 2))
          (blkOk_by (own := [("a", 3), ("b", 4)]) (N := nNb) (sc := defScope sNb) (by decide +kernel))
          (fun _ _ _ _ _ => pg_tup (by rfl) (pgs_cons (pg_name (i := 3) scNb.nd rfl (Or.inl rfl)) (pgs_cons (pg_name (i := 4) scNb.nd rfl (Or.inl rfl)) pgs_nil)))
          (fun _ _ _ _ _ => pts_one (pt_cmpR op_eq (pv 4) (pv 1) (nomark _)))
          (fun _ _ _ _ _ => pv 3))
        (pe_lc (own := [("a", 3), ("b", 4)]) (g := gAB K) (by rfl) scNb.nd (pi_tup (pv 2))
          (blkOk_by (own := [("a", 3), ("b", 4)]) (N := nNb) (sc := defScope sNb) (by decide +kernel))
          (fun _ _ _ _ _ => pg_tup (by rfl) (pgs_cons (pg_name (i := 3) scNb.nd rfl (Or.inl rfl)) (pgs_cons (pg_name (i := 4) scNb.nd rfl (Or.inl rfl)) pgs_nil)))
          (fun _ _ _ _ _ => pts_one (pt_cmpR op_eq (pv 3) (pv 1) (nomark _)))
          (fun _ _ _ _ _ => pv 4))) pa_nil)))), ?_⟩
    have el := hF.len
    have eD : D.take (ps.map fun p => V.ref p.1).length = D := by
      rw [h3, List.length_map, ← List.length_map (f := fun x : Addr × Int × Int => x.2), List.take_length]
    refine ⟨_, rfl, h, _, _, _, rfl, rfl, SqT.of h1, atI1, ?_⟩
    refine ⟨_, rfl, q0, rfl, ⟨_, SqT.of h2⟩, fun L hL => lc_tup (K := K) (a := q0) (xs := ps.map fun p => V.ref p.1) (fun i H1 => Same H H1 ∧ H1 L = some (.lst (vi (ins (D.take i) r))))
      ⟨same_upd hL, upd_same⟩ (fun i H1 _ hh => SqT.of (hh.1 _ _ h2)) ?_ ?_⟩
    · rintro i x H1 hx ⟨s1, e1⟩
      obtain ⟨p, hp, rfl⟩ := get_ref hx
      have ed : D[i]? = some p.2 := by rw [h3, List.getElem?_map, hp]; rfl
      refine ⟨p.1, _, rfl, SqT.of (s1 _ _ (h4 p (List.mem_of_getElem? hp))), rfl, _, _, rfl, _, _, rfl, rfl, rfl, _, rfl, _, rfl, rfl, _, rfl, ?_⟩
      refine ite2 (fun c => ?_) (fun c => ?_)
      · have c : p.2.2 = r := V.int.inj (of_decide_eq_true c)
        refine ⟨_, rfl, _, e1, ?_, same_put s1 hL, ?_⟩
        · rw [List.length_map]
          exact small1000 (Nat.le_trans (ins_len _ _) (by rw [List.length_take]; omega))
        · rw [upd_same, ins_succ ed, if_pos c, vi_app]
          rfl
      · have c : ¬ p.2.2 = r := fun e => c (decide_eq_true (by rw [e]))
        refine ⟨s1, ?_⟩
        rw [ins_succ ed, if_neg c, List.append_nil]
        exact e1
    · rintro H1 ⟨s1, e1⟩
      rw [eD] at e1
      refine ⟨_, rfl, q0, rfl, ⟨_, SqT.of (s1 _ _ h2)⟩, fun M hM => lc_tup (K := K) (a := q0) (xs := ps.map fun p => V.ref p.1) (fun i H2 => Same H1 H2 ∧ H2 M = some (.lst (vi (outs (D.take i) r))))
        ⟨same_upd hM, upd_same⟩ (fun i H2 _ hh => SqT.of (hh.1 _ _ (s1 _ _ h2))) ?_ ?_⟩
      · rintro i x H2 hx ⟨s2, e2⟩
        obtain ⟨p, hp, rfl⟩ := get_ref hx
        have ed : D[i]? = some p.2 := by rw [h3, List.getElem?_map, hp]; rfl
        refine ⟨p.1, _, rfl, SqT.of (s2 _ _ (s1 _ _ (h4 p (List.mem_of_getElem? hp)))), rfl, _, _, rfl, _, _, rfl, rfl, rfl, _, rfl, _, rfl, rfl, _, rfl, ?_⟩
        refine ite2 (fun c => ?_) (fun c => ?_)
        · have c : p.2.1 = r := V.int.inj (of_decide_eq_true c)
          refine ⟨_, rfl, _, e2, ?_, same_put s2 hM, ?_⟩
          · rw [List.length_map]
            exact small1000 (Nat.le_trans (outs_len _ _) (by rw [List.length_take]; omega))
          · rw [upd_same, outs_succ ed, if_pos c, vi_app]
            rfl
        · have c : ¬ p.2.1 = r := fun e => c (decide_eq_true (by rw [e]))
          refine ⟨s2, ?_⟩
          rw [outs_succ ed, if_neg c, List.append_nil]
          exact e2
      · rintro H2 ⟨s2, e2⟩
        rw [eD] at e2
        refine ⟨L, M, _, _, rfl, rfl, s2 _ _ e1, e2, ?_, fun N hN => ?_⟩
        · rw [List.length_map, List.length_map]
          have h1 := outs_len D r
          have h2 := ins_len D r
          exact Nat.le_of_lt (small1000 (by omega))
        rw [← vi_app, hF.nb_eq r]
        refine ⟨N, _, rfl, .inl ⟨SqL.of upd_same, fun t ht => q _ t ?_ upd_same⟩⟩
        exact ((s1.trans s2).trans (same_upd hN)).trans (same_upd ht)
def spLNb : Sp := fun vs H Q _ => ∃ (h : Addr) (n : Int) (D : List (Int × Int)) (r : Int), vs = [.ref h, .int r] ∧ HouseAt H h n D ∧ Forest n D ∧
  ∀ H' l, Same H H' → H l = none → H' l = some (.lst (vi (nb n D r))) → Q (.ref l) H'

abbrev nLNb : List Str := ["_law_house_here", "_law_room", "_law_found", "_law_one", "_law_other"]
abbrev gOO : PySem.W.Frag → TG := fun K => gTup K 2 (gCons (gName 3) (gCons (gName 4) gNil))
theorem scLNb : FnScope nLNb ["_law_house_here", "_law_room"] (defScope sLNb) := ⟨rfl, rfl, rfl, by decide +kernel, rfl, by decide +kernel, by decide +kernel⟩
theorem ok_lnb {f : Addr} {fd : FuncData} {k : Nat} (F : Fun K "_law_neighbors" "_law_neighbors" sLNb f fd) (T : Nm mg) : FnOk P w K mg base CX0 (k + 1) f fd ["_law_house_here", "_law_room"] spLNb := by
  refine F.ok scLNb (fun vs H Q E h => ?_) (fun cdv A outer s H vs Q E hr h => ?_)
  · obtain ⟨h, n, D, r, rfl, _⟩ := h
    rfl
  · obtain ⟨h, n, D, r, rfl, ⟨q0, ps, h1, h2, h3, h4⟩, hF, q⟩ := h
    refine ⟨_, pss_cons (ps_setLc (i := 2) (own := [("_law_one", 3), ("_law_other", 4)]) (g := gOO K) (by rfl) scLNb.nd rfl rfl (sw_true rfl rfl rfl (by decide +kernel)) (pi_tup (pe_ix ix_tup (pv 0) pe_int (fun _ _ => rfl)))
        (blkOk_by (own := [("_law_one", 3), ("_law_other", 4)]) (N := nLNb) (sc := defScope sLNb) (by decide +kernel))
        (fun _ _ _ _ _ => pg_tup (by rfl) (pgs_cons (pg_name (i := 3) scLNb.nd rfl (Or.inl rfl)) (pgs_cons (pg_name (i := 4) scLNb.nd rfl (Or.inl rfl)) pgs_nil)))
        (fun _ _ _ _ _ => pts_one (pt_cmpR op_eq (pv 3) (pv 1) (nomark _)))
        (fun _ _ _ _ _ => pv 4))
      (pss_one (ps_ret (pe_callB cr_sortedI (by rfl) T.sorted (by decide +kernel) (pa_cons (pe_op op_cat (pv 2)
        (pe_lc (own := [("_law_one", 3), ("_law_other", 4)]) (g := gOO K) (by rfl) scLNb.nd (pi_tup (pe_ix ix_tup (pv 0) pe_int (fun _ _ => rfl)))
          (blkOk_by (own := [("_law_one", 3), ("_law_other", 4)]) (N := nLNb) (sc := defScope sLNb) (by decide +kernel))
          (fun _ _ _ _ _ => pg_tup (by rfl) (pgs_cons (pg_name (i := 3) scLNb.nd rfl (Or.inl rfl)) (pgs_cons (pg_name (i := 4) scLNb.nd rfl (Or.inl rfl)) pgs_nil)))
          (fun _ _ _ _ _ => pts_one (pt_cmpR op_eq (pv 4) (pv 1) (nomark _)))
          (fun _ _ _ _ _ => pv 3))) pa_nil)))), ?_⟩
    refine ⟨_, rfl, h, _, _, _, rfl, rfl, SqT.of h1, atI1, q0, rfl, ⟨_, SqT.of h2⟩, fun L hL => lc_tup (K := K) (a := q0) (xs := ps.map fun p => V.ref p.1) (fun i H1 => Same H H1 ∧ H1 L = some (.lst (vi (outs (D.take i) r))))
      ⟨same_upd hL, upd_same⟩ (fun i H1 _ hh => SqT.of (hh.1 _ _ h2)) ?_ ?_⟩
    · rintro i x H1 hx ⟨s1, e1⟩
      obtain ⟨p, hp, rfl⟩ := get_ref hx
      have ed : D[i]? = some p.2 := by rw [h3, List.getElem?_map, hp]; rfl
      have em := List.mem_of_getElem? hp
      refine ⟨p.1, _, rfl, SqT.of (s1 _ _ (h4 p em)), rfl, _, _, rfl, _, _, rfl, rfl, rfl, _, rfl, _, rfl, rfl, _, rfl, ?_⟩
      refine ite2 (fun c => ?_) (fun c => ?_)
      · have c : p.2.1 = r := V.int.inj (of_decide_eq_true c)
        refine ⟨_, rfl, _, e1, ?_, same_put s1 hL, ?_⟩
        · rw [List.length_map]
          exact small1000 (Nat.le_trans (outs_len _ _) (by have := hF.len; rw [List.length_take]; omega))
        · rw [upd_same, outs_succ ed, if_pos c, vi_app]
          rfl
      · have c : ¬ p.2.1 = r := fun e => c (decide_eq_true (by rw [e]))
        refine ⟨s1, ?_⟩
        rw [outs_succ ed, if_neg c, List.append_nil]
        exact e1
    · rintro H1 ⟨s1, e1⟩
      have eD : D.take (ps.map fun p => V.ref p.1).length = D := by
        rw [h3, List.length_map, ← List.length_map (f := fun x : Addr × Int × Int => x.2), List.take_length]
      rw [eD] at e1
      refine ⟨_, rfl, _, rfl, h, _, _, _, rfl, rfl, SqT.of (s1 _ _ h1), atI1, q0, rfl, ⟨_, SqT.of (s1 _ _ h2)⟩, fun M hM => lc_tup (K := K) (a := q0) (xs := ps.map fun p => V.ref p.1) (fun i H2 => Same H1 H2 ∧ H2 M = some (.lst (vi (ins (D.take i) r))))
        ⟨same_upd hM, upd_same⟩ (fun i H2 _ hh => SqT.of (hh.1 _ _ (s1 _ _ h2))) ?_ ?_⟩
      · rintro i x H2 hx ⟨s2, e2⟩
        obtain ⟨p, hp, rfl⟩ := get_ref hx
        have ed : D[i]? = some p.2 := by rw [h3, List.getElem?_map, hp]; rfl
        have em := List.mem_of_getElem? hp
        refine ⟨p.1, _, rfl, SqT.of (s2 _ _ (s1 _ _ (h4 p em))), rfl, _, _, rfl, _, _, rfl, rfl, rfl, _, rfl, _, rfl, rfl, _, rfl, ?_⟩
        refine ite2 (fun c => ?_) (fun c => ?_)
        · have c : p.2.2 = r := V.int.inj (of_decide_eq_true c)
          refine ⟨_, rfl, _, e2, ?_, same_put s2 hM, ?_⟩
          · rw [List.length_map]
            exact small1000 (Nat.le_trans (ins_len _ _) (by have := hF.len; rw [List.length_take]; omega))
          · rw [upd_same, ins_succ ed, if_pos c, vi_app]
            rfl
        · have c : ¬ p.2.2 = r := fun e => c (decide_eq_true (by rw [e]))
          refine ⟨s2, ?_⟩
          rw [ins_succ ed, if_neg c, List.append_nil]
          exact e2
      · rintro H2 ⟨s2, e2⟩
        rw [eD] at e2
        have el := hF.len
        refine ⟨L, M, _, _, rfl, rfl, s2 _ _ e1, e2, ?_, fun N hN => ?_⟩
        · rw [List.length_map, List.length_map]
          have h1 := outs_len D r
          have h2 := ins_len D r
          exact Nat.le_of_lt (small1000 (by omega))
        · rw [← vi_app]
          refine ⟨N, _, rfl, SqL.of upd_same, fun ys Z hp hup hZ => ?_⟩
          refine q _ Z ((s1.trans s2).trans ((same_upd hN).trans (same_upd hZ))) (s1.free (s2.free ((same_upd hN).free hZ))) ?_
          rw [upd_same, hF.sorted_nb hp hup]
end
end Fw
namespace Fw
open PySem PySem.Spec PyProof.Rows L2

/-! ### repr, where no repr is under way -/
def rRepr (K : PySem.W.Frag) : List V → Hp → VK → Prop := fun vs H Q => ∃ (a : Addr) (d : PyData), vs = [.ref a] ∧ Dp K H (.ref a) d ∧ d.showable = true ∧ d.hasDict = false ∧ d.depth ≤ 60 ∧ d.shown.length ≤ sizeLine ∧ Q (.str d.shown) H
theorem call_repr {X : Cx} (hg : X.A.guards = some []) (hu : X.A.units + 65 < cLine) : CallR X (.builtin "repr") (rRepr X.K) := by
  intro pins s σ H vs us Q I r h
  obtain ⟨a, d, rfl, hd, hs, hn, hp, hz, q⟩ := h
  obtain ⟨u, rfl, ru⟩ := vals1 r
  obtain rfl : u = Value.ref a := ru
  obtain ⟨as, rd⟩ := Dp.reads I d _ _ hd rfl
  refine repr_of_reads' rd hs (fun z => ?_) hg (by omega) (fun _ _ e => e) (fun h' t tk hk => ?_) hz
  · rw [hn] at z
    cases z
  · exact ⟨.str _, H, I.kept hk, ⟨_, rfl⟩, q⟩

/-! ### a def that is run where no repr is under way -/
structure FnG (P : Program) (w : World) (K : PySem.W.Frag) (mg : Str → Option Value) (base : Heap) (k : Nat) (f : Addr) (fd : FuncData) (ps : List Str) (sp : Sp) : Prop where
  len : ∀ vs H Q E, sp vs H Q E → vs.length = ps.length
  go : ∀ (A : Around) (out : List Env) (st : Shared) (H : Hp) (as : Args) (us : List Value) (vs : List V) (Q : VK), A.guards = some [] → Room k A → Env0 P w K mg base A out st H → BindsTo st fd as (ps.zip us) → Vals vs us → sp vs H Q E0 →
    codeAny (model P w) A (.call (.ref f) as) (CR CX0 out P w H st Q E0) st

section
variable {P : Program} {w : World} {K : PySem.W.Frag} {mg : Str → Option Value} {base : Heap}
theorem Fun.okG {x : Str} {st : Stmt} {f : Addr} {fd : FuncData} {N ps : List Str} {k : Nat} {sp : Sp} (F : Fun K x x st f fd) (S : FnScope N ps (defScope st)) (len : ∀ vs H Q E, sp vs H Q E → vs.length = ps.length)
    (bd : ∀ (c : Value) (A : Around) (out : List Env) (z : Shared) (H : Hp) (vs : List V) (Q : VK), (A.deeper (envOfC x (defScope st) z.heap.objs.size f c)).guards = some [] → Room k (A.deeper (envOfC x (defScope st) z.heap.objs.size f c)) → sp vs H Q E0 →
      ∃ t, PSs (cxOf CX0 P w K mg base N x (defScope st) f c A out z H E0).nox (defBody st) t ∧ t { nx := fun _ H' => Q .non H', rt := Q } (L2.start N vs) H) : FnG P w K mg base (k + 1) f fd ps sp := by
  obtain ⟨oc, od, kV, doc, pm, an, c, ct, osl, rfl, lk, hc⟩ := F.ex
  refine ⟨len, fun A out z H as us vs Q gd room en bi rel hs => ?_⟩
  have kin : K.In z.heap := fun b o e => (en.bs b o (en.mod.kin b o e)).1
  refine codeAny_call_function room.depth (kin _ _ lk) rfl S.co S.gen rfl (PySem.W.codeRec_of kin hc) (bi _ _ _ _ ?_)
  have kinds : ∀ y ∈ ps.zip us, (defScope st).names.lookup y.1 = some .local ∨ ((defScope st).names.lookup y.1 = some .cell ∧ ((cellsFrom (z.heap.objs.size + 1) (defScope st).names []).lookup y.1).isSome = true) := by
    rintro ⟨n, v⟩ hy
    exact (S.par n (List.of_mem_zip hy).1).imp id fun q => ⟨q, PySem.W.cellsFrom_some _ _ _ (.inl q)⟩
  refine wpAny_newFunctionEnv_cells S.kind kinds fun env ee z1 ic => ?_
  subst ee
  refine ⟨(en.mod.nolimit.keeps fun b o e => (en.bs b o e).1).keeps ic.toInCall.keep, codeAny_func ?_⟩
  obtain ⟨t, d, rd⟩ := bd c A out z H vs Q gd (room.deeper _) hs
  have inv := inv_start (CX := CX0) (E := E0) S room.hd en (len _ _ _ _ hs) rel ic
  refine wpAny_mono (d.nox.run [] z1 _ H _ inv rd) (fun fl z2 e => ?_) fun _ _ e => e
  match fl, e with
  | .ret u, ⟨v, σ', H', J, rv, q⟩ => exact ⟨v, H', J.os, J.bare, J.base, J.hok, rv, q⟩
  | .next, ⟨σ', H', J, q⟩ => exact ⟨.non, H', J.os, J.bare, J.base, J.hok, rfl, q⟩
  | .brk, ⟨_, _, _, q⟩ => exact q.elim
  | .cont, ⟨_, _, _, q⟩ => exact q.elim

/-- a call of such a def -/
theorem pe_callG {X : Cx} {k : Nat} {f : Addr} {fd : FuncData} {ps : List Str} {sp : Sp} {x : Str} {p pos : Pos} {e : Expr} {es : List Expr} {t : TA} (F : FnG X.prog X.w X.K X.mg X.base k f fd ps sp) (gd : X.A.guards = some []) (hr : Room k X.A)
    (hg : Gl X x) (hm : X.mg x = some (.ref f)) (hk : PySem.W.keepIn X.K (.ref f) = true) (hb : Binds X.K fd ps []) (ha : PA X (e :: es) t) (hdb : (x == ("__debug__" : Str)) = false := by decide)
    (h1 : starEach (e :: es) X.env = (false, eval e X.env) :: starEach es X.env := by rfl) (h2 : (backTo pos (starEach es X.env)).any (·.1) = false := by rfl) : PE X (.Call (.Name x p) (e :: es) [] pos) (tCall sp [] E0 t) := by
  constructor
  intro pins z σ H Q I h
  refine wpAny_Call_Name_kw (ld_glob I hg hm (PySem.W.callWith_K (h₀ := X.base) I.ok.mod.kin hk (thn (ha.run pos pins z σ H _ I h) ?_) h1 h2) hdb)
  rintro us z1 ⟨vs, H1, I1, r, q⟩
  refine ⟨I1.kIn, wpAny_call (codeAny_mono (F.go X.A X.stack z1 H1 ⟨us, []⟩ (us ++ []) (vs ++ []) Q gd hr I1.env0 (hb z1 us I1.kIn ?_) (r.append .nil) q) fun a z2 hq => ?_)⟩
  · rw [← (r.append .nil).length]
    exact F.len _ _ _ _ q
  · match a, hq with
    | .error _, hq => exact hq.elim
    | .ok (.ret u), hq => exact I1.after hq
    | .ok .next, hq => exact hq.elim
    | .ok .brk, hq => exact hq.elim
    | .ok .cont, hq => exact hq.elim
end
end Fw
namespace Fw
open PySem PySem.Spec PyProof.Rows L2

/-- the state at the law's own call: only the script is tracked -/
theorem top_state {P : Program} {w : World} {K : PySem.W.Frag} {mg mb : Str → Option Value} {a : Addr} {z : Shared} {vs : List Value} {ns : List Int} (kin : K.In z.heap) (gl : z.heap.Ns mainGlobals mg) (bl : z.heap.Ns builtinsNs mb)
    (bb : ∀ x : Str, x ≠ "__name__" → mb x = bootBuiltins x) (lim : z.heap.NoLimit) (ge : z.gens = #[]) (obj : z.heap.get? a = some { cls := .type "list", data := .seq vs.toArray }) (hi : IntsAre vs ns) (hl : ns.length ≤ sizeLine) :
    ∃ (H : Hp) (base : Heap), SqL K H a (vi ns) ∧ K.In base ∧ base.Ns mainGlobals mg ∧ Env0 P w K mg base callerA [] z H ∧ ∀ (H' : Hp) (z' : Shared), Un (frs []) [] H H' z.heap z'.heap → HOk P w H' z'.heap → OldK z.heap z'.heap := by
  have rel : Vals (vi ns) vs := vals_ints hi
  -- what is tracked: nothing, or the script alone
  have pick : ∃ H : Hp, SqL K H a (vi ns) ∧ HOk P w H z.heap ∧ (∀ b, H b = none ∨ (b = a ∧ K.lookup a = none ∧ ∃ xs, H b = some (.frz { cls := .type "list", data := .seq vs.toArray } (.lst xs)))) := by
    cases e : K.lookup a with
    | some o =>
      have e2 : o = { cls := .type "list", data := .seq vs.toArray } := by
        have := kin a o e
        rw [obj] at this
        exact (Option.some.inj this).symm
      subst e2
      refine ⟨fun _ => none, .inr ⟨_, vs.toArray, _, e, rfl, rfl, rfl, ?_, rel⟩, fun b u q => ?_, fun b => .inl rfl⟩
      · rw [List.size_toArray, hi.length]
        exact hl
      · cases (show (none : Option HO) = some u from q)
    | none =>
      refine ⟨upd (fun _ => none) a (.frz { cls := .type "list", data := .seq vs.toArray } (.lst (vi ns))), .inl (.inr ⟨_, upd_same⟩), fun b u q => ?_, fun b => ?_⟩
      · by_cases eb : b = a
        · rw [eb, upd_same] at q
          cases q
          rw [eb]
          exact ⟨obj, by rw [List.length_map]; exact hl, vs, _, rel, obj⟩
        · rw [upd_ne eb] at q
          cases q
      · by_cases eb : b = a
        · exact .inr ⟨eb, rfl, _, by rw [eb]; exact upd_same⟩
        · exact .inl (upd_ne eb)
  obtain ⟨H, hS, hok, only⟩ := pick
  have low : ∀ {b : Addr} {o : Obj}, z.heap.get? b = some o → (b = a → K.lookup a ≠ none) → (hidT z.heap H).get? b = some o := fun {b o} e q => hidT_get e (by
    rcases only b with n | ⟨eb, n, _⟩
    · exact n
    · exact absurd n (q eb))
  have dic : ∀ {b : Addr} {m : Str → Option Value}, z.heap.Ns b m → (hidT z.heap H).Ns b m := fun {b m} h => by
    obtain ⟨o, es, ep, e, d, r⟩ := h
    refine ⟨o, es, ep, hidT_get e ?_, d, r⟩
    rcases only b with n | ⟨eb, _, _⟩
    · exact n
    · rw [eb, obj] at e
      cases e
      cases (show Data.seq vs.toArray _ = Data.dict es ep from d)
  have kb : K.In (hidT z.heap H) := fun b o e => low (kin b o e) fun eb n => by
    rw [eb, n] at e
    cases e
  refine ⟨H, hidT z.heap H, hS, kb, dic gl, ?_, fun H' z' un ok' => OldK.of_keep fun b o e => ?_⟩
  · refine { frames := rfl, mod := ⟨kb, dic gl, ⟨mb, dic bl, bb⟩, ?_⟩, bs := fun b o e => of_hidT e, bsz := Nat.le_of_eq (hidT_size _ _), funs := trivial, frf := fun b hb => ?_, hok := hok, bare := .of_eq ge }
    · obtain ⟨mc, h1, h2⟩ := lim
      exact ⟨mc, dic h1, h2⟩
    · cases (show b ∈ ([] : List Addr) from hb)
  · rcases only b with n | ⟨eb, _, xs, fz⟩
    · refine un.keep b o e n (fun hb => ?_) (fun hb => ?_)
      · cases (show b ∈ ([] : List Addr) from hb)
      · cases hb
    · have f2 := (ok' b _ (un.frzs b _ _ fz)).1
      rw [eb, obj] at e
      cases e
      exact f2

/-- the law's def takes the script alone -/
abbrev Takes1 (fd : FuncData) : Prop := ∀ (z : Shared) (v : Value), BindsTo z fd ⟨[v], []⟩ [("_law_script", v)]
/-- the law's def, at fa, keeps sp over whatever holds the written part -/
def LawAt (P : Program) (w : World) (K : PySem.W.Frag) (mg : Str → Option Value) (k : Nat) (fa : Addr) (sp : Sp) : Prop :=
  ∃ fd, Takes1 fd ∧ ∀ b : Heap, K.In b → b.Ns mainGlobals mg → FnG P w K mg b k fa fd ["_law_script"] sp
/-- a promise that says True of every script -/
def Tells (sp : PySem.W.Frag → Sp) : Prop := ∀ K H a ns, ns.length ≤ 63 → SqL K H a (vi ns) → sp K [.ref a] H (fun v _ => v = .bl true) E0
/-- how a call that keeps such a promise ends -/
structure Told (P : Program) (w : World) (H : Hp) (z : Shared) (r : Result) (z' : Shared) : Prop where
  res : r = .ok (.ret (.bool true))
  os : z'.os = z.os
  bare : AllBare z'.gens
  st : ∃ H', Un (frs []) [] H H' z.heap z'.heap ∧ HOk P w H' z'.heap
theorem told {P : Program} {w : World} {H : Hp} {z z' : Shared} {r : Result} (e : CR CX0 [] P w H z (fun v _ => v = .bl true) E0 r z') : Told P w H z r z' := by
  rcases r with _ | f
  · exact False.elim e
  cases f
  all_goals first | exact False.elim e | skip
  rename_i u
  obtain ⟨v, H', o1, o2, un, ok, rv, qv⟩ := e
  have qv : v = .bl true := qv
  rw [qv] at rv
  exact ⟨by rw [show u = Value.bool true from rv], o1, o2, H', un, ok⟩
/-- the end of a law whose def wants that no repr is under way -/
theorem walkG {l : PySem.W.OpenLaw} {k : Nat} {q : Program} {ls : List Str} {XP : (Str → Option Value) → Heap → Prop} {Y : World → Heap → Prop} {d : DefRec} {K : Params → PySem.W.Frag} {sp : PySem.W.Frag → Sp} (t : Tells sp) (m : l.most = some 63) (nd : d.params.defaults = []) (room : Room k callerA)
    (inK : ∀ w h, Y w h → (K w.params).In h) (L : ∀ w mg fa h, (K w.params).In h → h.Ns mainGlobals mg → mg d.name = some (.ref fa) → LawAt l.prog w (K w.params) mg k fa (sp (K w.params))) :
    PySem.W.WalkO q ls XP Y l.row.toRowW d [] (fun f vs => PySem.call f vs) := by
  apply Att.attach_call m nd
  intro w _ z mg _ fa _ _ _ _ a vs ns G y _ _ _ here obj hi few gens
  obtain ⟨fd, one, keeps⟩ := L w mg fa _ (inK w _ y) G.T.g here
  obtain ⟨H, b, hS, kb, gb, en, old⟩ := top_state (P := l.prog) (w := w) (inK w _ y) G.T.g G.T.b G.T.builtins G.T.nolimit gens obj hi (Nat.le_trans few (by decide))
  have c := (keeps b kb gb).go callerA [] z H ⟨[.ref a], []⟩ [.ref a] [.ref a] (fun v _ => v = .bl true) rfl room en (one z (.ref a)) (.cons rfl .nil) (t _ H a ns few hS)
  exact codeAny_mono c fun r z' e => by
    have e := told e
    obtain ⟨H', un, ok⟩ := e.st
    exact ⟨e.res, old H' z' un ok, e.os, e.bare⟩
end Fw
namespace Fw
open PySem PySem.Spec PyProof.Rows L2
/-- a house as data -/
def hd (n : Int) (D : List (Int × Int)) : PyData := .tuple [.int n, .tuple (D.map pd)]
theorem log_small {i : Int} (h0 : 0 ≤ i) (h1 : i ≤ 100) : i.natAbs.log2 < 1920 := by
  by_cases h : i.natAbs = 0
  · rw [h]; decide
  · exact (Nat.log2_lt h).mpr (Nat.lt_of_le_of_lt (show i.natAbs ≤ 2 ^ 7 by omega) (Nat.pow_lt_pow_right (by decide) (by decide)))
theorem pds_show : ∀ {D : List (Int × Int)}, (∀ d ∈ D, 0 ≤ d.1 ∧ d.1 ≤ 100 ∧ 0 ≤ d.2 ∧ d.2 ≤ 100) → PyData.showableAll (D.map pd) = true ∧ PyData.leavesShortAll 13 (D.map pd) = true
  | [], _ => by simp [PyData.showableAll, PyData.leavesShortAll]
  | d :: D, h => by
    obtain ⟨i1, i2⟩ := pds_show (D := D) fun x hx => h x (List.mem_cons_of_mem _ hx)
    obtain ⟨a0, a1, b0, b1⟩ := h d (List.mem_cons_self ..)
    have s1 := PyData.shown_int_le2 (i := d.1) (by omega) (by omega)
    have s2 := PyData.shown_int_le2 (i := d.2) (by omega) (by omega)
    rw [List.map_cons, PyData.showableAll, PyData.leavesShortAll, i1, i2]
    simp only [pd, PyData.showable, PyData.showableAll, PyData.leavesShort, PyData.leavesShortAll, Bool.and_true]
    exact ⟨by rw [decide_eq_true (log_small a0 a1), decide_eq_true (log_small b0 b1)]; rfl, by rw [decide_eq_true s1, decide_eq_true s2]; rfl⟩
theorem pds_nodict : ∀ D : List (Int × Int), PyData.hasDictAll (D.map pd) = false
  | [] => by simp [PyData.hasDictAll]
  | d :: D => by
    rw [List.map_cons, PyData.hasDictAll, pds_nodict D]
    simp [pd, PyData.hasDict, PyData.hasDictAll]
theorem pds_bulk : ∀ D : List (Int × Int), PyData.bulkAll (D.map pd) = 3 * D.length
  | [] => by simp [PyData.bulkAll]
  | d :: D => by
    rw [List.map_cons, PyData.bulkAll, pds_bulk D]
    simp [pd, PyData.bulk, PyData.bulkAll]
    omega
structure Shows (d : PyData) : Prop where
  s : d.showable = true
  n : d.hasDict = false
  p : d.depth ≤ 60
  z : d.shown.length ≤ sizeLine
theorem hd_shows {n : Int} {D : List (Int × Int)} (n0 : 0 ≤ n) (n1 : n ≤ 100) (h : ∀ d ∈ D, 0 ≤ d.1 ∧ d.1 ≤ 100 ∧ 0 ≤ d.2 ∧ d.2 ≤ 100) (hl : D.length ≤ 100) : Shows (hd n D) := by
  obtain ⟨i1, i2⟩ := pds_show h
  have s1 := PyData.shown_int_le2 (i := n) (by omega) (by omega)
  have dp := pd_deep D
  refine ⟨?_, ?_, ?_, PyData.shown_fits_bulk (B := 13) (by decide) (by decide) ?_ ?_⟩
  · simp only [hd, PyData.showable, PyData.showableAll, Bool.and_true, i1]
    rw [decide_eq_true (log_small n0 n1)]
  · simp only [hd, PyData.hasDict, PyData.hasDictAll, Bool.or_false, Bool.false_or]
    exact pds_nodict D
  · simp only [hd, PyData.depth, PyData.depthAll]
    omega
  · simp only [hd, PyData.leavesShort, PyData.leavesShortAll, Bool.and_true, i2]
    rw [decide_eq_true s1]
  · simp only [hd, PyData.bulk, PyData.bulkAll, pds_bulk]
    omega
theorem Forest.shows {n : Int} {D : List (Int × Int)} (f : Forest n D) (n0 : 0 ≤ n) (n1 : n ≤ 8) : Shows (hd n D) := by
  refine hd_shows n0 (by omega) (fun d hd => ?_) (Nat.le_trans f.len (by decide))
  have := f.ends (a := d.1) (b := d.2) hd
  omega
theorem HouseAt.dp {K : PySem.W.Frag} {H : Hp} {h : Addr} {n : Int} {D : List (Int × Int)} (x : HouseAt H h n D) : Dp K H (.ref h) (hd n D) := by
  obtain ⟨q, ps, h1, h2, h3, h4⟩ := x
  rw [h3]
  exact .tup (SqT.of h1) (.cons (.int n) (.cons (.tup (SqT.of h2) (dp_pairs h4)) .nil))
end Fw
namespace Fw
open PySem PySem.Spec PyProof.Rows L2
/-- a def of the text, wherever it stands -/
def DefE (K : PySem.W.Frag) (mg : Str → Option Value) (x : Str) (st : Stmt) (ps : List Str) : Prop := ∃ f fd, Def K mg x st f fd ps
/-- a def that keeps a promise, by its name -/
def Cal (P : Program) (w : World) (K : PySem.W.Frag) (mg : Str → Option Value) (base : Heap) (k : Nat) (x : Str) (ps : List Str) (sp : Sp) : Prop :=
  ∃ f fd, mg x = some (.ref f) ∧ PySem.W.keepIn K (.ref f) = true ∧ Binds K fd ps [] ∧ FnOk P w K mg base CX0 k f fd ps sp
def CalG (P : Program) (w : World) (K : PySem.W.Frag) (mg : Str → Option Value) (base : Heap) (k : Nat) (x : Str) (ps : List Str) (sp : Sp) : Prop :=
  ∃ f fd, mg x = some (.ref f) ∧ PySem.W.keepIn K (.ref f) = true ∧ Binds K fd ps [] ∧ FnG P w K mg base k f fd ps sp
section
variable {P : Program} {w : World} {K : PySem.W.Frag} {mg : Str → Option Value} {base : Heap}
theorem Def.cal {x : Str} {st : Stmt} {f : Addr} {fd : FuncData} {ps : List Str} {k : Nat} {sp : Sp} (D : Def K mg x st f fd ps) (h : FnOk P w K mg base CX0 k f fd ps sp) : Cal P w K mg base k x ps sp :=
  ⟨f, fd, D.g, D.F.kp, D.b, h⟩
theorem Def.calG {x : Str} {st : Stmt} {f : Addr} {fd : FuncData} {ps : List Str} {k : Nat} {sp : Sp} (D : Def K mg x st f fd ps) (h : FnG P w K mg base k f fd ps sp) : CalG P w K mg base k x ps sp :=
  ⟨f, fd, D.g, D.F.kp, D.b, h⟩
theorem DefE.cal {x : Str} {st : Stmt} {ps : List Str} {k : Nat} {sp : Sp} (D : DefE K mg x st ps) (h : ∀ f fd, Def K mg x st f fd ps → FnOk P w K mg base CX0 k f fd ps sp) : Cal P w K mg base k x ps sp := by
  obtain ⟨f, fd, d⟩ := D
  exact d.cal (h f fd d)
theorem DefE.calG {x : Str} {st : Stmt} {ps : List Str} {k : Nat} {sp : Sp} (D : DefE K mg x st ps) (h : ∀ f fd, Def K mg x st f fd ps → FnG P w K mg base k f fd ps sp) : CalG P w K mg base k x ps sp := by
  obtain ⟨f, fd, d⟩ := D
  exact d.calG (h f fd d)
theorem Cal.imp {x : Str} {ps : List Str} {k : Nat} {sp sp' : Sp} (C : Cal P w K mg base k x ps sp) (h : ∀ vs H Q E, sp' vs H Q E → sp vs H Q E) : Cal P w K mg base k x ps sp' := by
  obtain ⟨f, fd, a, b, c, d⟩ := C
  exact ⟨f, fd, a, b, c, d.imp h⟩
theorem Cal.up {x : Str} {ps : List Str} {j k : Nat} {sp : Sp} (C : Cal P w K mg base j x ps sp) (h : j ≤ k) : Cal P w K mg base k x ps sp := by
  obtain ⟨f, fd, a, b, c, d⟩ := C
  exact ⟨f, fd, a, b, c, d.mono h⟩
theorem pe_cal {X : Cx} {k : Nat} {ps : List Str} {sp : Sp} {x : Str} {p pos : Pos} {e : Expr} {es : List Expr} {t : TA} (C : Cal X.prog X.w X.K X.mg X.base k x ps sp) (hr : Room k X.A) (hg : Gl X x) (ha : PA X (e :: es) t) (hdb : (x == ("__debug__" : Str)) = false := by decide)
    (h1 : starEach (e :: es) X.env = (false, eval e X.env) :: starEach es X.env := by rfl) (h2 : (backTo pos (starEach es X.env)).any (·.1) = false := by rfl) : PE X (.Call (.Name x p) (e :: es) [] pos) (tCall sp [] E0 t) := by
  obtain ⟨f, fd, a, b, c, d⟩ := C
  exact pe_call d hr hg a b c .nil pass0 ha hdb h1 h2
theorem pe_calG {X : Cx} {k : Nat} {ps : List Str} {sp : Sp} {x : Str} {p pos : Pos} {e : Expr} {es : List Expr} {t : TA} (C : CalG X.prog X.w X.K X.mg X.base k x ps sp) (gd : X.A.guards = some []) (hr : Room k X.A) (hg : Gl X x) (ha : PA X (e :: es) t) (hdb : (x == ("__debug__" : Str)) = false := by decide)
    (h1 : starEach (e :: es) X.env = (false, eval e X.env) :: starEach es X.env := by rfl) (h2 : (backTo pos (starEach es X.env)).any (·.1) = false := by rfl) : PE X (.Call (.Name x p) (e :: es) [] pos) (tCall sp [] E0 t) := by
  obtain ⟨f, fd, a, b, c, d⟩ := C
  exact pe_callG d gd hr hg a b c ha hdb h1 h2
end
def tTru (K : PySem.W.Frag) (ta : TE) : TT := fun σ H Q => ta σ H fun x H' => ∃ k, TruV K x H' k ∧ Q k H'
/-! ### the rules with the written part told (so that they can stand in a comprehension) -/
section
variable {X : Cx} (K : PySem.W.Frag) (h : X.K = K)
include h
theorem op_inK : OpR X (compareOp .In) (rIn K false) := by subst h; exact op_in_seq
theorem op_notInK : OpR X (compareOp .NotIn) (rIn K true) := by subst h; exact op_notIn_seq
theorem ix_listK : IxR X (rIxL K) := by subst h; exact ix_list
theorem ix_tupK : IxR X (rIxT K) := by subst h; exact ix_tup
theorem call_lenK : CallR X (.builtin "len") (fun xs H Q => ∃ p ys, xs = [.ref p] ∧ (SqL K H p ys ∨ SqT K H p ys) ∧ Q (.int ys.length) H) := by subst h; exact call_len_seq
theorem call_listK : CallR X (.type "list") (fun xs H Q => ∃ p ys, xs = [.ref p] ∧ (SqL K H p ys ∨ SqT K H p ys) ∧ ∀ l, H l = none → Q (.ref l) (upd H l (.lst ys))) := by subst h; exact call_list_of
theorem call_tupleK : CallR X (.type "tuple") (fun xs H Q => ∃ p ys, xs = [.ref p] ∧ ((SqL K H p ys ∧ ∀ l, H l = none → Q (.ref l) (upd H l (.tup ys))) ∨ (SqT K H p ys ∧ Q (.ref p) H))) := by subst h; exact call_tuple_of
theorem call_tupleF : CallR X (.type "tuple") (fun xs H Q => ∃ p ys, xs = [.ref p] ∧ SqL K H p ys ∧ ∀ (l : Addr) (ob : Obj), H l = none → ob.dict = none → Q (.ref l) (upd H l (.frz ob (.tup ys)))) := by
  subst h
  intro pins s σ H xs us Q I r h
  obtain ⟨p, ys, rfl, hq, q⟩ := h
  obtain ⟨u, rfl, ru⟩ := vals1 r
  cases ru
  obtain ⟨its, rel, pl, hz⟩ := I.list hq
  have hlen := rel.length
  refine call_tuple_list pl.isList (fun h' kp => ?_) (by simp only [List.size_toArray] <;> omega)
  have I1 : Inv X pins σ H { s with heap := h' } := I.kept (t' := s.toks) kp
  have J : Inv X pins σ (upd H h'.objs.size (.frz { cls := .type "tuple", data := .seq its.toArray } (.tup ys))) { s with heap := h'.push { cls := .type "tuple", data := .seq its.toArray } } :=
    I1.laid (t' := s.toks) (fun b o e => Heap.get?_push_of_some _ e) (Nat.le_refl _) (show ObjOk X.prog X.w _ _ _ (.frz _ (.tup ys)) from ⟨Heap.get?_push_size _ rfl, hz, its, rel, IsTup.new _ _⟩)
  exact ⟨.ref h'.objs.size, _, J, rfl, q _ _ (I1.hok.fresh (Nat.le_refl _)) rfl⟩
theorem pi_tupK {tg l : Expr} {tl : TE} (hl : PE X l tl) : PI X tg l (iTup K tl) := by subst h; exact pi_tup hl
theorem pi_listK {tg l : Expr} {tl : TE} (hl : PE X l tl) : PI X tg l (iList K tl) := by subst h; exact pi_list hl
theorem op_eqDK (hu : X.A.units + 64 < cLine) : OpR X (compareOp .Eq) (rEqD K) := by subst h; exact op_eqD hu
theorem op_neDK (hu : X.A.units + 64 < cLine) : OpR X (compareOp .NotEq) (rNeD K) := by subst h; exact op_neD hu
theorem pt_truthK {a : Expr} {ta : TE} (ha : PE X a ta) (he : ∀ whole, isTrue a X.env whole = (do let v ← whole; standAt a.pos; holding [v] (truthy v))) : PT X a (tTru K ta) := by subst h; exact pt_truth ha he
end
end Fw
namespace Fw
open PySem PySem.Spec PyProof.Rows L2
/-! ### names: texts of small letters -/
def Low (m : Nat) (s : Str) : Prop := s.length ≤ m ∧ ∀ c ∈ s.cps.toList, 97 ≤ c ∧ c ≤ 122
def Nam (s : Str) : Prop := 1 ≤ s.length ∧ Low 8 s
def ltS (a b : Str) : Prop := a.cps.toList < b.cps.toList
structure Names (ns : List Str) : Prop where
  nam : ∀ x ∈ ns, Nam x
  up : ns.Pairwise ltS
theorem str_ext {a b : Str} (h : a.cps.toList = b.cps.toList) : a = b := by
  cases a with
  | mk x => cases b with
    | mk y =>
      have : x = y := Array.toList_inj.mp h
      rw [this]
theorem app_list (a b : Str) : (a ++ b).cps.toList = a.cps.toList ++ b.cps.toList := by
  show (a.cps ++ b.cps).toList = _
  rw [Array.toList_append]
theorem app_len (a b : Str) : (a ++ b).length = a.length + b.length := Str.length_append a b
theorem len_list (a : Str) : a.length = a.cps.toList.length := by
  show a.cps.size = _
  rw [Array.length_toList]
theorem Low.app {m n : Nat} {a b : Str} (h : Low m a) (k : Low n b) : Low (m + n) (a ++ b) := by
  refine ⟨by rw [app_len]; have := h.1; have := k.1; omega, fun c hc => ?_⟩
  rw [app_list, List.mem_append] at hc
  exact hc.elim (h.2 c) (k.2 c)
theorem Low.mono {m n : Nat} {a : Str} (h : Low m a) (k : m ≤ n) : Low n a := ⟨Nat.le_trans h.1 k, h.2⟩
def let1 (i : Int) : Str := ⟨#[97 + i.toNat]⟩
theorem let1_low {i : Int} (h0 : 0 ≤ i) (h1 : i < 26) : Low 1 (let1 i) := by
  refine ⟨Nat.le_refl _, fun c hc => ?_⟩
  have : c = 97 + i.toNat := by simpa [let1] using hc
  omega
theorem join_low {sep : Str} (hs : sep.cps.toList = []) : ∀ {ys : List Str}, (∀ y ∈ ys, Low 1 y) → Low ys.length (Txt.join sep ys) := by
  intro ys h
  show Low ys.length (Builtin.Str.glued sep ys)
  rw [StrLaws.glued_eq_join]
  induction ys with
  | nil => exact ⟨Nat.le_refl _, fun c hc => by cases (show c ∈ ([] : List Nat) from hc)⟩
  | cons y r ih =>
    cases r with
    | nil => exact h y (List.mem_cons_self ..)
    | cons z r =>
      have i1 := ih fun x hx => h x (List.mem_cons_of_mem _ hx)
      have i0 := h y (List.mem_cons_self ..)
      have e : Str.join sep (y :: z :: r) = y ++ sep ++ Str.join sep (z :: r) := rfl
      have e2 : y ++ sep = y := str_ext (by rw [app_list, hs, List.append_nil])
      rw [e, e2]
      refine ((i0.app i1).mono ?_)
      simp only [List.length_cons]
      omega
theorem join_fits {sep : Str} (hs : sep.cps.toList = []) {ys : List Str} (h : ∀ y ∈ ys, Low 1 y) (hl : ys.length ≤ 100) : (ys.map (·.length)).sum + ys.length * sep.length ≤ 16777216 := by
  have e : sep.length = 0 := by rw [len_list, hs]; rfl
  rw [e, Nat.mul_zero, Nat.add_zero]
  have : ∀ zs : List Str, (∀ y ∈ zs, Low 1 y) → (zs.map (·.length)).sum ≤ zs.length := by
    intro zs hz
    induction zs with
    | nil => exact Nat.le_refl _
    | cons z r ih =>
      have := ih fun x hx => hz x (List.mem_cons_of_mem _ hx)
      have := (hz z (List.mem_cons_self ..)).1
      simp only [List.map_cons, List.sum_cons, List.length_cons]
      omega
  have := this ys h
  omega
def nmk (h t : Str) (r : Int) (k : Nat) : Str := h ++ let1 ((r + 7 * (0 + (k : Int))).fmod 26) ++ t
theorem fm26 (x : Int) : 0 ≤ x.fmod 26 ∧ x.fmod 26 < 26 := by
  rw [Int.fmod_eq_emod_of_nonneg x (by decide)]
  omega
theorem nmk_nam {h t : Str} {r : Int} {k : Nat} (a : Low 3 h) (b : Low 3 t) : Nam (nmk h t r k) := by
  have l := let1_low (fm26 (r + 7 * (0 + (k : Int)))).1 (fm26 _).2
  have := ((a.app l).app b).mono (show 3 + 1 + 3 ≤ 8 by decide)
  refine ⟨?_, this⟩
  unfold nmk
  rw [app_len, app_len]
  show 1 ≤ h.length + 1 + t.length
  omega
theorem nmk_len {h t : Str} {r : Int} {k : Nat} (a : Low 3 h) (b : Low 3 t) : (nmk h t r k).length ≤ 7 := ((a.app (let1_low (fm26 (r + 7 * (0 + (k : Int)))).1 (fm26 _).2)).app b).1
theorem nmk_inj {h t : Str} {r : Int} {i j : Nat} (hi : i < 26) (hj : j < 26) (e : nmk h t r i = nmk h t r j) : i = j := by
  have e1 := congrArg (fun s : Str => s.cps.toList) e
  simp only [nmk, app_list] at e1
  have e2 := List.append_cancel_right e1
  have e3 := List.append_cancel_left e2
  have e4 : 97 + ((r + 7 * (0 + (i : Int))).fmod 26).toNat = 97 + ((r + 7 * (0 + (j : Int))).fmod 26).toNat := by simpa [let1] using e3
  have a := fm26 (r + 7 * (0 + (i : Int)))
  have b := fm26 (r + 7 * (0 + (j : Int)))
  rw [Int.fmod_eq_emod_of_nonneg _ (by decide)] at a b e4
  rw [Int.fmod_eq_emod_of_nonneg _ (by decide)] at e4
  omega
theorem nmk_nodup {h t : Str} {r : Int} {m : Nat} (hm : m ≤ 26) : ((List.range m).map (nmk h t r)).Nodup := by
  rw [List.nodup_iff_pairwise_ne, List.pairwise_map]
  refine (List.nodup_iff_pairwise_ne.mp List.nodup_range).imp_of_mem fun {a b} ha hb ne e => ne ?_
  rw [List.mem_range] at ha hb
  exact nmk_inj (by omega) (by omega) e
theorem risingS_le : ∀ {ys : List Str} {p : Str}, risingS p ys = true → (∀ x ∈ ys, ¬ ltS x p) ∧ ys.Pairwise (fun a b => ¬ ltS b a)
  | [], _, _ => ⟨fun _ h => absurd h List.not_mem_nil, .nil⟩
  | x :: r, p, h => by
    rw [risingS, Bool.and_eq_true, Bool.not_eq_true', ltCps_eq, decide_eq_false_iff_not] at h
    obtain ⟨h1, h2⟩ := h
    obtain ⟨i1, i2⟩ := risingS_le h2
    refine ⟨fun y hy => ?_, .cons i1 i2⟩
    rcases List.mem_cons.mp hy with rfl | hy
    · exact h1
    · have h3 := i1 y hy
      exact fun z => List.le_trans (α := Nat) (Std.not_lt.mp h1) (Std.not_lt.mp h3) z
theorem sortedS_le {ys : List Str} (h : sortedS ys = true) : ys.Pairwise (fun a b => ¬ ltS b a) := by
  cases ys with
  | nil => exact .nil
  | cons x r => exact .cons (risingS_le h).1 (risingS_le h).2
theorem ltS_of {a b : Str} (h : ¬ ltS b a) (n : a ≠ b) : ltS a b := by
  have h : a.cps.toList ≤ b.cps.toList := Std.not_lt.mp h
  by_cases l : ltS a b
  · exact l
  · exact absurd (str_ext (List.le_antisymm h (Std.not_lt.mp l))) n
theorem sorted_names {ns ys : List Str} (p : ys.Perm ns) (h : sortedS ys = true) (n : ns.Nodup) (a : ∀ x ∈ ns, Nam x) : Names ys := by
  refine ⟨fun x hx => a x (p.mem_iff.mp hx), ?_⟩
  have nd : ys.Nodup := p.nodup_iff.mpr n
  exact ((sortedS_le h).and (List.nodup_iff_pairwise_ne.mp nd)).imp fun {a b} h => ltS_of h.1 h.2
theorem ltS_irr (a : Str) : ¬ ltS a a := fun h => List.lt_irrefl _ h
theorem ltS_trans {a b c : Str} (h : ltS a b) (k : ltS b c) : ltS a c := List.lt_trans h k
theorem Names.nodup {ns : List Str} (h : Names ns) : ns.Nodup := List.nodup_iff_pairwise_ne.mpr (h.up.imp fun {a b} l => fun (e : a = b) => ltS_irr b (by rw [e] at l; exact l))
theorem vs_app (a b : List Str) : (a ++ b).map V.str = a.map V.str ++ b.map V.str := List.map_append
theorem get_vs {ns : List Str} {i : Nat} {x : V} (h : (ns.map V.str)[i]? = some x) : ∃ v, ns[i]? = some v ∧ x = .str v := by
  rw [List.getElem?_map] at h
  cases e : ns[i]? with
  | none => rw [e] at h; cases h
  | some v => rw [e] at h; exact ⟨v, rfl, (Option.some.inj h).symm⟩
theorem abc_at {z : Str} (hz : z.cps.toList = (List.range 26).map (97 + ·)) {i : Int} (h0 : 0 ≤ i) (h1 : i < 26) : atI z.cps.toList i = some (97 + i.toNat) := by
  have := atI_nat (xs := z.cps.toList) (j := i.toNat) (v := 97 + i.toNat) (by rw [hz, List.getElem?_map, List.getElem?_range (by omega)]; rfl)
  rw [show ((i.toNat : Nat) : Int) = i by omega] at this
  exact this

theorem nam_ok {s : Str} (h : Nam s) : PyData.strOk s = true := by
  unfold PyData.strOk
  rw [Array.all_eq_true_iff_forall_mem]
  intro c hc
  have := h.2.2 c (by rw [Array.mem_toList_iff]; exact hc)
  exact decide_eq_true (by omega)
/-! ### a placement, as it stands in memory -/
/-- a tuple that is to be read (the second way: one that is known to have no attributes of its own) -/
def TpAt (H : Hp) (p : Addr) (xs : List V) : Prop := H p = some (.tup xs) ∨ ∃ o : Obj, o.dict = none ∧ H p = some (.frz o (.tup xs))
theorem TpAt.same {H H' : Hp} {p : Addr} {xs : List V} (x : TpAt H p xs) (e : Same H H') : TpAt H' p xs := x.elim (fun h => .inl (e _ _ h)) fun ⟨o, d, h⟩ => .inr ⟨o, d, e _ _ h⟩
theorem TpAt.sq {K : PySem.W.Frag} {H : Hp} {p : Addr} {xs : List V} (x : TpAt H p xs) : SqT K H p xs := x.elim (fun h => SqT.of h) fun ⟨o, _, h⟩ => .inl (.inr ⟨o, h⟩)
def PlAt (H : Hp) (p : Addr) (P : List (Str × Int)) : Prop := ∃ ps : List (Addr × Str × Int), TpAt H p (ps.map fun q => V.ref q.1) ∧ P = ps.map (·.2) ∧ ∀ q ∈ ps, H q.1 = some (.tup [.str q.2.1, .int q.2.2])
theorem PlAt.same {H H' : Hp} {p : Addr} {P : List (Str × Int)} (x : PlAt H p P) (e : Same H H') : PlAt H' p P := by
  obtain ⟨ps, h1, h2, h3⟩ := x
  exact ⟨ps, h1.same e, h2, fun q hq => e _ _ (h3 q hq)⟩
/-- the same, of a tuple of the second way -/
def PlD (H : Hp) (p : Addr) (P : List (Str × Int)) : Prop := ∃ (ps : List (Addr × Str × Int)) (o : Obj), o.dict = none ∧ H p = some (.frz o (.tup (ps.map fun q => V.ref q.1))) ∧ P = ps.map (·.2) ∧ ∀ q ∈ ps, H q.1 = some (.tup [.str q.2.1, .int q.2.2])
theorem PlD.pl {H : Hp} {p : Addr} {P : List (Str × Int)} (x : PlD H p P) : PlAt H p P := by
  obtain ⟨ps, o, d, h1, h2, h3⟩ := x
  exact ⟨ps, .inr ⟨o, d, h1⟩, h2, h3⟩
theorem PlD.same {H H' : Hp} {p : Addr} {P : List (Str × Int)} (x : PlD H p P) (e : Same H H') : PlD H' p P := by
  obtain ⟨ps, o, d, h1, h2, h3⟩ := x
  exact ⟨ps, o, d, e _ _ h1, h2, fun q hq => e _ _ (h3 q hq)⟩
/-- a placement of n rooms -/
structure Pl (n : Int) (P : List (Str × Int)) : Prop where
  nm : Names (P.map (·.1))
  rm : ∀ x ∈ P, 0 ≤ x.2 ∧ x.2 < n
theorem Pl.nodup {n : Int} {P : List (Str × Int)} (h : Pl n P) : (P.map (·.1)).Nodup := h.nm.nodup
/-! ### parameters -/
abbrev pDraw : List Str := ["_law_stream_here", "_law_many"]
abbrev pHP : List Str := ["house", "placement"]
abbrev pIsAsc : List Str := ["sequence"]
abbrev pIsInt : List Str := ["value"]
abbrev pIsRoom : List Str := ["house", "value"]
abbrev pLMoved : List Str := ["_law_placement", "_law_name", "_law_room"]
abbrev pLMoves : List Str := ["_law_house_here", "_law_placement"]
abbrev pLNb : List Str := ["_law_house_here", "_law_room"]
abbrev pMove : List Str := ["house", "placement", "name", "room"]
abbrev pLeav : List Str := ["placement", "target", "region"]
abbrev pSurp : List Str := ["placement", "region"]
abbrev pLHP : List Str := ["_law_house_here", "_law_placement"]
abbrev pFree : List Str := ["house", "placement", "target", "region"]
abbrev pLFree : List Str := ["_law_house_here", "_law_placement", "_law_target", "_law_piece"]
abbrev pWith : List Str := ["placement", "name", "room"]
abbrev pNamesOf : List Str := ["placement"]
abbrev pPIn : List Str := ["placement", "room"]
abbrev pPWi : List Str := ["placement", "rooms"]
abbrev pPl : List Str := ["_law_stream_here", "_law_house_here", "_law_most"]
abbrev pRegOf : List Str := ["house", "placement", "room"]
abbrev pRoomOf : List Str := ["placement", "name"]
abbrev pLWithin : List Str := ["_law_one", "_law_others"]
abbrev pLWalk : List Str := ["_law_stream_here", "_law_house_here", "_law_placement", "_law_many"]
abbrev pLTarget : List Str := ["_law_stream_here", "_law_house_here", "_law_placement"]
abbrev pHPT : List Str := ["house", "placement", "target"]
abbrev pLHPT : List Str := ["_law_house_here", "_law_placement", "_law_target"]
abbrev pConn : List Str := ["_law_house_here", "_law_rooms", "_law_room"]
abbrev pPTgt : List Str := ["house", "placement", "target", "name"]
abbrev pPassing : List Str := ["house", "placement", "target", "room"]
abbrev pLPassing : List Str := ["_law_house_here", "_law_placement", "_law_target", "_law_room", "_law_some"]
abbrev pSame : List Str := ["_law_found", "_law_expected"]
end Fw
namespace Fw
open PySem PySem.Spec PyProof.Rows L2
section
variable {P : Program} {w : World} {K : PySem.W.Frag} {mg : Str → Option Value} {base : Heap}
theorem cal_draw (D : DefE K mg "_law_draw" sDraw pDraw) (T : Nm mg) : Cal P w K mg base 1 "_law_draw" pDraw spDraw := D.cal fun _ _ d => ok_draw d.F T
theorem StreamAt.frz {s A B : Addr} {c : Nat} {H : Hp} (hS : StreamAt H s A B c) {t : Addr} {o : Obj} {u : HO} (h : H t = some (.frz o u)) : t ≠ s ∧ t ≠ A ∧ t ≠ B := by
  obtain ⟨big, cells, cnt, h1, h2, h3, _⟩ := hS.ex
  exact ⟨ne_of h h1 (by intro q; cases q), ne_of h h2 (by intro q; cases q), ne_of h h3 (by intro q; cases q)⟩
theorem Fr.frz {s A B : Addr} {c : Nat} {H H1 : Hp} (f : Fr s A H H1) (hS : StreamAt H s A B c) {t : Addr} {o : Obj} {u : HO} (h : H t = some (.frz o u)) : H1 t = some (.frz o u) := f t _ (hS.frz h).1 (hS.frz h).2.1 h
theorem TpAt.fr {s A B : Addr} {c : Nat} {H H' : Hp} {p : Addr} {xs : List V} (x : TpAt H p xs) (hS : StreamAt H s A B c) (e : Fr s A H H') : TpAt H' p xs := x.elim (fun h => .inl (e.tup hS h)) fun ⟨o, d, h⟩ => .inr ⟨o, d, e.frz hS h⟩
theorem PlAt.fr {s A B : Addr} {c : Nat} {H H' : Hp} {p : Addr} {P : List (Str × Int)} (x : PlAt H p P) (hS : StreamAt H s A B c) (e : Fr s A H H') : PlAt H' p P := by
  obtain ⟨ps, h1, h2, h3⟩ := x
  exact ⟨ps, h1.fr hS e, h2, fun q hq => e.tup hS (h3 q hq)⟩
theorem PlD.fr {s A B : Addr} {c : Nat} {H H' : Hp} {p : Addr} {P : List (Str × Int)} (x : PlD H p P) (hS : StreamAt H s A B c) (e : Fr s A H H') : PlD H' p P := by
  obtain ⟨ps, o, d, h1, h2, h3⟩ := x
  exact ⟨ps, o, d, e.frz hS h1, h2, fun q hq => e.tup hS (h3 q hq)⟩
end
end Fw
namespace Fw
open PySem PySem.Spec PyProof.Rows L2
theorem cut_vi (ns : List Int) (lo hi : Option Int) : ∃ ms : List Int, cutV (vi ns) lo hi = vi ms ∧ (∀ x ∈ ms, x ∈ ns) := by
  refine ⟨(ns.drop (HT.sIx (vi ns).length 0 lo)).take (HT.sIx (vi ns).length (vi ns).length hi - HT.sIx (vi ns).length 0 lo), ?_, fun x hx => List.mem_of_mem_drop (List.mem_of_mem_take hx)⟩
  unfold cutV vi
  rw [List.map_take, List.map_drop]
theorem cut_le (xs : List V) {m : Int} (h : 0 ≤ m) : (cutV xs none (some m)).length ≤ m.toNat := by
  unfold cutV
  rw [List.length_take]
  refine Nat.le_trans (Nat.min_le_left _ _) ?_
  show (if m < 0 then _ else min m.toNat xs.length) - 0 ≤ m.toNat
  rw [if_neg (by omega)]
  omega
theorem atI_in {xs : List Int} {r : Int} (h0 : 0 ≤ r) (h1 : r < (xs.length : Nat)) : ∃ x, x ∈ xs ∧ atI (vi xs) r = some (V.int x) := by
  have hj : r.toNat < xs.length := by omega
  refine ⟨xs[r.toNat], List.getElem_mem hj, ?_⟩
  have := atI_nat (xs := vi xs) (j := r.toNat) (v := V.int xs[r.toNat]) (by rw [List.getElem?_map, List.getElem?_eq_getElem hj]; rfl)
  rw [show ((r.toNat : Nat) : Int) = r by omega] at this
  exact this
theorem seq_by {a b : TS} {D : Ends} {σ : L2.St} {H : Hp} (M : L2.St → Hp → Prop) (h1 : ∀ N : L2.St → Hp → Prop, (∀ σ' H', M σ' H' → N σ' H') → a { D with nx := N } σ H) (h2 : ∀ σ' H', M σ' H' → b D σ' H') : tSeq a b D σ H := h1 _ h2
section
variable {P : Program} {w : World} {K : PySem.W.Frag} {mg : Str → Option Value} {base : Heap}
theorem HouseAt.room0 {H : Hp} {h : Addr} {n : Int} {D : List (Int × Int)} (x : HouseAt H h n D) : ∃ q, H h = some (.tup [.int n, .ref q]) := by
  obtain ⟨q, ps, h1, _⟩ := x
  exact ⟨q, h1⟩
end
end Fw
namespace Fw
open PySem PySem.Spec PyProof.Rows L2
/-! ### what a walk over a placement needs: tuples stay -/
structure Tk (H H' : Hp) : Prop where
  t : ∀ {b : Addr} {xs : List V}, H b = some (.tup xs) → H' b = some (.tup xs)
  f : ∀ {b : Addr} {o : Obj} {xs : List V}, H b = some (.frz o (.tup xs)) → H' b = some (.frz o (.tup xs))
theorem Tk.refl {H : Hp} : Tk H H := ⟨fun e => e, fun e => e⟩
theorem Tk.of {H H' : Hp} (h : Same H H') : Tk H H' := ⟨fun e => h _ _ e, fun e => h _ _ e⟩
theorem Tk.trans {H H1 H2 : Hp} (a : Tk H H1) (b : Tk H1 H2) : Tk H H2 := ⟨fun e => b.t (a.t e), fun e => b.f (a.f e)⟩
theorem Tk.fr {s A B : Addr} {c : Nat} {H H' : Hp} (f : Fr s A H H') (hS : StreamAt H s A B c) : Tk H H' := ⟨fun e => f.tup hS e, fun e => f.frz hS e⟩
theorem Tk.put {H H' : Hp} (a : Tk H H') {L : Addr} {xs : List V} {o : HO} (h : H' L = some (.lst xs)) : Tk H (upd H' L o) := by
  refine ⟨fun e => ?_, fun e => ?_⟩
  · rw [upd_ne (ne_of (a.t e) h (by intro z; cases z))]
    exact a.t e
  · rw [upd_ne (ne_of (a.f e) h (by intro z; cases z))]
    exact a.f e
theorem Tk.putD {H H' : Hp} (a : Tk H H') {L : Addr} {xs : List (Key × V)} {o : HO} (h : H' L = some (.dK xs)) : Tk H (upd H' L o) := by
  refine ⟨fun e => ?_, fun e => ?_⟩
  · rw [upd_ne (ne_of (a.t e) h (by intro z; cases z))]
    exact a.t e
  · rw [upd_ne (ne_of (a.f e) h (by intro z; cases z))]
    exact a.f e
theorem Tk.new {H H' : Hp} (a : Tk H H') {L : Addr} {o : HO} (h : H' L = none) : Tk H (upd H' L o) := a.trans (Tk.of (same_upd h))
theorem HouseAt.tk {H H' : Hp} {h : Addr} {n : Int} {D : List (Int × Int)} (x : HouseAt H h n D) (e : Tk H H') : HouseAt H' h n D := by
  obtain ⟨q, ps, h1, h2, h3, h4⟩ := x
  exact ⟨q, ps, e.t h1, e.t h2, h3, fun p hp => e.t (h4 p hp)⟩
theorem TpAt.tk {H H' : Hp} {p : Addr} {xs : List V} (x : TpAt H p xs) (e : Tk H H') : TpAt H' p xs := x.elim (fun h => .inl (e.t h)) fun ⟨o, d, h⟩ => .inr ⟨o, d, e.f h⟩
theorem PlAt.tk {H H' : Hp} {p : Addr} {P : List (Str × Int)} (x : PlAt H p P) (e : Tk H H') : PlAt H' p P := by
  obtain ⟨ps, h1, h2, h3⟩ := x
  exact ⟨ps, h1.tk e, h2, fun q hq => e.t (h3 q hq)⟩
theorem PlD.tk {H H' : Hp} {p : Addr} {P : List (Str × Int)} (x : PlD H p P) (e : Tk H H') : PlD H' p P := by
  obtain ⟨ps, o, d, h1, h2, h3⟩ := x
  exact ⟨ps, o, d, e.f h1, h2, fun q hq => e.t (h3 q hq)⟩
theorem get_pl {ps : List (Addr × Str × Int)} {i : Nat} {x : V} (h : (ps.map fun p => V.ref p.1)[i]? = some x) : ∃ p, ps[i]? = some p ∧ x = .ref p.1 := by
  rw [List.getElem?_map] at h
  cases e : ps[i]? with
  | none => rw [e] at h; cases h
  | some v => rw [e] at h; exact ⟨v, rfl, (Option.some.inj h).symm⟩
/-- a comprehension over a placement -/
theorem lc_pl {K : PySem.W.Frag} {p : Addr} {P : List (Str × Int)} {i j : Nat} {tt : TT} {te : TE} {vs : List Nat} {σ : L2.St} {H1 : Hp} {D : Addr} {Qd : Hp → Prop} (x : PlAt H1 p P) (Pv : Nat → Hp → Prop) (h0 : Pv 0 (upd H1 D (.lst []))) (hl : ∀ k H, Pv k H → Tk H1 H)
    (hs : ∀ k nm r H, P[k]? = some (nm, r) → Pv k H → wipe (((wipe σ vs).set i (some (.str nm))).set j (some (.int r))) vs = wipe σ vs ∧ tt (((wipe σ vs).set i (some (.str nm))).set j (some (.int r))) H fun b H3 =>
      if b = true then te (((wipe σ vs).set i (some (.str nm))).set j (some (.int r))) H3 fun y H4 => ∃ acc, H4 D = some (.lst acc) ∧ acc.length < sizeLine ∧ Pv (k + 1) (upd H4 D (.lst (acc ++ [y]))) else Pv (k + 1) H3) (hd : ∀ H, Pv P.length H → Qd H) :
    ∃ W : Nat → Nat → Hp → Prop, (∃ m, W 0 m (upd H1 D (.lst []))) ∧ ∀ k m H, W k m H →
      ((Itt K p).stop k H ∧ Qd H) ∨ ((Itt K p).go k H ∧ ∃ Nx : Hp → Prop, (∀ H', Nx H' → ∃ m', m' < m ∧ W (k + 1) m' H') ∧ ∀ x H', (Itt K p).yld k H x H' → gTup K 2 (gCons (gName i) (gCons (gName j) gNil)) x (wipe σ vs) H' fun σ2 H2 => wipe σ2 vs = wipe σ vs ∧ tt σ2 H2 fun b H3 =>
        if b = true then te σ2 H3 fun y H4 => ∃ acc, H4 D = some (.lst acc) ∧ acc.length < sizeLine ∧ Nx (upd H4 D (.lst (acc ++ [y]))) else Nx H3) := by
  obtain ⟨ps, h1, rfl, h3⟩ := x
  refine lc_tup (K := K) (a := p) (xs := ps.map fun q => V.ref q.1) Pv h0 (fun i H _ hp => (h1.tk (hl i H hp)).sq) (fun k x H hx hp => ?_) (fun H hp => hd H (by rw [List.length_map] at hp ⊢; exact hp))
  obtain ⟨q, hq, rfl⟩ := get_pl hx
  refine ⟨q.1, _, rfl, SqT.of ((hl k H hp).t (h3 q (List.mem_of_getElem? hq))), rfl, _, _, rfl, _, _, rfl, rfl, ?_⟩
  exact hs k q.2.1 q.2.2 H (by rw [List.getElem?_map, hq]; rfl) hp
/-- a loop over a placement -/
theorem for_pl {K : PySem.W.Frag} {p : Addr} {P : List (Str × Int)} {i j : Nat} {tb : TS} {D : Ends} {σ : L2.St} {H0 H : Hp} (x : PlAt H0 p P) (Pv : Nat → L2.St → Hp → Prop) (h0 : Pv 0 σ H) (hl : ∀ k σ H, Pv k σ H → Tk H0 H)
    (hs : ∀ k nm r σ H, P[k]? = some (nm, r) → Pv k σ H → tb { D with nx := Pv (k + 1), ct := Pv (k + 1), bk := D.nx } ((σ.set i (some (.str nm))).set j (some (.int r))) H) (hd : ∀ σ H, Pv P.length σ H → D.nx σ H) :
    ∃ W : Nat → Nat → L2.St → Hp → Prop, (∃ m, W 0 m σ H) ∧ ∀ k m σ H, W k m σ H →
      ((Itt K p).stop k H ∧ D.nx σ H) ∨ ((Itt K p).go k H ∧ ∃ N : L2.St → Hp → Prop, (∀ σ' H', N σ' H' → ∃ m', m' < m ∧ W (k + 1) m' σ' H') ∧ ∀ x H', (Itt K p).yld k H x H' → gTup K 2 (gCons (gName i) (gCons (gName j) gNil)) x σ H' fun σ2 H2 => tb { D with nx := N, ct := N, bk := D.nx } σ2 H2) := by
  obtain ⟨ps, h1, rfl, h3⟩ := x
  refine for_tup (K := K) (a := p) (xs := ps.map fun q => V.ref q.1) Pv h0 (fun i σ H _ hp => (h1.tk (hl i σ H hp)).sq) (fun k x σ H hx hp => ?_) (fun σ H hp => hd σ H (by rw [List.length_map] at hp ⊢; exact hp))
  obtain ⟨q, hq, rfl⟩ := get_pl hx
  refine ⟨q.1, _, rfl, SqT.of ((hl k σ H hp).t (h3 q (List.mem_of_getElem? hq))), rfl, _, _, rfl, _, _, rfl, rfl, ?_⟩
  exact hs k q.2.1 q.2.2 σ H (by rw [List.getElem?_map, hq]; rfl) hp
theorem PlAt.sq {K : PySem.W.Frag} {H : Hp} {p : Addr} {P : List (Str × Int)} (x : PlAt H p P) : ∃ xs, SqT K H p xs := by
  obtain ⟨ps, h1, _⟩ := x
  exact ⟨_, h1.sq⟩
theorem inV_vi (x : Int) (R : List Int) : inV (.int x) (vi R) = decide (x ∈ R) := by
  unfold inV
  rw [Bool.eq_iff_iff, List.any_eq_true, decide_eq_true_eq]
  constructor
  · rintro ⟨y, hy, e⟩
    obtain ⟨z, hz, rfl⟩ := List.mem_map.mp hy
    have : z = x := by simpa [eqV] using e
    exact this ▸ hz
  · intro h
    exact ⟨.int x, List.mem_map_of_mem h, by simp [eqV]⟩
theorem flat_vi (R : List Int) : (vi R).all flatV = true := by
  rw [List.all_eq_true]
  intro x hx
  obtain ⟨z, _, rfl⟩ := List.mem_map.mp hx
  rfl
theorem take_snoc {α : Type} {xs : List α} {k : Nat} {x : α} (h : xs[k]? = some x) : xs.take (k + 1) = xs.take k ++ [x] := by
  rw [List.take_add_one, h]
  rfl
theorem filter_snoc {α : Type} (f : α → Bool) (xs : List α) (x : α) : (xs ++ [x]).filter f = xs.filter f ++ if f x = true then [x] else [] := by
  rw [List.filter_append]
  congr 1
  by_cases c : f x = true
  · rw [if_pos c, List.filter_cons_of_pos c]
    rfl
  · rw [if_neg c, List.filter_cons_of_neg c]
    rfl
theorem lt_of_get {α : Type} {xs : List α} {k : Nat} {x : α} (h : xs[k]? = some x) : k < xs.length := (List.getElem?_eq_some_iff.mp h).1
theorem sqT_same {K : PySem.W.Frag} {H H' : Hp} {a : Addr} {xs : List V} (e : Same H H') (h : SqT K H a xs) : SqT K H' a xs :=
  h.imp (Or.imp (e a _) fun ⟨o, x⟩ => ⟨o, e a _ x⟩) id
end Fw
namespace Fw
open PySem PySem.Spec PyProof.Rows L2
/-- who is in the rooms R -/
def inside (P : List (Str × Int)) (R : List Int) : List Str := (P.filter fun x => decide (x.2 ∈ R)).map (·.1)
theorem inside_snoc {P : List (Str × Int)} {R : List Int} {k : Nat} {nm : Str} {r : Int} (h : P[k]? = some (nm, r)) : inside (P.take (k + 1)) R = inside (P.take k) R ++ if r ∈ R then [nm] else [] := by
  unfold inside
  rw [take_snoc h, filter_snoc, List.map_append]
  congr 1
  by_cases c : r ∈ R
  · rw [if_pos c, if_pos (by simpa using c)]
    rfl
  · rw [if_neg c, if_neg (by simpa using c)]
    rfl
theorem inside_len (P : List (Str × Int)) (R : List Int) : (inside P R).length ≤ P.length := by
  unfold inside
  rw [List.length_map]
  exact List.length_filter_le _ _
theorem inside_nil {P : List (Str × Int)} {R : List Int} : inside P R = [] ↔ ∀ x ∈ P, x.2 ∉ R := by
  unfold inside
  rw [List.map_eq_nil_iff, List.filter_eq_nil_iff]
  simp
theorem key_uniq {P : List (Str × Int)} (nd : (P.map (·.1)).Nodup) {x y : Str × Int} (hx : x ∈ P) (hy : y ∈ P) (e : x.1 = y.1) : x = y := by
  induction P with
  | nil => cases hx
  | cons z P ih =>
    rw [List.map_cons, List.nodup_cons] at nd
    rcases List.mem_cons.mp hx with h1 | h1 <;> rcases List.mem_cons.mp hy with h2 | h2
    · rw [h1, h2]
    · exact absurd (List.mem_map_of_mem (f := (·.1)) h2) (by rw [← e, h1]; exact nd.1)
    · exact absurd (List.mem_map_of_mem (f := (·.1)) h1) (by rw [e, h2]; exact nd.1)
    · exact ih nd.2 h1 h2
section
variable {P : Program} {w : World} {K : PySem.W.Frag} {mg : Str → Option Value} {base : Heap}
end
end Fw
namespace Fw
open PySem PySem.Spec PyProof.Rows L2
/-! ### a list of pairs (name, room) -/
def LsAt (H : Hp) (l : Addr) (X : List (Str × Int)) : Prop := ∃ ps : List (Addr × Str × Int), H l = some (.lst (ps.map fun q => V.ref q.1)) ∧ X = ps.map (·.2) ∧ ∀ q ∈ ps, H q.1 = some (.tup [.str q.2.1, .int q.2.2])
theorem LsAt.nil {H : Hp} {l : Addr} (h : H l = some (.lst [])) : LsAt H l [] := ⟨[], h, rfl, fun q hq => absurd hq List.not_mem_nil⟩
theorem LsAt.same {H H' : Hp} {l : Addr} {X : List (Str × Int)} (x : LsAt H l X) (e : Same H H') : LsAt H' l X := by
  obtain ⟨ps, h1, h2, h3⟩ := x
  exact ⟨ps, e _ _ h1, h2, fun q hq => e _ _ (h3 q hq)⟩
theorem LsAt.fr {s A B : Addr} {c : Nat} {H H' : Hp} {l : Addr} {X : List (Str × Int)} (x : LsAt H l X) (hS : StreamAt H s A B c) (e : Fr s A H H') (z : s ≠ l ∧ A ≠ l ∧ B ≠ l) : LsAt H' l X := by
  obtain ⟨ps, h1, h2, h3⟩ := x
  exact ⟨ps, e _ _ z.1.symm z.2.1.symm h1, h2, fun q hq => e.tup hS (h3 q hq)⟩
theorem LsAt.snoc {H : Hp} {l t : Addr} {X : List (Str × Int)} {a : Str} {b : Int} (x : LsAt H l X) (ht : H t = some (.tup [.str a, .int b])) : ∃ acc, H l = some (.lst acc) ∧ acc.length = X.length ∧ LsAt (upd H l (.lst (acc ++ [.ref t]))) l (X ++ [(a, b)]) := by
  obtain ⟨ps, h1, h2, h3⟩ := x
  refine ⟨_, h1, by rw [h2, List.length_map, List.length_map], ps ++ [(t, a, b)], ?_, by rw [h2, List.map_append]; rfl, fun q hq => ?_⟩
  · rw [upd_same, List.map_append]
    rfl
  · have : H q.1 = some (.tup [.str q.2.1, .int q.2.2]) := by
      rcases List.mem_append.mp hq with hq | hq
      · exact h3 q hq
      · rw [List.mem_singleton.mp hq]
        exact ht
    rw [upd_ne (ne_of this h1 (by intro z; cases z))]
    exact this
theorem LsAt.tup {H : Hp} {l : Addr} {X : List (Str × Int)} (x : LsAt H l X) : ∃ xs, H l = some (.lst xs) ∧ ∀ (t : Addr) (ob : Obj), H t = none → ob.dict = none → PlD (upd H t (.frz ob (.tup xs))) t X := by
  obtain ⟨ps, h1, h2, h3⟩ := x
  exact ⟨_, h1, fun t ob ht od => ⟨ps, ob, od, upd_same, h2, fun q hq => same_upd ht _ _ (h3 q hq)⟩⟩
/-- the placement after a move -/
def mvd (P : List (Str × Int)) (nm : Str) (r : Int) : List (Str × Int) := P.map fun x => (x.1, if x.1 = nm then r else x.2)
theorem mvd_len (P : List (Str × Int)) (nm : Str) (r : Int) : (mvd P nm r).length = P.length := by unfold mvd; rw [List.length_map]
theorem mvd_names (P : List (Str × Int)) (nm : Str) (r : Int) : (mvd P nm r).map (·.1) = P.map (·.1) := by
  unfold mvd
  rw [List.map_map]
  rfl
theorem mvd_get {P : List (Str × Int)} {nm : Str} {r : Int} {k : Nat} {n' : Str} {r' : Int} (h : P[k]? = some (n', r')) : (mvd P nm r)[k]? = some (n', if n' = nm then r else r') := by
  unfold mvd
  rw [List.getElem?_map, h]
  rfl
theorem Pl.mvd {n : Int} {P : List (Str × Int)} (h : Pl n P) {nm : Str} {r : Int} (h0 : 0 ≤ r) (h1 : r < n) : Pl n (mvd P nm r) := by
  refine ⟨by rw [mvd_names]; exact h.nm, fun x hx => ?_⟩
  obtain ⟨y, hy, rfl⟩ := List.mem_map.mp hx
  show 0 ≤ (if y.1 = nm then r else y.2) ∧ (if y.1 = nm then r else y.2) < n
  split
  · exact ⟨h0, h1⟩
  · exact h.rm y hy
/-- all moves -/
def mvs (n : Int) (D : List (Int × Int)) (P : List (Str × Int)) (X : List (Str × Int)) : List (Str × Int) := X.flatMap fun x => ((nb n D x.2).filter fun t => decide (t ∈ P.map (·.2))).map fun t => (x.1, t)
theorem str_dec (a b : Str) : decide (V.str a = V.str b) = decide (a = b) := by
  rw [Bool.eq_iff_iff, decide_eq_true_eq, decide_eq_true_eq]
  exact ⟨V.str.inj, fun e => by rw [e]⟩
theorem k_ii' : kitB "int" "int" = some true := by decide +kernel
theorem k_ib' : kitB "int" "bool" = some false := by decide +kernel
section
variable {P : Program} {w : World} {K : PySem.W.Frag} {mg : Str → Option Value} {base : Heap}
def spIsIntI : Sp := fun vs H Q _ => ∃ (i : Int), vs = [.int i] ∧ Q (.bl true) H
abbrev nIsInt : List Str := ["value"]
theorem scIsInt : FnScope nIsInt ["value"] (defScope sIsInt) := ⟨rfl, rfl, rfl, by decide +kernel, rfl, by decide +kernel, by decide +kernel⟩
theorem ok_isint {f : Addr} {fd : FuncData} {k : Nat} (F : Fun K "is_integer" "is_integer" sIsInt f fd) (T : Nm mg) : FnOk P w K mg base CX0 (k + 1) f fd pIsInt spIsIntI := by
  refine F.ok scIsInt (fun vs H Q E h => ?_) (fun cdv A outer s H vs Q E hr h => ?_)
  · obtain ⟨i, rfl, _⟩ := h
    rfl
  · obtain ⟨i, rfl, q⟩ := h
    refine ⟨_, (pss_one (ps_ret (pe_and (pe_callB call_isi (by rfl) T.isinstance (by decide +kernel) (pa_cons (pv 0) (pa_cons (pe_bltn (v := .ty "int") (by rfl) T.int (by decide +kernel) rfl) pa_nil))) (pe_one (pe_not (pe_callB call_isi (by rfl) T.isinstance (by decide +kernel) (pa_cons (pv 0) (pa_cons (pe_bltn (v := .ty "bool") (by rfl) T.bool (by decide +kernel) rfl) pa_nil)))))))), ?_⟩
    exact ⟨_, rfl, _, _, _, _, _, rfl, .ty _, .base (.int _), kit_ty k_ii', _, rfl, iteT ⟨_, rfl, _, _, _, _, _, rfl, .ty _, .base (.int _), kit_ty k_ib', _, rfl, q⟩⟩
def spIsRoom : Sp := fun vs H Q _ => ∃ (h : Addr) (n : Int) (D : List (Int × Int)) (i : Int), vs = [.ref h, .int i] ∧ HouseAt H h n D ∧ Q (.bl (decide (0 ≤ i ∧ i < n))) H
abbrev nIsRoom : List Str := ["house", "value"]
theorem scIsRoom : FnScope nIsRoom ["house", "value"] (defScope sIsRoom) := ⟨rfl, rfl, rfl, by decide +kernel, rfl, by decide +kernel, by decide +kernel⟩
theorem ok_isroom {f : Addr} {fd : FuncData} {k : Nat} (F : Fun K "is_room" "is_room" sIsRoom f fd) (T : Nm mg) (Cis_integer : Cal P w K mg base (k + 1) "is_integer" pIsInt spIsIntI) : FnOk P w K mg base CX0 (k + 2) f fd pIsRoom spIsRoom := by
  refine F.ok scIsRoom (fun vs H Q E h => ?_) (fun cdv A outer s H vs Q E hr h => ?_)
  · obtain ⟨h, n, D, i, rfl, _⟩ := h
    rfl
  · obtain ⟨h, n, D, i, rfl, hH, q⟩ := h
    refine ⟨_, (pss_one (ps_ret (pe_and (pe_cal Cis_integer hr (by rfl) (pa_cons (pv 1) pa_nil)) (pe_one (pe_chain op_le op_lt pe_int (pv 1) (pe_ix (ix_tupK K rfl) (pv 0) pe_int (fun _ _ => rfl))))))), ?_⟩
    obtain ⟨qd, eh⟩ := hH.room0
    refine ⟨_, rfl, i, rfl, _, rfl, iteT ⟨_, rfl, _, _, rfl, rfl, _, rfl, ?_⟩⟩
    refine ite2 (fun c => ?_) (fun c => ?_)
    · refine ⟨_, rfl, h, _, _, _, rfl, rfl, SqT.of eh, atI0, _, _, rfl, rfl, ?_⟩
      have c : 0 ≤ i := of_decide_eq_true c
      rw [show decide (0 ≤ i ∧ i < n) = decide (i < n) by simp [c]] at q
      exact q
    · have c : ¬ 0 ≤ i := fun e => c (decide_eq_true e)
      rw [show decide (0 ≤ i ∧ i < n) = false by simp [c]] at q
      exact q
end
end Fw
namespace Fw
open PySem PySem.Spec PyProof.Rows L2
theorem mvs_snoc {n : Int} {D : List (Int × Int)} {P X : List (Str × Int)} {k : Nat} {nm : Str} {r : Int} (h : X[k]? = some (nm, r)) : mvs n D P (X.take (k + 1)) = mvs n D P (X.take k) ++ ((nb n D r).filter fun t => decide (t ∈ P.map (·.2))).map fun t => (nm, t) := by
  unfold mvs
  rw [take_snoc h, List.flatMap_append]
  congr 1
  show List.flatMap _ [(nm, r)] = _
  rw [List.flatMap_cons, List.flatMap_nil, List.append_nil]
theorem mvs_len (n : Int) (D : List (Int × Int)) (P X : List (Str × Int)) (n1 : n ≤ 8) : (mvs n D P X).length ≤ 8 * X.length := by
  unfold mvs
  induction X with
  | nil => exact Nat.le_refl _
  | cons x X ih =>
    rw [List.flatMap_cons, List.length_append, List.length_map, List.length_cons]
    have h1 := List.length_filter_le (fun t => decide (t ∈ P.map (·.2))) (nb n D x.2)
    have h2 := nb_len n D x.2
    omega
theorem LsAt.app {H : Hp} {l m : Addr} {X Y : List (Str × Int)} (x : LsAt H l X) (y : LsAt H m Y) : ∃ xs ys, H l = some (.lst xs) ∧ H m = some (.lst ys) ∧ xs.length = X.length ∧ ys.length = Y.length ∧ LsAt (upd H l (.lst (xs ++ ys))) l (X ++ Y) := by
  obtain ⟨ps, h1, h2, h3⟩ := x
  obtain ⟨qs, g1, g2, g3⟩ := y
  refine ⟨_, _, h1, g1, by rw [h2, List.length_map, List.length_map], by rw [g2, List.length_map, List.length_map], ps ++ qs, ?_, by rw [h2, g2, List.map_append], fun q hq => ?_⟩
  · rw [upd_same, List.map_append]
  · have : H q.1 = some (.tup [.str q.2.1, .int q.2.2]) := by
      rcases List.mem_append.mp hq with hq | hq
      · exact h3 q hq
      · exact g3 q hq
    rw [upd_ne (ne_of this h1 (by intro z; cases z))]
    exact this
theorem rooms_snoc {P : List (Str × Int)} {k : Nat} {nm : Str} {r : Int} (h : P[k]? = some (nm, r)) : (P.take (k + 1)).map (·.2) = (P.take k).map (·.2) ++ [r] := by
  rw [take_snoc h, List.map_append]
  rfl
theorem mvs_mem {n : Int} {D : List (Int × Int)} {P X : List (Str × Int)} {nm : Str} {t : Int} (h : (nm, t) ∈ mvs n D P X) : ∃ c, (nm, c) ∈ X ∧ t ∈ nb n D c ∧ t ∈ P.map (·.2) := by
  unfold mvs at h
  obtain ⟨x, hx, h⟩ := List.mem_flatMap.mp h
  obtain ⟨t', ht, e⟩ := List.mem_map.mp h
  cases e
  obtain ⟨h1, h2⟩ := List.mem_filter.mp ht
  exact ⟨x.2, hx, h1, of_decide_eq_true h2⟩
/-- a loop over a list of pairs -/
theorem for_ls {K : PySem.W.Frag} {l : Addr} {X : List (Str × Int)} {i j : Nat} {tb : TS} {D : Ends} {σ : L2.St} {H0 H : Hp} (x : LsAt H0 l X) (Pv : Nat → L2.St → Hp → Prop) (h0 : Pv 0 σ H) (hl : ∀ k σ H, Pv k σ H → Same H0 H)
    (hs : ∀ k nm r σ H, X[k]? = some (nm, r) → Pv k σ H → tb { D with nx := Pv (k + 1), ct := Pv (k + 1), bk := D.nx } ((σ.set i (some (.str nm))).set j (some (.int r))) H) (hd : ∀ σ H, Pv X.length σ H → D.nx σ H) :
    ∃ W : Nat → Nat → L2.St → Hp → Prop, (∃ m, W 0 m σ H) ∧ ∀ k m σ H, W k m σ H →
      ((Itl K l).stop k H ∧ D.nx σ H) ∨ ((Itl K l).go k H ∧ ∃ N : L2.St → Hp → Prop, (∀ σ' H', N σ' H' → ∃ m', m' < m ∧ W (k + 1) m' σ' H') ∧ ∀ x H', (Itl K l).yld k H x H' → gTup K 2 (gCons (gName i) (gCons (gName j) gNil)) x σ H' fun σ2 H2 => tb { D with nx := N, ct := N, bk := D.nx } σ2 H2) := by
  obtain ⟨ps, h1, rfl, h3⟩ := x
  refine for_list (K := K) (a := l) (xs := ps.map fun q => V.ref q.1) Pv h0 (fun i σ H _ hp => SqL.of (hl i σ H hp _ _ h1)) (fun k x σ H hx hp => ?_) (fun σ H hp => hd σ H (by rw [List.length_map] at hp ⊢; exact hp))
  obtain ⟨q, hq, rfl⟩ := get_pl hx
  refine ⟨q.1, _, rfl, SqT.of (hl k σ H hp _ _ (h3 q (List.mem_of_getElem? hq))), rfl, _, _, rfl, _, _, rfl, rfl, ?_⟩
  exact hs k q.2.1 q.2.2 σ H (by rw [List.getElem?_map, hq]; rfl) hp
theorem LsAt.sq {K : PySem.W.Frag} {H : Hp} {l : Addr} {X : List (Str × Int)} (x : LsAt H l X) : ∃ xs, SqL K H l xs ∧ xs.length = X.length := by
  obtain ⟨ps, h1, h2, _⟩ := x
  exact ⟨_, SqL.of h1, by rw [h2, List.length_map, List.length_map]⟩
theorem LsAt.at {K : PySem.W.Frag} {H : Hp} {l : Addr} {X : List (Str × Int)} (x : LsAt H l X) {r : Int} (h0 : 0 ≤ r) (h1 : r < (X.length : Nat)) : ∃ xs t nm v, SqL K H l xs ∧ atI xs r = some (.ref t) ∧ H t = some (.tup [.str nm, .int v]) ∧ (nm, v) ∈ X := by
  obtain ⟨ps, e1, e2, e3⟩ := x
  have hj : r.toNat < ps.length := by rw [e2, List.length_map] at h1; omega
  have hm := List.getElem_mem hj
  refine ⟨_, ps[r.toNat].1, ps[r.toNat].2.1, ps[r.toNat].2.2, SqL.of e1, ?_, e3 _ hm, by rw [e2]; exact List.mem_map_of_mem (f := (·.2)) hm⟩
  have := atI_nat (xs := ps.map fun q => V.ref q.1) (j := r.toNat) (v := V.ref ps[r.toNat].1) (by rw [List.getElem?_map, List.getElem?_eq_getElem hj]; rfl)
  rw [show ((r.toNat : Nat) : Int) = r by omega] at this
  exact this
end Fw
namespace Fw
open PySem PySem.Spec PyProof.Rows L2

/-- what a dict of rooms holds at a room -/
def lk (kvs : List (Key × V)) (v : Int) : Option V := valV kvs (Sum.inl v)
theorem lk_put (kvs : List (Key × V)) (k j : Int) (y : V) : lk (putK kvs (Sum.inl k) y) j = if j = k then some y else lk kvs j := by
  unfold lk
  rw [valV_put]
  by_cases e : j = k
  · rw [if_pos e, if_pos (by rw [e])]
  · rw [if_neg e, if_neg (fun z => e (Sum.inl.inj z))]
def isK (kvs : List (Key × V)) (v : Int) : Bool := (lk kvs v).isSome
theorem isK_put (kvs : List (Key × V)) (k j : Int) (y : V) : isK (putK kvs (Sum.inl k) y) j = (decide (j = k) || isK kvs j) := by
  unfold isK
  rw [lk_put]
  by_cases e : j = k
  · rw [if_pos e, decide_eq_true e]; rfl
  · rw [if_neg e, decide_eq_false e]; rfl

/-- the way from a room along the steps -/
inductive Ch (D : List (Int × Int)) (L : Int → Option V) (g : Int) : Int → List Int → Prop
  | goal : L g = some .non → Ch D L g g [g]
  | step {v u : Int} {p : List Int} : L v = some (.int u) → adj D v u → Ch D L g u p → v ∉ p → Ch D L g v (v :: p)
theorem Ch.mono {D : List (Int × Int)} {L L' : Int → Option V} {g v : Int} {p : List Int} (h : Ch D L g v p) (m : ∀ y x, L y = some x → L' y = some x) : Ch D L' g v p := by
  induction h with
  | goal e => exact .goal (m _ _ e)
  | step e a _ n ih => exact .step (m _ _ e) a ih n
theorem Ch.keys {D : List (Int × Int)} {L : Int → Option V} {g v : Int} {p : List Int} (h : Ch D L g v p) : ∀ y ∈ p, (L y).isSome = true := by
  induction h with
  | goal e =>
    intro y hy
    rw [List.mem_singleton.mp hy, e]
    rfl
  | step e _ _ _ ih =>
    intro y hy
    rcases List.mem_cons.mp hy with rfl | hy
    · rw [e]; rfl
    · exact ih y hy
theorem Ch.sp {D : List (Int × Int)} {L : Int → Option V} {g v : Int} {p : List Int} (h : Ch D L g v p) : SP (adj D) v g p := by
  induction h with
  | goal _ => exact .one _
  | step _ a _ n ih => exact .cons a ih n

/-- the dict of steps, at any time -/
structure SInv (n : Int) (D : List (Int × Int)) (R : List Int) (g : Int) (kvs : List (Key × V)) : Prop where
  goal : lk kvs g = some .non
  way : ∀ v x, lk kvs v = some x → ∃ p, Ch D (lk kvs) g v p
  rng : ∀ v, isK kvs v = true → v = g ∨ v ∈ R
  keys : ∃ ks : List Int, kvs.map (·.1) = ks.map Sum.inl ∧ ks.Nodup ∧ ∀ v, v ∈ ks ↔ isK kvs v = true
  len : kvs.length + left n.toNat (isK kvs) ≤ n.toNat + 1
theorem SInv.start {n g : Int} {D : List (Int × Int)} {R : List Int} : SInv n D R g [(Sum.inl g, V.non)] := by
  have e0 : ∀ v, lk [(Sum.inl g, V.non)] v = if v = g then some .non else none := fun v => by
    unfold lk
    by_cases e : v = g
    · rw [if_pos e, e]; exact valV_pos rfl
    · rw [if_neg e, valV_neg (fun z => e (Sum.inl.inj z).symm)]; rfl
  have e1 : lk [(Sum.inl g, V.non)] g = some .non := by rw [e0, if_pos rfl]
  have e2 : ∀ v, isK [(Sum.inl g, V.non)] v = true → v = g := fun v h => by
    unfold isK at h
    rw [e0] at h
    by_cases e : v = g
    · exact e
    · rw [if_neg e] at h; cases h
  refine ⟨e1, fun v x h => ?_, fun v h => .inl (e2 v h), ⟨[g], rfl, by simp, fun v => ⟨fun h => ?_, fun h => ?_⟩⟩, ?_⟩
  · have : isK [(Sum.inl g, V.non)] v = true := by unfold isK; rw [h]; rfl
    rw [e2 v this]
    exact ⟨[g], .goal e1⟩
  · rw [List.mem_singleton.mp h]; unfold isK; rw [e1]; rfl
  · rw [e2 v h]; simp
  · have := left_le n.toNat (isK [(Sum.inl g, V.non)])
    simp only [List.length_cons, List.length_nil]
    omega
theorem SInv.put {n g o v : Int} {D : List (Int × Int)} {R : List Int} {kvs : List (Key × V)} (S : SInv n D R g kvs) (hv : isK kvs v = true) (ho : isK kvs o = false) (a : adj D v o) (hR : o ∈ R) (h0 : 0 ≤ o) (h1 : o < n) :
    SInv n D R g (putK kvs (Sum.inl o) (.int v)) ∧ left n.toNat (isK (putK kvs (Sum.inl o) (.int v))) < left n.toNat (isK kvs) := by
  have eo : lk kvs o = none := by
    unfold isK at ho
    cases e : lk kvs o with
    | none => rfl
    | some x => rw [e] at ho; cases ho
  have m : ∀ y x, lk kvs y = some x → lk (putK kvs (Sum.inl o) (.int v)) y = some x := fun y x h => by
    rw [lk_put, if_neg (fun e => ?_)]
    · exact h
    · rw [e, eo] at h; cases h
  have hl : left n.toNat (isK (putK kvs (Sum.inl o) (.int v))) < left n.toNat (isK kvs) := by
    refine left_lt (o := o) (fun x hx => ?_) h0 (by omega) ho ?_
    · rw [isK_put, hx, Bool.or_true]
    · rw [isK_put, decide_eq_true rfl, Bool.true_or]
  refine ⟨⟨m _ _ S.goal, fun y x h => ?_, fun y h => ?_, ?_, ?_⟩, hl⟩
  · rw [lk_put] at h
    by_cases e : y = o
    · subst e
      cases hx : lk kvs v with
      | none => unfold isK at hv; rw [hx] at hv; cases hv
      | some z =>
        obtain ⟨p, hp⟩ := S.way v z hx
        refine ⟨y :: p, .step (by rw [lk_put, if_pos rfl]) (adj_symm a) (hp.mono m) fun hm => ?_⟩
        have := hp.keys y hm
        rw [eo] at this
        cases this
    · rw [if_neg e] at h
      obtain ⟨p, hp⟩ := S.way y x h
      exact ⟨p, hp.mono m⟩
  · rw [isK_put, Bool.or_eq_true, decide_eq_true_eq] at h
    rcases h with h | h
    · exact .inr (h ▸ hR)
    · exact S.rng y h
  · obtain ⟨ks, e1, e2, e3⟩ := S.keys
    refine ⟨ks ++ [o], ?_, ?_, fun y => ?_⟩
    · rw [putK_new _ eo, List.map_append, e1, List.map_append]; rfl
    · rw [List.nodup_append]
      refine ⟨e2, by simp, fun x hx y hy e => ?_⟩
      rw [List.mem_singleton.mp hy] at e
      rw [e, e3, ho] at hx
      cases hx
    · rw [List.mem_append, List.mem_singleton, e3, isK_put, Bool.or_eq_true, decide_eq_true_eq]
      exact or_comm
  · have := length_putK kvs (Sum.inl o) (V.int v)
    have := S.len
    omega

theorem inV_ints (x : Int) (R : List Int) : inV (.int x) (vi R) = decide (x ∈ R) := by
  unfold inV
  rw [Bool.eq_iff_iff, List.any_eq_true, decide_eq_true_eq]
  constructor
  · rintro ⟨y, hy, e⟩
    obtain ⟨z, hz, rfl⟩ := List.mem_map.mp hy
    have e : (z == x) = true := e
    rw [beq_iff_eq] at e
    exact e ▸ hz
  · intro h
    exact ⟨.int x, List.mem_map_of_mem h, by show (x == x) = true; simp⟩
theorem flat_ints (R : List Int) : (vi R).all flatV = true := by
  rw [List.all_eq_true]
  intro y hy
  obtain ⟨z, hz, rfl⟩ := List.mem_map.mp hy
  rfl
theorem vi_snoc_last {xs : List Int} {x : Int} : (vi (xs ++ [x]))[(vi (xs ++ [x])).length - 1]? = some (.int x) := by
  rw [vi_app, List.length_append]
  show (vi xs ++ [V.int x])[(vi xs).length + 1 - 1]? = _
  rw [Nat.add_sub_cancel, List.getElem?_append_right (Nat.le_refl _), Nat.sub_self]
  rfl
theorem vi_dropLast {xs : List Int} {x : Int} : (vi (xs ++ [x])).dropLast = vi xs := by
  rw [vi_app]
  show (vi xs ++ [V.int x]).dropLast = _
  rw [List.dropLast_concat]
theorem snoc_cases : ∀ (xs : List Int), xs = [] ∨ ∃ ys y, xs = ys ++ [y]
  | [] => .inl rfl
  | x :: xs => by
    rcases snoc_cases xs with rfl | ⟨ys, y, rfl⟩
    · exact .inr ⟨[], x, rfl⟩
    · exact .inr ⟨x :: ys, y, rfl⟩

section
variable {P : Program} {w : World} {K : PySem.W.Frag} {mg : Str → Option Value} {base : Heap}
/-- what the finished steps are -/
structure SDone (n : Int) (D : List (Int × Int)) (R : List Int) (g : Int) (kvs : List (Key × V)) : Prop where
  inv : SInv n D R g kvs
  closed : ∀ v o, isK kvs v = true → adj D v o → o ∈ R → isK kvs o = true
theorem Same.sqT {K : PySem.W.Frag} {H H' : Hp} {a : Addr} {xs : List V} (e : Same H H') (h : SqT K H a xs) : SqT K H' a xs :=
  h.imp (Or.imp (e a _) fun ⟨o, x⟩ => ⟨o, e a _ x⟩) id
def spSteps (K : PySem.W.Frag) : Sp := fun vs H Q _ => ∃ (h rl : Addr) (n : Int) (D : List (Int × Int)) (g : Int) (R : List Int), vs = [.ref h, .int g, .ref rl] ∧ HouseAt H h n D ∧ Forest n D ∧ 0 ≤ n ∧ n ≤ 8 ∧
  (SqL K H rl (vi R) ∨ SqT K H rl (vi R)) ∧ ∀ H' d kvs, Same H H' → H d = none → H' d = some (.dK kvs) → SDone n D R g kvs → Q (.ref d) H'

structure SAt (H : Hp) (d wl : Addr) (n : Int) (D : List (Int × Int)) (R : List Int) (g : Int) (kvs : List (Key × V)) (wt : List Int) (H' : Hp) : Prop where
  sm : Same H H'
  ed : H' d = some (.dK kvs)
  ew : H' wl = some (.lst (vi wt))
  inv : SInv n D R g kvs
  wk : ∀ v ∈ wt, isK kvs v = true
  wlen : wt.length + left n.toNat (isK kvs) ≤ n.toNat + 1
theorem SAt.same {H : Hp} {d wl : Addr} {n : Int} {D : List (Int × Int)} {R : List Int} {g : Int} {kvs : List (Key × V)} {wt : List Int} {H1 H2 : Hp} (S : SAt H d wl n D R g kvs wt H1) (e : Same H1 H2) : SAt H d wl n D R g kvs wt H2 :=
  ⟨S.sm.trans e, e _ _ S.ed, e _ _ S.ew, S.inv, S.wk, S.wlen⟩
abbrev nSteps : List Str := ["house", "goal", "rooms", "steps", "waiting", "room", "other"]
theorem scSteps : FnScope nSteps ["house", "goal", "rooms"] (defScope sSteps) := ⟨rfl, rfl, rfl, by decide +kernel, rfl, by decide +kernel, by decide +kernel⟩
theorem ok_steps {f fN : Addr} {fd fdN : FuncData} (F : Fun K "steps_toward" "steps_toward" sSteps f fd) (T : Nm mg) (DN : Def K mg "neighbors" sNb fN fdN ["house", "room"]) : FnOk P w K mg base CX0 2 f fd ["house", "goal", "rooms"] (spSteps K) := by
  have GN : FnOk P w K mg base CX0 1 fN fdN ["house", "room"] spNb := ok_nb DN.F T
  refine F.ok scSteps (fun vs H Q E h => ?_) (fun cdv A outer s H vs Q E hr h => ?_)
  · obtain ⟨h, rl, n, D, g, R, rfl, _⟩ := h
    rfl
  · obtain ⟨h, rl, n, D, g, R, rfl, hH, hF, hn0, hn1, hR, q⟩ := h
    have hu := hu_of hr
    refine ⟨_, pss_cons (ps_set (i := 3) scSteps.nd rfl (.inl rfl) (pe_disp (pps_cons (pv 1) pe_non pps_nil) (by rfl) (by rfl) (fun z => by cases z) (by decide)))
      (pss_cons (ps_set (i := 4) scSteps.nd rfl (.inl rfl) (pe_lst (pa_cons (pv 1) pa_nil)))
      (pss_cons (ps_while PassesOwn.never (pt_truth (pv 4) (by intro _; rfl))
        (pss_cons (ps_set (i := 5) scSteps.nd rfl (.inl rfl) (pe_bm0 PySem.F.plainAttrs_list PySem.F.slot_list_pop PySem.F.type_list_pop mt_pop (pv 4)))
        (pss_one (ps_for PassesOwn.never rfl (pi_tup (pe_call GN hr (by rfl) DN.g DN.F.kp DN.b .nil pass0 (pa_cons (pv 0) (pa_cons (pv 5) pa_nil)))) (pg_name (i := 6) scSteps.nd rfl (Or.inl rfl))
          (pss_one (ps_if (PW.pt (pw_and (pt_cmpR op_in_seq (pv 6) (pv 2) (by rfl)) (pw_and1 (pt_cmp (pc_dnotin hu (pv 6) (pv 3))))))
            (pss_cons (ps_dput hu (pv 3) (pv 6) (pv 5) rfl)
            (pss_one (ps_expr (pe_bm PySem.F.plainAttrs_list PySem.F.slot_list_append PySem.F.type_list_append mt_append (pv 4) (pa_cons (pv 6) pa_nil)))))
            pss_nil))))))
      (pss_one (ps_ret (pv 3))))), ?_⟩
    refine fun d hd => ⟨_, rfl, upd_same, [(Sum.inl g, .non)], rfl, by show 1 ≤ 15; decide, ?_⟩
    rw [upd_upd]
    refine ⟨_, rfl, by show 1 ≤ sizeLine; decide, fun wl hw => ?_⟩
    have ed0 : (upd H d (.dK (mergeK [] [(Sum.inl g, V.non)]))) d = some (.dK [(Sum.inl g, V.non)]) := upd_same
    have nwd : d ≠ wl := ne_of_none ed0 hw
    have gw : H wl = none := (same_upd hd).free hw
    have clos0 : ∀ v o, isK [(Sum.inl g, V.non)] v = true → v ∉ [g] → adj D v o → o ∈ R → isK [(Sum.inl g, V.non)] o = true := fun v o hv hn _ _ => by
      obtain ⟨ks, e1, _, e3⟩ := (SInv.start (n := n) (D := D) (R := R) (g := g)).keys
      have e4 : ks = [g] := by
        cases ks with
        | nil => cases e1
        | cons k r =>
          cases r with
          | nil =>
            injection e1 with e1 _
            rw [← Sum.inl.inj e1]
          | cons k2 r =>
            injection e1 with _ e1
            cases e1
      rw [e4] at e3
      exact absurd ((e3 v).mpr hv) hn
    refine ⟨fun m σ H' => ∃ (kvs : List (Key × V)) (wt : List Int) (y5 y6 : Option V), σ = [some (.ref h), some (.int g), some (.ref rl), some (.ref d), some (.ref wl), y5, y6] ∧ SAt H d wl n D R g kvs wt H' ∧
        (∀ v o, isK kvs v = true → v ∉ wt → adj D v o → o ∈ R → isK kvs o = true) ∧ m = 2 * left n.toNat (isK kvs) + wt.length, ⟨_, [(Sum.inl g, V.non)], [g], none, none, rfl, ⟨?_, ?_, upd_same, SInv.start, ?_, ?_⟩, clos0, rfl⟩, ?_⟩
    · exact (same_upd hd).trans (same_upd hw)
    · rw [upd_ne nwd]
      exact ed0
    · intro v hv
      rw [List.mem_singleton.mp hv]
      unfold isK
      rw [SInv.start (n := n) (D := D) (R := R) |>.goal]
      rfl
    · have := left_le n.toNat (isK [(Sum.inl g, V.non)])
      simp only [List.length_cons, List.length_nil]
      omega
    clear clos0 ed0
    rintro m σ H1 ⟨kvs, wt, y5, y6, rfl, S1, clos, rfl⟩
    refine ⟨_, rfl, _, .inl ⟨_, SqL.of S1.ew, rfl⟩, ?_⟩
    rcases snoc_cases wt with rfl | ⟨ys, v, rfl⟩
    · refine iteF ?_
      exact ⟨_, rfl, q _ d kvs S1.sm hd S1.ed ⟨S1.inv, fun v o h1 h2 h3 => clos v o h1 (by simp) h2 h3⟩⟩
    · have ne : (!(vi (ys ++ [v])).isEmpty) = true := by
        cases ys <;> rfl
      rw [ne]
      refine iteT ⟨_, fun _ _ hh => hh, ?_⟩
      have hv : isK kvs v = true := S1.wk v (by simp)
      refine ⟨_, rfl, .inl ⟨rfl, _, SqL.of S1.ew⟩, wl, _, _, rfl, rfl, S1.ew, vi_snoc_last, ?_⟩
      rw [vi_dropLast]
      have l1 := S1.wlen
      rw [List.length_append, List.length_singleton] at l1
      have S2 : SAt H d wl n D R g kvs ys (upd H1 wl (.lst (vi ys))) := ⟨same_put S1.sm gw, (upd_ne nwd).trans S1.ed, upd_same, S1.inv, fun x hx => S1.wk x (List.mem_append_left _ hx), by omega⟩
      refine ⟨_, rfl, _, rfl, h, n, D, v, rfl, hH.same S2.sm, hF, fun H3 t s3 et => ?_⟩
      have S3 := S2.same s3
      refine ⟨t, rfl, ⟨_, SqT.of et⟩, for_tup (K := K) (a := t) (xs := vi (nb n D v)) (fun i σ H' => ∃ (kvs' : List (Key × V)) (wt : List Int) (y6 : Option V), σ = [some (.ref h), some (.int g), some (.ref rl), some (.ref d), some (.ref wl), some (.int v), y6] ∧
          SAt H d wl n D R g kvs' wt H' ∧ H' t = some (.tup (vi (nb n D v))) ∧ isK kvs' v = true ∧ (∀ x o, isK kvs' x = true → x ∉ wt → x ≠ v → adj D x o → o ∈ R → isK kvs' o = true) ∧
          (∀ o ∈ (nb n D v).take i, o ∈ R → isK kvs' o = true) ∧ 2 * left n.toNat (isK kvs') + wt.length < 2 * left n.toNat (isK kvs) + (ys ++ [v]).length) ⟨kvs, ys, y6, rfl, S3, et, hv, ?_, ?_, ?_⟩ ?_ ?_ ?_⟩
      · intro x o h1 h2 h3 h4 h5
        exact clos x o h1 (by simp [h2, h3]) h4 h5
      · intro o ho
        simp at ho
      · rw [List.length_append, List.length_singleton]
        omega
      · rintro i σ H' _ ⟨kvs', wt, y6, rfl, _, et', _⟩
        exact SqT.of et'
      · rintro i x σ H4 hx ⟨kvs', wt, y6, rfl, S4, et4, hv4, cl4, pre4, lt4⟩
        obtain ⟨o, eo, rfl⟩ := get_vi hx
        have mo := List.mem_of_getElem? eo
        have ao : adj D v o := hF.mem_nb.mp mo
        have ro := hF.adj ao
        have pre5 : ∀ kvs2 : List (Key × V), (∀ y, isK kvs' y = true → isK kvs2 y = true) → (o ∈ R → isK kvs2 o = true) → ∀ z ∈ (nb n D v).take (i + 1), z ∈ R → isK kvs2 z = true := fun kvs2 hm ho z hz hzR => by
          rw [List.take_add_one, eo, List.mem_append] at hz
          rcases hz with hz | hz
          · exact hm _ (pre4 z hz hzR)
          · have : z = o := by simpa using hz
            rw [this] at hzR ⊢
            exact ho hzR
        dsimp only [gName]
        refine if_by (fun b H5 => H5 = H4 ∧ (b = true → o ∈ R ∧ isK kvs' o = false) ∧ (b = false → o ∈ R → isK kvs' o = true)) ?_ ?_ ?_
        · rintro H5 ⟨rfl, hb, _⟩
          obtain ⟨oR, ok⟩ := hb rfl
          obtain ⟨I5, lt5⟩ := S4.inv.put hv4 ok ao oR ro.2.2.1 ro.2.2.2
          have lk4 := S4.inv.len
          have lw4 := S4.wlen
          refine ⟨_, rfl, _, rfl, _, rfl, d, _, rfl, DPut.k (k := Sum.inl o) S4.ed (small1000 (by omega)), ?_⟩
          have ew5 : (upd H5 d (.dK (putK kvs' (Sum.inl o) (V.int v)))) wl = some (.lst (vi wt)) := (upd_ne nwd.symm).trans S4.ew
          refine ⟨_, rfl, .inl ⟨rfl, _, SqL.of ew5⟩, _, rfl, wl, _, _, rfl, rfl, ew5, by rw [List.length_map]; exact small1000 (by omega), ?_⟩
          refine ⟨putK kvs' (Sum.inl o) (V.int v), wt ++ [o], _, rfl, ⟨same_put (same_put S4.sm hd) gw, (upd_ne nwd).trans upd_same, ?_, I5, ?_, ?_⟩, ?_, ?_, ?_, ?_, ?_⟩
          · rw [upd_same, vi_app]
            rfl
          · intro y hy
            rw [isK_put]
            rcases List.mem_append.mp hy with hy | hy
            · rw [S4.wk y hy, Bool.or_true]
            · rw [List.mem_singleton.mp hy, decide_eq_true rfl, Bool.true_or]
          · rw [List.length_append, List.length_singleton]
            omega
          · rw [upd_ne (ne_of et4 S4.ew (by intro z; cases z)), upd_ne (ne_of et4 S4.ed (by intro z; cases z))]
            exact et4
          · rw [isK_put, hv4, Bool.or_true]
          · intro y z h1 h2 h3 h4 h5
            rw [isK_put, Bool.or_eq_true, decide_eq_true_eq] at h1
            rw [List.mem_append, not_or, List.mem_singleton] at h2
            rcases h1 with h1 | h1
            · exact absurd h1 h2.2
            · rw [isK_put, cl4 y z h1 h2.1 h3 h4 h5, Bool.or_true]
          · refine pre5 _ (fun y hy => by rw [isK_put, hy, Bool.or_true]) fun _ => ?_
            rw [isK_put, decide_eq_true rfl, Bool.true_or]
          · rw [List.length_append, List.length_singleton]
            omega
        · rintro H5 ⟨rfl, _, hb⟩
          exact ⟨kvs', wt, _, rfl, S4, et4, hv4, cl4, pre5 kvs' (fun _ hh => hh) (hb rfl), lt4⟩
        · intro QQ hQ
          have hR4 : SqL K H4 rl (vi R) ∨ SqT K H4 rl (vi R) := hR.imp (fun z => S4.sm.seq z) (fun z => Same.sqT S4.sm z)
          refine ⟨_, rfl, _, rfl, rl, _, rfl, hR4, rfl, flat_ints R, _, rfl, ?_⟩
          show if (inV (.int o) (vi R)) = true then _ else _
          rw [inV_ints]
          refine ite2 (fun c => ?_) (fun c => ?_)
          · have c : o ∈ R := of_decide_eq_true c
            refine ⟨_, rfl, _, rfl, d, _, rfl, DGet.k (k := Sum.inl o) S4.ed, _, rfl, ?_⟩
            refine hQ _ _ ⟨rfl, fun e => ⟨c, ?_⟩, fun e _ => ?_⟩
            · show isK kvs' o = false
              unfold isK lk
              simpa using e
            · show isK kvs' o = true
              unfold isK lk
              simpa using e
          · exact hQ _ _ ⟨rfl, fun e => (by cases e), fun _ e => absurd (decide_eq_true e) c⟩
      · rintro σ H4 ⟨kvs', wt, y6, rfl, S4, et4, hv4, cl4, pre4, lt4⟩
        rw [List.length_map, List.take_length] at pre4
        refine ⟨_, lt4, kvs', wt, _, _, rfl, S4, fun x o h1 h2 h3 h4 => ?_, rfl⟩
        by_cases e : x = v
        · subst e
          exact pre4 o (hF.mem_nb.mpr h3) h4
        · exact cl4 x o h1 h2 e h3 h4
end
end Fw
namespace Fw
open PySem PySem.Spec PyProof.Rows L2
theorem HouseAt.top {H : Hp} {h : Addr} {n : Int} {D : List (Int × Int)} (x : HouseAt H h n D) : ∃ q, H h = some (.tup [.int n, .ref q]) := by
  obtain ⟨q, ps, h1, _⟩ := x
  exact ⟨q, h1⟩

/-- a nodup list of rooms below n is no longer than n -/
theorem short {n : Nat} : ∀ {p : List Int}, p.Nodup → (∀ x ∈ p, 0 ≤ x ∧ x < n) → p.length ≤ n := by
  induction n with
  | zero =>
    intro p _ h
    cases p with
    | nil => exact Nat.le_refl _
    | cons x r => have := h x (List.mem_cons_self ..); omega
  | succ n ih =>
    intro p nd h
    have h2 : (p.erase (n : Int)).length ≤ n := by
      refine ih (nd.erase _) fun x hx => ?_
      have hm := List.mem_of_mem_erase hx
      have hne : x ≠ (n : Int) := fun e => by
        subst e
        exact (List.Nodup.not_mem_erase nd) hx
      have := h x hm
      omega
    have h3 : p.length - 1 ≤ (p.erase (n : Int)).length := List.le_length_erase
    omega
theorem SP.all {R : Int → Int → Prop} {S : Int → Prop} (hs : ∀ x y, R x y → S y) {a b : Int} {p : List Int} (h : SP R a b p) (e : S a) : ∀ x ∈ p, S x := by
  induction h with
  | one a =>
    intro x hx
    rw [List.mem_singleton.mp hx]
    exact e
  | cons r _ _ ih =>
    intro x hx
    rcases List.mem_cons.mp hx with rfl | hx
    · exact e
    · exact ih (hs _ _ r) x hx
theorem Forest.short {n a b : Int} {D : List (Int × Int)} (f : Forest n D) (h8 : n ≤ 8) (h0 : 0 ≤ a) (h1 : a < n) {p : List Int} (h : SP (Fw.adj D) a b p) : p.length ≤ 8 := by
  have h2 : p.length ≤ n.toNat := Fw.short h.nodup fun x hx => by
    have := h.all (S := fun x => 0 ≤ x ∧ x < n) (fun x y r => ⟨(f.adj r).2.2.1, (f.adj r).2.2.2⟩) ⟨h0, h1⟩ x hx
    omega
  omega

end Fw
namespace Fw
open PySem PySem.Spec PyProof.Rows L2 SrtO

section
variable {P : Program} {w : World} {A : Around} {E : Value → Shared → Prop} {s : Shared}
/-- sorted of anything that can be collected, by an order -/
theorem sorted_any {a : Addr} {ltv : Value → Value → Bool} {Q : Value → Shared → Prop} (O : Swo ltv) (good : List Value → Shared → Prop) (col : wpAny (model P w) A.in1 (collect (.ref a)) good E s) (hz : ∀ vs z, good vs z → vs.length ≤ sizeLine)
    (hS : ∀ vs z, good vs z → 2 ≤ vs.length → SortableO P w A.in1.in1 { z with heap := z.heap.push (seqObj "list" vs.toArray 0) } z.heap.objs.size vs ltv)
    (fin : ∀ vs z out, good vs z → Srtd ltv out → Stb ltv out vs → Q (.ref z.heap.objs.size) { z with heap := sortedHeap (z.heap.push (seqObj "list" vs.toArray 0)) z.heap.objs.size vs out.toArray }) :
    wpAny (model P w) A (call (.builtin "sorted") [.ref a]) Q E s := by
  refine Calls.call_function_entry kind_sorted plain_sorted entry_sorted (args_sorted1 _) ?_
  show wpAny (model P w) A.in1 (Builtin.«sorted» _) _ _ _
  unfold Builtin.«sorted»
  refine wpAny_bind (m := checkCount "sorted" 1 1 _) (wpAny_pure (wpAny_bind (wpAny_mono col (fun vs z g => ?_) fun _ _ e => e)))
  refine wpAny_bind (wpAny_newList ?_ (hz vs z g))
  have at0 : (z.heap.push (seqObj "list" vs.toArray 0)).get? z.heap.objs.size = some (seqObj "list" vs.toArray 0) := Heap.get?_push_size _ rfl
  refine wpAny_bind (wpAny_holding (wpAny_call_entry slot_list_sort ⟨_, at0, rfl⟩ entry_list_sort (list_sort_ord O at0 (hz vs z g) (hS vs z g) fun out h1 h2 => ?_) (args_list_sort _)))
  exact ⟨_, rfl, wpAny_pure ⟨_, rfl, fin vs z out g h1 h2⟩⟩
end

/-- sorted(d), the keys of d ints -/
def rSortedDI : List V → Hp → VK → Prop := fun xs H Q => ∃ (a : Addr) (kvs : List (Key × V)) (ks : List Int), xs = [.ref a] ∧ H a = some (.dK kvs) ∧ kvs.map (·.1) = ks.map Sum.inl ∧
  ∀ (ys : List Int) (p : Addr), ys.Perm ks → ys.Pairwise (· ≤ ·) → H p = none → Q (.ref p) (upd H p (.lst (vi ys)))
theorem cr_sortedDI {X : Cx} (hc : X.calm = true) : CallR X (.builtin "sorted") rSortedDI := by
  intro pins s σ H xs us Q I r h
  obtain ⟨a, kvs, ks, rfl, ha, hk, q⟩ := h
  rw [Vals.ref1 r]
  obtain ⟨len, lo, vs, rel, dd⟩ := dk_of I.hok ha
  obtain ⟨ep, hat⟩ := dd.dictAt
  have ek : vs.map (·.1) = ks.map Sum.inl := rel.keys.symm.trans hk
  have el : vs.length = ks.length := by simpa using congrArg List.length ek
  have ez : ks.length ≤ sizeLine := by
    have := congrArg List.length hk
    rw [List.length_map, List.length_map] at this
    omega
  refine sorted_any swo_int (fun us z => IntsAre us ks ∧ Inv X pins σ H z ∧ z = { s with heap := z.heap, toks := z.toks }) ?_ ?_ ?_ ?_
  · refine PySem.W.kdu_collect (PySem.W.kdl_dict (knd := mixKind X.prog X.w) (kvs := vs) (ep := ep) lo) (I.ok.hd hc) hat (by omega) fun h' tk acc keep items => ⟨?_, I.kept keep, rfl⟩
    have lena : acc.toList.length = vs.length := by
      rw [Array.length_toList]
      exact items.1
    have rv := keys_at (us := acc.toList) (vs := vs) lena fun j v e => by
      obtain ⟨k, x, e1, e2⟩ := items.2 j v (by rw [← Array.getElem?_toList]; exact e)
      exact ⟨k, x, e1, e2⟩
    have e3 : (vs.map fun p => kV p.1) = ks.map V.int := by
      have := congrArg (List.map kV) ek
      rw [List.map_map, List.map_map] at this
      exact this
    rw [e3] at rv
    exact rv.ints
  · intro us z g
    rw [g.1.length]
    exact ez
  · intro us z g h2
    exact ints_sortable g.1 h2
  · rintro us z out ⟨hi, J, ez'⟩ h1 h2
    obtain ⟨k1, k2, k3⟩ := ints_out hi h1 h2
    have at0 : (z.heap.push (seqObj "list" us.toArray 0)).get? z.heap.objs.size = some (seqObj "list" us.toArray 0) := Heap.get?_push_size _ rfl
    obtain ⟨e', he'⟩ := sortedHeap_at (vs := us) (out := out.toArray) at0
    refine ⟨.ref z.heap.objs.size, upd H z.heap.objs.size (.lst (vi (out.map iv))), J.laid (t' := z.toks) (fun b u e => ?_) (Nat.le_refl _) ⟨?_, out, e', vals_of_ints k1, he'⟩, rfl, q _ _ k2 k3 (J.hok.fresh (Nat.le_refl _))⟩
    · have lt := Heap.lt_size e
      rw [sortedHeap_old (Nat.ne_of_lt lt) (by rw [size_push']; exact Nat.lt_succ_of_lt lt)]
      exact Heap.get?_push_of_some _ e
    · rw [List.length_map, k2.length_eq]
      exact ez
end Fw
namespace Fw
open PySem PySem.Spec PyProof.Rows L2 SrtO

/-! ### lists of ints in the order of tuples -/
def lexI : List Int → List Int → Bool
  | [], [] => false
  | [], _ :: _ => true
  | _ :: _, [] => false
  | x :: xs, y :: ys => if x = y then lexI xs ys else decide (x < y)
theorem lexI_asym : ∀ {xs ys : List Int}, lexI xs ys = true → lexI ys xs = false
  | [], [], h => by cases h
  | [], _ :: _, _ => rfl
  | _ :: _, [], h => by cases h
  | x :: xs, y :: ys, h => by
    unfold lexI at h ⊢
    by_cases e : x = y
    · rw [if_pos e] at h
      rw [if_pos e.symm]
      exact lexI_asym h
    · rw [if_neg e, decide_eq_true_eq] at h
      rw [if_neg (fun z => e z.symm)]
      exact decide_eq_false (by omega)
theorem lexI_tr : ∀ {xs ys zs : List Int}, lexI ys xs = false → lexI zs ys = false → lexI zs xs = false
  | [], [], [], _, _ => rfl
  | [], [], _ :: _, _, _ => rfl
  | [], _ :: _, [], _, h => by cases h
  | [], _ :: _, _ :: _, _, _ => rfl
  | _ :: _, [], _, h, _ => by cases h
  | _ :: _, _ :: _, [], _, h => by cases h
  | x :: xs, y :: ys, z :: zs, h1, h2 => by
    unfold lexI at h1 h2 ⊢
    by_cases e1 : y = x
    · rw [if_pos e1] at h1
      by_cases e2 : z = y
      · rw [if_pos e2] at h2
        rw [if_pos (e2.trans e1)]
        exact lexI_tr h1 h2
      · rw [if_neg e2, decide_eq_false_iff_not] at h2
        rw [if_neg (fun q => e2 (q.trans e1.symm))]
        exact decide_eq_false (by omega)
    · rw [if_neg e1, decide_eq_false_iff_not] at h1
      by_cases e2 : z = y
      · rw [if_neg (fun q => e1 (e2.symm.trans q))]
        exact decide_eq_false (by omega)
      · rw [if_neg e2, decide_eq_false_iff_not] at h2
        rw [if_neg (by omega)]
        exact decide_eq_false (by omega)
theorem lexI_total : ∀ {xs ys : List Int}, lexI xs ys = false → xs ≠ ys → lexI ys xs = true
  | [], [], _, h => absurd rfl h
  | [], _ :: _, h, _ => by cases h
  | _ :: _, [], _, _ => rfl
  | x :: xs, y :: ys, h, n => by
    unfold lexI at h ⊢
    by_cases e : x = y
    · rw [if_pos e] at h
      rw [if_pos e.symm]
      exact lexI_total h fun z => n (by rw [e, z])
    · rw [if_neg e, decide_eq_false_iff_not] at h
      rw [if_neg (fun z => e z.symm)]
      exact decide_eq_true (by omega)
theorem lexI_head {x y : Int} {xs ys : List Int} (h : x < y) : lexI (x :: xs) (y :: ys) = true := by
  unfold lexI
  rw [if_neg (by omega)]
  exact decide_eq_true h
/-- two lists that rise strictly, with the same members, are one -/
theorem rise_ext {α : Type} {lt : α → α → Prop} (as : ∀ a b, lt a b → ¬ lt b a) : ∀ {xs ys : List α}, xs.Pairwise lt → ys.Pairwise lt → (∀ x, x ∈ xs ↔ x ∈ ys) → xs = ys
  | [], [], _, _, _ => rfl
  | [], y :: ys, _, _, h => absurd ((h y).mpr (List.mem_cons_self ..)) (by simp)
  | x :: xs, [], _, _, h => absurd ((h x).mp (List.mem_cons_self ..)) (by simp)
  | x :: xs, y :: ys, hx, hy, h => by
    obtain ⟨hx1, hx2⟩ := List.pairwise_cons.mp hx
    obtain ⟨hy1, hy2⟩ := List.pairwise_cons.mp hy
    have e : x = y := by
      rcases List.mem_cons.mp ((h x).mp (List.mem_cons_self ..)) with h1 | h1
      · exact h1
      · rcases List.mem_cons.mp ((h y).mpr (List.mem_cons_self ..)) with h2 | h2
        · exact h2.symm
        · exact absurd (hy1 _ h1) (as _ _ (hx1 _ h2))
    subst e
    rw [rise_ext as hx2 hy2 fun z => ?_]
    constructor
    · intro m
      rcases List.mem_cons.mp ((h z).mp (List.mem_cons_of_mem _ m)) with e | e
      · subst e; exact absurd (hx1 _ m) (as _ _ (hx1 _ m))
      · exact e
    · intro m
      rcases List.mem_cons.mp ((h z).mpr (List.mem_cons_of_mem _ m)) with e | e
      · subst e; exact absurd (hy1 _ m) (as _ _ (hy1 _ m))
      · exact e

/-! ### the machine's comparison of two tuples of ints -/
def lexF (fin : Bool) : List Int → List Int → Bool
  | x :: xs, y :: ys => if x = y then lexF fin xs ys else decide (x < y)
  | _, _ => fin
theorem lexF_eq : ∀ (xs ys : List Int), lexF (decide (xs.length < ys.length)) xs ys = lexI xs ys
  | [], [] => rfl
  | [], _ :: _ => by unfold lexF lexI; simp
  | _ :: _, [] => by unfold lexF lexI; simp
  | x :: xs, y :: ys => by
    unfold lexF lexI
    have e : decide ((x :: xs).length < (y :: ys).length) = decide (xs.length < ys.length) := by simp
    rw [e, lexF_eq xs ys]
section
variable {P : Program} {w : World} {A : Around} {s : Shared}
theorem kat_ints {fin : Bool} : ∀ {xs ys : List Value} {ns ms : List Int} (i : Nat), IntsAre xs ns → IntsAre ys ms → PySem.W.KatLex P w A true fin (fun r s' => s' = s ∧ r = lexF fin ns ms) (xs.zip ys) i s := by
  intro xs ys ns ms i hx
  induction hx generalizing ys ms i with
  | nil => intro _; exact PySem.W.kat_nil ⟨rfl, by cases ms <;> rfl⟩
  | cons x t hx ih =>
    intro hy
    cases hy with
    | nil => exact PySem.W.kat_nil ⟨rfl, rfl⟩
    | cons y u hy =>
      refine PySem.W.kat_cons (SeqAt.EqAt.int_int x t y u P w _ _ (PySem.W.kat_go (fun e => ?_) fun e => ?_))
      · have e : x = y := by simpa using e
        subst e
        unfold lexF
        rw [if_pos rfl]
        exact PySem.W.kat_yes (ih (i + 1) hy)
      · have e : ¬ x = y := by simpa using e
        unfold lexF
        rw [if_neg e]
        refine PySem.W.kat_no ?_
        cases hb : (true && i == 0) with
        | true => exact oneLt_int ⟨rfl, rfl⟩
        | false => exact PySem.W.kat_one _ _ (PyProof.Rows.lt_int (show s = s ∧ decide (x < y) = decide (x < y) from ⟨rfl, rfl⟩))
theorem swo_lexI (k : Value → List Int) : Swo fun v u => lexI (k v) (k u) := ⟨fun _ _ h => lexI_asym h, fun _ _ _ h1 h2 => lexI_tr h1 h2⟩
/-- tuples of ints, none empty, sort by their order -/
theorem tups_sortable {a : Addr} {vs : List Value} {k : Value → List Int} (h0 : 0 < vs.length) (hp : ∀ v ∈ vs, TS.TupInts s.heap v (k v) ∧ k v ≠ []) (ha : ∀ o, s.heap.get? a = some o → o.cls ≠ .type "tuple") : SortableO P w A s a vs fun v u => lexI (k v) (k u) := by
  intro h' keep
  have hp' : ∀ v ∈ vs, TS.TupInts h' v (k v) := fun v hv => (hp v hv).1.keeps fun b o e c => keep b o (fun z => ha o (z ▸ e) c) e
  have firsts : ∀ us : List Value, (∀ v ∈ us, v ∈ vs) → ∃ fs : List Value, PySem.W.KatTups h' us fs ∧ fs.length = us.length ∧ ∀ f ∈ fs, ∃ x t, f = Value.int x t := by
    intro us
    induction us with
    | nil => exact fun _ => ⟨[], PySem.W.KatTups.nil, rfl, fun _ hm => nomatch hm⟩
    | cons v us ih =>
      intro hu
      obtain ⟨fs, g1, g2, g3⟩ := ih fun z hz => hu z (List.mem_cons_of_mem _ hz)
      have hv := hu v (List.mem_cons_self ..)
      obtain ⟨b, xs, rfl, ⟨o, ho, hc, n, hd⟩, hi⟩ := hp' v hv
      have ne := (hp _ hv).2
      generalize k (.ref b) = kb at hi ne
      obtain ⟨l⟩ := xs
      cases l with
      | nil =>
        have hi : IntsAre [] kb := hi
        cases hi
        exact absurd rfl ne
      | cons f l =>
        have hf : ∃ x t, f = Value.int x t := by
          have hi : IntsAre (f :: l) kb := hi
          cases hi
          exact ⟨_, _, rfl⟩
        refine ⟨f :: fs, PySem.W.KatTups.cons ho hc hd rfl g1, by rw [List.length_cons, List.length_cons, g2], fun z hz => ?_⟩
        rcases List.mem_cons.mp hz with rfl | hz
        · exact hf
        · exact g3 z hz
  obtain ⟨fs, g1, g2, g3⟩ := firsts vs fun _ h => h
  refine ⟨tuples' true, fun Q E hq => ?_, fun p q hm hm' => ?_⟩
  · refine PySem.W.kat_kind (T := .type "int") g1 (by omega) (fun f hf => ?_) (by rfl) ?_
    · obtain ⟨x, t, rfl⟩ := g3 f hf
      exact PySem.W.Looks.now
    · rw [show (Value.type "int" != Value.type "tuple") = true by decide +kernel]
      exact hq
  · obtain ⟨b, xs, e1, ⟨o, ho, hc, n, hd⟩, hi⟩ := hp' p.1 hm
    obtain ⟨b2, xs2, e2, ⟨o2, ho2, hc2, n2, hd2⟩, hi2⟩ := hp' q.1 hm'
    have fe : (lt2 fun v u => lexI (k v) (k u)) p q = lexI (k p.1) (k q.1) := rfl
    rw [fe, ← lexF_eq]
    have l1 : (k p.1).length = xs.size := by rw [← hi.length]; simp
    have l2 : (k q.1).length = xs2.size := by rw [← hi2.length]; simp
    rw [l1, l2]
    generalize k p.1 = ns at hi
    generalize k q.1 = ms at hi2
    rw [e1, e2]
    exact PySem.W.kat_lt ho hd ho2 hd2 (kat_ints 0 hi hi2)
end

/-- sorted(set), the members tuples of ints, none empty -/
def rSortedTV (K : PySem.W.Frag) (P : Program) (w : World) : List V → Hp → VK → Prop := fun vs H Q => ∃ (a : Addr) (L : List (Addr × List Int)), vs = [V.ref a] ∧ H a = some (SetTO P w a L) ∧ (∀ p ∈ L, SqT K H p.1 (vi p.2) ∧ p.2 ≠ []) ∧
  ∀ (L' : List (Addr × List Int)) (p : Addr), (∀ q, q ∈ L' ↔ q ∈ L) → (L'.map (·.2)).Pairwise (fun x y => lexI x y = true) → H p = none → Q (.ref p) (upd H p (.lst (L'.map fun q => V.ref q.1)))
theorem cr_sortedTV {X : Cx} (hc : X.calm = true) : CallR X (.builtin "sorted") (rSortedTV X.K X.prog X.w) := by
  intro pins s σ H vs us Q I r h
  obtain ⟨a, L, rfl, ha, hk, q⟩ := h
  rw [Vals.ref1 r]
  have R0 : SetT0 X.prog X.w s.heap a L := (I.hok a _ ha).1
  obtain ⟨es, ep, t, R⟩ := R0.full fun p hp => I.isT (hk p hp).1
  have few := R.few
  have rows : es.toList.map (·.2) = L.map fun q => Value.ref q.1 := by
    rw [R.rows]
    unfold rowsOf
    rw [List.map_map]
    rfl
  have one : ∀ q ∈ L, ∀ r ∈ L, q.1 = r.1 → q = r := fun q hq r hr e => by
    have a1 := R.tup q hq
    rw [e] at a1
    exact Prod.ext e (a1.inj (R.tup r hr))
  have tup : ∀ (h' : Heap), (∀ b o, s.heap.get? b = some o → h'.get? b = some o) → ∀ q ∈ L, TS.TupInts h' (.ref q.1) q.2 := fun h' kk q hq => tupInts_of (P := X.prog) (w := X.w) (isT_keep (R.tup q hq) kk)
  obtain ⟨o, ho, hex, hd⟩ := R.ob
  have hsz := R.size
  refine sorted_any (swo_lexI (TS.intsOf s.heap)) (fun us z => (∀ b o, s.heap.get? b = some o → z.heap.get? b = some o) ∧ s.heap.objs.size ≤ z.heap.objs.size ∧ z.gens = s.gens ∧ z.os = s.os ∧ us.Perm (L.map fun q => Value.ref q.1))
    (collect_set (A := X.A.in1) (I.ok.hd hc) ⟨o, ho, hex.1, hd⟩ R.fits (by unfold scanBound; omega) R.tab.ris R.led fun z out k1 k2 k3 k4 k5 => ⟨k1, k2, k3, k4, by rw [← rows]; exact k5⟩) ?_ ?_ ?_
  · rintro us z ⟨_, _, _, _, pm⟩
    rw [pm.length_eq, List.length_map, sizeLine_eq]
    omega
  · rintro us z ⟨k1, _, _, _, pm⟩ h2
    refine tups_sortable (by omega) (fun v hv => ?_) fun o' e => ?_
    · obtain ⟨p, hp, rfl⟩ := List.mem_map.mp (pm.mem_iff.mp hv)
      have e0 : TS.intsOf s.heap (.ref p.1) = p.2 := (tup s.heap (fun _ _ e => e) p hp).ints
      rw [e0]
      exact ⟨tup _ (fun b o e => Heap.get?_push_of_some _ (k1 b o e)) p hp, (hk p hp).2⟩
    · have e' : some o' = some (seqObj "list" us.toArray 0) := e.symm.trans (Heap.get?_push_size _ rfl)
      cases e'
      intro c
      exact absurd (Value.type.inj c) (by decide)
  · rintro us z out ⟨k1, k2, k3, k4, pm⟩ h1 h2
    have pm2 := h2.perm.trans pm
    obtain ⟨L', pL, eL⟩ := perm_map_inv pm2 rfl
    have at0 : (z.heap.push (seqObj "list" us.toArray 0)).get? z.heap.objs.size = some (seqObj "list" us.toArray 0) := Heap.get?_push_size _ rfl
    obtain ⟨e', he'⟩ := sortedHeap_at (vs := us) (out := out.toArray) at0
    have hn : H z.heap.objs.size = none := I.hok.fresh k2
    have kk : ∀ b o, s.heap.get? b = some o → (sortedHeap (z.heap.push (seqObj "list" us.toArray 0)) z.heap.objs.size us out.toArray).get? b = some o := fun b o e => by
      have lt := Heap.lt_size (k1 b o e)
      rw [sortedHeap_old (Nat.ne_of_lt lt) (by rw [size_push']; exact Nat.lt_succ_of_lt lt)]
      exact Heap.get?_push_of_some _ (k1 b o e)
    have rise : (L'.map (·.2)).Pairwise (fun x y => lexI x y = true) := by
      rw [eL] at h1
      have p1 := List.pairwise_map.mp h1
      have nd : (L'.map (·.2)).Nodup := (pL.map _).nodup_iff.mpr R.nd
      refine List.pairwise_map.mpr (List.Pairwise.imp_of_mem ?_ (p1.and (List.pairwise_map.mp nd)))
      rintro q r hq hr ⟨g1, g2⟩
      have f1 : TS.intsOf s.heap (.ref q.1) = q.2 := (tup s.heap (fun _ _ e => e) q (pL.mem_iff.mp hq)).ints
      have f2 : TS.intsOf s.heap (.ref r.1) = r.2 := (tup s.heap (fun _ _ e => e) r (pL.mem_iff.mp hr)).ints
      have g1 : lexI (TS.intsOf s.heap (.ref r.1)) (TS.intsOf s.heap (.ref q.1)) = false := g1
      rw [f1, f2] at g1
      exact lexI_total g1 fun e => g2 e.symm
    have J : Inv X pins σ (upd H z.heap.objs.size (.lst (L'.map fun q => V.ref q.1))) { s with heap := sortedHeap (z.heap.push (seqObj "list" us.toArray 0)) z.heap.objs.size us out.toArray, gens := z.gens, drawn := z.drawn, toks := z.toks } :=
      I.call (ch := []) (Un.laid kk k2 hn) (I.hok.laid kk k2 ⟨by rw [List.length_map, pL.length_eq, sizeLine_eq]; omega, out, e', by rw [eL]; exact vals_of_refs L', he'⟩) (by rw [k3]; exact I.bare) (fun _ z => nomatch z)
    have ez : ({ z with heap := sortedHeap (z.heap.push (seqObj "list" us.toArray 0)) z.heap.objs.size us out.toArray } : Shared) = { s with heap := sortedHeap (z.heap.push (seqObj "list" us.toArray 0)) z.heap.objs.size us out.toArray, gens := z.gens, drawn := z.drawn, toks := z.toks } := by
      cases z
      cases k4
      rfl
    rw [ez]
    exact ⟨.ref z.heap.objs.size, _, J, rfl, q L' _ (fun x => pL.mem_iff) rise hn⟩
end Fw
namespace Fw
open PySem PySem.Spec PyProof.Rows L2

/-- what can be reached from g over rooms of R -/
inductive Wk (D : List (Int × Int)) (R : List Int) (g : Int) : Int → Prop
  | base : Wk D R g g
  | step {v o : Int} : Wk D R g v → adj D v o → o ∈ R → Wk D R g o
section
variable {D : List (Int × Int)} {R : List Int} {g : Int}
theorem Wk.mem {v : Int} (h : Wk D R g v) : v = g ∨ v ∈ R := by
  cases h with
  | base => exact .inl rfl
  | step _ _ m => exact .inr m
theorem Wk.trans {a b c : Int} (h : Wk D R a b) (k : Wk D R b c) : Wk D R a c := by
  induction k with
  | base => exact h
  | step _ r m ih => exact .step ih r m
theorem Wk.symm {v : Int} (hg : g ∈ R) (h : Wk D R g v) : Wk D R v g := by
  induction h with
  | base => exact .base
  | @step v o k r m ih =>
    have mv : v ∈ R := by
      rcases k.mem with e | e
      · rw [e]; exact hg
      · exact e
    exact (Wk.step .base (adj_symm r) mv).trans ih
theorem SDone.wk {n : Int} {kvs : List (Key × V)} (S : SDone n D R g kvs) (v : Int) : isK kvs v = true ↔ Wk D R g v := by
  constructor
  · intro h
    unfold isK at h
    cases e : lk kvs v with
    | none => rw [e] at h; cases h
    | some x =>
      obtain ⟨p, c⟩ := S.inv.way v x e
      clear e h
      induction c with
      | goal _ => exact .base
      | @step v u p e a _ _ ih =>
        rcases S.inv.rng v (by unfold isK; rw [e]; rfl) with e2 | m
        · rw [e2]; exact .base
        · exact .step ih (adj_symm a) m
  · intro h
    induction h with
    | base => unfold isK; rw [S.inv.goal]; rfl
    | step _ r m ih => exact S.closed _ _ ih r m
/-- the component of g, ascending -/
structure IsC (D : List (Int × Int)) (R : List Int) (g : Int) (l : List Int) : Prop where
  up : l.Pairwise (· < ·)
  mem : ∀ v, v ∈ l ↔ Wk D R g v
theorem IsC.one {l l' : List Int} (a : IsC D R g l) (b : IsC D R g l') : l = l' := up_ext a.up b.up fun v => (a.mem v).trans (b.mem v).symm
theorem IsC.of {l ks : List Int} (p : l.Perm ks) (s : l.Pairwise (· ≤ ·)) (n : ks.Nodup) (m : ∀ v, v ∈ ks ↔ Wk D R g v) : IsC D R g l := ⟨up_of s (p.nodup_iff.mpr n), fun v => by rw [p.mem_iff]; exact m v⟩
end
theorem rg_filter_len {n : Int} {p : Int → Bool} : ((rg n).filter p).length ≤ n.toNat := by
  refine Nat.le_trans (List.length_filter_le _ _) ?_
  rw [rg_len]
  exact Nat.le_refl _

end Fw
namespace Fw
open PySem PySem.Spec PyProof.Rows L2
/-- the components of the first i rooms -/
structure CInv (D : List (Int × Int)) (R : List Int) (i : Nat) (Cs : List (Addr × List Int)) : Prop where
  a : ∀ c ∈ Cs, ∃ r ∈ R.take i, IsC D R r c.2
  b : ∀ r ∈ R.take i, ∃ c ∈ Cs, r ∈ c.2
  up : (Cs.map (·.2)).Pairwise (fun x y => lexI x y = true)
  n : Cs.length ≤ i
section
variable {D : List (Int × Int)} {R : List Int}
theorem IsC.has {g : Int} {l : List Int} (h : IsC D R g l) : g ∈ l := (h.mem g).mpr .base
theorem take_succ_mem {R : List Int} {i : Nat} {r x : Int} (e : R[i]? = some r) : x ∈ R.take (i + 1) ↔ x ∈ R.take i ∨ x = r := by
  rw [List.take_add_one, e, List.mem_append]
  simp
theorem CInv.skip {i : Nat} {Cs : List (Addr × List Int)} (C : CInv D R i Cs) {r : Int} (e : R[i]? = some r) (h : ∃ c ∈ Cs, r ∈ c.2) : CInv D R (i + 1) Cs := by
  refine ⟨fun c hc => ?_, fun x hx => ?_, C.up, Nat.le_succ_of_le C.n⟩
  · obtain ⟨r', h1, h2⟩ := C.a c hc
    exact ⟨r', (take_succ_mem e).mpr (.inl h1), h2⟩
  · rcases (take_succ_mem e).mp hx with hx | hx
    · exact C.b x hx
    · rw [hx]; exact h
theorem CInv.add {i : Nat} {Cs : List (Addr × List Int)} (C : CInv D R i Cs) {r : Int} (e : R[i]? = some r) (upR : R.Pairwise (· < ·)) (no : ∀ c ∈ Cs, r ∉ c.2) {t : Addr} {l : List Int} (hl : IsC D R r l) : CInv D R (i + 1) (Cs ++ [(t, l)]) := by
  have hi : i < R.length := (List.getElem?_eq_some_iff.mp e).1
  have er : R[i] = r := (List.getElem?_eq_some_iff.mp e).2
  have mr : r ∈ R := List.mem_of_getElem? e
  have low : ∀ v ∈ R, v < r → v ∈ R.take i := fun v hv hlt => by
    obtain ⟨j, hj, ej⟩ := List.mem_iff_getElem.mp hv
    refine List.mem_take_iff_getElem.mpr ⟨j, ?_, ej⟩
    have : ¬ i ≤ j := fun hij => by
      rcases Nat.lt_or_eq_of_le hij with h | h
      · have := (List.pairwise_iff_getElem.mp upR) i j hi hj h
        omega
      · subst h; omega
    omega
  have least : ∀ v ∈ l, r ≤ v := fun v hv => by
    by_cases hlt : v < r
    · have wv := (hl.mem v).mp hv
      have mv : v ∈ R := by
        rcases wv.mem with z | z
        · omega
        · exact z
      obtain ⟨c, hc, hvc⟩ := C.b v (low v mv hlt)
      obtain ⟨r', h1, h2⟩ := C.a c hc
      have w2 : Wk D R r' r := ((h2.mem v).mp hvc).trans (wv.symm mr)
      exact absurd ((h2.mem r).mpr w2) (no c hc)
    · omega
  refine ⟨fun c hc => ?_, fun x hx => ?_, ?_, ?_⟩
  · rcases List.mem_append.mp hc with hc | hc
    · obtain ⟨r', h1, h2⟩ := C.a c hc
      exact ⟨r', (take_succ_mem e).mpr (.inl h1), h2⟩
    · rw [List.mem_singleton.mp hc]
      exact ⟨r, (take_succ_mem e).mpr (.inr rfl), hl⟩
  · rcases (take_succ_mem e).mp hx with hx | hx
    · obtain ⟨c, hc, h⟩ := C.b x hx
      exact ⟨c, List.mem_append_left _ hc, h⟩
    · exact ⟨(t, l), List.mem_append_right _ (List.mem_singleton.mpr rfl), by rw [hx]; exact hl.has⟩
  · rw [List.map_append, List.pairwise_append]
    refine ⟨C.up, List.pairwise_singleton _ _, fun x hx y hy => ?_⟩
    have ey : y = l := List.mem_singleton.mp hy
    obtain ⟨c, hc, ec⟩ := List.mem_map.mp hx
    obtain ⟨r', h1, h2⟩ := C.a c hc
    have rr : r' < r := by
      obtain ⟨j, hj, ej⟩ := List.mem_take_iff_getElem.mp h1
      have := (List.pairwise_iff_getElem.mp upR) j i (by omega) hi (by omega)
      omega
    subst ey
    subst ec
    have hr' := h2.has
    have u2 := h2.up
    have hr := hl.has
    revert hr' u2 hr least
    cases c.2 with
    | nil => intro _ h; cases h
    | cons a as =>
      cases y with
      | nil => intro _ _ _ h; cases h
      | cons b bs =>
        intro ls hr' u2 _
        refine lexI_head ?_
        have h1 : r ≤ b := ls b (List.mem_cons_self ..)
        have h2 : a ≤ r' := by
          rcases List.mem_cons.mp hr' with z | z
          · omega
          · exact Int.le_of_lt ((List.pairwise_cons.mp u2).1 r' z)
        omega
  · rw [List.length_append, List.length_singleton]
    exact Nat.succ_le_succ C.n
theorem CInv.done {Cs : List (Addr × List Int)} (C : CInv D R R.length Cs) (l : List Int) : l ∈ Cs.map (·.2) ↔ ∃ r ∈ R, IsC D R r l := by
  have ha := C.a
  have hb := C.b
  rw [List.take_length] at ha hb
  constructor
  · intro h
    obtain ⟨c, hc, e⟩ := List.mem_map.mp h
    subst e
    exact ha c hc
  · rintro ⟨r, hr, h⟩
    obtain ⟨c, hc, hrc⟩ := hb r hr
    obtain ⟨r', h1, h2⟩ := ha c hc
    have w := (h2.mem r).mp hrc
    have : c.2 = l := up_ext h2.up h.up fun v => by
      rw [h2.mem, h.mem]
      exact ⟨fun k => (w.symm h1).trans k, fun k => w.trans k⟩
    exact this ▸ List.mem_map_of_mem hc
end

section
variable {P : Program} {w : World} {K : PySem.W.Frag} {mg : Str → Option Value} {base : Heap}
def refs (Cs : List (Addr × List Int)) : List V := Cs.map fun c => V.ref c.1
def TupsAt (H : Hp) (Cs : List (Addr × List Int)) : Prop := ∀ c ∈ Cs, H c.1 = some (.tup (vi c.2)) ∧ c.2.length ≤ 20
theorem TupsAt.same {H H' : Hp} {Cs : List (Addr × List Int)} (h : TupsAt H Cs) (e : Same H H') : TupsAt H' Cs := fun c hc => ⟨e _ _ (h c hc).1, (h c hc).2⟩
theorem get_refs {Cs : List (Addr × List Int)} {i : Nat} {x : V} (h : (refs Cs)[i]? = some x) : ∃ c, Cs[i]? = some c ∧ x = .ref c.1 := by
  unfold refs at h
  rw [List.getElem?_map] at h
  cases e : Cs[i]? with
  | none => rw [e] at h; cases h
  | some v => rw [e] at h; exact ⟨v, rfl, (Option.some.inj h).symm⟩
def spComp (K : PySem.W.Frag) : Sp := fun vs H Q _ => ∃ (h rl : Addr) (n : Int) (D : List (Int × Int)) (R : List Int), vs = [.ref h, .ref rl] ∧ HouseAt H h n D ∧ Forest n D ∧ 0 ≤ n ∧ n ≤ 8 ∧ H rl = some (.tup (vi R)) ∧ R.Pairwise (· < ·) ∧ R.length ≤ 8 ∧
  ∀ H' t Cs, Same H H' → H' t = some (.tup (refs Cs)) → TupsAt H' Cs → (Cs.map (·.2)).Pairwise (fun x y => lexI x y = true) → (∀ l, l ∈ Cs.map (·.2) ↔ ∃ r ∈ R, IsC D R r l) → Cs.length ≤ 8 → Q (.ref t) H'
abbrev nComp : List Str := ["house", "rooms", "found", "room", "component"]
theorem scComp : FnScope nComp ["house", "rooms"] (defScope sComp) := ⟨rfl, rfl, rfl, by decide +kernel, rfl, by decide +kernel, by decide +kernel⟩
theorem ok_comp {f fN fS : Addr} {fd fdN fdS : FuncData} (F : Fun K "components" "components" sComp f fd) (T : Nm mg) (Tany : mg "any" = none) (DN : Def K mg "neighbors" sNb fN fdN ["house", "room"]) (DS : Def K mg "steps_toward" sSteps fS fdS ["house", "goal", "rooms"]) : FnOk P w K mg base CX0 3 f fd ["house", "rooms"] (spComp K) := by
  have GS : FnOk P w K mg base CX0 2 fS fdS ["house", "goal", "rooms"] (spSteps K) := ok_steps DS.F T DN
  refine F.ok scComp (fun vs H Q E h => ?_) (fun cdv A outer s H vs Q E hr h => ?_)
  · obtain ⟨h, rl, n, D, R, rfl, _⟩ := h
    rfl
  · obtain ⟨h, rl, n, D, R, rfl, hH, hF, n0, n1, eR, upR, lR, q⟩ := h
    refine ⟨_, pss_cons (ps_set (i := 2) scComp.nd rfl (.inl rfl) (pe_lst pa_nil))
      (pss_cons (ps_for PassesOwn.never rfl (pi_tup (pv 1)) (pg_name (i := 3) scComp.nd rfl (Or.inr rfl))
        (pss_one (ps_if (pt_not (pt_val (pe_callB (cr_any rfl) (by rfl) Tany (by decide +kernel) (pa_cons
            (pe_lc (own := [("component", 4)]) (g := gName 4) (tt := tYes) (te := tOp (rIn K false) (tVar 3) (tVar 4)) (by rfl) scComp.nd (pi_list (pv 2)) (blkOk_by (own := [("component", 4)]) (N := nComp) (sc := defScope sComp) (by decide +kernel))
              (fun _ _ _ _ _ => pg_name (i := 4) scComp.nd rfl (Or.inl rfl)) (fun _ _ _ _ _ => pts_nil) (fun _ _ _ _ _ => pe_cmpR op_in_seq (pv 3) (pv 4) (by rfl))) pa_nil))))
          (pss_one (ps_expr (pe_bm PySem.F.plainAttrs_list PySem.F.slot_list_append PySem.F.type_list_append mt_append (pv 2) (pa_cons (pe_callTy call_tuple_of (by rfl) T.tuple (by decide +kernel) (pa_cons
            (pe_callB (cr_sortedDI rfl) (by rfl) T.sorted (by decide +kernel) (pa_cons (pe_call GS hr (by rfl) DS.g DS.F.kp DS.b .nil pass0 (pa_cons (pv 0) (pa_cons (pv 3) (pa_cons (pv 1) pa_nil)))) pa_nil)) pa_nil)) pa_nil))))
          pss_nil)))
      (pss_one (ps_ret (pe_callTy call_tuple_of (by rfl) T.tuple (by decide +kernel) (pa_cons (pv 2) pa_nil))))), ?_⟩
    refine ⟨Nat.zero_le _, fun fl hfl => ?_⟩
    have t0 : TupsAt (upd H fl (.lst [])) [] := fun c hc => by cases hc
    have c0 : CInv D R 0 [] := ⟨fun c hc => (by cases hc), fun r hr => (by simp at hr), List.Pairwise.nil, Nat.le_refl _⟩
    refine ⟨_, rfl, rl, rfl, ⟨_, SqT.of (same_upd hfl _ _ eR)⟩, for_tup (K := K) (a := rl) (xs := vi R) (fun i σ H' => ∃ (Cs : List (Addr × List Int)) (y3 y4 : Option V), σ = [some (.ref h), some (.ref rl), some (.ref fl), y3, y4] ∧ Same H H' ∧ H' fl = some (.lst (refs Cs)) ∧ TupsAt H' Cs ∧ CInv D R i Cs)
      ⟨[], none, none, rfl, same_upd hfl, upd_same, t0, c0⟩ (fun i σ H' _ ⟨_, _, _, _, sm, _⟩ => SqT.of (sm _ _ eR)) ?_ ?_⟩
    · rintro i x σ H1 hx ⟨Cs, y3, y4, rfl, s1, ef, hT, C⟩
      obtain ⟨r, er, rfl⟩ := get_vi hx
      have hi : i < R.length := (List.getElem?_eq_some_iff.mp er).1
      have Cn := C.n
      dsimp only [gName]
      refine if_by (fun b H2 => Same H1 H2 ∧ (b = true → ∀ c ∈ Cs, r ∉ c.2) ∧ (b = false → ∃ c ∈ Cs, r ∈ c.2)) ?_ ?_ ?_
      · rintro H2 ⟨s2, no, _⟩
        have no := no rfl
        have ef2 := s2 _ _ ef
        refine ⟨_, rfl, .inl ⟨rfl, _, SqL.of ef2⟩, _, rfl, _, rfl, _, rfl, h, rl, n, D, r, R, rfl, hH.same (s1.trans s2), hF, n0, n1, .inr (SqT.of (s2 _ _ (s1 _ _ eR))), fun H3 d kvs s3 hd ed S => ?_⟩
        obtain ⟨ks, k1, k2, k3⟩ := S.inv.keys
        have sl := S.inv.len
        have kl : ks.length = kvs.length := by simpa using (congrArg List.length k1).symm
        refine ⟨d, kvs, ks, rfl, ed, k1, fun ys p pm up hp => ⟨p, _, rfl, .inl ⟨SqL.of upd_same, fun t ht => ?_⟩⟩⟩
        have sA : Same H2 (upd (upd H3 p (.lst (vi ys))) t (.tup (vi ys))) := s3.trans ((same_upd hp).trans (same_upd ht))
        have ef4 := sA _ _ ef2
        have hl : IsC D R r ys := IsC.of pm up k2 fun v => (k3 v).trans (S.wk v)
        refine ⟨fl, _, _, rfl, rfl, ef4, by unfold refs; rw [List.length_map]; exact small1000 (by omega), ?_⟩
        refine ⟨Cs ++ [(t, ys)], _, _, rfl, same_put (s1.trans (s2.trans sA)) hfl, ?_, fun c hc => ?_, C.add er upR no hl⟩
        · rw [upd_same]
          unfold refs
          rw [List.map_append]
          rfl
        · rcases List.mem_append.mp hc with hc | hc
          · have h1 := hT.same (s2.trans sA) c hc
            exact ⟨(upd_ne (ne_of h1.1 ef4 (by intro z; cases z))).trans h1.1, h1.2⟩
          · rw [List.mem_singleton.mp hc]
            have h1 : (upd (upd H3 p (.lst (vi ys))) t (.tup (vi ys))) t = some (.tup (vi ys)) := upd_same
            exact ⟨(upd_ne (ne_of h1 ef4 (by intro z; cases z))).trans h1, by show ys.length ≤ 20; rw [pm.length_eq]; omega⟩
      · rintro H2 ⟨s2, _, yes⟩
        exact ⟨Cs, _, _, rfl, s1.trans s2, s2 _ _ ef, hT.same s2, C.skip er (yes rfl)⟩
      · intro QQ hQ
        refine ⟨_, rfl, fl, rfl, ⟨_, SqL.of ef⟩, fun L hL => lc_list (K := K) (a := fl) (xs := refs Cs) (fun j H2 => Same H1 H2 ∧ H2 L = some (.lst ((Cs.take j).map fun c => V.bl (decide (r ∈ c.2))))) ⟨same_upd hL, upd_same⟩ (fun j H2 _ hh => SqL.of (hh.1 _ _ ef)) ?_ ?_⟩
        · rintro j x H2 hx ⟨s2, e2⟩
          obtain ⟨c, ec, rfl⟩ := get_refs hx
          have hc := hT.same s2 c (List.mem_of_getElem? ec)
          have hj : j < Cs.length := (List.getElem?_eq_some_iff.mp ec).1
          refine ⟨rfl, ?_⟩
          unfold tYes
          refine iteT ?_
          refine ⟨_, rfl, _, rfl, c.1, _, rfl, .inr (SqT.of hc.1), rfl, flat_ints c.2, _, e2, ?_, same_put s2 hL, ?_⟩
          · rw [List.length_map, List.length_take]
            exact small1000 (by omega)
          · rw [upd_same, List.take_add_one, ec, List.map_append]
            show some (HO.lst (_ ++ [V.bl (inV (.int r) (vi c.2))])) = _
            rw [inV_ints]
            rfl
        · rintro H2 ⟨s2, e2⟩
          have el : (refs Cs).length = Cs.length := by unfold refs; rw [List.length_map]
          rw [el, List.take_length] at e2
          refine ⟨L, Cs.map fun c => decide (r ∈ c.2), rfl, SqL.of (by rw [List.map_map]; exact e2), _, rfl, hQ _ _ ⟨s2, fun e c hc m => ?_, fun e => ?_⟩⟩
          · have : ((Cs.map fun c => decide (r ∈ c.2)).any id) = true := List.any_eq_true.mpr ⟨true, List.mem_map.mpr ⟨c, hc, decide_eq_true m⟩, rfl⟩
            rw [this] at e
            cases e
          · have e : ((Cs.map fun c => decide (r ∈ c.2)).any id) = true := by simpa using e
            obtain ⟨b, hb, hb2⟩ := List.any_eq_true.mp e
            obtain ⟨c, hc, e3⟩ := List.mem_map.mp hb
            have hb2 : b = true := hb2
            rw [hb2] at e3
            exact ⟨c, hc, of_decide_eq_true e3⟩
    · rintro σ H1 ⟨Cs, y3, y4, rfl, s1, ef, hT, C⟩
      rw [List.length_map] at C
      have Cn := C.n
      refine ⟨_, rfl, fl, _, rfl, .inl ⟨SqL.of ef, fun t ht => ?_⟩⟩
      exact q _ t Cs (s1.trans (same_upd ht)) upd_same (hT.same (same_upd ht)) C.up C.done (by omega)
end
end Fw
namespace Fw
open PySem PySem.Spec PyProof.Rows L2

/-- the rooms with people; the rooms without -/
def occ (n : Int) (P : List (Str × Int)) : List Int := (rg n).filter fun r => decide (r ∈ P.map (·.2))
def emp (n : Int) (P : List (Str × Int)) : List Int := (rg n).filter fun r => !decide (r ∈ P.map (·.2))
theorem rg_snoc (i : Nat) : (List.range (i + 1)).map (fun (j : Nat) => 0 + (j : Int)) = (List.range i).map (fun (j : Nat) => 0 + (j : Int)) ++ [0 + (i : Int)] := by
  rw [List.range_succ, List.map_append]
  rfl
theorem rg0 (n : Int) : (List.range n.toNat).map (fun (j : Nat) => 0 + (j : Int)) = rg n := List.map_congr_left fun i _ => by omega
theorem mem_occ {n : Int} {P : List (Str × Int)} {r : Int} : r ∈ occ n P ↔ (0 ≤ r ∧ r < n) ∧ r ∈ P.map (·.2) := by
  unfold occ
  rw [List.mem_filter, mem_rg, decide_eq_true_eq]
theorem mem_emp {n : Int} {P : List (Str × Int)} {r : Int} : r ∈ emp n P ↔ (0 ≤ r ∧ r < n) ∧ r ∉ P.map (·.2) := by
  unfold emp
  rw [List.mem_filter, mem_rg, Bool.not_eq_true', decide_eq_false_iff_not]
theorem Pl.mem_occ {n : Int} {P : List (Str × Int)} (h : Pl n P) {r : Int} : r ∈ occ n P ↔ r ∈ P.map (·.2) := by
  rw [Fw.mem_occ]
  refine ⟨fun x => x.2, fun x => ⟨?_, x⟩⟩
  obtain ⟨y, hy, e⟩ := List.mem_map.mp x
  rw [← e]
  exact h.rm y hy
theorem rg_up (n : Int) : (rg n).Pairwise (· < ·) := range_up n.toNat
theorem occ_up (n : Int) (P : List (Str × Int)) : (occ n P).Pairwise (· < ·) := (rg_up n).filter _
theorem emp_up (n : Int) (P : List (Str × Int)) : (emp n P).Pairwise (· < ·) := (rg_up n).filter _
theorem occ_len (n : Int) (P : List (Str × Int)) : (occ n P).length ≤ n.toNat := rg_filter_len
theorem emp_len (n : Int) (P : List (Str × Int)) : (emp n P).length ≤ n.toNat := rg_filter_len
theorem in_empty (P : List (Str × Int)) (r : Int) : ((inside P [r]).map V.str).isEmpty = !decide (r ∈ P.map (·.2)) := by
  rw [Bool.eq_iff_iff, List.isEmpty_iff, List.map_eq_nil_iff, inside_nil, Bool.not_eq_true', decide_eq_false_iff_not]
  constructor
  · intro h m
    obtain ⟨y, hy, e⟩ := List.mem_map.mp m
    exact h y hy (List.mem_singleton.mpr e)
  · intro h x hx m
    rw [List.mem_singleton] at m
    exact h (m ▸ List.mem_map_of_mem (f := (·.2)) hx)
/-- the regions of the rooms R -/
structure Regs (D : List (Int × Int)) (R : List Int) (Ls : List (List Int)) : Prop where
  up : Ls.Pairwise (fun x y => lexI x y = true)
  mem : ∀ l, l ∈ Ls ↔ ∃ r ∈ R, IsC D R r l
def RegsAt (H : Hp) (t : Addr) (D : List (Int × Int)) (R : List Int) (Cs : List (Addr × List Int)) : Prop := H t = some (.tup (refs Cs)) ∧ TupsAt H Cs ∧ Cs.length ≤ 8 ∧ Regs D R (Cs.map (·.2))
theorem RegsAt.same {H H' : Hp} {t : Addr} {D : List (Int × Int)} {R : List Int} {Cs : List (Addr × List Int)} (x : RegsAt H t D R Cs) (e : Same H H') : RegsAt H' t D R Cs := ⟨e _ _ x.1, x.2.1.same e, x.2.2⟩
theorem RegsAt.tk {H H' : Hp} {t : Addr} {D : List (Int × Int)} {R : List Int} {Cs : List (Addr × List Int)} (x : RegsAt H t D R Cs) (e : Tk H H') : RegsAt H' t D R Cs := ⟨e.t x.1, fun c hc => ⟨e.t (x.2.1 c hc).1, (x.2.1 c hc).2⟩, x.2.2⟩
theorem Wk.mono {D : List (Int × Int)} {R R' : List Int} {g v : Int} (h : Wk D R g v) (m : ∀ x ∈ R, x ∈ R') : Wk D R' g v := by
  induction h with
  | base => exact .base
  | step _ a o ih => exact .step ih a (m _ o)
theorem Wk.congr {D : List (Int × Int)} {R R' : List Int} (h : ∀ x, x ∈ R ↔ x ∈ R') {g v : Int} : Wk D R g v ↔ Wk D R' g v := ⟨fun w => w.mono fun x hx => (h x).mp hx, fun w => w.mono fun x hx => (h x).mpr hx⟩
theorem IsC.congr {D : List (Int × Int)} {R R' : List Int} (h : ∀ x, x ∈ R ↔ x ∈ R') {g : Int} {l : List Int} (i : IsC D R g l) : IsC D R' g l := ⟨i.up, fun v => (i.mem v).trans (Wk.congr h)⟩
theorem IsC.re {D : List (Int × Int)} {R : List Int} {g r : Int} {l : List Int} (h : IsC D R g l) (hg : g ∈ R) (hr : r ∈ l) : IsC D R r l := by
  refine ⟨h.up, fun v => ?_⟩
  have w := (h.mem r).mp hr
  rw [h.mem]
  exact ⟨fun k => (w.symm hg).trans k, fun k => w.trans k⟩
theorem IsC.sub {D : List (Int × Int)} {R : List Int} {g : Int} {l : List Int} (h : IsC D R g l) (hg : g ∈ R) : ∀ x ∈ l, x ∈ R := fun x hx => by
  rcases ((h.mem x).mp hx).mem with e | e
  · rw [e]; exact hg
  · exact e
section
variable {D : List (Int × Int)} {R : List Int} {Ls : List (List Int)}
theorem Regs.has (h : Regs D R Ls) {l : List Int} (hl : l ∈ Ls) {r : Int} (hr : r ∈ l) : r ∈ R ∧ IsC D R r l := by
  obtain ⟨g, hg, hc⟩ := (h.mem l).mp hl
  exact ⟨hc.sub hg r hr, hc.re hg hr⟩
theorem Regs.one (h : Regs D R Ls) {l m : List Int} (hl : l ∈ Ls) (hm : m ∈ Ls) {r : Int} (h1 : r ∈ l) (h2 : r ∈ m) : l = m := (h.has hl h1).2.one (h.has hm h2).2
/-- the list of the component of a room: by what can be reached -/
theorem isC_ex (D : List (Int × Int)) {R : List Int} (upR : R.Pairwise (· < ·)) {r : Int} (hr : r ∈ R) : ∃ l, IsC D R r l := by
  classical
  refine ⟨R.filter fun v => decide (Wk D R r v), upR.filter _, fun v => ?_⟩
  rw [List.mem_filter, decide_eq_true_eq]
  refine ⟨fun h => h.2, fun h => ⟨?_, h⟩⟩
  rcases h.mem with e | e
  · rw [e]; exact hr
  · exact e
theorem Regs.ex (h : Regs D R Ls) (upR : R.Pairwise (· < ·)) {r : Int} (hr : r ∈ R) : ∃ l ∈ Ls, r ∈ l := by
  obtain ⟨l, hl⟩ := isC_ex D upR hr
  exact ⟨l, (h.mem l).mpr ⟨r, hr, hl⟩, hl.has⟩
end
theorem IsC.len {D : List (Int × Int)} {n : Int} {P : List (Str × Int)} {r : Int} {l : List Int} (h : IsC D (occ n P) r l) (hr : r ∈ occ n P) (n1 : n ≤ 8) : l.length ≤ 8 := by
  have h1 : l.length ≤ n.toNat := short (h.up.imp fun {a b} z => by omega) fun x hx => by
    have := (Fw.mem_occ.mp (h.sub hr x hx)).1
    omega
  omega
section
variable {P : Program} {w : World} {K : PySem.W.Frag} {mg : Str → Option Value} {base : Heap}

end
end Fw
namespace Fw
open PySem PySem.Spec PyProof.Rows L2
theorem upS_ext : ∀ {xs ys : List Str}, xs.Pairwise ltS → ys.Pairwise ltS → (∀ x, x ∈ xs ↔ x ∈ ys) → xs = ys
  | [], [], _, _, _ => rfl
  | [], y :: ys, _, _, h => absurd ((h y).mpr (List.mem_cons_self ..)) List.not_mem_nil
  | x :: xs, [], _, _, h => absurd ((h x).mp (List.mem_cons_self ..)) List.not_mem_nil
  | x :: xs, y :: ys, hx, hy, h => by
    obtain ⟨hx1, hx2⟩ := List.pairwise_cons.mp hx
    obtain ⟨hy1, hy2⟩ := List.pairwise_cons.mp hy
    have e : x = y := by
      rcases List.mem_cons.mp ((h x).mp (List.mem_cons_self ..)) with e | m
      · exact e
      · rcases List.mem_cons.mp ((h y).mpr (List.mem_cons_self ..)) with e | m'
        · exact e.symm
        · exact absurd (ltS_trans (hy1 x m) (hx1 y m')) (ltS_irr y)
    subst e
    rw [upS_ext hx2 hy2 fun z => ?_]
    constructor
    · intro m
      rcases List.mem_cons.mp ((h z).mp (List.mem_cons_of_mem _ m)) with e | m'
      · rw [e] at m
        exact absurd (hx1 x m) (ltS_irr x)
      · exact m'
    · intro m
      rcases List.mem_cons.mp ((h z).mpr (List.mem_cons_of_mem _ m)) with e | m'
      · rw [e] at m
        exact absurd (hy1 x m) (ltS_irr x)
      · exact m'
theorem sorted_same {ns ys : List Str} (h : Names ns) (p : ys.Perm ns) (s : sortedS ys = true) : ys = ns :=
  upS_ext (sorted_names p s h.nodup h.nam).up h.up fun x => p.mem_iff
theorem subset_len {α : Type} [DecidableEq α] : ∀ {xs ys : List α}, xs.Nodup → (∀ x ∈ xs, x ∈ ys) → xs.length ≤ ys.length
  | [], _, _, _ => Nat.zero_le _
  | x :: xs, ys, nd, h => by
    obtain ⟨h1, h2⟩ := List.nodup_cons.mp nd
    have hx := h x (List.mem_cons_self ..)
    have := subset_len (ys := ys.erase x) h2 fun z hz => (List.mem_erase_of_ne (show z ≠ x from fun e => h1 (e ▸ hz))).mpr (h z (List.mem_cons_of_mem _ hz))
    rw [List.length_erase_of_mem hx] at this
    have := List.length_pos_of_mem hx
    simp only [List.length_cons]
    omega
theorem split_len {α : Type} (p : α → Bool) : ∀ xs : List α, (xs.filter p).length + (xs.filter fun x => !p x).length = xs.length
  | [] => rfl
  | x :: xs => by
    have := split_len p xs
    cases h : p x with
    | true =>
      rw [List.filter_cons_of_pos h, List.filter_cons_of_neg (by simp [h])]
      simp only [List.length_cons]
      omega
    | false =>
      rw [List.filter_cons_of_neg (by simp [h]), List.filter_cons_of_pos (by simp [h])]
      simp only [List.length_cons]
      omega
theorem occ_emp (n : Int) (P : List (Str × Int)) : (occ n P).length + (emp n P).length = n.toNat := by
  have := split_len (fun r => decide (r ∈ P.map (·.2))) (rg n)
  rw [rg_len] at this
  exact this
section
variable {D : List (Int × Int)} {R : List Int} {Ls : List (List Int)}
theorem up_nodup {l : List Int} (h : l.Pairwise (· < ·)) : l.Nodup := List.nodup_iff_pairwise_ne.mpr (h.imp fun {a b} z => by omega)
theorem lex_irr : ∀ l : List Int, lexI l l = false
  | [] => rfl
  | x :: l => by
    rw [lexI, if_pos rfl]
    exact lex_irr l
theorem Regs.flat_nodup (h : Regs D R Ls) : Ls.flatten.Nodup := by
  rw [List.nodup_iff_pairwise_ne, List.pairwise_flatten]
  refine ⟨fun l hl => ?_, ?_⟩
  · obtain ⟨g, _, hc⟩ := (h.mem l).mp hl
    exact List.nodup_iff_pairwise_ne.mp (up_nodup hc.up)
  · refine h.up.imp_of_mem fun {a b} ha hb lt x hx y hy e => ?_
    subst e
    have := h.one ha hb hx hy
    subst this
    rw [lex_irr] at lt
    cases lt
theorem Regs.flat_mem (h : Regs D R Ls) (upR : R.Pairwise (· < ·)) (x : Int) : x ∈ Ls.flatten ↔ x ∈ R := by
  rw [List.mem_flatten]
  constructor
  · rintro ⟨l, hl, hx⟩
    exact (h.has hl hx).1
  · intro hx
    exact h.ex upR hx
theorem Regs.total (h : Regs D R Ls) (upR : R.Pairwise (· < ·)) : (Ls.map List.length).sum = R.length := by
  rw [← List.length_flatten]
  have h1 := subset_len h.flat_nodup fun x hx => (h.flat_mem upR x).mp hx
  have h2 := subset_len (up_nodup upR) fun x hx => (h.flat_mem upR x).mpr hx
  omega
theorem lex_ext : ∀ {xs ys : List (List Int)}, xs.Pairwise (fun a b => lexI a b = true) → ys.Pairwise (fun a b => lexI a b = true) → (∀ x, x ∈ xs ↔ x ∈ ys) → xs = ys
  | [], [], _, _, _ => rfl
  | [], y :: ys, _, _, h => absurd ((h y).mpr (List.mem_cons_self ..)) List.not_mem_nil
  | x :: xs, [], _, _, h => absurd ((h x).mp (List.mem_cons_self ..)) List.not_mem_nil
  | x :: xs, y :: ys, hx, hy, h => by
    obtain ⟨hx1, hx2⟩ := List.pairwise_cons.mp hx
    obtain ⟨hy1, hy2⟩ := List.pairwise_cons.mp hy
    have e : x = y := by
      rcases List.mem_cons.mp ((h x).mp (List.mem_cons_self ..)) with e | m
      · exact e
      · rcases List.mem_cons.mp ((h y).mpr (List.mem_cons_self ..)) with e | m'
        · exact e.symm
        · have a := lexI_asym (hy1 x m)
          rw [hx1 y m'] at a
          cases a
    subst e
    rw [lex_ext hx2 hy2 fun z => ?_]
    constructor
    · intro m
      rcases List.mem_cons.mp ((h z).mp (List.mem_cons_of_mem _ m)) with e | m'
      · rw [e] at m
        have a := hx1 x m
        rw [lex_irr] at a
        cases a
      · exact m'
    · intro m
      rcases List.mem_cons.mp ((h z).mpr (List.mem_cons_of_mem _ m)) with e | m'
      · rw [e] at m
        have a := hy1 x m
        rw [lex_irr] at a
        cases a
      · exact m'
theorem Regs.uniq {Ls' : List (List Int)} (h : Regs D R Ls) (k : Regs D R Ls') : Ls = Ls' := lex_ext h.up k.up fun l => (h.mem l).trans (k.mem l).symm
end
/-- a move takes nobody to an empty room -/
theorem mvd_rooms {P : List (Str × Int)} {nm : Str} {t r : Int} (ht : t ∈ P.map (·.2)) (h : r ∈ (mvd P nm t).map (·.2)) : r ∈ P.map (·.2) := by
  obtain ⟨x, hx, e⟩ := List.mem_map.mp h
  obtain ⟨y, hy, rfl⟩ := List.mem_map.mp hx
  have e : (if y.1 = nm then t else y.2) = r := e
  by_cases c : y.1 = nm
  · rw [if_pos c] at e
    rw [← e]
    exact ht
  · rw [if_neg c] at e
    rw [← e]
    exact List.mem_map_of_mem (f := (·.2)) hy
theorem nil_ne {K : PySem.W.Frag} {σ : L2.St} {L : Addr} {H : Hp} {Q : Bool → Hp → Prop} (e : H L = some (.lst [])) (h : ∀ H', Same H H' → Q false H') : tLst tNil σ H fun y H2 => rNeD K (.ref L) y H2 fun x H3 => ∃ k, x = .bl k ∧ Q k H3 :=
  ⟨Nat.zero_le _, fun p hp => ⟨.list [], .list [], .lst (SqL.of (same_upd hp _ _ e)) .nil, .lst (SqL.of upd_same) .nil, shaped_list [], shaped_list [], false, rfl, h _ (same_upd hp)⟩⟩
theorem nil_eq {K : PySem.W.Frag} {σ : L2.St} {L : Addr} {H : Hp} {Q : Bool → Hp → Prop} (e : H L = some (.lst [])) (h : ∀ H', Same H H' → Q true H') : tLst tNil σ H fun y H2 => rEqD K (.ref L) y H2 fun x H3 => ∃ k, x = .bl k ∧ Q k H3 :=
  ⟨Nat.zero_le _, fun p hp => ⟨.list [], .list [], .lst (SqL.of (same_upd hp _ _ e)) .nil, .lst (SqL.of upd_same) .nil, shaped_list [], shaped_list [], true, rfl, h _ (same_upd hp)⟩⟩
/-- texts as data -/
theorem dp_strs {K : PySem.W.Frag} {H : Hp} : ∀ ns : List Str, DpAll K H (ns.map V.str) (ns.map PyData.str)
  | [] => .nil
  | n :: ns => .cons (.str n) (dp_strs ns)
theorem strs_lay {ns : List Str} (h : ∀ x ∈ ns, PyData.strOk x = true) : PyData.canLayAll0 (ns.map PyData.str) = true := by
  rw [canLayAll_strs', List.all_eq_true]
  exact h
theorem strs_deep : ∀ ns : List Str, PyData.depthAll (ns.map PyData.str) = 0
  | [] => by simp [PyData.depthAll]
  | n :: ns => by
    rw [List.map_cons, PyData.depthAll, strs_deep ns, PyData.depth]
    rfl
theorem strs_shaped {ns : List Str} (h : ∀ x ∈ ns, PyData.strOk x = true) : SeqAt.shaped (.list (ns.map PyData.str)) = true := by
  unfold SeqAt.shaped
  rw [PyData.canLay0, strs_lay h, PyData.depth, strs_deep]
  decide
/-- tuples of ints as data -/
theorem dpR {K : PySem.W.Frag} {H : Hp} : ∀ {Cs : List (Addr × List Int)}, (∀ c ∈ Cs, H c.1 = some (.tup (vi c.2))) → DpAll K H (refs Cs) (Cs.map fun c => PyData.tuple (c.2.map PyData.int))
  | [], _ => .nil
  | c :: Cs, h => .cons (.tup (SqT.of (h c (List.mem_cons_self ..))) (dp_ints _)) (dpR fun q hq => h q (List.mem_cons_of_mem _ hq))
theorem layR : ∀ Cs : List (Addr × List Int), PyData.canLayAll0 (Cs.map fun c => PyData.tuple (c.2.map PyData.int)) = true ∧ PyData.depthAll (Cs.map fun c => PyData.tuple (c.2.map PyData.int)) ≤ 1
  | [] => by simp [PyData.canLayAll0, PyData.depthAll]
  | c :: Cs => by
    obtain ⟨h1, h2⟩ := layR Cs
    rw [List.map_cons, PyData.canLayAll0, PyData.depthAll, h1, PyData.canLay0, lay_ints, PyData.depth, deep_ints]
    exact ⟨rfl, by omega⟩
theorem shapedR (Cs : List (Addr × List Int)) : SeqAt.shaped (.tuple (Cs.map fun c => PyData.tuple (c.2.map PyData.int))) = true := by
  obtain ⟨h1, h2⟩ := layR Cs
  unfold SeqAt.shaped
  rw [PyData.canLay0, h1, PyData.depth]
  simp
  omega
theorem shapedRL (Cs : List (Addr × List Int)) : SeqAt.shaped (.list (Cs.map fun c => PyData.tuple (c.2.map PyData.int))) = true := by
  obtain ⟨h1, h2⟩ := layR Cs
  unfold SeqAt.shaped
  rw [PyData.canLay0, h1, PyData.depth]
  simp
  omega
end Fw
namespace Fw
open PySem PySem.Spec PyProof.Rows L2
section
variable {P : Program} {w : World} {K : PySem.W.Frag} {mg : Str → Option Value} {base : Heap}
end
end Fw
namespace Fw
open PySem PySem.Spec PyProof.Rows L2
theorem int_dec (a b : Int) : decide (V.int a = V.int b) = decide (a = b) := by
  rw [Bool.eq_iff_iff, decide_eq_true_eq, decide_eq_true_eq]
  exact ⟨V.int.inj, fun e => by rw [e]⟩
section
variable {P : Program} {w : World} {K : PySem.W.Frag} {mg : Str → Option Value} {base : Heap}
end
end Fw
namespace Fw
open PySem PySem.Spec PyProof.Rows L2
theorem rooms_get {P : List (Str × Int)} {k : Nat} {nm : Str} {r : Int} (h : P[k]? = some (nm, r)) : (P.take (k + 1)).map (·.2) = (P.take k).map (·.2) ++ [r] := by
  rw [take_snoc h, List.map_append]
  rfl
theorem nodup_le {α : Type} [DecidableEq α] {xs ys : List α} (nd : xs.Nodup) (h : ∀ x ∈ xs, x ∈ ys) : xs.length ≤ ys.length := by
  induction xs generalizing ys with
  | nil => exact Nat.zero_le _
  | cons x xs ih =>
    rw [List.nodup_cons] at nd
    have hx := h x (List.mem_cons_self ..)
    have := ih (ys := ys.erase x) nd.2 fun z hz => (List.mem_erase_of_ne (fun e : z = x => nd.1 (by rw [← e]; exact hz))).mpr (h z (List.mem_cons_of_mem _ hz))
    rw [List.length_erase_of_mem hx] at this
    have : 0 < ys.length := List.length_pos_of_mem hx
    simp only [List.length_cons]
    omega
/-- no surplus is negative -/
theorem Regs.full {n : Int} {D : List (Int × Int)} {P : List (Str × Int)} {Ls : List (List Int)} (h : Regs D (occ n P) Ls) (pl : Pl n P) {C : List Int} (hC : C ∈ Ls) : C.length ≤ (inside P C).length := by
  obtain ⟨r, hr, ic⟩ := (h.mem C).mp hC
  have := nodup_le (ys := (P.filter fun x => decide (x.2 ∈ C)).map (·.2)) (ic.up.imp fun {a b} z => by omega) fun x hx => by
    have m := pl.mem_occ.mp (ic.sub hr x hx)
    obtain ⟨y, hy, e⟩ := List.mem_map.mp m
    exact List.mem_map.mpr ⟨y, List.mem_filter.mpr ⟨hy, decide_eq_true (by rw [e]; exact hx)⟩, e⟩
  unfold inside
  rw [List.length_map] at this ⊢
  exact this
theorem Regs.small {n : Int} {D : List (Int × Int)} {P : List (Str × Int)} {Ls : List (List Int)} (h : Regs D (occ n P) Ls) (n1 : n ≤ 8) {C : List Int} (hC : C ∈ Ls) : C.length ≤ 8 := by
  obtain ⟨r, hr, ic⟩ := (h.mem C).mp hC
  exact ic.len hr n1
theorem sum_ge : ∀ Xs : List (List Int), (∀ C ∈ Xs, 0 < C.length) → Xs.length ≤ (Xs.map List.length).sum
  | [], _ => Nat.zero_le _
  | C :: Xs, hx => by
    have := sum_ge Xs fun C' hC' => hx C' (List.mem_cons_of_mem _ hC')
    have := hx C (List.mem_cons_self ..)
    simp only [List.length_cons, List.map_cons, List.sum_cons]
    omega
theorem Regs.few {n : Int} {D : List (Int × Int)} {P : List (Str × Int)} {Ls : List (List Int)} (h : Regs D (occ n P) Ls) (n1 : n ≤ 8) : Ls.length ≤ 8 := by
  have h1 := h.total (occ_up n P)
  have h2 := occ_len n P
  have h4 := sum_ge Ls fun C hC => by
    obtain ⟨r, hr', ic⟩ := (h.mem C).mp hC
    exact List.length_pos_of_mem ic.has
  omega
theorem refsL_lay : ∀ Cs : List (Addr × List Int), PyData.canLayAll0 (Cs.map fun c => PyData.tuple (c.2.map PyData.int)) = true ∧ PyData.depthAll (Cs.map fun c => PyData.tuple (c.2.map PyData.int)) ≤ 1
  | [] => by simp [PyData.canLayAll0, PyData.depthAll]
  | c :: Cs => by
    obtain ⟨h1, h2⟩ := refsL_lay Cs
    rw [List.map_cons, PyData.canLayAll0, PyData.depthAll, h1, PyData.canLay0, lay_ints, PyData.depth, deep_ints]
    exact ⟨rfl, by omega⟩
theorem refsL_shaped (Cs : List (Addr × List Int)) : SeqAt.shaped (.list (Cs.map fun c => PyData.tuple (c.2.map PyData.int))) = true := by
  obtain ⟨h1, h2⟩ := refsL_lay Cs
  unfold SeqAt.shaped
  rw [PyData.canLay0, h1, PyData.depth]
  simp
  omega
theorem refs_ne {K : PySem.W.Frag} {σ : L2.St} {L : Addr} {H : Hp} {Q : Bool → Hp → Prop} {c : Addr × List Int} {Cs : List (Addr × List Int)} (e : H L = some (.lst (refs (c :: Cs)))) (t : ∀ x ∈ c :: Cs, H x.1 = some (.tup (vi x.2))) (h : ∀ H', Same H H' → Q true H') :
    tLst tNil σ H fun y H2 => rNeD K (.ref L) y H2 fun x H3 => ∃ k, x = .bl k ∧ Q k H3 := by
  refine ⟨Nat.zero_le _, fun p hp => ⟨_, .list [], .lst (SqL.of (same_upd hp _ _ e)) (dpR fun x hx => same_upd hp _ _ (t x hx)), .lst (SqL.of upd_same) .nil, refsL_shaped (c :: Cs), shaped_list [], _, rfl, ?_⟩⟩
  have ee : PyData.eqv (.list ((c :: Cs).map fun c => PyData.tuple (c.2.map PyData.int))) (.list []) = false := by
    rw [PyData.eqv, List.map_cons, PyData.eqvAll]
  rw [ee]
  exact h _ (same_upd hp)
section
variable {P : Program} {w : World} {K : PySem.W.Frag} {mg : Str → Option Value} {base : Heap}
end
end Fw
namespace Fw
open PySem PySem.Spec PyProof.Rows L2
open RZ
/-- the same value, to a depth -/
inductive Eqs (H : Hp) : Nat → V → V → Prop
  | non (k : Nat) : Eqs H k .non .non
  | int (k : Nat) (i : Int) : Eqs H k (.int i) (.int i)
  | bl (k : Nat) (b : Bool) : Eqs H k (.bl b) (.bl b)
  | str (k : Nat) (z : Str) : Eqs H k (.str z) (.str z)
  | tup {k : Nat} {a b : Addr} {xs ys : List V} : TpAt H a xs → TpAt H b ys → xs.length = ys.length → xs.length ≤ 500 → (∀ (i : Nat) x y, xs[i]? = some x → ys[i]? = some y → Eqs H k x y) → Eqs H (k + 1) (.ref a) (.ref b)
theorem Eqs.same {H H' : Hp} {k : Nat} {x y : V} (h : Eqs H k x y) (e : Same H H') : Eqs H' k x y := by
  induction h with
  | non k => exact .non k
  | int k i => exact .int k i
  | bl k i => exact .bl k i
  | str k i => exact .str k i
  | tup h1 h2 h3 h4 _ ih => exact .tup (h1.same e) (h2.same e) h3 h4 ih
theorem Eqs.ints {H : Hp} {k : Nat} {a b : Addr} {ns : List Int} (h1 : H a = some (.tup (vi ns))) (h2 : H b = some (.tup (vi ns))) (hl : ns.length ≤ 500) : Eqs H (k + 1) (.ref a) (.ref b) :=
  .tup (.inl h1) (.inl h2) rfl (by rw [List.length_map]; exact hl) fun i x y hx hy => by
    obtain ⟨v, _, rfl⟩ := get_vi hx
    rw [hx] at hy
    cases hy
    exact .int _ v
theorem Eqs.strs {H : Hp} {k : Nat} {a b : Addr} {ns : List Str} (h1 : H a = some (.tup (ns.map V.str))) (h2 : H b = some (.tup (ns.map V.str))) (hl : ns.length ≤ 500) : Eqs H (k + 1) (.ref a) (.ref b) :=
  .tup (.inl h1) (.inl h2) rfl (by rw [List.length_map]; exact hl) fun i x y hx hy => by
    obtain ⟨v, _, rfl⟩ := get_vs hx
    rw [hx] at hy
    cases hy
    exact .str _ v
theorem Eqs.pl {H : Hp} {k : Nat} {a b : Addr} {P : List (Str × Int)} (h1 : PlAt H a P) (h2 : PlAt H b P) (hl : P.length ≤ 500) : Eqs H (k + 2) (.ref a) (.ref b) := by
  obtain ⟨ps, e1, e2, e3⟩ := h1
  obtain ⟨qs, f1, f2, f3⟩ := h2
  have el : ps.length = qs.length := by
    have := congrArg List.length (e2.symm.trans f2)
    rw [List.length_map, List.length_map] at this
    exact this
  refine .tup e1 f1 (by rw [List.length_map, List.length_map, el]) (by rw [List.length_map]; rw [e2, List.length_map] at hl; exact hl) fun i x y hx hy => ?_
  rw [List.getElem?_map] at hx hy
  cases u : ps[i]? with
  | none => rw [u] at hx; cases hx
  | some p =>
    cases v : qs[i]? with
    | none => rw [v] at hy; cases hy
    | some q =>
      rw [u] at hx
      rw [v] at hy
      cases hx
      cases hy
      have e : p.2 = q.2 := by
        have h1 : P[i]? = some p.2 := by rw [e2, List.getElem?_map, u]; rfl
        have h2 : P[i]? = some q.2 := by rw [f2, List.getElem?_map, v]; rfl
        rw [h1] at h2
        exact Option.some.inj h2
      have g1 := e3 p (List.mem_of_getElem? u)
      have g2 := f3 q (List.mem_of_getElem? v)
      rw [← e] at g2
      refine .tup (.inl g1) (.inl g2) rfl (by show 2 ≤ 500; decide) fun j x y hx hy => ?_
      rw [hx] at hy
      cases hy
      match j, hx with
      | 0, hx => cases hx; exact .str _ _
      | 1, hx => cases hx; exact .int _ _
/-- how a zip of two tuples of one length walks -/
theorem both_walk {K : PySem.W.Frag} {a b : Addr} {xs ys : List V} (same : ys.length = xs.length) : Walk (ItzT K a b) xs.length (fun H => SqT K H a xs ∧ SqT K H b ys) (YPair (fun i => xs[i]?) fun i => ys[i]?) where
  goes i H lt q := ⟨_, _, _, _, q.1, q.2, List.getElem?_eq_getElem lt, List.getElem?_eq_getElem (same ▸ lt)⟩
  stops H q := ⟨_, _, q.1, q.2, .inl (Nat.le_refl _)⟩
  yields i H v H' _ q y := by
    obtain ⟨t, x, z, e1, e2, e3, e4, e5⟩ := y
    exact ⟨t, x, z, e1, e2, e3, e4 _ q.1, e5 _ q.2⟩

section
variable {P : Program} {w : World} {K : PySem.W.Frag} {mg : Str → Option Value} {base : Heap}
theorem tp_tyS {K : PySem.W.Frag} {H : Hp} {p : Addr} {xs : List V} (h : TpAt H p xs) : TyX K H (.ref p) (.type "tuple") := h.elim (fun h => .base (.tup h)) fun ⟨_, _, h⟩ => .fTuple h
theorem k_it : kitB "int" "tuple" = some false := by decide +kernel
theorem k_ib : kitB "int" "bool" = some false := by decide +kernel
theorem k_ii : kitB "int" "int" = some true := by decide +kernel
theorem k_nt : kitB "NoneType" "tuple" = some false := by decide +kernel
theorem k_tt : kitB "tuple" "tuple" = some true := by decide +kernel
theorem k_bt : kitB "bool" "tuple" = some false := by decide +kernel
theorem k_bb : kitB "bool" "bool" = some true := by decide +kernel
theorem k_st : kitB "str" "tuple" = some false := by decide +kernel
theorem k_sb : kitB "str" "bool" = some false := by decide +kernel
theorem k_si : kitB "str" "int" = some false := by decide +kernel
theorem k_ss2 : kitB "str" "str" = some true := by decide +kernel
end
end Fw
namespace Fw
open PySem PySem.Spec PyProof.Rows L2
/-- data that can be shown -/
structure Sw (b : Nat) (d : PyData) : Prop where
  s : d.showable = true
  n : d.hasDict = false
  p : d.depth ≤ 10
  l : d.leavesShort 13 = true
  k : d.bulk ≤ b
theorem Sw.shows {b : Nat} {d : PyData} (h : Sw b d) (hb : b ≤ 2 ^ 20) : Shows d := ⟨h.s, h.n, Nat.le_trans h.p (by decide), PyData.shown_fits_bulk (B := 13) (by decide) (by decide) h.l (Nat.le_trans h.k hb)⟩
def pp (x : Str × Int) : PyData := .tuple [.str x.1, .int x.2]
def pld (P : List (Str × Int)) : PyData := .tuple (P.map pp)
theorem pps_all {P : List (Str × Int)} (h : ∀ x ∈ P, Nam x.1 ∧ 0 ≤ x.2 ∧ x.2 ≤ 100) : PyData.showableAll (P.map pp) = true ∧ PyData.hasDictAll (P.map pp) = false ∧ PyData.depthAll (P.map pp) ≤ 1 ∧ PyData.leavesShortAll 13 (P.map pp) = true ∧ PyData.bulkAll (P.map pp) ≤ 20 * P.length := by
  induction P with
  | nil => simp [PyData.showableAll, PyData.hasDictAll, PyData.depthAll, PyData.leavesShortAll, PyData.bulkAll]
  | cons x P ih =>
    obtain ⟨i1, i2, i3, i4, i5⟩ := ih fun y hy => h y (List.mem_cons_of_mem _ hy)
    obtain ⟨hn, a0, a1⟩ := h x (List.mem_cons_self ..)
    have s1 := PyData.shown_int_le2 (i := x.2) (by omega) (by omega)
    have sz : x.1.cps.size ≤ 8 := hn.2.1
    have al : (x.1.cps.toList.all fun c => decide (c < 16 ^ 8)) = true := by
      rw [List.all_eq_true]
      intro c hc
      have := hn.2.2 c hc
      exact decide_eq_true (by omega)
    rw [List.map_cons]
    refine ⟨?_, ?_, ?_, ?_, ?_⟩
    · simp only [pp, PyData.showableAll, PyData.showable, i1, Bool.and_true]
      rw [decide_eq_true (log_small a0 a1)]
      rfl
    · simp only [pp, PyData.hasDictAll, PyData.hasDict, i2, Bool.or_false]
    · simp only [pp, PyData.depthAll, PyData.depth]
      omega
    · simp only [pp, PyData.leavesShortAll, PyData.leavesShort, i4, Bool.and_true]
      rw [decide_eq_true s1, al]
      rfl
    · simp only [pp, PyData.bulkAll, PyData.bulk, List.length_cons]
      omega
theorem pld_sw {P : List (Str × Int)} (h : ∀ x ∈ P, Nam x.1 ∧ 0 ≤ x.2 ∧ x.2 ≤ 100) : Sw (20 * P.length) (pld P) := by
  obtain ⟨i1, i2, i3, i4, i5⟩ := pps_all h
  exact ⟨by simp only [pld, PyData.showable, i1], by simp only [pld, PyData.hasDict, i2], by simp only [pld, PyData.depth]; omega, by simp only [pld, PyData.leavesShort, i4], by simp only [pld, PyData.bulk]; exact i5⟩
theorem Pl.sw {n : Int} {P : List (Str × Int)} (h : Pl n P) (hn : n ≤ 8) (lP : P.length ≤ 100) : Sw 2000 (pld P) := by
  have := pld_sw (P := P) fun x hx => ⟨h.nm.nam _ (List.mem_map_of_mem (f := (·.1)) hx), (h.rm x hx).1, by have := (h.rm x hx).2; omega⟩
  exact ⟨this.s, this.n, this.p, this.l, Nat.le_trans this.k (by omega)⟩
theorem hd_sw {n : Int} {D : List (Int × Int)} (f : Forest n D) (n0 : 0 ≤ n) (n1 : n ≤ 8) : Sw 100 (hd n D) := by
  have h : ∀ d ∈ D, 0 ≤ d.1 ∧ d.1 ≤ 100 ∧ 0 ≤ d.2 ∧ d.2 ≤ 100 := fun d hd => by
    have := f.ends (a := d.1) (b := d.2) hd
    omega
  have hl : D.length ≤ 8 := f.len
  obtain ⟨i1, i2⟩ := pds_show h
  have s1 := PyData.shown_int_le2 (i := n) (by omega) (by omega)
  have dp := pd_deep D
  refine ⟨?_, ?_, ?_, ?_, ?_⟩
  · simp only [hd, PyData.showable, PyData.showableAll, Bool.and_true, i1]
    rw [decide_eq_true (log_small n0 (by omega))]
  · simp only [hd, PyData.hasDict, PyData.hasDictAll, Bool.or_false, Bool.false_or]
    exact pds_nodict D
  · simp only [hd, PyData.depth, PyData.depthAll]
    omega
  · simp only [hd, PyData.leavesShort, PyData.leavesShortAll, Bool.and_true, i2]
    rw [decide_eq_true s1]
  · simp only [hd, PyData.bulk, PyData.bulkAll, pds_bulk]
    omega
theorem sw2 {b c : Nat} {d e : PyData} (x : Sw b d) (y : Sw c e) (h1 : d.depth ≤ 8) (h2 : e.depth ≤ 8) : Sw (b + c + 2) (.list [d, e]) := by
  refine ⟨?_, ?_, ?_, ?_, ?_⟩
  · simp only [PyData.showable, PyData.showableAll, x.s, y.s, Bool.and_true]
  · simp only [PyData.hasDict, PyData.hasDictAll, x.n, y.n, Bool.or_false]
  · simp only [PyData.depth, PyData.depthAll]
    omega
  · simp only [PyData.leavesShort, PyData.leavesShortAll, x.l, y.l, Bool.and_true]
  · simp only [PyData.bulk, PyData.bulkAll]
    have := x.k
    have := y.k
    omega
theorem sw3 {a b c : Nat} {d e f : PyData} (x : Sw a d) (y : Sw b e) (z : Sw c f) (h1 : d.depth ≤ 8) (h2 : e.depth ≤ 8) (h3 : f.depth ≤ 8) : Sw (a + b + c + 3) (.list [d, e, f]) := by
  refine ⟨?_, ?_, ?_, ?_, ?_⟩
  · simp only [PyData.showable, PyData.showableAll, x.s, y.s, z.s, Bool.and_true]
  · simp only [PyData.hasDict, PyData.hasDictAll, x.n, y.n, z.n, Bool.or_false]
  · simp only [PyData.depth, PyData.depthAll]
    omega
  · simp only [PyData.leavesShort, PyData.leavesShortAll, x.l, y.l, z.l, Bool.and_true]
  · simp only [PyData.bulk, PyData.bulkAll]
    have := x.k
    have := y.k
    have := z.k
    omega
theorem hd_deep (n : Int) (D : List (Int × Int)) : (hd n D).depth ≤ 8 := by
  have dp := pd_deep D
  simp only [hd, PyData.depth, PyData.depthAll]
  omega
theorem pps_deep (P : List (Str × Int)) : PyData.depthAll (P.map pp) ≤ 1 := by
  induction P with
  | nil => simp [PyData.depthAll]
  | cons x P ih =>
    rw [List.map_cons]
    simp only [pp, PyData.depthAll, PyData.depth]
    omega
theorem pld_deep (P : List (Str × Int)) : (pld P).depth ≤ 8 := by
  have := pps_deep P
  simp only [pld, PyData.depth]
  omega
theorem dp_pps {K : PySem.W.Frag} {H : Hp} : ∀ {ps : List (Addr × Str × Int)}, (∀ p ∈ ps, H p.1 = some (.tup [.str p.2.1, .int p.2.2])) → DpAll K H (ps.map fun p => V.ref p.1) ((ps.map (·.2)).map pp)
  | [], _ => .nil
  | p :: ps, h => .cons (.tup (SqT.of (h p (List.mem_cons_self ..))) (.cons (.str _) (.cons (.int _) .nil))) (dp_pps fun q hq => h q (List.mem_cons_of_mem _ hq))
theorem PlAt.dp {K : PySem.W.Frag} {H : Hp} {p : Addr} {P : List (Str × Int)} (x : PlAt H p P) : Dp K H (.ref p) (pld P) := by
  obtain ⟨ps, h1, h2, h3⟩ := x
  rw [h2]
  exact .tup h1.sq (dp_pps h3)
theorem sw2T {b c : Nat} {d e : PyData} (x : Sw b d) (y : Sw c e) (h1 : d.depth ≤ 8) (h2 : e.depth ≤ 8) : Sw (b + c + 2) (.tuple [d, e]) := by
  refine ⟨?_, ?_, ?_, ?_, ?_⟩
  · simp only [PyData.showable, PyData.showableAll, x.s, y.s, Bool.and_true]
  · simp only [PyData.hasDict, PyData.hasDictAll, x.n, y.n, Bool.or_false]
  · simp only [PyData.depth, PyData.depthAll]
    omega
  · simp only [PyData.leavesShort, PyData.leavesShortAll, x.l, y.l, Bool.and_true]
  · simp only [PyData.bulk, PyData.bulkAll]
    have := x.k
    have := y.k
    omega
/-- (house, placement) -/
def hpT (n : Int) (D : List (Int × Int)) (P : List (Str × Int)) : PyData := .tuple [hd n D, pld P]
theorem hpT_shows {n : Int} {D : List (Int × Int)} {P : List (Str × Int)} (f : Forest n D) (n0 : 0 ≤ n) (n1 : n ≤ 8) (h : Pl n P) (lP : P.length ≤ 100) : Shows (hpT n D P) :=
  (sw2T (hd_sw f n0 n1) (h.sw n1 lP) (hd_deep _ _) (pld_deep _)).shows (by decide)
theorem hpT_dp {K : PySem.W.Frag} {H : Hp} {l h p : Addr} {n : Int} {D : List (Int × Int)} {P : List (Str × Int)} (e : H l = some (.tup [.ref h, .ref p])) (x : HouseAt H h n D) (y : PlAt H p P) : Dp K H (.ref l) (hpT n D P) :=
  .tup (SqT.of e) (.cons x.dp (.cons y.dp .nil))
/-- [house, placement] -/
def hpd (n : Int) (D : List (Int × Int)) (P : List (Str × Int)) : PyData := .list [hd n D, pld P]
theorem hp_shows {n : Int} {D : List (Int × Int)} {P : List (Str × Int)} (f : Forest n D) (n0 : 0 ≤ n) (n1 : n ≤ 8) (h : Pl n P) (lP : P.length ≤ 100) : Shows (hpd n D P) :=
  (sw2 (hd_sw f n0 n1) (h.sw n1 lP) (hd_deep _ _) (pld_deep _)).shows (by decide)
theorem hp_dp {K : PySem.W.Frag} {H : Hp} {l h p : Addr} {n : Int} {D : List (Int × Int)} {P : List (Str × Int)} (e : H l = some (.lst [.ref h, .ref p])) (x : HouseAt H h n D) (y : PlAt H p P) : Dp K H (.ref l) (hpd n D P) :=
  .lst (SqL.of e) (.cons x.dp (.cons y.dp .nil))
theorem pps_lay : ∀ {X : List (Str × Int)}, (∀ x ∈ X, Nam x.1) → PyData.canLayAll0 (X.map pp) = true
  | [], _ => by simp [PyData.canLayAll0]
  | x :: X, h => by
    rw [List.map_cons, PyData.canLayAll0, pps_lay fun y hy => h y (List.mem_cons_of_mem _ hy)]
    simp [pp, PyData.canLay0, PyData.canLayAll0, nam_ok (h x (List.mem_cons_self ..))]
theorem pps_shapedL {X : List (Str × Int)} (h : ∀ x ∈ X, Nam x.1) : SeqAt.shaped (.list (X.map pp)) = true := by
  unfold SeqAt.shaped
  rw [PyData.canLay0, pps_lay h, PyData.depth]
  have := pps_deep X
  simp
  omega
theorem pld_shaped {X : List (Str × Int)} (h : ∀ x ∈ X, Nam x.1) : SeqAt.shaped (pld X) = true := by
  unfold SeqAt.shaped pld
  rw [PyData.canLay0, pps_lay h, PyData.depth]
  have := pps_deep X
  simp
  omega
theorem Pl.nams {n : Int} {P : List (Str × Int)} (h : Pl n P) : ∀ x ∈ P, Nam x.1 := fun x hx => h.nm.nam _ (List.mem_map_of_mem (f := (·.1)) hx)
theorem eqv_nilP (X : List (Str × Int)) : PyData.eqv (.list (X.map pp)) (.list []) = X.isEmpty := by
  rw [PyData.eqv]
  cases X with
  | nil => rw [List.map_nil, PyData.eqvAll]; rfl
  | cons n ns => rw [List.map_cons, PyData.eqvAll]; rfl
/-- [house, placement, target] -/
def hptd (n : Int) (D : List (Int × Int)) (P G : List (Str × Int)) : PyData := .list [hd n D, pld P, pld G]
theorem hpt_shows {n : Int} {D : List (Int × Int)} {P G : List (Str × Int)} (f : Forest n D) (n0 : 0 ≤ n) (n1 : n ≤ 8) (h : Pl n P) (lP : P.length ≤ 100) (k : Pl n G) (lG : G.length ≤ 100) : Shows (hptd n D P G) :=
  (sw3 (hd_sw f n0 n1) (h.sw n1 lP) (k.sw n1 lG) (hd_deep _ _) (pld_deep _) (pld_deep _)).shows (by decide)
theorem hpt_dp {K : PySem.W.Frag} {H : Hp} {l h p g : Addr} {n : Int} {D : List (Int × Int)} {P G : List (Str × Int)} (e : H l = some (.lst [.ref h, .ref p, .ref g])) (x : HouseAt H h n D) (y : PlAt H p P) (z : PlAt H g G) : Dp K H (.ref l) (hptd n D P G) :=
  .lst (SqL.of e) (.cons x.dp (.cons y.dp (.cons z.dp .nil)))
end Fw
namespace Fw
open PySem PySem.Spec PyProof.Rows L2
/-! ### dicts by names -/
def dk (F : List (Str × V)) : List (Key × V) := F.map fun x => (Sum.inr x.1, x.2)
theorem valV_none {F : List (Str × V)} {nm : Str} (h : nm ∉ F.map (·.1)) : valV (dk F) (Sum.inr nm) = none := by
  induction F with
  | nil => rfl
  | cons x F ih =>
    rw [List.map_cons, List.mem_cons, not_or] at h
    show valV ((Sum.inr x.1, x.2) :: dk F) _ = none
    rw [valV_neg (fun e => h.1 (Sum.inr.inj e).symm)]
    exact ih h.2
theorem valV_dk {F : List (Str × V)} (nd : (F.map (·.1)).Nodup) {nm : Str} {v : V} (h : (nm, v) ∈ F) : valV (dk F) (Sum.inr nm) = some v := by
  induction F with
  | nil => cases h
  | cons x F ih =>
    rw [List.map_cons, List.nodup_cons] at nd
    rcases List.mem_cons.mp h with e | m
    · subst e
      exact valV_pos rfl
    · show valV ((Sum.inr x.1, x.2) :: dk F) _ = _
      rw [valV_neg (fun e => nd.1 (by rw [Sum.inr.inj e]; exact List.mem_map_of_mem (f := (·.1)) m))]
      exact ih nd.2 m
theorem merge_app : ∀ {F G : List (Str × V)}, ((F ++ G).map (·.1)).Nodup → mergeK (dk F) (dk G) = dk (F ++ G)
  | F, [], _ => by rw [List.append_nil]; rfl
  | F, x :: G, nd => by
    have n1 : x.1 ∉ F.map (·.1) := fun m => by
      rw [List.map_append, List.map_cons, List.nodup_append] at nd
      exact nd.2.2 x.1 m x.1 (List.mem_cons_self ..) rfl
    show mergeK (putK (dk F) (Sum.inr x.1) x.2) (dk G) = _
    rw [putK_new _ (valV_none n1)]
    have e : dk F ++ [(Sum.inr x.1, x.2)] = dk (F ++ [x]) := by unfold dk; rw [List.map_append]; rfl
    rw [e, merge_app (by rw [List.append_assoc]; exact nd), List.append_assoc]
    rfl
theorem merge_dk {F : List (Str × V)} (nd : (F.map (·.1)).Nodup) : mergeK [] (dk F) = dk F := merge_app (F := []) nd
theorem dk_keys (F : List (Str × V)) : (dk F).map (·.1) = (F.map (·.1)).map Sum.inr := by
  unfold dk
  rw [List.map_map, List.map_map]
  rfl
theorem dk_len (F : List (Str × V)) : (dk F).length = F.length := by unfold dk; rw [List.length_map]
/-- dict(list of pairs) -/
theorem call_dictK {X : Cx} (K : PySem.W.Frag) (h : X.K = K) (hc : X.calm = true) : CallR X (.type "dict") (fun xs H Q => ∃ (a : Addr) (ps : List Addr) (kvs : List (Key × V)), xs = [.ref a] ∧ SqL K H a (ps.map V.ref) ∧ Paired (fun p kv => SqT K H p [kV kv.1, kv.2]) ps kvs ∧
    ∀ p, H p = none → Q (.ref p) (upd H p (.dK (mergeK [] kvs)))) := by subst h; exact call_dictP hc
theorem paired_of {K : PySem.W.Frag} {H : Hp} : ∀ {ps : List (Addr × Str × V)}, (∀ q ∈ ps, H q.1 = some (.tup [.str q.2.1, q.2.2])) → Paired (fun p kv => SqT K H p [kV kv.1, kv.2]) (ps.map (·.1)) (dk (ps.map (·.2)))
  | [], _ => .nil
  | p :: ps, h => .cons (SqT.of (h p (List.mem_cons_self ..))) (paired_of fun q hq => h q (List.mem_cons_of_mem _ hq))
theorem eqv_nilT (X : List (Str × Int)) : PyData.eqv (pld X) (.tuple []) = X.isEmpty := by
  unfold pld
  rw [PyData.eqv]
  cases X with
  | nil => rw [List.map_nil, PyData.eqvAll]; rfl
  | cons n ns => rw [List.map_cons, PyData.eqvAll]; rfl
theorem PlAt.at {K : PySem.W.Frag} {H : Hp} {l : Addr} {X : List (Str × Int)} (x : PlAt H l X) {r : Int} (h0 : 0 ≤ r) (h1 : r < (X.length : Nat)) : ∃ xs t nm v, SqT K H l xs ∧ atI xs r = some (.ref t) ∧ H t = some (.tup [.str nm, .int v]) ∧ (nm, v) ∈ X := by
  obtain ⟨ps, e1, e2, e3⟩ := x
  have hj : r.toNat < ps.length := by rw [e2, List.length_map] at h1; omega
  have hm := List.getElem_mem hj
  refine ⟨_, ps[r.toNat].1, ps[r.toNat].2.1, ps[r.toNat].2.2, e1.sq, ?_, e3 _ hm, by rw [e2]; exact List.mem_map_of_mem (f := (·.2)) hm⟩
  have := atI_nat (xs := ps.map fun q => V.ref q.1) (j := r.toNat) (v := V.ref ps[r.toNat].1) (by rw [List.getElem?_map, List.getElem?_eq_getElem hj]; rfl)
  rw [show ((r.toNat : Nat) : Int) = r by omega] at this
  exact this
theorem PlAt.sq' {K : PySem.W.Frag} {H : Hp} {l : Addr} {X : List (Str × Int)} (x : PlAt H l X) : ∃ xs, SqT K H l xs ∧ xs.length = X.length := by
  obtain ⟨ps, h1, h2, _⟩ := x
  exact ⟨_, h1.sq, by rw [h2, List.length_map, List.length_map]⟩
/-! ### dict(placement) -/
def dkI (P : List (Str × Int)) : List (Key × V) := dk (P.map fun x => (x.1, V.int x.2))
theorem dkI_keys (P : List (Str × Int)) : (P.map fun x => (x.1, V.int x.2)).map (·.1) = P.map (·.1) := by
  rw [List.map_map]
  rfl
theorem valV_dkI {P : List (Str × Int)} (nd : (P.map (·.1)).Nodup) {nm : Str} {r : Int} (h : (nm, r) ∈ P) : valV (dkI P) (Sum.inr nm) = some (.int r) :=
  valV_dk (by rw [dkI_keys]; exact nd) (List.mem_map.mpr ⟨(nm, r), h, rfl⟩)
theorem valV_dkI_none {P : List (Str × Int)} {nm : Str} (h : nm ∉ P.map (·.1)) : valV (dkI P) (Sum.inr nm) = none := valV_none (by rw [dkI_keys]; exact h)
theorem pairs_in {X : Cx} {pins : List (Addr × Obj)} {σ : L2.St} {H : Hp} {s : Shared} (I : Inv X pins σ H s) : ∀ {ps : List (Addr × Str × Int)}, (∀ q ∈ ps, H q.1 = some (.tup [.str q.2.1, .int q.2.2])) →
    ∃ (vs : List (Value × Value)) (kv : List (Key × Value)), vs.length = ps.length ∧ KV (dkI (ps.map (·.2))) kv ∧ kv.length = ps.length ∧
      ∀ (j : Nat) (u v : Value), vs[j]? = some (u, v) → ∃ q k, ps[j]? = some q ∧ PairAt s.heap q.1 u v ∧ kv[j]? = some (k, v) ∧ (mixKind X.prog X.w).is k u = true
  | [], _ => ⟨[], [], rfl, .nil, rfl, fun j u v e => by cases e⟩
  | p :: ps, h => by
    obtain ⟨vs, kv, l1, rel, l2, f⟩ := pairs_in I fun q hq => h q (List.mem_cons_of_mem _ hq)
    obtain ⟨its, rv, ht, _⟩ := I.tuple (SqT.of (h p (List.mem_cons_self ..)))
    obtain ⟨u, y, ei, ru, ry⟩ := vals2 rv
    subst ei
    refine ⟨(u, y) :: vs, (Sum.inr p.2.1, y) :: kv, by rw [List.length_cons, List.length_cons, l1], .cons ⟨rfl, ry⟩ rel, by rw [List.length_cons, List.length_cons, l2], fun j u' v' e => ?_⟩
    cases j with
    | zero =>
      cases e
      exact ⟨p, _, rfl, .inl ht, rfl, kV_is (P := X.prog) (w := X.w) (k := Sum.inr p.2.1) ru⟩
    | succ j => exact f j u' v' (by simpa using e)
theorem call_dictT {X : Cx} (hcalm : X.calm = true) : CallR X (.type "dict") (fun xs H Q => ∃ (a : Addr) (P : List (Str × Int)), xs = [.ref a] ∧ PlD H a P ∧ (P.map (·.1)).Nodup ∧ P.length ≤ 1000 ∧ ∀ p, H p = none → Q (.ref p) (upd H p (.dK (dkI P)))) := by
  intro pins s σ H xs us Q I r q
  obtain ⟨a, P, rfl, ⟨ps, ob, od, hp, eP, hps⟩, nd, lP, q⟩ := q
  obtain ⟨u, rfl, ru⟩ := vals1 r
  obtain rfl : u = Value.ref a := ru
  obtain ⟨ho, hz, its, rel, ⟨o2, ho2, hc2, n2, hd2⟩⟩ := (show ObjOk X.prog X.w H s.heap a (.frz ob (.tup (ps.map fun q => V.ref q.1))) from I.hok a _ hp)
  have e2 : o2 = ob := by
    rw [ho] at ho2
    exact (Option.some.inj ho2).symm
  subst e2
  have ei : its = (ps.map (·.1)).map Value.ref := refs_at (by rw [List.map_map]; exact rel)
  obtain ⟨vs, kv, l1, rk, l2, f⟩ := pairs_in I hps
  have lp : ps.length = P.length := by rw [eP, List.length_map]
  have hlen : (dkI P).length ≤ sizeLine := by
    unfold dkI
    rw [dk_len, List.length_map]
    exact Nat.le_of_lt (small1000 lP)
  have hsz : vs.length ≤ sizeLine := by
    rw [l1, lp]
    exact Nat.le_of_lt (small1000 lP)
  refine PySem.call_dict_pairs (knd := mixKind X.prog X.w) (kvs := kv) (PairArg.tuple a its.toArray (fun j => (ps.map (·.1)).getD j 0) vs) (I.ok.hd hcalm) ⟨⟨o2, n2, ho, hc2, od, hd2⟩, ?_, fun j k v e => ?_⟩ ⟨by rw [l2, l1], fun j key v e => ?_⟩ hsz fun h' tk hd' k => ?_
  · rw [ei, List.size_toArray, List.length_map, List.length_map, l1]
  · obtain ⟨q', k', hq, hpa, _, _⟩ := f j k v e
    have hg : (ps.map (·.1))[j]? = some q'.1 := by rw [List.getElem?_map, hq]; rfl
    have hT : (ps.map (·.1)).getD j 0 = q'.1 := by rw [List.getD_eq_getElem?_getD, hg]; rfl
    show its.toArray[j]? = some (Value.ref ((ps.map (·.1)).getD j 0)) ∧ PairAt s.heap ((ps.map (·.1)).getD j 0) k v
    rw [hT]
    refine ⟨?_, hpa⟩
    rw [ei, List.getElem?_toArray, List.getElem?_map, hg]
    rfl
  · obtain ⟨q', k', _, _, hk, hi⟩ := f j key v e
    exact ⟨k', hk, hi⟩
  · have hm : (s.heap.objs.size == sysModules) = false := beq_eq_false_iff_ne.mpr (Nat.ne_of_gt I.big)
    have em : mergeK [] (dkI P) = dkI P := merge_dk (by rw [dkI_keys]; exact nd)
    have rk' : KV (dkI P) (merged [] kv) := by
      have := KV.merge (kvs := []) (vs := []) rk .nil
      rw [← eP, em] at this
      exact this
    exact ⟨.ref s.heap.objs.size, upd H s.heap.objs.size (.dK (dkI P)), I.laid (t' := tk) (fun b o e => k b o List.not_mem_nil e) (Nat.le_refl _) (show ObjOk X.prog X.w _ _ _ (.dK (dkI P)) from ⟨hlen, hm, merged [] kv, rk', hd'⟩), rfl, q _ (I.hok.fresh (Nat.le_refl _))⟩
end Fw
set_option maxHeartbeats 2000000
namespace Fw
open PySem PySem.Spec PyProof.Rows L2
/-- l != [], whatever lies in l -/
def rNeL0 (K : PySem.W.Frag) : R2 := fun x y H Q => ∃ (a b : Addr) (xs : List V), x = .ref a ∧ y = .ref b ∧ SqL K H a xs ∧ SqL K H b [] ∧ Q (.bl (!xs.isEmpty)) H
theorem op_neL0 {X : Cx} (hu : X.A.units < cLine) : OpR X (compareOp .NotEq) (rNeL0 X.K) := by
  rintro pn z σ H _ _ v u Q J rx ry ⟨a, b, xs, rfl, rfl, ha, hb, q⟩
  cases (show v = Value.ref a from rx)
  cases (show u = Value.ref b from ry)
  obtain ⟨ia, ra, pa, _⟩ := J.list ha
  obtain ⟨_, rb, pb, _⟩ := J.list hb
  cases rb
  match xs, ra with
  | [], .nil => exact SeqAt.RcNeAt.lists (e := fun _ => true) pa.isList pb.isList rfl hu (fun j h1 _ => absurd h1 (by simp)) X.prog X.w _ _ ⟨.bl false, H, J, rfl, q⟩
  | _ :: _, .cons _ _ => exact SeqAt.RcNeAt.lists_lengths pa.isList pb.isList (by simp) hu X.prog X.w _ _ ⟨.bl true, H, J, rfl, q⟩
/-! ### placements compared -/
theorem eqvAll_pp : ∀ (R G : List (Str × Int)), PyData.eqvAll (R.map pp) (G.map pp) = decide (R = G)
  | [], [] => rfl
  | [], _ :: _ => by rw [List.map_nil, List.map_cons, PyData.eqvAll]; rfl
  | _ :: _, [] => by rw [List.map_nil, List.map_cons, PyData.eqvAll]; rfl
  | x :: R, y :: G => by
    rw [List.map_cons, List.map_cons, PyData.eqvAll, eqvAll_pp R G]
    obtain ⟨x1, x2⟩ := x
    obtain ⟨y1, y2⟩ := y
    simp only [pp, PyData.eqv, PyData.eqvAll, Bool.and_true]
    rw [Bool.eq_iff_iff]
    simp
theorem eqv_pld (R G : List (Str × Int)) : PyData.eqv (pld R) (pld G) = decide (R = G) := by
  unfold pld
  rw [PyData.eqv]
  exact eqvAll_pp R G
end Fw
namespace Fw
open PySem PySem.Spec PyProof.Rows L2
theorem le_sz {n : Nat} (h : n ≤ 100) : n ≤ sizeLine := Nat.le_trans h (by decide)
theorem rd_sm {H H1 : Hp} (s : Same H H1) {a : Addr} {o : HO} (h : Rd H a o) : Rd H1 a o := by
  rcases h with e | ⟨ob, e⟩
  · exact .inl (s _ _ e)
  · exact .inr ⟨ob, s _ _ e⟩
theorem sqL_sm {K : PySem.W.Frag} {H H1 : Hp} (s : Same H H1) {a : Addr} {xs : List V} (h : SqL K H a xs) : SqL K H1 a xs := by
  rcases h with e | e
  · exact .inl (rd_sm s e)
  · exact .inr e
theorem sqT_sm {K : PySem.W.Frag} {H H1 : Hp} (s : Same H H1) {a : Addr} {xs : List V} (h : SqT K H a xs) : SqT K H1 a xs := by
  rcases h with e | e
  · exact .inl (rd_sm s e)
  · exact .inr e
theorem same_put8 {H H8 : Hp} (s : Same H H8) {D : Addr} {o : HO} (hD : H D = none) : Same H (upd H8 D o) := fun b u e => by
  rw [upd_ne (ne_of_none e hD)]
  exact s b u e
def datas : List PyData := [.none, .bool true, .bool false, .int 0, .int 1, .int (-1), .int 9, .int (10 ^ (59 : Int).toNat), .str "", .str "a", .str "A", .str "a1", .str "abcdefghi", .tuple [], .list [], .dict [], .tuple [.int 0], .tuple [.int 1, .int 0], .list [.int 0, .int 1],
  .tuple [.int 0, .int 0], .tuple [.int 0, .int 1, .int 2], .tuple [.tuple [.int 0, .int 1]], .tuple [.str "a", .int 0], .str "a b", .tuple [.tuple [.str "a", .int 0]]]
abbrev nRand : List Str := ["_law_stream_here", "_law_some"]
end Fw
set_option maxHeartbeats 2000000
namespace Fw
open PySem PySem.Spec PyProof.Rows L2
/-! any value of the laws: data, with {} as a leaf; no list of it is sys.modules or among av -/
mutual
inductive Dx (K : PySem.W.Frag) (av : List Addr) (H : Hp) : V → PyData → Prop
  | non : Dx K av H .non .none
  | bl (b : Bool) : Dx K av H (.bl b) (.bool b)
  | int (i : Int) : Dx K av H (.int i) (.int i)
  | str (x : Str) : Dx K av H (.str x) (.str x)
  | lst {a : Addr} {xs : List V} {ds : List PyData} : SqL K H a xs → a ∉ sysModules :: av → DxAll K av H xs ds → Dx K av H (.ref a) (.list ds)
  | tup {a : Addr} {xs : List V} {ds : List PyData} : SqT K H a xs → DxAll K av H xs ds → Dx K av H (.ref a) (.tuple ds)
  | dct {a : Addr} : H a = some (.dK []) → Dx K av H (.ref a) (.dict [])
inductive DxAll (K : PySem.W.Frag) (av : List Addr) (H : Hp) : List V → List PyData → Prop
  | nil : DxAll K av H [] []
  | cons {v : V} {vs : List V} {d : PyData} {ds : List PyData} : Dx K av H v d → DxAll K av H vs ds → DxAll K av H (v :: vs) (d :: ds)
end
mutual
theorem dx_sm {K : PySem.W.Frag} {av : List Addr} {H H1 : Hp} (s : Same H H1) : ∀ {v : V} {d : PyData}, Dx K av H v d → Dx K av H1 v d
  | _, _, .non => .non
  | _, _, .bl b => .bl b
  | _, _, .int i => .int i
  | _, _, .str x => .str x
  | _, _, .lst h n a => .lst (sqL_sm s h) n (dxA_sm s a)
  | _, _, .tup h a => .tup (sqT_sm s h) (dxA_sm s a)
  | _, _, .dct e => .dct (s _ _ e)
theorem dxA_sm {K : PySem.W.Frag} {av : List Addr} {H H1 : Hp} (s : Same H H1) : ∀ {v : List V} {d : List PyData}, DxAll K av H v d → DxAll K av H1 v d
  | _, _, .nil => .nil
  | _, _, .cons h a => .cons (dx_sm s h) (dxA_sm s a)
end
theorem rd_fr {s A B : Addr} {c : Nat} {H H1 : Hp} (hS : StreamAt H s A B c) (f : Fr s A H H1) {a : Addr} {xs : List V} (h : Rd H a (.tup xs)) : Rd H1 a (.tup xs) := by
  obtain ⟨big, cells, cnt, h1, h2, h3, _⟩ := hS.ex
  rcases h with e | ⟨ob, e⟩
  · exact .inl (f _ _ (ne_of e h1 (by intro q; cases q)) (ne_of e h2 (by intro q; cases q)) e)
  · exact .inr ⟨ob, f _ _ (ne_of e h1 (by intro q; cases q)) (ne_of e h2 (by intro q; cases q)) e⟩
mutual
theorem dx_fr {K : PySem.W.Frag} {s A B : Addr} {c : Nat} {H H1 : Hp} (hS : StreamAt H s A B c) (f : Fr s A H H1) : ∀ {v : V} {d : PyData}, Dx K [s, A] H v d → Dx K [s, A] H1 v d
  | _, _, .non => .non
  | _, _, .bl b => .bl b
  | _, _, .int i => .int i
  | _, _, .str x => .str x
  | _, _, .lst (a := a) h n t => .lst (by
      have n1 : a ≠ s := fun z => n (by simp [z])
      have n2 : a ≠ A := fun z => n (by simp [z])
      rcases h with (e | ⟨ob, e⟩) | e
      · exact .inl (.inl (f _ _ n1 n2 e))
      · exact .inl (.inr ⟨ob, f _ _ n1 n2 e⟩)
      · exact .inr e) n (dxA_fr hS f t)
  | _, _, .tup h t => .tup (by
      rcases h with e | e
      · exact .inl (rd_fr hS f e)
      · exact .inr e) (dxA_fr hS f t)
  | _, _, .dct e => .dct (by
      obtain ⟨big, cells, cnt, h1, h2, h3, _⟩ := hS.ex
      exact f _ _ (ne_of e h1 (by intro q; cases q)) (ne_of e h2 (by intro q; cases q)) e)
theorem dxA_fr {K : PySem.W.Frag} {s A B : Addr} {c : Nat} {H H1 : Hp} (hS : StreamAt H s A B c) (f : Fr s A H H1) : ∀ {v : List V} {d : List PyData}, DxAll K [s, A] H v d → DxAll K [s, A] H1 v d
  | _, _, .nil => .nil
  | _, _, .cons h t => .cons (dx_fr hS f h) (dxA_fr hS f t)
end
section
variable {X : Cx} {av : List Addr} {pins : List (Addr × Obj)} {σ : L2.St} {H : Hp} {s : Shared}
mutual
theorem dx_reads (I : Inv X pins σ H s) : ∀ {v : V} {d : PyData} {u : Value}, Dx X.K av H v d → RelV v u → ∃ as, Reads s.heap u d as ∧ sysModules ∉ as
  | _, _, _, .non, r => by
    cases r
    exact ⟨_, .none, fun z => nomatch z⟩
  | _, _, _, .bl b, r => by
    cases r
    exact ⟨_, .bool b, fun z => nomatch z⟩
  | _, _, _, .int i, r => by
    obtain ⟨t, rfl⟩ := r
    exact ⟨_, .int i t, fun z => nomatch z⟩
  | _, _, _, .str x, r => by
    obtain ⟨t, rfl⟩ := r
    exact ⟨_, .str x t, fun z => nomatch z⟩
  | _, _, _, .lst h n a, r => by
    cases r
    obtain ⟨its, rv, ⟨ob, k, ho, hc, _, hd⟩, _⟩ := I.list h
    obtain ⟨as, ra, na⟩ := dxA_reads I a rv
    refine ⟨_, .list ho hc hd ra, fun z => ?_⟩
    rcases List.mem_cons.mp z with e | e
    · exact n (e ▸ List.mem_cons_self)
    · exact na e
  | _, _, _, .tup h a, r => by
    cases r
    obtain ⟨its, rv, ⟨ob, ho, hc, k, hd⟩, _⟩ := I.tuple h
    obtain ⟨as, ra, na⟩ := dxA_reads I a rv
    exact ⟨_, .tuple ho hc hd ra, na⟩
  | _, _, _, .dct (a := a) e, r => by
    cases r
    obtain ⟨_, y, vs, kv, o, es, ep, ho, hx, hd, _, hp, _⟩ := (show ObjOk X.prog X.w H s.heap a (.dK []) from I.hok a _ e)
    cases kv
    have e0 : es.toList = [] := by
      generalize es.toList = l at hp
      cases hp
      rfl
    refine ⟨_, Reads.dict (kvs := []) ho hx.1 hd (by rw [e0]; exact .nil) (by rw [e0]; exact .nil), fun z => ?_⟩
    have z' : sysModules ∈ [a] := z
    rw [List.mem_singleton.mp z'] at y
    simp at y
theorem dxA_reads (I : Inv X pins σ H s) : ∀ {vs : List V} {ds : List PyData} {us : List Value}, DxAll X.K av H vs ds → Vals vs us → ∃ as, ReadsAll s.heap us ds as ∧ sysModules ∉ as
  | _, _, _, .nil, r => by
    cases r
    exact ⟨_, .nil, fun z => nomatch z⟩
  | _, _, _, .cons h t, r => by
    cases r with
    | cons r1 r2 =>
      obtain ⟨as, q1, n1⟩ := dx_reads I h r1
      obtain ⟨bs, q2, n2⟩ := dxA_reads I t r2
      exact ⟨_, .cons q1 q2, fun z => (List.mem_append.mp z).elim n1 n2⟩
end
/-- repr of such a value that lies in memory -/
def rReprD (K : PySem.W.Frag) (av : List Addr) : List V → Hp → VK → Prop := fun vs H Q => ∃ (a : Addr) (d : PyData), vs = [.ref a] ∧ Dx K av H (.ref a) d ∧ d.showable = true ∧ d.depth ≤ 60 ∧ d.shown.length ≤ sizeLine ∧ Q (.str d.shown) H
theorem call_reprD {X : Cx} (hg : X.A.guards = some []) (hu : X.A.units + 65 < cLine) : CallR X (.builtin "repr") (rReprD X.K av) := by
  intro pn sh σ H vs us Q J rr hh
  obtain ⟨a, d, rfl, hd, hs, hp, hz, q⟩ := hh
  obtain ⟨ua, rfl, ra⟩ := vals1 rr
  cases (show ua = Value.ref a from ra)
  obtain ⟨as, rd, nn⟩ := dx_reads J hd rfl
  exact repr_of_reads' rd hs (fun _ => nn) hg (by omega) (fun _ _ e => e) (fun h' t tk hk => ⟨.str _, H, J.kept hk, ⟨_, rfl⟩, q⟩) hz
end
end Fw
set_option maxHeartbeats 2000000
namespace Fw
open PySem PySem.Spec PyProof.Rows L2
/-! new lists that are told not to be sys.modules -/
section
variable {X : Cx} {es : List Expr} {t : TA} {pos : Pos}
def tLstN (t : TA) : TE := fun σ H Q => t σ H fun xs H1 => xs.length ≤ sizeLine ∧ ∀ p, H1 p = none → p ≠ sysModules → Q (.ref p) (upd H1 p (.lst xs))
theorem pe_lstN (h : PA X es t) : PE X (.List es pos) (tLstN t) :=
  ⟨fun pn sh σ H Q J hq => wpAny_List_spliced (thn (h.run pos pn sh σ H _ J hq) fun us s1 ⟨xs, H1, J1, rs, z, q⟩ =>
    ⟨rs.length ▸ z, .ref _, _, J1.lnew (t' := s1.toks) rs z, rfl, q _ J1.fresh fun e => Nat.ne_of_lt J1.big e.symm⟩)⟩
/-- list(t), t a tuple -/
def rListN (K : PySem.W.Frag) : List V → Hp → VK → Prop := fun xs H Q => ∃ (p : Addr) (ys : List V), xs = [.ref p] ∧ SqT K H p ys ∧ ∀ l, H l = none → l ≠ sysModules → Q (.ref l) (upd H l (.lst ys))
theorem call_listN : CallR X (.type "list") (rListN X.K) := by
  intro pn sh σ H xs us Q J rr hh
  obtain ⟨p, ys, rfl, hq, q⟩ := hh
  obtain ⟨ua, rfl, ra⟩ := vals1 rr
  cases ra
  obtain ⟨its, r', pl, hz⟩ := J.tuple hq
  obtain ⟨o, ho, hc, n, hd⟩ := pl
  have hl := r'.length
  refine call_list_seq p (.inr rfl) ho hc hd (fun h' c' kp e => ?_) (by simp only [List.size_toArray]; omega)
  exact ⟨.ref sh.heap.objs.size, _, J.laid (t' := sh.toks) kp (Nat.le_refl _) (show ObjOk X.prog X.w _ h' _ (.lst ys) from ⟨hz, its, c', r', e⟩), rfl, q _ (J.hok.fresh (Nat.le_refl _)) fun e => Nat.ne_of_lt J.big e.symm⟩
end
end Fw
set_option maxHeartbeats 2000000
namespace Fw
open PySem PySem.Spec PyProof.Rows L2
/-! ### a text and any value -/
theorem decl_str (b : Str) (u : Tok) (l : Addr) (dd : Option Addr) (es : Array DictEntry) (n : Nat) (ss : Array (Option Value)) :
    Meets (Builtin.«str.__eq__» ⟨[.str b u, .ref l], []⟩) (fun _ R s => s.heap.get? l = some { cls := .type "dict", dict := dd, data := .dict es n, slots := ss } ∧ R (.ok (.ret .notImplemented)) s) :=
  .of_wp fun prog w A R s h => by
    obtain ⟨hp, g, d, tk, os⟩ := s
    obtain ⟨hl, h⟩ := h
    wp_walk using wpAny_loadPart hl, wpAny_load hl
    exact ⟨_, rfl, h⟩
theorem decl_dict (b : Str) (u : Tok) (l : Addr) (dd : Option Addr) (es : Array DictEntry) (n : Nat) (ss : Array (Option Value)) :
    Meets (Builtin.«dict.__eq__» ⟨[.ref l, .str b u], []⟩) (fun _ R s => s.heap.get? l = some { cls := .type "dict", dict := dd, data := .dict es n, slots := ss } ∧ R (.ok (.ret .notImplemented)) s) :=
  .of_wp fun prog w A R s h => by
    obtain ⟨hp, g, d, tk, os⟩ := s
    obtain ⟨hl, h⟩ := h
    have f1 := F.sub_str_dict
    wp_walk using wpAny_loadPart hl, wpAny_load hl
    exact ⟨_, rfl, h⟩
/-- is it that text -/
def strIs (z : Str) : PyData → Bool
  | .str y => z == y
  | _ => false
theorem rc_dict {A : Around} {s : Shared} {l : Addr} {o : Obj} {es : Array DictEntry} {n : Nat} (b : Str) (u : Tok) (ho : s.heap.get? l = some o) (hc : o.cls = .type "dict") (hd : o.data = .dict es n) (hu : A.units < cLine) : SeqAt.RcAt A s (.str b u) (.ref l) false := fun prog w E Q h => by
  obtain ⟨c, dd, da, ss⟩ := o
  cases hc
  cases hd
  refine SeqAt.rc_eq_decline_or (k := false) (typeIs_str s b u) ⟨_, ho, rfl⟩ (by decide) F.sub_dict_str F.slot_str_eq F.slot_dict_eq_refl ?_ ?_ ?_ (.inr hu) h
  · exact fun _ q => call_meets F.slot_str_eq (typeIs_str s b u) F.entry_str_eq (F.args_str_eq_2 _ _) (decl_str b u l dd es n ss) ⟨ho, q⟩
  · exact fun _ q => call_meets F.slot_dict_eq_refl ⟨_, ho, rfl⟩ F.entry_dict_eq (F.args_dict_eq_2 _ _) (decl_dict b u l dd es n ss) ⟨ho, q⟩
  · exact fun _ q => wpAny_of_eq (rfl : isSame (.str b u) (.ref l) = pure false) q
theorem eq_of_rc {A : Around} {s : Shared} {b : Str} {u : Tok} {l : Addr} {k : Bool} (h : SeqAt.RcAt A s (.str b u) (.ref l) k) : SeqAt.EqAt A s (.str b u) (.ref l) k := fun prog w E Q q => by
  unfold eqBool
  refine wpAny_holding (wpAny_ite_split (fun e => absurd (eq_of_beq e) nofun) fun _ => ?_)
  exact wpAny_bind (h prog w E _ (wpAny_truthy_bool q))
section
variable {X : Cx} {pins : List (Addr × Obj)} {σ : L2.St} {H : Hp} {s : Shared} {av : List Addr} {A : Around}
theorem dict_at {a : Addr} (I : Inv X pins σ H s) (e : H a = some (.dK [])) : ∃ o es n, s.heap.get? a = some o ∧ o.cls = .type "dict" ∧ o.data = .dict es n := by
  obtain ⟨_, y, vs, kv, o, es, ep, ho, hx, hd, _⟩ := (show ObjOk X.prog X.w H s.heap a (.dK []) from I.hok a _ e)
  exact ⟨o, es, ep, ho, hx.1, hd⟩
theorem rc_any (I : Inv X pins σ H s) {v : V} {d : PyData} {x : Value} (h : Dx X.K av H v d) (r : RelV v x) (hu : A.units < cLine) (z : Str) (t : Tok) : SeqAt.RcAt A s (.str z t) x (strIs z d) := by
  cases h with
  | non => cases r; exact SeqAt.RcAt.str_none z t
  | bl b => cases r; exact SeqAt.RcAt.str_bool z t b
  | int i => obtain ⟨u, rfl⟩ := r; exact SeqAt.RcAt.str_int z t i u
  | str y => obtain ⟨u, rfl⟩ := r; exact SeqAt.RcAt.str_str z t y u
  | lst h _ _ =>
    cases r
    obtain ⟨its, _, pl, _⟩ := I.list h
    exact SeqAt.RcAt.str_list z t pl.isList hu
  | tup h _ =>
    cases r
    obtain ⟨its, _, pl, _⟩ := I.tuple h
    exact SeqAt.RcAt.str_tuple z t pl hu
  | dct e =>
    cases r
    obtain ⟨o, es, n, h1, h2, h3⟩ := dict_at I e
    exact rc_dict z t h1 h2 h3 hu
theorem eq_any (I : Inv X pins σ H s) {v : V} {d : PyData} {x : Value} (h : Dx X.K av H v d) (r : RelV v x) (hu : A.units < cLine) (z : Str) (t : Tok) : SeqAt.EqAt A s (.str z t) x (strIs z d) := by
  cases h with
  | non => cases r; exact SeqAt.EqAt.str_none z t
  | bl b => cases r; exact SeqAt.EqAt.str_bool z t b
  | int i => obtain ⟨u, rfl⟩ := r; exact SeqAt.EqAt.str_int z t i u
  | str y => obtain ⟨u, rfl⟩ := r; exact SeqAt.EqAt.str_str z t y u
  | lst h _ _ =>
    cases r
    obtain ⟨its, _, pl, _⟩ := I.list h
    exact SeqAt.EqAt.str_list z t pl.isList hu
  | tup h _ =>
    cases r
    obtain ⟨its, _, pl, _⟩ := I.tuple h
    exact SeqAt.EqAt.str_tuple z t pl hu
  | dct e =>
    cases r
    obtain ⟨o, es, n, h1, h2, h3⟩ := dict_at I e
    exact eq_of_rc (rc_dict z t h1 h2 h3 hu)
end
section
variable {X : Cx} {av : List Addr}
/-- text == any value -/
def rEqA (K : PySem.W.Frag) (av : List Addr) : R2 := fun x y H Q => ∃ z d, x = .str z ∧ Dx K av H y d ∧ Q (.bl (strIs z d)) H
theorem op_eqA (hu : X.A.units < cLine) : OpR X (compareOp .Eq) (rEqA X.K av) := by
  rintro pins s σ H _ y v u Q I rx ry ⟨z, d, rfl, h, q⟩
  obtain ⟨t, rfl⟩ := rx
  exact rc_any I h ry hu z t X.prog X.w X.xe _ ⟨.bl _, H, I, rfl, q⟩
/-- any value not in a list of texts -/
def rNotInA (K : PySem.W.Frag) (av : List Addr) : R2 := fun x y H Q => ∃ (l : Addr) (ns : List Str) (d : PyData), y = .ref l ∧ SqL K H l (ns.map V.str) ∧ Dx K av H x d ∧ Q (.bl (!ns.any fun z => strIs z d)) H
theorem any_vals {ns : List Str} {us : List Value} {f : Str → Bool} {g : Value → Bool} (r : Vals (ns.map V.str) us) (h : ∀ z t, g (.str z t) = f z) : us.toArray.any g = ns.any f := by
  rw [List.any_toArray]
  induction ns generalizing us with
  | nil => cases r; rfl
  | cons n ns ih =>
    cases r with
    | cons r1 r2 =>
      obtain ⟨t, rfl⟩ := r1
      rw [List.any_cons, List.any_cons, h, ih r2]
theorem vals_str : ∀ {ns : List Str} {us : List Value}, Vals (ns.map V.str) us → ∀ {y : Value}, y ∈ us → ∃ z t, y = Value.str z t
  | [], _, .nil, _, h => by cases h
  | n :: ns, _, .cons ⟨t, e⟩ r, _, h => by
    rcases List.mem_cons.mp h with h | h
    · exact ⟨n, t, h.trans e⟩
    · exact vals_str r h
theorem op_notInA (hu : X.A.units + 1 < cLine) : OpR X (compareOp .NotIn) (rNotInA X.K av) := by
  rintro pins s σ H x _ v u Q I rx ry ⟨l, ns, d, rfl, hl, h, q⟩
  cases ry
  obtain ⟨its, rv, pl, _⟩ := I.list hl
  have hu1 : X.A.in1.units < cLine := hu
  refine SeqAt.notIn_listAt (fun y => match y with | .str z _ => strIs z d | _ => false) pl.isList (fun y hy => ?_) ?_
  · obtain ⟨z, t, rfl⟩ := vals_str rv (by simpa using hy)
    exact eq_any I h rx hu1 z t
  · rw [any_vals (f := fun z => strIs z d) rv fun z t => rfl]
    exact ⟨.bl _, H, I, rfl, q⟩
end
end Fw
set_option maxHeartbeats 2000000
namespace Fw
open PySem PySem.Spec PyProof.Rows L2
/-- the type's name of a value -/
def kindD : PyData → String
  | .none => "NoneType"
  | .bool _ => "bool"
  | .int _ => "int"
  | .str _ => "str"
  | .list _ => "list"
  | .tuple _ => "tuple"
  | .dict _ => "dict"
theorem dx_ty {K : PySem.W.Frag} {av : List Addr} {H : Hp} {v : V} {d : PyData} (h : Dx K av H v d) : TyX K H v (.type (kindD d)) := by
  cases h with
  | non => exact .base .non
  | bl b => exact .base (.bl b)
  | int i => exact .base (.int i)
  | str x => exact .base (.str x)
  | lst h n a =>
    rcases h with (e | ⟨ob, e⟩) | ⟨o, its, n, e, c, _⟩
    · exact .base (.lst e)
    · exact .base (.frz e)
    · exact .kList e c
  | tup h a =>
    rcases h with (e | ⟨ob, e⟩) | ⟨o, its, n, e, c, _⟩
    · exact .base (.tup e)
    · exact .fTuple e
    · exact .kTuple e c
  | dct e => exact .base (.dK e)
/-- the answer of isinstance(v, T) for T among tuple, int, bool, str -/
def isD (T : String) (d : PyData) : Bool := kindD d == T || (T == "int" && kindD d == "bool")
theorem kitD {K : PySem.W.Frag} {T : String} (hT : T ∈ ["tuple", "int", "bool", "str"]) (d : PyData) : PySem.W.kitOne K (.type (kindD d)) (.type T) = some (isD T d) := by
  have key : ∀ k ∈ ["NoneType", "bool", "int", "str", "list", "tuple", "dict"], ∀ T ∈ ["tuple", "int", "bool", "str"], (if (Value.type k == Value.type T) = true then some true else if PySem.W.kitMeta T = true then (fastBuiltinMro k).map (·.contains (Value.type T)) else none) = some (k == T || (T == "int" && k == "bool")) := by
    decide +kernel
  have hk : kindD d ∈ ["NoneType", "bool", "int", "str", "list", "tuple", "dict"] := by cases d <;> simp [kindD]
  exact key _ hk T hT
/-- isinstance(v, T) -/
def rIsD (K : PySem.W.Frag) (av : List Addr) : List V → Hp → VK → Prop := fun xs H Q => ∃ (x : V) (T : String) (d : PyData), xs = [x, .ty T] ∧ T ∈ ["tuple", "int", "bool", "str"] ∧ Dx K av H x d ∧ Q (.bl (isD T d)) H
theorem call_isD {X : Cx} {av : List Addr} : CallR X (.builtin "isinstance") (rIsD X.K av) := by
  intro pn sh σ H xs us Q J rr hh
  obtain ⟨x, T, d, rfl, hT, hd, q⟩ := hh
  exact call_isi pn sh σ H _ us Q J rr ⟨x, .ty T, _, .type T, _, rfl, .ty T, dx_ty hd, kitD hT d, q⟩
end Fw
set_option maxHeartbeats 2000000
namespace Fw
open PySem PySem.Spec PyProof.Rows L2
/-! values of any kind with a bound: the numbers' size, the depth, the bulk -/
mutual
def okI (b : Nat) : PyData → Bool
  | .int i => decide (i.natAbs ≤ 10 ^ 59 + b)
  | .str z => z.cps.toList.all fun c => decide (c < 1114112)
  | .list ds => okIA b ds
  | .tuple ds => okIA b ds
  | .dict kvs => kvs.isEmpty
  | .none => true
  | .bool _ => true
def okIA (b : Nat) : List PyData → Bool
  | [] => true
  | d :: ds => okI b d && okIA b ds
end
theorem int_short {i : Int} {b : Nat} (h : i.natAbs ≤ 10 ^ 59 + b) (hb : b ≤ 1000) : (PyData.shown (.int i)).length ≤ 70 ∧ i.natAbs.log2 < 1920 := by
  have h1 : i.natAbs < 10 ^ 60 := by
    have : (10 : Nat) ^ 59 + 1000 < 10 ^ 60 := by decide +kernel
    omega
  constructor
  · have e := int_text_length_le10 (k := 60) (by decide) h1
    show (Str.ofString (toString i)).length ≤ 70
    rw [PySem.ofString_length]
    omega
  · by_cases z : i.natAbs = 0
    · rw [z]; decide
    · rw [Nat.log2_lt z]
      have : (10 : Nat) ^ 60 < 2 ^ 200 := by decide +kernel
      have : (2 : Nat) ^ 200 ≤ 2 ^ 1920 := Nat.pow_le_pow_right (by decide) (by decide)
      omega
mutual
theorem okI_short {b : Nat} (hb : b ≤ 1000) : ∀ d : PyData, okI b d = true → d.leavesShort 70 = true ∧ d.showable = true
  | .int i, h => by
    have h := int_short (of_decide_eq_true (show decide (i.natAbs ≤ 10 ^ 59 + b) = true from h)) hb
    simp only [PyData.leavesShort, PyData.showable]
    exact ⟨decide_eq_true h.1, decide_eq_true h.2⟩
  | .str z, h => by
    simp only [PyData.leavesShort, PyData.showable]
    refine ⟨?_, trivial⟩
    have h : (z.cps.toList.all fun c => decide (c < 1114112)) = true := h
    rw [List.all_eq_true] at h ⊢
    intro c hc
    have := of_decide_eq_true (h c hc)
    have e : (16 : Nat) ^ 8 = 4294967296 := by decide
    exact decide_eq_true (by omega)
  | .list ds, h => by
    simp only [PyData.leavesShort, PyData.showable]
    exact okIA_short hb ds h
  | .tuple ds, h => by
    simp only [PyData.leavesShort, PyData.showable]
    exact okIA_short hb ds h
  | .dict [], _ => by
    simp [PyData.leavesShort, PyData.showable, PyData.leavesShortKv, PyData.showableKv]
  | .dict (_ :: _), h => by cases h
  | .none, _ => by simp [PyData.leavesShort, PyData.showable]
  | .bool _, _ => by simp [PyData.leavesShort, PyData.showable]
theorem okIA_short {b : Nat} (hb : b ≤ 1000) : ∀ ds : List PyData, okIA b ds = true → PyData.leavesShortAll 70 ds = true ∧ PyData.showableAll ds = true
  | [], _ => ⟨rfl, rfl⟩
  | d :: ds, h => by
    have h : (okI b d && okIA b ds) = true := h
    rw [Bool.and_eq_true] at h
    obtain ⟨a1, a2⟩ := okI_short hb d h.1
    obtain ⟨b1, b2⟩ := okIA_short hb ds h.2
    simp only [PyData.leavesShortAll, PyData.showableAll, a1, a2, b1, b2, Bool.and_true, and_self]
end
mutual
theorem okI_up {a b : Nat} (h : a ≤ b) : ∀ d : PyData, okI a d = true → okI b d = true
  | .int i, z => decide_eq_true (Nat.le_trans (of_decide_eq_true (show decide (i.natAbs ≤ 10 ^ 59 + a) = true from z)) (by omega))
  | .str _, z => z
  | .list ds, z => okIA_up h ds z
  | .tuple ds, z => okIA_up h ds z
  | .dict _, z => z
  | .none, _ => rfl
  | .bool _, _ => rfl
theorem okIA_up {a b : Nat} (h : a ≤ b) : ∀ ds : List PyData, okIA a ds = true → okIA b ds = true
  | [], _ => rfl
  | d :: ds, z => by
    have z : (okI a d && okIA a ds) = true := z
    rw [Bool.and_eq_true] at z
    show (okI b d && okIA b ds) = true
    rw [Bool.and_eq_true]
    exact ⟨okI_up h d z.1, okIA_up h ds z.2⟩
end
structure Gd (b k n : Nat) (d : PyData) : Prop where
  i : okI b d = true
  p : d.depth ≤ k
  w : d.bulk ≤ n
structure GdA (b k n : Nat) (ds : List PyData) : Prop where
  i : okIA b ds = true
  p : PyData.depthAll ds ≤ k
  w : PyData.bulkAll ds ≤ n
theorem Gd.up {a b j k m n : Nat} {d : PyData} (h : Gd a j m d) (h1 : a ≤ b) (h2 : j ≤ k) (h3 : m ≤ n) : Gd b k n d := ⟨okI_up h1 d h.i, Nat.le_trans h.p h2, Nat.le_trans h.w h3⟩
theorem GdA.up {a b j k m n : Nat} {d : List PyData} (h : GdA a j m d) (h1 : a ≤ b) (h2 : j ≤ k) (h3 : m ≤ n) : GdA b k n d := ⟨okIA_up h1 d h.i, Nat.le_trans h.p h2, Nat.le_trans h.w h3⟩
theorem GdA.nil {b k n : Nat} : GdA b k n [] := ⟨rfl, Nat.zero_le _, Nat.zero_le _⟩
theorem GdA.cons {b k m n : Nat} {d : PyData} {ds : List PyData} (h : Gd b k m d) (t : GdA b k n ds) : GdA b k (m + 1 + n) (d :: ds) := by
  refine ⟨?_, ?_, ?_⟩
  · show (okI b d && okIA b ds) = true
    rw [h.i, t.i]; rfl
  · simp only [PyData.depthAll]
    have := h.p; have := t.p; omega
  · simp only [PyData.bulkAll]
    have := h.w; have := t.w; omega
theorem GdA.un {b k n : Nat} {d : PyData} {ds : List PyData} (h : GdA b k n (d :: ds)) : ∃ m l, m + 1 + l ≤ n ∧ Gd b k m d ∧ GdA b k l ds := by
  obtain ⟨h1, h2, h3⟩ := h
  have h1 : (okI b d && okIA b ds) = true := h1
  rw [Bool.and_eq_true] at h1
  simp only [PyData.depthAll] at h2
  simp only [PyData.bulkAll] at h3
  exact ⟨_, _, h3, ⟨h1.1, by omega, Nat.le_refl _⟩, ⟨h1.2, by omega, Nat.le_refl _⟩⟩
theorem GdA.app {b k n : Nat} {ys : List PyData} (t : GdA b k n ys) : ∀ {m : Nat} {xs : List PyData}, GdA b k m xs → GdA b k (m + n) (xs ++ ys)
  | m, [], _ => t.up (Nat.le_refl _) (Nat.le_refl _) (by omega)
  | m, x :: xs, h => by
    obtain ⟨a, l, e, h1, h2⟩ := h.un
    exact (GdA.cons h1 (GdA.app t h2)).up (Nat.le_refl _) (Nat.le_refl _) (by omega)
theorem GdA.split {b k n : Nat} : ∀ {xs ys : List PyData}, GdA b k n (xs ++ ys) → ∃ m l, m + l ≤ n ∧ GdA b k m xs ∧ GdA b k l ys
  | [], ys, h => ⟨0, n, by omega, .nil, h⟩
  | x :: xs, ys, h => by
    obtain ⟨a, l, e, h1, h2⟩ := GdA.un (d := x) (ds := xs ++ ys) h
    obtain ⟨m, r, e2, h3, h4⟩ := h2.split
    exact ⟨a + 1 + m, r, by omega, .cons h1 h3, h4⟩
theorem GdA.at {b k n : Nat} {ds : List PyData} (h : GdA b k n ds) (i : Nat) : ∃ m l, m + l ≤ n ∧ GdA b k m (ds.take i) ∧ GdA b k l (ds.drop i) := by
  have := h
  rw [← List.take_append_drop i ds] at this
  exact this.split
theorem GdA.rev {b k : Nat} : ∀ {ds : List PyData} {n : Nat}, GdA b k n ds → GdA b k n ds.reverse
  | [], _, h => h
  | x :: xs, n, h => by
    obtain ⟨a, l, e, h1, h2⟩ := h.un
    rw [List.reverse_cons]
    exact (GdA.app (GdA.cons h1 (GdA.nil (n := 0))) h2.rev).up (Nat.le_refl _) (Nat.le_refl _) (by omega)
theorem GdA.get {b k : Nat} : ∀ {ds : List PyData} {n : Nat}, GdA b k n ds → ∀ {d : PyData}, d ∈ ds → Gd b k n d
  | x :: xs, n, h, d, m => by
    obtain ⟨a, l, e, h1, h2⟩ := h.un
    rcases List.mem_cons.mp m with rfl | m
    · exact h1.up (Nat.le_refl _) (Nat.le_refl _) (by omega)
    · exact (h2.get m).up (Nat.le_refl _) (Nat.le_refl _) (by omega)
theorem GdA.len {b k : Nat} : ∀ {ds : List PyData} {n : Nat}, GdA b k n ds → ds.length ≤ n
  | [], _, _ => Nat.zero_le _
  | x :: xs, n, h => by
    obtain ⟨a, l, e, h1, h2⟩ := h.un
    have := h2.len
    rw [List.length_cons]
    omega
theorem Gd.tup {b k n : Nat} {ds : List PyData} (h : GdA b k n ds) : Gd b (k + 1) n (.tuple ds) := ⟨h.i, by simp only [PyData.depth]; have := h.p; omega, by simp only [PyData.bulk]; exact h.w⟩
theorem Gd.lst {b k n : Nat} {ds : List PyData} (h : GdA b k n ds) : Gd b (k + 1) n (.list ds) := ⟨h.i, by simp only [PyData.depth]; have := h.p; omega, by simp only [PyData.bulk]; exact h.w⟩
theorem Gd.un {b k n : Nat} {ds : List PyData} (h : Gd b (k + 1) n (.tuple ds)) : GdA b k n ds := ⟨h.i, by have := h.p; simp only [PyData.depth] at this; omega, by have := h.w; simp only [PyData.bulk] at this; exact this⟩
theorem Gd.flat {b n : Nat} {ds : List PyData} (h : Gd b 0 n (.tuple ds)) : False := by
  have := h.p
  simp only [PyData.depth] at this
  omega
/-- it can be shown -/
theorem Gd.shows {b k n : Nat} {d : PyData} (h : Gd b k n d) (hb : b ≤ 1000) (hk : k ≤ 60) (hn : n ≤ 100000) : d.showable = true ∧ d.depth ≤ 60 ∧ d.shown.length ≤ sizeLine := by
  obtain ⟨h1, h2⟩ := okI_short hb d h.i
  refine ⟨h2, Nat.le_trans h.p hk, ?_⟩
  have h3 := PyData.shown_le_bulk 70 (by decide) d h1
  have h4 : (70 + 2) * d.bulk ≤ 72 * 100000 := Nat.mul_le_mul_left _ (Nat.le_trans h.w hn)
  rw [sizeLine_eq]
  omega
theorem datas_gd : ∀ d ∈ datas, okI 0 d = true ∧ d.depth ≤ 2 ∧ d.bulk ≤ 10 := by decide +kernel
theorem gd_data {d : PyData} (h : d ∈ datas) : Gd 0 2 10 d := ⟨(datas_gd d h).1, (datas_gd d h).2.1, (datas_gd d h).2.2⟩
/-! slices and sums of tuples whose items are told -/
theorem DxAll.app {K : PySem.W.Frag} {av : List Addr} {H : Hp} : ∀ {xs ys : List V} {ds es : List PyData}, DxAll K av H xs ds → DxAll K av H ys es → DxAll K av H (xs ++ ys) (ds ++ es)
  | _, _, _, _, .nil, t => t
  | _, _, _, _, .cons h r, t => .cons h (r.app t)
theorem DxAll.take {K : PySem.W.Frag} {av : List Addr} {H : Hp} : ∀ {xs : List V} {ds : List PyData} (i : Nat), DxAll K av H xs ds → DxAll K av H (xs.take i) (ds.take i)
  | _, _, 0, _ => by rw [List.take_zero, List.take_zero]; exact .nil
  | _, _, i + 1, .nil => .nil
  | _, _, i + 1, .cons h r => .cons h (r.take i)
theorem DxAll.drop {K : PySem.W.Frag} {av : List Addr} {H : Hp} : ∀ {xs : List V} {ds : List PyData} (i : Nat), DxAll K av H xs ds → DxAll K av H (xs.drop i) (ds.drop i)
  | _, _, 0, h => h
  | _, _, i + 1, .nil => .nil
  | _, _, i + 1, .cons h r => r.drop i
theorem DxAll.rev {K : PySem.W.Frag} {av : List Addr} {H : Hp} : ∀ {xs : List V} {ds : List PyData}, DxAll K av H xs ds → DxAll K av H xs.reverse ds.reverse
  | _, _, .nil => .nil
  | _, _, .cons h r => by
    rw [List.reverse_cons, List.reverse_cons]
    exact r.rev.app (.cons h .nil)
theorem DxAll.len {K : PySem.W.Frag} {av : List Addr} {H : Hp} : ∀ {xs : List V} {ds : List PyData}, DxAll K av H xs ds → xs.length = ds.length
  | _, _, .nil => rfl
  | _, _, .cons _ r => congrArg (· + 1) r.len
theorem DxAll.at {K : PySem.W.Frag} {av : List Addr} {H : Hp} : ∀ {xs : List V} {ds : List PyData}, DxAll K av H xs ds → ∀ {i : Nat} {x : V}, xs[i]? = some x → ∃ d, ds[i]? = some d ∧ Dx K av H x d
  | _, _, .cons h r, 0, x, e => by cases e; exact ⟨_, rfl, h⟩
  | _, _, .cons h r, i + 1, x, e => r.at e
section
variable {X : Cx}
/-- t[lo:hi]: some tuple with those items -/
def rSlS (K : PySem.W.Frag) : V → Option Int → Option Int → Hp → VK → Prop := fun x lo hi H Q => ∃ a xs, x = .ref a ∧ SqT K H a xs ∧ ∀ H' p, Same H H' → SqT K H' p (cutV xs lo hi) → Q (.ref p) H'
theorem cut_whole {xs : List V} {lo hi : Option Int} (h1 : HT.sIx xs.length 0 lo = 0) (h2 : HT.sIx xs.length xs.length hi = xs.length) : cutV xs lo hi = xs := by
  unfold cutV
  rw [h1, h2, List.drop_zero, Nat.sub_zero, List.take_length]
theorem sl_tupS : SlR X (rSlS X.K) := by
  intro pins s σ H x v vl vu lo hi sl Q I rx hs pl pu h
  obtain ⟨a, xs, rfl, hx, q⟩ := h
  refine sl_tupA pins s σ H _ v vl vu lo hi sl Q I rx hs pl pu ⟨a, xs, rfl, hx, fun w => q H a (Same.refl _) ?_, fun _ p hp => q _ p (same_upd hp) (SqT.of upd_same)⟩
  rw [cut_whole w.1 w.2]
  exact hx
/-- t + u: some tuple with those items -/
def rCatS (K : PySem.W.Frag) : R2 := fun x y H Q => ∃ a b xs ys, x = .ref a ∧ y = .ref b ∧ SqT K H a xs ∧ SqT K H b ys ∧ xs.length + ys.length ≤ sizeLine ∧ ∀ H' p, Same H H' → SqT K H' p (xs ++ ys) → Q (.ref p) H'
theorem op_catS : OpR X (binaryOp .Add) (rCatS X.K) := by
  intro pins s σ H x y v u Q I rx ry h
  obtain ⟨a, b, xs, ys, rfl, rfl, ha, hb, hz, q⟩ := h
  refine op_catA pins s σ H _ _ v u Q I rx ry ⟨a, b, xs, ys, rfl, rfl, ha, hb, hz, fun e => q H b (Same.refl _) (by rw [e]; exact hb), fun _ e => q H a (Same.refl _) (by rw [e, List.append_nil]; exact ha), fun _ _ p hp => q _ p (same_upd hp) (SqT.of upd_same)⟩
end
theorem cut_to {xs : List V} {i : Int} (h0 : 0 ≤ i) (h1 : i ≤ (xs.length : Nat)) : cutV xs none (some i) = xs.take i.toNat := by
  unfold cutV
  show (xs.drop 0).take ((if i < 0 then (i + (xs.length : Nat)).toNat else min i.toNat xs.length) - 0) = _
  rw [if_neg (by omega), List.drop_zero, Nat.sub_zero, show min i.toNat xs.length = i.toNat by omega]
theorem cut_from {xs : List V} {i : Int} (h0 : 0 ≤ i) (h1 : i ≤ (xs.length : Nat)) : cutV xs (some i) none = xs.drop i.toNat := by
  unfold cutV
  show (xs.drop (if i < 0 then (i + (xs.length : Nat)).toNat else min i.toNat xs.length)).take (xs.length - (if i < 0 then (i + (xs.length : Nat)).toNat else min i.toNat xs.length)) = _
  rw [if_neg (by omega), show min i.toNat xs.length = i.toNat by omega, List.take_of_length_le (by rw [List.length_drop]; exact Nat.le_refl _)]
end Fw
set_option maxHeartbeats 2000000
namespace Fw
open PySem PySem.Spec PyProof.Rows L2
open RZ
section
variable {X : Cx} {av : List Addr}
/-- repr of any value -/
def rReprV (K : PySem.W.Frag) (av : List Addr) : List V → Hp → VK → Prop := fun vs H Q => ∃ (v : V) (d : PyData), vs = [v] ∧ Dx K av H v d ∧ d.showable = true ∧ d.depth ≤ 60 ∧ d.shown.length ≤ sizeLine ∧ Q (.str d.shown) H
theorem call_reprV (hg : X.A.guards = some []) (hu : X.A.units + 65 < cLine) : CallR X (.builtin "repr") (rReprV X.K av) := by
  intro pn sh σ H vs us Q J rr hh
  obtain ⟨v, d, rfl, hd, hs, hp, hz, q⟩ := hh
  cases hd with
  | non =>
    obtain ⟨u, rfl, ru⟩ := vals1 rr
    cases (show u = Value.none from ru)
    exact PySem.P.repr_of_none ⟨.str "None", H, J.tok _, ⟨_, rfl⟩, q⟩
  | bl b =>
    obtain ⟨u, rfl, ru⟩ := vals1 rr
    cases (show u = Value.bool b from ru)
    exact PySem.P.repr_of_bool ⟨.str _, H, J.tok _, ⟨_, rfl⟩, q⟩
  | int i =>
    obtain ⟨u, rfl, ru⟩ := vals1 rr
    obtain ⟨t, rfl⟩ := ru
    exact PySem.P.repr_of_int (of_decide_eq_true (by simpa only [PyData.showable] using hs)) ⟨.str _, H, J.tok _, ⟨_, rfl⟩, q⟩
  | str z =>
    obtain ⟨u, rfl, ru⟩ := vals1 rr
    obtain ⟨t, rfl⟩ := ru
    exact PySem.P.repr_of_str ⟨.str _, H, J.tok _, ⟨_, rfl⟩, q⟩ (by simpa only [PyData.shown] using hz)
  | lst h n a => exact call_reprD (av := av) hg hu pn sh σ H _ us Q J rr ⟨_, _, rfl, .lst h n a, hs, hp, hz, q⟩
  | tup h a => exact call_reprD (av := av) hg hu pn sh σ H _ us Q J rr ⟨_, _, rfl, .tup h a, hs, hp, hz, q⟩
  | dct e => exact call_reprD (av := av) hg hu pn sh σ H _ us Q J rr ⟨_, _, rfl, .dct e, hs, hp, hz, q⟩
end
theorem call_reprVK {X : Cx} {av : List Addr} {K : PySem.W.Frag} (hK : X.K = K) (hg : X.A.guards = some []) (hu : X.A.units + 65 < cLine) : CallR X (.builtin "repr") (rReprV K av) := by
  subst hK
  exact call_reprV hg hu
end Fw
namespace Fw
open PySem PySem.Spec PyProof.Rows L2 HT
/-! ### t[::-1] -/
section
variable {P : Program} {w : World} {A : Around} {E : Value → Shared → Prop} {s : Shared}
theorem back_parts (n : Nat) : Builtin.Slice.sliceAdjust none none (-1) (n : Int) = ((n : Int) - 1, -1) ∧ Builtin.Slice.slicePlaces ((n : Int) - 1) (-1) (-1) = n := by
  constructor
  · rfl
  · unfold Builtin.Slice.slicePlaces
    rw [if_neg (by decide)]
    by_cases h : n = 0
    · subst h; rfl
    · rw [if_pos (by omega), show (-(-1 : Int)) = 1 from rfl, Int.ediv_one]
      omega
theorem applied_back {sl : Addr} {n : Nat} {vs : Value} {Q : Int × Int × Nat → Shared → Prop} (hs : s.heap.IsSliceOf sl .none .none vs) (ps : IsPart vs (some (-1))) (h : Q ((n : Int) - 1, -1, n) s) :
    wpAny (model P w) A (Builtin.Slice.sliceApplied (.ref sl) (pure (n : Int))) Q E s := by
  obtain ⟨os, g1, g2, g3⟩ := id hs
  unfold Builtin.Slice.sliceApplied Builtin.Slice.sliceFields
  refine wpAny_bind (wpAny_bind (wpAny_field g1 g3 (x := .none) rfl (wpAny_bind (wpAny_field g1 g3 (x := .none) rfl (wpAny_bind (wpAny_field g1 g3 (x := vs) rfl (wpAny_pure ?_)))))))
  refine wpAny_bind (slicePart_ ps ?_)
  show wpAny _ _ (if ((-1 : Int) == 0) = true then _ else _) _ _ s
  rw [if_neg (by decide)]
  refine wpAny_bind (slicePart_none (wpAny_bind (slicePart_none (wpAny_bind (wpAny_pure ?_)))))
  show wpAny _ _ (match Builtin.Slice.sliceAdjust none none (-1) (n : Int) with | (lo, hi) => pure (lo, (-1 : Int), Builtin.Slice.slicePlaces lo hi (-1))) _ _ s
  rw [(back_parts n).1]
  show wpAny _ _ (pure ((n : Int) - 1, (-1 : Int), Builtin.Slice.slicePlaces ((n : Int) - 1) (-1) (-1))) _ _ s
  rw [(back_parts n).2]
  exact wpAny_pure h
theorem fm_eq {α β : Type} {f : α → Option β} {g : α → β} : ∀ {l : List α}, (∀ x ∈ l, f x = some (g x)) → l.filterMap f = l.map g
  | [], _ => rfl
  | x :: l, h => by
    rw [List.filterMap_cons, h x (List.mem_cons_self ..), List.map_cons, fm_eq (l := l) fun y hy => h y (List.mem_cons_of_mem _ hy)]
theorem pick_back (xs : List Value) : ((List.range xs.toArray.size).filterMap fun (k : Nat) => xs.toArray[(((xs.toArray.size : Nat) : Int) - 1 + (k : Int) * (-1)).toNat]?) = xs.reverse := by
  rw [List.size_toArray]
  have e : ∀ k ∈ List.range xs.length, xs.toArray[(((xs.length : Nat) : Int) - 1 + (k : Int) * (-1)).toNat]? = some (xs.reverse[k]?.getD .none) := fun k hk => by
    have hk := List.mem_range.mp hk
    have e1 : (((xs.length : Nat) : Int) - 1 + (k : Int) * (-1)).toNat = xs.length - 1 - k := by omega
    rw [e1, List.getElem?_toArray, List.getElem?_reverse hk, List.getElem?_eq_getElem (by omega)]
    rfl
  have e2 : (List.range xs.length).filterMap (fun (k : Nat) => xs.toArray[(((xs.length : Nat) : Int) - 1 + (k : Int) * (-1)).toNat]?) = (List.range xs.length).map fun k => xs.reverse[k]?.getD .none := by
    exact fm_eq e
  rw [e2]
  refine List.ext_getElem (by simp) fun i h1 h2 => ?_
  rw [List.getElem_map, List.getElem_range, List.getElem?_eq_getElem h2]
  rfl
theorem tuple_back {t sl : Addr} {xs : List Value} {vs : Value} {Q : Value → Shared → Prop} (ht : IsTup s.heap t xs.toArray) (hs : s.heap.IsSliceOf sl .none .none vs) (ps : IsPart vs (some (-1))) (hz : xs.length ≤ sizeLine)
    (h : Q (.ref s.heap.objs.size) { s with heap := s.heap.push { cls := .type "tuple", data := .seq xs.reverse.toArray } }) : wpAny (model P w) A (getItem (.ref t) (.ref sl)) Q E s := by
  have fits : sizeOk (.seq xs.reverse.toArray) := by
    show xs.reverse.toArray.size ≤ sizeLine
    simpa using hz
  obtain ⟨os, g1, g2, g3⟩ := id hs
  have ty : s.TypeIs (.ref sl) "slice" := ⟨os, g1, g2⟩
  unfold getItem
  try with_reducible refine wpAny_holding ?_
  first | refine wpAny_bind (wpAny_pure ?_) | skip
  refine wpAny_bind (wpAny_sequenceKey ht.typeIs (by decide) (wpAny_bind (wpAny_callSpecial?_slot (name := Str.ofString "__getitem__") ht.typeIs PyProof.Rows.slot_tuple_getitem
    (wpAny_call_entry PyProof.Rows.slot_tuple_getitem ht.typeIs entry_tuple_getitem ?_ (args_tuple_getitem _ _)))))
  show wpAny _ _ (Builtin.Tuple.tupleItemsOf (.ref t) >>= _) _ _ s
  refine wpAny_bind (tupleItemsOf_ ht (wpAny_bind (wpAny_typeOf ty ?_)))
  rw [if_pos (by decide)]
  refine wpAny_bind (applied_back hs ps ?_)
  have no : ¬ ((((xs.toArray.size : Nat) : Int) - 1 == 0 && (-1 : Int) == 1 && xs.toArray.size == xs.toArray.size) = true) := by
    rw [show ((-1 : Int) == 1) = false by decide, Bool.and_false, Bool.false_and]
    exact Bool.false_ne_true
  show wpAny _ _ (if (((xs.toArray.size : Nat) : Int) - 1 == 0 && (-1 : Int) == 1 && xs.toArray.size == xs.toArray.size) = true then _ else _) _ _ s
  rw [if_neg no, pick_back]
  first
    | exact wpAny_bind (m := Builtin.Tuple.tupleExact _) (wpAny_newObj_type (wpAny_pure ⟨_, rfl, wpAny_pure h⟩) fits)
    | exact wpAny_bind (m := Builtin.Tuple.tupleExact _) (wpAny_newObj_type (wpAny_bind (wpAny_pure (wpAny_pure ⟨_, rfl, wpAny_pure h⟩))) fits)
    | exact wpAny_bind (wpAny_bind (m := Builtin.Tuple.tupleExact _) (wpAny_newObj_type (wpAny_pure (wpAny_pure ⟨_, rfl, wpAny_pure h⟩)) fits))
    | exact wpAny_bind (wpAny_bind (m := Builtin.Tuple.tupleExact _) (wpAny_newObj_type (wpAny_pure ⟨_, rfl, wpAny_pure h⟩) fits))
end
def tRevT (K : PySem.W.Frag) (te : TE) : TE := fun σ H Q => te σ H fun x H1 => ∃ a xs, x = .ref a ∧ SqT K H1 a xs ∧ ∀ p, H1 p = none → Q (.ref p) (upd H1 p (.tup xs.reverse))
theorem pe_revT {X : Cx} {e : Expr} {te : TE} {k : Nat} {p1 p2 p3 pos : Pos} (he : PE X e te) : PE X (.Subscript e (.Slice none none (some (.UnaryOp .USub (.Constant (.int 1) k p1) p2)) p3) pos) (tRevT X.K te) := by
  constructor
  intro pins s σ H Q I h
  refine Subscript_ (thn (he.run pins s σ H _ I h) ?_)
  rintro v s1 ⟨x, H1, I1, r1, a, xs, rfl, hx, q⟩
  cases r1
  have st : PO X (some (.UnaryOp .USub (.Constant (.int 1) k p1) p2)) (tPart (tUn (rU fun i => .int (-i)) (tC (.int 1)))) := po_some (pe_un un_neg pe_int)
  refine wpAny_Slice (thn (po_none.run pins s1 σ H1 (fun o H2 => o = none ∧ H2 = H1) I1 ⟨rfl, rfl⟩) ?_)
  rintro vl s2 ⟨l, H2, I2, pl, rfl, rfl⟩
  refine thn (po_none.run pins s2 σ H2 (fun o H3 => o = none ∧ H3 = H2) I2 ⟨rfl, rfl⟩) ?_
  rintro vu s3 ⟨u, H3, I3, pu, rfl, rfl⟩
  refine thn (st.run pins s3 σ H3 (fun o H4 => o = some (-1) ∧ H4 = H3) I3 ⟨1, rfl, -1, rfl, rfl, rfl⟩) ?_
  rintro vs s4 ⟨o, H4, I4, ps, rfl, rfl⟩
  have J : Inv X pins σ H4 { s4 with heap := s4.heap.push { cls := .type "slice", data := .fields #[vl, vu, vs] } } := I4.kept (t' := s4.toks) fun b ob g => Heap.get?_push_of_some _ g
  obtain ⟨its, r, ht, hz⟩ := J.tuple hx
  cases pl
  cases pu
  show wpAny (model X.prog X.w) X.A (subscriptTail e (.Slice none none (some (.UnaryOp .USub (.Constant (.int 1) k p1) p2)) p3) (.ref a) (.ref s4.heap.objs.size)) (EP X pins σ Q) X.xe { s4 with heap := s4.heap.push { cls := .type "slice", data := .fields #[.none, .none, vs] } }
  refine tail_any (ops := [.ref a, .ref s4.heap.objs.size]) ht.typeIs PyProof.Rows.slot_tuple_getitem.lookup (tuple_back ht (Heap.IsSliceOf.new _ _ _ vs) ps (by rw [← r.length]; exact hz) ?_) (by with_unfolding_all rfl)
  refine ⟨.ref _, _, J.laid (t' := s4.toks) (o := .tup xs.reverse) (fun b ob g => Heap.get?_push_of_some _ g) (Nat.le_refl _) ⟨by rw [List.length_reverse]; exact hz, _, r.reverse, IsTup.new _ _⟩, rfl, q _ (J.hok.fresh (Nat.le_refl _))⟩
end Fw
namespace Fw
open PySem PySem.Spec PyProof.Rows L2
open RZ
/-- zip of two tuples, the second the shorter -/
theorem lc_zipS {K : PySem.W.Frag} {a b : Addr} {xs ys : List V} {g : TG} {tt : TT} {te : TE} {vs : List Nat} {σ : L2.St} {H1 : Hp} {D : Addr} {Qd : Hp → Prop} (hl : ys.length ≤ xs.length) (Pv : Nat → Hp → Prop) (h0 : Pv 0 (upd H1 D (.lst []))) (hq : ∀ i H, Pv i H → SqT K H a xs ∧ SqT K H b ys)
    (hs : ∀ (i : Nat) (x y : V) (T : Addr) (H : Hp), xs[i]? = some x → ys[i]? = some y → Pv i H → H T = none → g (.ref T) (wipe σ vs) (upd H T (.tup [x, y])) fun σ2 H2 => wipe σ2 vs = wipe σ vs ∧ tt σ2 H2 fun b H3 =>
      if b = true then te σ2 H3 fun y H4 => ∃ acc, H4 D = some (.lst acc) ∧ acc.length < sizeLine ∧ Pv (i + 1) (upd H4 D (.lst (acc ++ [y]))) else Pv (i + 1) H3) (hd : ∀ H, Pv ys.length H → Qd H) :
    ∃ W : Nat → Nat → Hp → Prop, (∃ m, W 0 m (upd H1 D (.lst []))) ∧ ∀ i m H, W i m H →
      ((ItzT K a b).stop i H ∧ Qd H) ∨ ((ItzT K a b).go i H ∧ ∃ Nx : Hp → Prop, (∀ H', Nx H' → ∃ m', m' < m ∧ W (i + 1) m' H') ∧ ∀ x H', (ItzT K a b).yld i H x H' → g x (wipe σ vs) H' fun σ2 H2 => wipe σ2 vs = wipe σ vs ∧ tt σ2 H2 fun b H3 =>
        if b = true then te σ2 H3 fun y H4 => ∃ acc, H4 D = some (.lst acc) ∧ acc.length < sizeLine ∧ Nx (upd H4 D (.lst (acc ++ [y]))) else Nx H3) := by
  refine ⟨fun i m H => m = ys.length - i ∧ i ≤ ys.length ∧ Pv i H, ⟨ys.length, rfl, Nat.zero_le _, h0⟩, ?_⟩
  rintro i m H ⟨rfl, hi, p⟩
  obtain ⟨qx, qy⟩ := hq i H p
  by_cases hlt : i < ys.length
  · have hx : xs[i]? = some xs[i] := List.getElem?_eq_getElem (by omega)
    have hy : ys[i]? = some ys[i] := List.getElem?_eq_getElem hlt
    refine .inr ⟨⟨xs, ys, _, _, qx, qy, hx, hy⟩, Pv (i + 1), fun H' p' => ⟨ys.length - (i + 1), by omega, rfl, hlt, p'⟩, fun v H' y => ?_⟩
    obtain ⟨T, x', y', rfl, hT, rfl, f1, f2⟩ := y
    exact hs i x' y' T H (f1 xs qx) (f2 ys qy) p hT
  · have e : i = ys.length := by omega
    subst e
    exact .inl ⟨⟨xs, ys, qx, qy, Or.inr (Nat.le_refl _)⟩, hd H p⟩
theorem tp_ty {K : PySem.W.Frag} {H : Hp} {p : Addr} {xs : List V} (h : TpAt H p xs) : TyX K H (.ref p) (.type "tuple") := h.elim (fun h => .base (.tup h)) fun ⟨_, _, h⟩ => .fTuple h
theorem k_ss : kitB "str" "str" = some true := by decide +kernel
theorem k_tt' : kitB "tuple" "tuple" = some true := by decide +kernel
theorem cut1 (xs : List V) : cutV xs (some 1) none = xs.drop 1 := by
  unfold cutV
  show (xs.drop (min 1 xs.length)).take (xs.length - min 1 xs.length) = xs.drop 1
  cases xs with
  | nil => rfl
  | cons x r =>
    rw [show min 1 (x :: r).length = 1 by simp]
    exact List.take_of_length_le (by simp)
theorem one_le {c : Nat} (h : 97 ≤ c) : decide ((⟨#[c]⟩ : Str).cps.toList < (Str.ofString "a").cps.toList) = false := by
  rw [show (Str.ofString "a").cps.toList = [97] by decide +kernel]
  rw [decide_eq_false_iff_not]
  intro h2
  have h2 : [c] < [97] := h2
  rw [List.cons_lt_cons_iff] at h2
  rcases h2 with h2 | ⟨_, h2⟩
  · omega
  · exact absurd h2 (List.lt_irrefl _)
theorem one_ge {c : Nat} (h : c ≤ 122) : decide ((Str.ofString "z").cps.toList < (⟨#[c]⟩ : Str).cps.toList) = false := by
  rw [show (Str.ofString "z").cps.toList = [122] by decide +kernel]
  rw [decide_eq_false_iff_not]
  intro h2
  have h2 : [122] < [c] := h2
  rw [List.cons_lt_cons_iff] at h2
  rcases h2 with h2 | ⟨_, h2⟩
  · omega
  · exact absurd h2 (List.lt_irrefl _)
theorem names_snoc {P : List (Str × Int)} {k : Nat} {nm : Str} {r : Int} (h : P[k]? = some (nm, r)) : (P.take (k + 1)).map (·.1) = (P.take k).map (·.1) ++ [nm] := by
  rw [take_snoc h, List.map_append]
  rfl
section
variable {P : Program} {w : World} {K : PySem.W.Frag} {mg : Str → Option Value} {base : Heap}

def spIsPairT : Sp := fun vs H Q _ => ∃ (t : Addr) (x y : V), vs = [.ref t] ∧ H t = some (.tup [x, y]) ∧ Q (.bl true) H
abbrev nIsPair : List Str := ["value"]
theorem scIsPair : FnScope nIsPair ["value"] (defScope sIsPair) := ⟨rfl, rfl, rfl, by decide +kernel, rfl, by decide +kernel, by decide +kernel⟩
theorem ok_ispair {f : Addr} {fd : FuncData} {k : Nat} (F : Fun K "is_pair" "is_pair" sIsPair f fd) (T : Nm mg) : FnOk P w K mg base CX0 (k + 1) f fd pIsInt spIsPairT := by
  refine F.ok scIsPair (fun vs H Q E h => ?_) (fun cdv A outer s H vs Q E hr h => ?_)
  · obtain ⟨t, x, y, rfl, _⟩ := h
    rfl
  · obtain ⟨t, x, y, rfl, e, q⟩ := h
    refine ⟨_, (pss_one (ps_ret (pe_and (pe_callB call_isi (by rfl) T.isinstance (by decide +kernel) (pa_cons (pv 0) (pa_cons (pe_bltn (v := .ty "tuple") (by rfl) T.tuple (by decide +kernel) rfl) pa_nil))) (pe_one (pe_cmpR op_eq (pe_callB (call_lenK K rfl) (by rfl) T.len (by decide +kernel) (pa_cons (pv 0) pa_nil)) pe_int (nomark _)))))), ?_⟩
    exact ⟨_, rfl, _, _, _, _, _, rfl, .ty _, .base (.tup e), kit_ty k_tt', _, rfl, iteT ⟨_, rfl, t, _, rfl, .inr (SqT.of e), rfl, q⟩⟩
end
end Fw
set_option maxHeartbeats 2000000
namespace Fw
open PySem PySem.Spec PyProof.Rows L2
theorem strIs_eq {z : Str} {d : PyData} (h : strIs z d = true) : d = .str z := by
  cases d <;> first | (cases h; done) | skip
  rw [show z = _ from eq_of_beq h]
theorem dx_str {K : PySem.W.Frag} {av : List Addr} {H : Hp} {v : V} {z : Str} (h : Dx K av H v (.str z)) : v = .str z := by
  cases h
  rfl
section
variable {P : Program} {w : World} {K : PySem.W.Frag} {mg : Str → Option Value} {base : Heap}
end
end Fw
set_option maxHeartbeats 2000000
namespace Fw
open PySem PySem.Spec PyProof.Rows L2
/-! moves of any value into any value -/
/-- is it a room's number -/
def isRm (n : Int) : PyData → Bool
  | .int r => decide (0 ≤ r ∧ r < n)
  | _ => false
def isNum : PyData → Bool
  | .int _ => true
  | _ => false
theorem isNum_eq (d : PyData) : (isD "int" d && !isD "bool" d) = isNum d := by
  cases d <;> (simp only [isD, kindD, isNum]; decide)
theorem isNum_int {K : PySem.W.Frag} {av : List Addr} {H : Hp} {v : V} {d : PyData} (h : Dx K av H v d) (e : isNum d = true) : ∃ r : Int, d = .int r ∧ v = .int r := by
  cases h <;> first | (cases e; done) | exact ⟨_, rfl, rfl⟩
theorem isRm_no {n : Int} {d : PyData} (e : isNum d = false) : isRm n d = false := by
  cases d <;> first | (cases e; done) | rfl
/-- one of many readings, told later -/
theorem pe_any {X : Cx} {x : Expr} {ok : Addr → Prop} {t : Addr → TE} (h : ∀ C, ok C → PE X x (t C)) : PE X x (fun σ H Q => ∃ C, ok C ∧ t C σ H Q) :=
  ⟨fun pins s σ H Q I ⟨C, c, z⟩ => (h C c).run pins s σ H Q I z⟩
/-- what becomes of a move: 0 done, 1 unknown, 2 no room, 3 not adjacent, 4 empty -/
def MRes (n : Int) (D : List (Int × Int)) (P : List (Str × Int)) (v : V) (d : PyData) (w : V) (e : PyData) : Nat → Prop
  | 0 => ∃ nm c r, v = .str nm ∧ (nm, c) ∈ P ∧ w = .int r ∧ (0 ≤ r ∧ r < n) ∧ r ∈ nb n D c ∧ r ∈ P.map (·.2)
  | 1 => ∀ x ∈ P, strIs x.1 d = false
  | 2 => ∃ nm c, v = .str nm ∧ (nm, c) ∈ P ∧ isRm n e = false
  | 3 => ∃ nm c r, v = .str nm ∧ (nm, c) ∈ P ∧ w = .int r ∧ (0 ≤ r ∧ r < n) ∧ r ∉ nb n D c
  | 4 => ∃ nm c r, v = .str nm ∧ (nm, c) ∈ P ∧ w = .int r ∧ (0 ≤ r ∧ r < n) ∧ r ∈ nb n D c ∧ r ∉ P.map (·.2)
  | _ => False
section
variable {P : Program} {w : World} {K : PySem.W.Frag} {mg : Str → Option Value} {base : Heap}
def spIsNum (K : PySem.W.Frag) : Sp := fun vs H Q _ => ∃ (v : V) (d : PyData), vs = [v] ∧ Dx K [] H v d ∧ Q (.bl (isNum d)) H
theorem ok_isnum {f : Addr} {fd : FuncData} {k : Nat} (F : Fun K "is_integer" "is_integer" sIsInt f fd) (T : Nm mg) : FnOk P w K mg base CX0 (k + 1) f fd pIsInt (spIsNum K) := by
  refine F.ok scIsInt (fun vs H Q E h => ?_) (fun cdv A outer s H vs Q E hr h => ?_)
  · obtain ⟨v, d, rfl, _⟩ := h
    rfl
  · obtain ⟨v, d, rfl, hd, q⟩ := h
    refine ⟨_, (pss_one (ps_ret (pe_and (pe_callB (call_isD (av := [])) (by rfl) T.isinstance (by decide +kernel) (pa_cons (pv 0) (pa_cons (pe_bltn (v := .ty "int") (by rfl) T.int (by decide +kernel) rfl) pa_nil))) (pe_one (pe_not (pe_callB (call_isD (av := [])) (by rfl) T.isinstance (by decide +kernel) (pa_cons (pv 0) (pa_cons (pe_bltn (v := .ty "bool") (by rfl) T.bool (by decide +kernel) rfl) pa_nil)))))))), ?_⟩
    refine ⟨_, rfl, v, "int", d, rfl, by decide, hd, _, rfl, ?_⟩
    rw [← isNum_eq] at q
    cases e : isD "int" d with
    | false => rw [e] at q; exact iteF q
    | true => rw [e] at q; exact iteT ⟨_, rfl, v, "bool", d, rfl, by decide, hd, _, rfl, q⟩
def spIsRoomA (K : PySem.W.Frag) : Sp := fun vs H Q _ => ∃ (h : Addr) (n : Int) (D : List (Int × Int)) (v : V) (d : PyData), vs = [.ref h, v] ∧ HouseAt H h n D ∧ Dx K [] H v d ∧ Q (.bl (isRm n d)) H
theorem ok_isrooma {f : Addr} {fd : FuncData} {k : Nat} (F : Fun K "is_room" "is_room" sIsRoom f fd) (T : Nm mg) (Cis_integer : Cal P w K mg base (k + 1) "is_integer" pIsInt (spIsNum K)) : FnOk P w K mg base CX0 (k + 2) f fd pIsRoom (spIsRoomA K) := by
  refine F.ok scIsRoom (fun vs H Q E h => ?_) (fun cdv A outer s H vs Q E hr h => ?_)
  · obtain ⟨h, n, D, v, d, rfl, _⟩ := h
    rfl
  · obtain ⟨h, n, D, v, d, rfl, hH, hd, q⟩ := h
    refine ⟨_, (pss_one (ps_ret (pe_and (pe_cal Cis_integer hr (by rfl) (pa_cons (pv 1) pa_nil)) (pe_one (pe_chain op_le op_lt pe_int (pv 1) (pe_ix (ix_tupK K rfl) (pv 0) pe_int (fun _ _ => rfl))))))), ?_⟩
    obtain ⟨qd, eh⟩ := hH.room0
    refine ⟨_, rfl, v, d, rfl, hd, _, rfl, ?_⟩
    refine ite2 (fun c => ?_) (fun c => ?_)
    · obtain ⟨i, rfl, rfl⟩ := isNum_int hd c
      refine ⟨_, rfl, _, _, rfl, rfl, _, rfl, ?_⟩
      have q : Q (.bl (decide (0 ≤ i ∧ i < n))) H := q
      refine ite2 (fun c => ?_) (fun c => ?_)
      · refine ⟨_, rfl, h, _, _, _, rfl, rfl, SqT.of eh, atI0, _, _, rfl, rfl, ?_⟩
        have c : 0 ≤ i := of_decide_eq_true c
        rw [show decide (0 ≤ i ∧ i < n) = decide (i < n) by simp [c]] at q
        exact q
      · have c : ¬ 0 ≤ i := fun e => c (decide_eq_true e)
        rw [show decide (0 ≤ i ∧ i < n) = false by simp [c]] at q
        exact q
    · have c := Bool.eq_false_iff.mpr c
      rw [isRm_no c] at q
      exact q
end
end Fw
set_option maxHeartbeats 2000000
namespace Fw
open PySem PySem.Spec PyProof.Rows L2
/-! placements of any value -/
open RZ
def letr (z : Str) : Bool := z.cps.toList.all fun c => decide (97 ≤ c ∧ c ≤ 122)
def nmOk (z : Str) : Bool := decide (1 ≤ z.length ∧ z.length ≤ 8) && letr z
def nmD : PyData → Bool
  | .str z => nmOk z
  | _ => false
def isPr : PyData → Bool
  | .tuple ds => decide (ds.length = 2)
  | _ => false
/-- a person in a room -/
def prD (n : Int) : PyData → Bool
  | .tuple [a, b] => nmD a && isRm n b
  | _ => false
theorem prD_no {n : Int} {d : PyData} (h : isPr d = false) : prD n d = false := by
  cases d with
  | tuple ds =>
    match ds with
    | [] => rfl
    | [_] => rfl
    | [_, _] => cases h
    | _ :: _ :: _ :: _ => rfl
  | _ => rfl
theorem prD_pp {n : Int} {d : PyData} (h : prD n d = true) : ∃ x : Str × Int, d = pp x ∧ nmOk x.1 = true ∧ 0 ≤ x.2 ∧ x.2 < n := by
  cases d with
  | tuple ds =>
    match ds, h with
    | [a, b], h =>
      have h : (nmD a && isRm n b) = true := h
      rw [Bool.and_eq_true] at h
      obtain ⟨h1, h2⟩ := h
      cases a <;> first | (cases h1; done) | skip
      cases b <;> first | (cases h2; done) | skip
      rename_i z r
      exact ⟨(z, r), rfl, h1, of_decide_eq_true h2⟩
  | _ => cases h
theorem pp_prD {n : Int} {x : Str × Int} (h : nmOk x.1 = true ∧ 0 ≤ x.2 ∧ x.2 < n) : prD n (pp x) = true := by
  show (nmOk x.1 && decide (0 ≤ x.2 ∧ x.2 < n)) = true
  rw [h.1, decide_eq_true h.2]
  rfl
theorem prD_all {n : Int} : ∀ {ds : List PyData}, ds.all (prD n) = true → ∃ P : List (Str × Int), ds = P.map pp ∧ ∀ x ∈ P, nmOk x.1 = true ∧ 0 ≤ x.2 ∧ x.2 < n
  | [], _ => ⟨[], rfl, fun x hx => by cases hx⟩
  | d :: ds, h => by
    rw [List.all_cons, Bool.and_eq_true] at h
    obtain ⟨x, rfl, hx⟩ := prD_pp h.1
    obtain ⟨P, rfl, hP⟩ := prD_all h.2
    refine ⟨x :: P, rfl, fun y hy => ?_⟩
    rcases List.mem_cons.mp hy with rfl | hy
    · exact hx
    · exact hP y hy
theorem all_prD {n : Int} {P : List (Str × Int)} (h : ∀ x ∈ P, nmOk x.1 = true ∧ 0 ≤ x.2 ∧ x.2 < n) : (P.map pp).all (prD n) = true := by
  rw [List.all_eq_true]
  intro d hd
  obtain ⟨x, hx, rfl⟩ := List.mem_map.mp hd
  exact pp_prD (h x hx)
theorem pp_inj {x y : Str × Int} (h : pp x = pp y) : x = y := by
  obtain ⟨a, b⟩ := x
  obtain ⟨c, d⟩ := y
  have h : PyData.tuple [.str a, .int b] = .tuple [.str c, .int d] := h
  injection h with h
  injection h with h1 h2
  injection h2 with h2 _
  injection h1 with h1
  injection h2 with h2
  rw [h1, h2]
theorem pps_inj : ∀ {P Q : List (Str × Int)}, P.map pp = Q.map pp → P = Q
  | [], [], _ => rfl
  | [], _ :: _, h => by cases h
  | _ :: _, [], h => by cases h
  | x :: P, y :: Q, h => by
    rw [List.map_cons, List.map_cons] at h
    injection h with h1 h2
    rw [pp_inj h1, pps_inj h2]
/-- it is a placement of a house of n rooms -/
def PlP (n : Int) (d : PyData) : Prop := ∃ P : List (Str × Int), d = pld P ∧ P.length ≤ 12 ∧ (∀ x ∈ P, nmOk x.1 = true ∧ 0 ≤ x.2 ∧ x.2 < n) ∧ (P.map (·.1)).Pairwise ltS
open Classical in
noncomputable def plB (n : Int) (d : PyData) : Bool := decide (PlP n d)
theorem plB_yes {n : Int} {d : PyData} (h : PlP n d) : plB n d = true := @decide_eq_true _ (Classical.propDecidable _) h
theorem plB_no {n : Int} {d : PyData} (h : ¬ PlP n d) : plB n d = false := @decide_eq_false _ (Classical.propDecidable _) h
/-- each less than the next -/
def stepB (ns : List Str) (j : Nat) : Bool := decide ((ns.getD j "").cps.toList < (ns.getD (j + 1) "").cps.toList)
theorem up_steps {ns : List Str} : ns.Pairwise ltS ↔ ∀ j, j + 1 < ns.length → stepB ns j = true := by
  constructor
  · intro h j hj
    refine decide_eq_true ?_
    have := (List.pairwise_iff_getElem.mp h) j (j + 1) (by omega) hj (by omega)
    rw [List.getD_eq_getElem?_getD, List.getD_eq_getElem?_getD, List.getElem?_eq_getElem (by omega), List.getElem?_eq_getElem hj]
    exact this
  · intro h
    rw [List.pairwise_iff_getElem]
    intro i j hi hj lt
    obtain ⟨m, rfl⟩ : ∃ m, j = i + 1 + m := ⟨j - (i + 1), by omega⟩
    have one : ∀ a (ha : a + 1 < ns.length), ltS (ns[a]'(by omega)) (ns[a + 1]'ha) := fun a ha => by
      have := of_decide_eq_true (h a ha)
      rw [List.getD_eq_getElem?_getD, List.getD_eq_getElem?_getD, List.getElem?_eq_getElem (by omega), List.getElem?_eq_getElem ha] at this
      exact this
    clear lt
    induction m with
    | zero => exact one i hj
    | succ m ih => exact ltS_trans (ih (by omega) one) (one (i + 1 + m) hj)
open Classical in
noncomputable def ascB (ns : List Str) : Bool := @decide (ns.Pairwise ltS) (Classical.propDecidable _)
theorem ascB_yes {ns : List Str} (h : ns.Pairwise ltS) : ascB ns = true := @decide_eq_true _ (Classical.propDecidable _) h
theorem ascB_no {ns : List Str} (h : ¬ ns.Pairwise ltS) : ascB ns = false := @decide_eq_false _ (Classical.propDecidable _) h
theorem ascB_iff {ns : List Str} : ascB ns = true ↔ ns.Pairwise ltS := by
  constructor
  · intro h
    refine Classical.byContradiction fun n => ?_
    rw [ascB_no n] at h
    cases h
  · exact ascB_yes
theorem plB_iff {n : Int} {d : PyData} : plB n d = true ↔ PlP n d := by
  constructor
  · intro h
    refine Classical.byContradiction fun m => ?_
    rw [plB_no m] at h
    cases h
  · exact plB_yes
theorem up_all (ns : List Str) : ((List.range (ns.length - 1)).map (stepB ns)).all id = ascB ns := by
  rw [Bool.eq_iff_iff, ascB_iff, up_steps, List.all_eq_true]
  constructor
  · intro h j hj
    exact h _ (List.mem_map.mpr ⟨j, List.mem_range.mpr (by omega), rfl⟩)
  · intro h x hx
    obtain ⟨j, hj, rfl⟩ := List.mem_map.mp hx
    exact h j (by have := List.mem_range.mp hj; omega)
theorem range_snocB (f : Nat → Bool) (i : Nat) : ((List.range (i + 1)).map f).map V.bl = ((List.range i).map f).map V.bl ++ [V.bl (f i)] := by
  rw [List.range_succ, List.map_append, List.map_append]
  rfl
theorem a_le (c : Nat) : (!decide ((⟨#[c]⟩ : Str).cps.toList < (Str.ofString "a").cps.toList)) = decide (97 ≤ c) := by
  by_cases h : 97 ≤ c
  · rw [one_le h, decide_eq_true h]; rfl
  · rw [decide_eq_false h, show (Str.ofString "a").cps.toList = [97] by decide +kernel, decide_eq_true]
    · rfl
    · show [c] < [97]
      rw [List.cons_lt_cons_iff]
      exact .inl (by omega)
theorem z_ge (c : Nat) : (!decide ((Str.ofString "z").cps.toList < (⟨#[c]⟩ : Str).cps.toList)) = decide (c ≤ 122) := by
  by_cases h : c ≤ 122
  · rw [one_ge h, decide_eq_true h]; rfl
  · rw [decide_eq_false h, show (Str.ofString "z").cps.toList = [122] by decide +kernel, decide_eq_true]
    · rfl
    · show [122] < [c]
      rw [List.cons_lt_cons_iff]
      exact .inl (by omega)
theorem dxA_pps {K : PySem.W.Frag} {H : Hp} : ∀ {ps : List (Addr × Str × Int)}, (∀ p ∈ ps, H p.1 = some (.tup [.str p.2.1, .int p.2.2])) → DxAll K [] H (ps.map fun p => V.ref p.1) ((ps.map (·.2)).map pp)
  | [], _ => .nil
  | p :: ps, h => .cons (.tup (SqT.of (h p (List.mem_cons_self ..))) (.cons (.str _) (.cons (.int _) .nil))) (dxA_pps fun q hq => h q (List.mem_cons_of_mem _ hq))
theorem PlAt.dx {K : PySem.W.Frag} {H : Hp} {p : Addr} {P : List (Str × Int)} (x : PlAt H p P) : Dx K [] H (.ref p) (pld P) := by
  obtain ⟨ps, h1, h2, h3⟩ := x
  rw [h2]
  exact .tup h1.sq (dxA_pps h3)
theorem gd_str {b k n : Nat} {z : Str} (h : Gd b k n (.str z)) : z.length ≤ n := by
  have := h.w
  simp only [PyData.bulk] at this
  exact this
theorem letr_all (z : Str) : ((List.range z.cps.size).map fun i => decide (97 ≤ z.cps.toList.getD i 0 ∧ z.cps.toList.getD i 0 ≤ 122)).all id = letr z := by
  unfold letr
  rw [Bool.eq_iff_iff, List.all_eq_true, List.all_eq_true]
  have lz : z.cps.toList.length = z.cps.size := Array.length_toList
  constructor
  · intro h c hc
    obtain ⟨i, hi, rfl⟩ := List.getElem_of_mem hc
    have := h _ (List.mem_map.mpr ⟨i, List.mem_range.mpr (by omega), rfl⟩)
    rw [List.getD_eq_getElem?_getD, List.getElem?_eq_getElem hi] at this
    exact this
  · intro h x hx
    obtain ⟨i, hi, rfl⟩ := List.mem_map.mp hx
    have hi := List.mem_range.mp hi
    have hi' : i < z.cps.toList.length := by omega
    rw [List.getD_eq_getElem?_getD, List.getElem?_eq_getElem hi']
    exact h _ (List.getElem_mem hi')
section
variable {P : Program} {w : World} {K : PySem.W.Frag} {mg : Str → Option Value} {base : Heap}
def spIsPairA (K : PySem.W.Frag) : Sp := fun vs H Q _ => ∃ (v : V) (d : PyData), vs = [v] ∧ Dx K [] H v d ∧ Q (.bl (isPr d)) H
theorem ok_ispaira {f : Addr} {fd : FuncData} {k : Nat} (F : Fun K "is_pair" "is_pair" sIsPair f fd) (T : Nm mg) : FnOk P w K mg base CX0 (k + 1) f fd pIsInt (spIsPairA K) := by
  refine F.ok scIsPair (fun vs H Q E h => ?_) (fun cdv A outer s H vs Q E hr h => ?_)
  · obtain ⟨v, d, rfl, _⟩ := h
    rfl
  · obtain ⟨v, d, rfl, hd, q⟩ := h
    refine ⟨_, (pss_one (ps_ret (pe_and (pe_callB (call_isD (av := [])) (by rfl) T.isinstance (by decide +kernel) (pa_cons (pv 0) (pa_cons (pe_bltn (v := .ty "tuple") (by rfl) T.tuple (by decide +kernel) rfl) pa_nil))) (pe_one (pe_cmpR op_eq (pe_callB (call_lenK K rfl) (by rfl) T.len (by decide +kernel) (pa_cons (pv 0) pa_nil)) pe_int (nomark _)))))), ?_⟩
    refine ⟨_, rfl, v, "tuple", d, rfl, by decide, hd, _, rfl, ?_⟩
    cases e : isD "tuple" d with
    | false =>
      have : isPr d = false := by cases d <;> first | rfl | (cases e; done)
      rw [this] at q
      exact iteF q
    | true =>
      cases hd with
      | @tup a xs ds sq da =>
        refine iteT ⟨_, rfl, a, xs, rfl, .inr sq, rfl, ?_⟩
        have : decide (V.int ((xs.length : Nat) : Int) = V.int 2) = isPr (.tuple ds) := by
          rw [da.len]
          show _ = decide (ds.length = 2)
          rw [decide_eq_decide]
          constructor
          · intro h
            have := V.int.inj h
            omega
          · intro h
            rw [h]
            rfl
        rw [this]
        exact q
      | _ => exact absurd e (by simp [isD, kindD])
end
end Fw
set_option maxHeartbeats 2000000
namespace Fw
open PySem PySem.Spec PyProof.Rows L2
/-! enumerate(t) of a tuple t -/
/-- the enumerate at e with its iterator at it, i items of the tuple at t gone through -/
structure EnT (h : Heap) (e it t : Addr) (i : Nat) : Prop where
  en : ∃ old, IsEnum h e it ((i : Nat) : Int) old
  ir : h.IsTupleIter it t i
  ne : e ≠ it
theorem EnT.move {h h' : Heap} {e it t : Addr} {i : Nat} (x : EnT h e it t i) (k : ∀ b, b = e ∨ b = it → ∀ o, h.get? b = some o → h'.get? b = some o) : EnT h' e it t i := by
  obtain ⟨⟨old, a⟩, b, c⟩ := x
  exact ⟨⟨old, k e (.inl rfl) _ a⟩, b.at fun o => k it (.inr rfl) o, c⟩
theorem EnT.off {h : Heap} {e it t : Addr} {i : Nat} {items : Array Value} (x : EnT h e it t i) (y : h.IsTuple t items) : e ≠ t ∧ t ≠ it := by
  obtain ⟨⟨old, a⟩, ⟨o2, b1, b2, _⟩, _⟩ := x
  obtain ⟨o, y1, y2, _⟩ := y
  constructor
  · intro z
    rw [z] at a
    have := a.symm.trans y1
    cases this
    exact absurd (show Value.type "enumerate" = Value.type "tuple" from y2) (by decide)
  · intro z
    rw [← z, y1] at b1
    cases b1
    rw [y2] at b2
    exact absurd b2 (by decide)
def newEnum (a : Addr) : Obj := { cls := .type "enumerate", data := .fields #[.none, .bool false, .ref a, rawInt 0, .none, .none] }
def newIt (t : Addr) : Obj := { cls := .type "tuple_iterator", data := .fields #[.ref t, .int 0 0] }
theorem enumT_new (t : Addr) (items : Array Value) : Meets (Builtin.«enumerate.__new__» ⟨[.type "enumerate", .ref t], []⟩) (fun _ R s => s.heap.IsTuple t items ∧ R (.ok (.ret (.ref (s.heap.push (newIt t)).objs.size))) { s with heap := (s.heap.push (newIt t)).push (newEnum s.heap.objs.size) }) :=
  .of_wp fun prog w A R s hh => by
    obtain ⟨ht, fin⟩ := hh
    have st := sub_enumerate
    obtain ⟨hp, gs, ds, ts, oo⟩ := s
    have starts {A' : Around} {E' : Value → Shared → Prop} {Q' : Value → Shared → Prop} (q : Q' (.ref hp.objs.size) ⟨hp.push (newIt t), gs, ds, ts, oo⟩) : wpAny (model prog w) A' (pyIter (.ref t)) Q' E' ⟨hp, gs, ds, ts, oo⟩ := (begins_tuple t items).iter prog w A' E' _ _ ht q
    wp_walk using starts
    refine wpAny_stack_any fun _ => wpAny_pure ?_
    split
    · next c _ _ _ _ _ =>
      cases (c == Value.type "enumerate") <;> (wp_walk using starts; exact ⟨_, rfl, fin⟩)
    · wp_walk using starts
      exact ⟨_, rfl, fin⟩
section
variable {prog : Program} {w : World} {A : Around} {E : Value → Shared → Prop} {s : Shared}
theorem enumT_call {t : Addr} {items : Array Value} {Q : Value → Shared → Prop} (ht : s.heap.IsTuple t items)
    (fin : ∀ h', EnT h' (s.heap.objs.size + 1) s.heap.objs.size t 0 → (∀ b o, s.heap.get? b = some o → h'.get? b = some o) → Q (.ref (s.heap.objs.size + 1)) { s with heap := h' }) :
    wpAny (model prog w) A (call (.type "enumerate") [.ref t]) Q E s := by
  have e1 : (s.heap.push (newIt t)).objs.size = s.heap.objs.size + 1 := Heap.size_push ..
  have e2 := Heap.get?_push_size (s.heap.push (newIt t)) (o := newEnum s.heap.objs.size) rfl
  have e3 : ((s.heap.push (newIt t)).push (newEnum s.heap.objs.size)).get? s.heap.objs.size = some (newIt t) := Heap.get?_push_of_some _ (Heap.get?_push_size _ rfl)
  refine callType_new F.called_enumerate (by decide) (F.typeCall_enumerate_1 _) (F.newCall_enumerate_1 _) (fun _ => F.args_object_init_2 _ _) F.entry_enumerate_new (enumT_new t items) ⟨ht, ⟨_, e2, rfl⟩, ?_⟩
  rw [e1] at e2 ⊢
  exact fin _ ⟨⟨.none, e2⟩, ⟨_, e3, rfl, rfl⟩, Nat.succ_ne_self _⟩ fun b o z => Heap.get?_push_of_some _ (Heap.get?_push_of_some _ z)
/-- a turn: the pair is new, e and it go on, all else stays -/
theorem enumT_turn {elts : List Expr} {kk : Nat} {tpos : Pos} {e it t : Addr} {i : Nat} {items : Array Value} {x : Value} {Q : Value → Shared → Prop} (calm : A.handled = none) (n : EnT s.heap e it t i) (ht : s.heap.IsTuple t items) (hx : items[i]? = some x)
    (fin : ∀ h' tk tk', h'.get? s.heap.objs.size = some { cls := .type "tuple", data := .seq #[.int i tk, x] } → EnT h' e it t (i + 1) → (∀ b o, b ≠ e → b ≠ it → s.heap.get? b = some o → h'.get? b = some o) → Q (.ref s.heap.objs.size) { s with heap := h', toks := tk' }) :
    wpAny (model prog w) A (pyNext (.ref e)) (fun r s1 => ∃ u, r = some u ∧ wpAny (model prog w) A (letOwnedTupleGo (.Tuple elts kk tpos) (.ref e) u) (fun _ s2 => Q u s2) E s1) E s := by
  obtain ⟨o1, o2⟩ := n.off ht
  obtain ⟨⟨old, a⟩, b, ne⟩ := n
  have lt : i < items.size := by
    rcases Nat.lt_or_ge i items.size with h | h
    · exact h
    · rw [Array.getElem?_eq_none h] at hx; cases hx
  have le : e < s.heap.objs.size := Heap.lt_size a
  refine wpAny_pyNext_enum_itemD (Draws.tuple (A := A.in1) calm it t o2 items) a ⟨b, ht⟩ lt ne (by simp [ne, o1]) fun y h1 tk hy out st1 new sz keep => ⟨_, rfl, ?_⟩
  have hy : items[i]? = some y := hy
  rw [hx] at hy
  cases hy
  refine wpAny_letOwnedTupleGo_enum (s := { s with heap := h1, toks := tk + 1 }) out fun h2 en2 but => ?_
  refine fin h2 tk (tk + 1) ((but.2 _ (Nat.ne_of_gt le)).trans new) ⟨⟨x, ?_⟩, st1.1.at fun o z => (but.2 it ne.symm).trans z, ne⟩ fun c o ce ci z => (but.2 c ce).trans (keep c o ce ci z)
  · have : ((i + 1 : Nat) : Int) = (i : Int) + 1 := by omega
    rw [this]
    exact en2
theorem enumT_end {e it t : Addr} {i : Nat} {items : Array Value} {Q : Option Value → Shared → Prop} (calm : A.handled = none) (n : EnT s.heap e it t i) (ht : s.heap.IsTuple t items) (hi : i = items.size)
    (fin : ∀ h', Heap.ExtBut it s.heap h' → Q none { s with heap := h' }) : wpAny (model prog w) A (pyNext (.ref e)) Q E s := by
  obtain ⟨o1, o2⟩ := n.off ht
  obtain ⟨⟨old, a⟩, b, ne⟩ := n
  subst hi
  exact wpAny_pyNext_enum_endD (Draws.tuple (A := A.in1) calm it t o2 items) a ⟨b, ht⟩ fin
end
/-- the tuple at a; its items in new pairs with their numbers -/
def IteT (K : PySem.W.Frag) (a : Addr) : It where
  go i H := ∃ (xs : List V), SqT K H a xs ∧ i < xs.length
  yld i H v H' := ∃ T x, v = .ref T ∧ H T = none ∧ H' = upd H T (.tup [.int (i : Nat), x]) ∧ ∀ xs, SqT K H a xs → xs[i]? = some x
  stop i H := ∃ (xs : List V), SqT K H a xs ∧ xs.length = i
theorem turn_enumT {P : Program} {w : World} {K : PySem.W.Frag} {elts : List Expr} {kk : Nat} {tpos : Pos} (a e it : Addr) : Turn P w K (.Tuple elts kk tpos) (IteT K a) [e, it] e (fun i h => EnT h e it a i) where
  mem := List.mem_cons_self
  obj i h st b hb := by
    obtain ⟨⟨old, x⟩, ⟨o, y1, _, y3⟩, _⟩ := st
    rcases List.mem_cons.mp hb with rfl | hb
    · exact ⟨_, x, fun v z => nomatch z⟩
    · rw [List.mem_singleton.mp hb]
      exact ⟨o, y1, fun v z => by rw [y3] at z; cases z⟩
  keep i h h' st k := st.move fun b hb o z => k b (by rcases hb with rfl | rfl <;> simp) o z
  item := by
    rintro X rfl rfl rfl calm i pins s σ H E I free st ⟨xs, hq, lt⟩
    obtain ⟨us, rel, tp, _⟩ := I.tuple hq
    have hx : xs[i]? = some xs[i] := List.getElem?_eq_getElem lt
    obtain ⟨u, hu, ru⟩ := rel.get hx
    have small : ∀ b ∈ [e, it], b < s.heap.objs.size := fun b hb => by
      obtain ⟨⟨old, x⟩, ⟨o, y, _⟩, _⟩ := st
      rcases List.mem_cons.mp hb with rfl | hb
      · exact Heap.lt_size x
      · rw [List.mem_singleton.mp hb]
        exact Heap.lt_size y
    refine enumT_turn (I.ok.hd calm) st tp (x := u) (by simpa using hu) fun h' tk tk' new st' keep => ?_
    have J : Inv X pins σ (upd H s.heap.objs.size (.tup [.int (i : Nat), xs[i]])) { s with heap := h', toks := tk' } :=
      I.turnedNew (ch := [e, it]) (fun b o nb z => keep b o (fun y => nb (by simp [y])) (fun y => nb (by simp [y])) z) free (Nat.le_refl _)
        (show ObjOk X.prog X.w _ h' _ (.tup [.int (i : Nat), xs[i]]) from ⟨by show 2 ≤ sizeLine; decide, _, .cons ⟨_, rfl⟩ (.cons ru .nil), ⟨_, new, rfl, _, rfl⟩⟩)
    refine ⟨.ref s.heap.objs.size, _, J, rfl, ⟨_, xs[i], rfl, I.hok.fresh (Nat.le_refl _), rfl, fun ys hy => ?_⟩, st', fun b hb => ?_⟩
    · rw [I.tuple_inj hy hq]
      exact hx
    · rw [upd_ne (Nat.ne_of_lt (small b hb))]
      exact (free b hb).1
  done := by
    rintro X rfl rfl rfl calm i pins s σ H E I free st ⟨xs, hq, le⟩
    obtain ⟨us, rel, tp, _⟩ := I.tuple hq
    obtain ⟨f0, f1, f2, f3, f4, f5⟩ := free it (by simp)
    have l := rel.length
    refine enumT_end (I.ok.hd calm) st tp (by simp only [List.size_toArray]; omega) fun h' eb => ⟨rfl, ?_⟩
    exact I.turned (t' := s.toks) (fun b o nb z => eb b o nb z) f0 f1 f3 f4 f5
  self A i s Q E st h := let ⟨⟨_, x⟩, _, _⟩ := st; wpAny_pyIter_enum x h
def iEnumT (K : PySem.W.Frag) (ta : TA) : TI := fun σ H R => ta σ H fun vs H1 => ∃ a xs, vs = [.ref a] ∧ SqT K H1 a xs ∧ R (IteT K a) H1
theorem pi_enumT {X : Cx} {x : Expr} {ta : TA} {p pos tpos : Pos} {elts : List Expr} {kk : Nat} (gl : Gl X "enumerate") (no : X.mg "enumerate" = none) (ha : PA X [x] ta) (hs : starEach [x] X.env = [(false, eval x X.env)] := by rfl) : PI X (.Tuple elts kk tpos) (.Call (.Name "enumerate" p) [x] [] pos) (iEnumT X.K ta) where
  run pins s σ H R I rd := by
    refine Call_ (ld_blt I gl no boot_enumerate (PyProof.Rows.callWith_type1 (thn (ha.run pos pins s σ H _ I rd) ?_) hs rfl))
    rintro us s1 ⟨_, H1, J, rr, a, xs, rfl, hq, fin⟩
    obtain ⟨u, rfl, ru⟩ := vals1 rr
    cases (show u = Value.ref a from ru)
    obtain ⟨_, _, tp, _⟩ := J.tuple hq
    refine enumT_call tp fun h' n keep => wpAny_pyIter_enum n.en.choose_spec ⟨_, [_, _], _, _, H1, rfl, J.kept (t' := s1.toks) keep, turn_enumT a _ _, n, fun b hb => ?_, fin⟩
    have big : s1.heap.objs.size ≤ b := by
      rcases List.mem_cons.mp hb with rfl | hb
      · exact Nat.le_succ _
      · rw [List.mem_singleton.mp hb]
        exact Nat.le_refl _
    exact J.fpOk big (J.hok.fresh big)
theorem walk_enumT {K : PySem.W.Frag} {a : Addr} {xs : List V} : Walk (IteT K a) xs.length (fun H => SqT K H a xs) (YPair (fun i => some (.int (i : Nat))) (fun i => xs[i]?)) where
  goes i H lt q := ⟨xs, q, lt⟩
  stops H q := ⟨xs, q, rfl⟩
  yields i H v H' lt q y := by
    obtain ⟨T, x, rfl, fr, rfl, h⟩ := y
    exact ⟨T, _, x, rfl, fr, rfl, rfl, h xs q⟩
end Fw
set_option maxHeartbeats 2000000
namespace Fw
open PySem PySem.Spec PyProof.Rows L2
/-! people who are not told apart -/
theorem iteT' {b : Bool} {A B : Prop} (h : b = true) (a : A) : if b = true then A else B := by rw [if_pos h]; exact a
theorem iteF' {b : Bool} {A B : Prop} (h : ¬ b = true) (a : B) : if b = true then A else B := by rw [if_neg h]; exact a
def at0 (cs : List Int) (j : Nat) : Int := cs.getD j 0
def occN (cs : List Int) (m : Nat) : List Int := ((List.range m).filter fun j => decide (at0 cs j > 0)).map fun (j : Nat) => (j : Int)
def wntN (cs gs : List Int) (m : Nat) : List Int := ((List.range m).filter fun j => decide (at0 cs j = 0) && decide (at0 gs j > 0)).map fun (j : Nat) => (j : Int)
def tot (cs l : List Int) : Int := (l.map fun r => at0 cs r.toNat).sum
theorem occN_snoc (cs : List Int) (m : Nat) : occN cs (m + 1) = occN cs m ++ if at0 cs m > 0 then [(m : Int)] else [] := by
  unfold occN
  rw [List.range_succ, List.filter_append, List.map_append]
  congr 1
  by_cases h : at0 cs m > 0 <;> simp [h]
theorem wntN_snoc (cs gs : List Int) (m : Nat) : wntN cs gs (m + 1) = wntN cs gs m ++ if at0 cs m = 0 ∧ at0 gs m > 0 then [(m : Int)] else [] := by
  unfold wntN
  rw [List.range_succ, List.filter_append, List.map_append]
  congr 1
  by_cases h : at0 cs m = 0
  · by_cases k : at0 gs m > 0 <;> simp [h, k]
  · simp [h]
theorem occN_len (cs : List Int) (m : Nat) : (occN cs m).length ≤ m := by
  unfold occN
  rw [List.length_map]
  refine Nat.le_trans (List.length_filter_le _ _) ?_
  rw [List.length_range]
  exact Nat.le_refl _
theorem wntN_len (cs gs : List Int) (m : Nat) : (wntN cs gs m).length ≤ m := by
  unfold wntN
  rw [List.length_map]
  refine Nat.le_trans (List.length_filter_le _ _) ?_
  rw [List.length_range]
  exact Nat.le_refl _
theorem mem_occN {cs : List Int} {m : Nat} {r : Int} : r ∈ occN cs m ↔ 0 ≤ r ∧ r < m ∧ at0 cs r.toNat > 0 := by
  unfold occN
  rw [List.mem_map]
  constructor
  · rintro ⟨j, hj, rfl⟩
    obtain ⟨h1, h2⟩ := List.mem_filter.mp hj
    have := List.mem_range.mp h1
    exact ⟨by omega, by omega, by rw [Int.toNat_natCast]; exact of_decide_eq_true h2⟩
  · rintro ⟨h0, h1, h2⟩
    exact ⟨r.toNat, List.mem_filter.mpr ⟨List.mem_range.mpr (by omega), decide_eq_true h2⟩, by omega⟩
theorem occN_up (cs : List Int) (m : Nat) : (occN cs m).Pairwise (· < ·) := by
  unfold occN
  rw [List.pairwise_map]
  exact (List.pairwise_lt_range.filter _).imp fun {a b} h => by omega
theorem at0_get {cs : List Int} {i : Nat} {c : Int} (h : cs[i]? = some c) : at0 cs i = c := by
  unfold at0
  rw [List.getD_eq_getElem?_getD, h]
  rfl
theorem at0_ix {cs : List Int} {r : Int} (h0 : 0 ≤ r) (h1 : r < (cs.length : Nat)) : atI (vi cs) r = some (.int (at0 cs r.toNat)) := by
  have lt : r.toNat < cs.length := by omega
  have := atI_nat (xs := vi cs) (j := r.toNat) (v := .int (at0 cs r.toNat)) (by
    rw [List.getElem?_map, List.getElem?_eq_getElem lt]
    unfold at0
    rw [List.getD_eq_getElem?_getD, List.getElem?_eq_getElem lt]
    rfl)
  rwa [Int.toNat_of_nonneg h0] at this
/-- the regions whose totals differ -/
def unb (cs gs : List Int) (Cs : List (Addr × List Int)) : List (Addr × List Int) := Cs.filter fun c => !decide (tot cs c.2 = tot gs c.2)
theorem unb_snoc {cs gs : List Int} {Cs : List (Addr × List Int)} {i : Nat} {c : Addr × List Int} (h : Cs[i]? = some c) : unb cs gs (Cs.take (i + 1)) = unb cs gs (Cs.take i) ++ if tot cs c.2 = tot gs c.2 then [] else [c] := by
  unfold unb
  rw [take_snoc h, List.filter_append]
  congr 1
  by_cases k : tot cs c.2 = tot gs c.2 <;> simp [k]
section
variable {P : Program} {w : World} {K : PySem.W.Frag} {mg : Str → Option Value} {base : Heap}
def spOccN : Sp := fun vs H Q _ => ∃ (p : Addr) (cs : List Int), vs = [.ref p] ∧ H p = some (.tup (vi cs)) ∧ cs.length ≤ 100 ∧ ∀ H' t, Same H H' → H' t = some (.tup (vi (occN cs cs.length))) → Q (.ref t) H'
abbrev nOccupiedRooms : List Str := ["counts", "room", "count"]
theorem scOccupiedRooms : FnScope nOccupiedRooms ["counts"] (defScope sOccupiedRooms) := ⟨rfl, rfl, rfl, by decide +kernel, rfl, by decide +kernel, by decide +kernel⟩
theorem ok_occn {f : Addr} {fd : FuncData} {k : Nat} (F : Fun K "occupied_rooms" "occupied_rooms" sOccupiedRooms f fd) (T : Nm mg) (Tenum : mg "enumerate" = none) : FnOk P w K mg base CX0 (k + 1) f fd ["counts"] spOccN := by
  refine F.ok scOccupiedRooms (fun vs H Q E h => ?_) (fun cdv A outer s H vs Q E hr h => ?_)
  · obtain ⟨p, cs, rfl, _⟩ := h
    rfl
  · obtain ⟨p, cs, rfl, e, lc, q⟩ := h
    refine ⟨_, (pss_one (ps_ret (pe_callTy (call_tupleK K rfl) (by rfl) T.tuple (by decide +kernel) (pa_cons (pe_lc (own := [("room", 1), ("count", 2)]) (g := gTup K 2 (gCons (gName 1) (gCons (gName 2) gNil))) (by rfl) scOccupiedRooms.nd (pi_enumT (by rfl) Tenum (pa_cons (pv 0) pa_nil))
 (blkOk_by (own := [("room", 1), ("count", 2)]) (N := nOccupiedRooms) (sc := defScope sOccupiedRooms) (by decide +kernel))
 (fun _ _ _ _ _ => (pg_tup (by rfl) (pgs_cons (pg_name (i := 1) scOccupiedRooms.nd rfl (.inl rfl)) (pgs_cons (pg_name (i := 2) scOccupiedRooms.nd rfl (.inl rfl)) pgs_nil)))) (fun _ _ _ _ _ => pts_one (pt_cmpR op_gt (pv 2) pe_int (nomark _))) (fun _ _ _ _ _ => (pv 1))) pa_nil)))), ?_⟩
    refine ⟨_, rfl, p, _, rfl, SqT.of e, fun L hL => lc_it (walk_enumT (K := K) (a := p) (xs := vi cs)) (fun i H1 => Same H H1 ∧ H1 L = some (.lst (vi (occN cs i)))) ⟨same_upd hL, upd_same⟩ (fun i H1 _ hh => SqT.of (hh.1 _ _ e)) ?_ ?_⟩
    · rintro i _ H1 _ hi ⟨s1, e1⟩ ⟨T1, x, y, rfl, hT, rfl, ex, ey⟩
      cases ex
      obtain ⟨c, hc, rfl⟩ := get_vi ey
      have ac := at0_get hc
      have sT := same_upd (o := .tup [V.int (i : Nat), V.int c]) hT
      refine ⟨T1, _, rfl, SqT.of upd_same, rfl, _, _, rfl, _, _, rfl, rfl, rfl, _, rfl, _, _, rfl, rfl, _, rfl, ?_⟩
      rw [occN_snoc, ac]
      by_cases h : c > 0
      · rw [if_pos h]
        refine iteT' (decide_eq_true h) ⟨_, rfl, _, sT _ _ e1, ?_, same_put (s1.trans sT) hL, ?_⟩
        · rw [List.length_map]
          have := occN_len cs i
          rw [List.length_map] at hi
          exact small1000 (by omega)
        · rw [upd_same, vi_app]
          rfl
      · rw [if_neg h, List.append_nil]
        exact iteF' (by rw [decide_eq_false h]; decide) ⟨s1.trans sT, sT _ _ e1⟩
    · rintro H1 ⟨s1, e1⟩
      rw [List.length_map] at e1
      exact ⟨L, _, rfl, .inl ⟨SqL.of e1, fun t ht => q _ t (s1.trans (same_upd ht)) upd_same⟩⟩
def spWnt : Sp := fun vs H Q _ => ∃ (p g : Addr) (cs gs : List Int), vs = [.ref p, .ref g] ∧ H p = some (.tup (vi cs)) ∧ H g = some (.tup (vi gs)) ∧ gs.length = cs.length ∧ cs.length ≤ 100 ∧ ∀ H' t, Same H H' → H' t = some (.lst (vi (wntN cs gs cs.length))) → Q (.ref t) H'
abbrev nEmptyWantedRooms : List Str := ["counts", "target", "room", "count"]
theorem scEmptyWantedRooms : FnScope nEmptyWantedRooms ["counts", "target"] (defScope sEmptyWantedRooms) := ⟨rfl, rfl, rfl, by decide +kernel, rfl, by decide +kernel, by decide +kernel⟩
theorem ok_wnt {f : Addr} {fd : FuncData} {k : Nat} (F : Fun K "empty_wanted_rooms" "empty_wanted_rooms" sEmptyWantedRooms f fd) (Tenum : mg "enumerate" = none) : FnOk P w K mg base CX0 (k + 1) f fd ["counts", "target"] spWnt := by
  refine F.ok scEmptyWantedRooms (fun vs H Q E h => ?_) (fun cdv A outer s H vs Q E hr h => ?_)
  · obtain ⟨p, g, cs, gs, rfl, _⟩ := h
    rfl
  · obtain ⟨p, g, cs, gs, rfl, e, eg, lg, lc, q⟩ := h
    refine ⟨_, (pss_one (ps_ret (pe_lc (own := [("room", 2), ("count", 3)]) (g := gTup K 2 (gCons (gName 2) (gCons (gName 3) gNil))) (by rfl) scEmptyWantedRooms.nd (pi_enumT (by rfl) Tenum (pa_cons (pv 0) pa_nil))
 (blkOk_by (own := [("room", 2), ("count", 3)]) (N := nEmptyWantedRooms) (sc := defScope sEmptyWantedRooms) (by decide +kernel))
 (fun _ _ _ _ _ => (pg_tup (by rfl) (pgs_cons (pg_name (i := 2) scEmptyWantedRooms.nd rfl (.inl rfl)) (pgs_cons (pg_name (i := 3) scEmptyWantedRooms.nd rfl (.inl rfl)) pgs_nil)))) (fun _ _ _ _ _ => pts_one (PW.pt (pw_and (pt_cmpR op_eq (pv 3) pe_int (nomark _)) (pw_and1 (pt_cmpR op_gt (pe_ix (ix_tupK K rfl) (pv 1) (pv 2) (fun _ _ => rfl)) pe_int (nomark _)))))) (fun _ _ _ _ _ => (pv 2))))), ?_⟩
    refine ⟨_, rfl, p, _, rfl, SqT.of e, fun L hL => lc_it (walk_enumT (K := K) (a := p) (xs := vi cs)) (fun i H1 => Same H H1 ∧ H1 L = some (.lst (vi (wntN cs gs i)))) ⟨same_upd hL, upd_same⟩ (fun i H1 _ hh => SqT.of (hh.1 _ _ e)) ?_ ?_⟩
    · rintro i _ H1 _ hi ⟨s1, e1⟩ ⟨T1, x, y, rfl, hT, rfl, ex, ey⟩
      cases ex
      obtain ⟨c, hc, rfl⟩ := get_vi ey
      have ac := at0_get hc
      rw [List.length_map] at hi
      have sT := same_upd (o := .tup [V.int (i : Nat), V.int c]) hT
      have yes : (at0 cs i = 0 ∧ at0 gs i > 0) → ∃ acc, (upd H1 T1 (.tup [V.int (i : Nat), V.int c])) L = some (.lst acc) ∧ acc.length < sizeLine ∧ Same H (upd (upd H1 T1 (.tup [V.int (i : Nat), V.int c])) L (.lst (acc ++ [V.int (i : Nat)]))) ∧ (upd (upd H1 T1 (.tup [V.int (i : Nat), V.int c])) L (.lst (acc ++ [V.int (i : Nat)]))) L = some (.lst (vi (wntN cs gs (i + 1)))) := fun h => by
        refine ⟨_, sT _ _ e1, ?_, same_put (s1.trans sT) hL, ?_⟩
        · rw [List.length_map]
          have := wntN_len cs gs i
          exact small1000 (by omega)
        · rw [upd_same, wntN_snoc, if_pos h, vi_app]
          rfl
      have no : ¬ (at0 cs i = 0 ∧ at0 gs i > 0) → Same H (upd H1 T1 (.tup [V.int (i : Nat), V.int c])) ∧ (upd H1 T1 (.tup [V.int (i : Nat), V.int c])) L = some (.lst (vi (wntN cs gs (i + 1)))) := fun h => by
        rw [wntN_snoc, if_neg h, List.append_nil]
        exact ⟨s1.trans sT, sT _ _ e1⟩
      refine ⟨T1, _, rfl, SqT.of upd_same, rfl, _, _, rfl, _, _, rfl, rfl, rfl, _, rfl, rfl, _, rfl, ?_⟩
      rw [ac] at yes no
      by_cases h : c = 0
      · subst h
        refine iteT' (decide_eq_true rfl) ⟨_, rfl, _, rfl, g, _, _, _, rfl, rfl, SqT.of ((s1.trans sT) _ _ eg), at0_ix (by omega) (by omega), _, _, rfl, rfl, _, rfl, ?_⟩
        rw [Int.toNat_natCast]
        by_cases h2 : at0 gs i > 0
        · exact iteT' (decide_eq_true h2) ⟨_, rfl, yes ⟨rfl, h2⟩⟩
        · exact iteF' (by rw [decide_eq_false h2]; decide) (no fun z => h2 z.2)
      · exact iteF' (by intro z; exact h (V.int.inj (of_decide_eq_true z))) (iteF (no fun z => h z.1))
    · rintro H1 ⟨s1, e1⟩
      rw [List.length_map] at e1
      exact q _ L s1 e1
def spTot (K : PySem.W.Frag) : Sp := fun vs H Q _ => ∃ (p t : Addr) (cs l : List Int), vs = [.ref p, .ref t] ∧ H p = some (.tup (vi cs)) ∧ H t = some (.tup (vi l)) ∧ (∀ r ∈ l, 0 ≤ r ∧ r < (cs.length : Nat)) ∧ l.length ≤ 60 ∧ ∀ H', Same H H' → Q (.int (tot cs l)) H'
abbrev nTotal : List Str := ["counts", "rooms", "room"]
theorem scTotal : FnScope nTotal ["counts", "rooms"] (defScope sTotal) := ⟨rfl, rfl, rfl, by decide +kernel, rfl, by decide +kernel, by decide +kernel⟩
theorem ok_tot {f : Addr} {fd : FuncData} {k : Nat} (F : Fun K "total" "total" sTotal f fd) (Tsum : mg "sum" = none) : FnOk P w K mg base CX0 (k + 1) f fd ["counts", "rooms"] (spTot K) := by
  refine F.ok scTotal (fun vs H Q E h => ?_) (fun cdv A outer s H vs Q E hr h => ?_)
  · obtain ⟨p, t, cs, l, rfl, _⟩ := h
    rfl
  · obtain ⟨p, t, cs, l, rfl, e, et, hl, ll, q⟩ := h
    refine ⟨_, (pss_one (ps_ret (pe_callB (cr_sum rfl) (by rfl) Tsum (by decide +kernel) (pa_cons (pe_lc (own := [("room", 2)]) (g := gName 2) (by rfl) scTotal.nd (pi_tupK K rfl (pv 1))
 (blkOk_by (own := [("room", 2)]) (N := nTotal) (sc := defScope sTotal) (by decide +kernel))
 (fun _ _ _ _ _ => (pg_name (i := 2) scTotal.nd rfl (.inl rfl))) (fun _ _ _ _ _ => pts_nil) (fun _ _ _ _ _ => (pe_ix (ix_tupK K rfl) (pv 0) (pv 2) (fun _ _ => rfl)))) pa_nil)))), ?_⟩
    refine ⟨_, rfl, t, rfl, ⟨_, SqT.of et⟩, fun L hL => lc_tup (K := K) (a := t) (xs := vi l) (fun i H1 => Same H H1 ∧ H1 L = some (.lst (vi ((l.take i).map fun r => at0 cs r.toNat)))) ⟨same_upd hL, upd_same⟩ (fun i H1 _ hh => SqT.of (hh.1 _ _ et)) ?_ ?_⟩
    · rintro i x H1 hx ⟨s1, e1⟩
      obtain ⟨r, hr', rfl⟩ := get_vi hx
      have rr := hl r (List.mem_of_getElem? hr')
      refine ⟨rfl, ?_⟩
      unfold tYes
      refine iteT ⟨_, rfl, _, rfl, p, _, _, _, rfl, rfl, SqT.of (s1 _ _ e), at0_ix rr.1 rr.2, _, e1, ?_, same_put s1 hL, ?_⟩
      · rw [List.length_map, List.length_map, List.length_take]
        exact small1000 (by omega)
      · rw [upd_same, take_snoc hr', List.map_append, vi_app]
        rfl
    · rintro H1 ⟨s1, e1⟩
      rw [List.length_map, List.take_length] at e1
      refine ⟨L, _, rfl, SqL.of e1, ?_⟩
      exact q _ s1
def spUnb (K : PySem.W.Frag) : Sp := fun vs H Q _ => ∃ (h p g : Addr) (n : Int) (D : List (Int × Int)) (cs gs : List Int), vs = [.ref h, .ref p, .ref g] ∧ HouseAt H h n D ∧ Forest n D ∧ 0 ≤ n ∧ n ≤ 8 ∧ H p = some (.tup (vi cs)) ∧ H g = some (.tup (vi gs)) ∧ cs.length = n.toNat ∧ gs.length = n.toNat ∧
  ∀ H' t Cs, Same H H' → Regs D (occN cs cs.length) (Cs.map (·.2)) → TupsAt H' Cs → Cs.length ≤ 8 → H' t = some (.lst (refs (unb cs gs Cs))) → Q (.ref t) H'
abbrev nUnbalancedRegions : List Str := ["house", "counts", "target", "regions", "region"]
theorem scUnbalancedRegions : FnScope nUnbalancedRegions ["house", "counts", "target"] (defScope sUnbalancedRegions) := ⟨rfl, rfl, rfl, by decide +kernel, rfl, by decide +kernel, by decide +kernel⟩
theorem ok_unb {f : Addr} {fd : FuncData} {k : Nat} (F : Fun K "unbalanced_regions" "unbalanced_regions" sUnbalancedRegions f fd) (Ccomponents : Cal P w K mg base (k + 3) "components" ["house", "rooms"] (spComp K)) (Coccupied_rooms : Cal P w K mg base (k + 3) "occupied_rooms" ["counts"] spOccN) (Ctotal : Cal P w K mg base (k + 3) "total" ["counts", "rooms"] (spTot K)) : FnOk P w K mg base CX0 (k + 4) f fd ["house", "counts", "target"] (spUnb K) := by
  refine F.ok scUnbalancedRegions (fun vs H Q E h => ?_) (fun cdv A outer s H vs Q E hr h => ?_)
  · obtain ⟨h, p, g, n, D, cs, gs, rfl, _⟩ := h
    rfl
  · obtain ⟨h, p, g, n, D, cs, gs, rfl, hH, hF, n0, n1, e, eg, lc, lg, q⟩ := h
    refine ⟨_, (pss_cons (ps_set (i := 3) scUnbalancedRegions.nd rfl (.inl rfl) (pe_cal Ccomponents hr (by rfl) (pa_cons (pv 0) (pa_cons (pe_cal Coccupied_rooms hr (by rfl) (pa_cons (pv 1) pa_nil)) pa_nil))))
      (pss_one (ps_ret (pe_lc (own := [("region", 4)]) (g := gName 4) (by rfl) scUnbalancedRegions.nd (pi_tupK K rfl (pv 3))
 (blkOk_by (own := [("region", 4)]) (N := nUnbalancedRegions) (sc := defScope sUnbalancedRegions) (by decide +kernel))
 (fun _ _ _ _ _ => (pg_name (i := 4) scUnbalancedRegions.nd rfl (.inl rfl))) (fun _ _ _ _ _ => pts_one (pt_cmpR op_ne (pe_cal Ctotal hr (by rfl) (pa_cons (pv 1) (pa_cons (pv 4) pa_nil))) (pe_cal Ctotal hr (by rfl) (pa_cons (pv 2) (pa_cons (pv 4) pa_nil))) (nomark _))) (fun _ _ _ _ _ => (pv 4)))))), ?_⟩
    refine ⟨_, rfl, _, rfl, p, cs, rfl, e, by omega, fun H1 o s1 eo => ?_⟩
    refine ⟨h, o, n, D, _, rfl, hH.same s1, hF, n0, n1, eo, occN_up _ _, by have := occN_len cs cs.length; omega, fun H2 t Cs s2 a1 a2 a3 a4 a5 => ?_⟩
    have s12 := s1.trans s2
    have rg : Regs D (occN cs cs.length) (Cs.map (·.2)) := ⟨a3, a4⟩
    have inr : ∀ c ∈ Cs, ∀ r ∈ c.2, 0 ≤ r ∧ r < (cs.length : Nat) := fun c hc r hr' => by
      have := (rg.has (List.mem_map_of_mem (f := (·.2)) hc) hr').1
      have := mem_occN.mp this
      exact ⟨this.1, this.2.1⟩
    refine ⟨_, rfl, t, rfl, ⟨_, SqT.of a1⟩, fun L hL => lc_tup (K := K) (a := t) (xs := refs Cs) (fun i H3 => Same H2 H3 ∧ H3 L = some (.lst (refs (unb cs gs (Cs.take i))))) ⟨same_upd hL, upd_same⟩ (fun i H3 _ hh => SqT.of (hh.1 _ _ a1)) ?_ ?_⟩
    · rintro i x H3 hx ⟨s3, e3⟩
      obtain ⟨c, hc, rfl⟩ := get_refs hx
      have mc := List.mem_of_getElem? hc
      have hi := lt_of_get hc
      have ec := s3 _ _ (a2 c mc).1
      refine ⟨rfl, _, rfl, _, rfl, p, c.1, cs, c.2, rfl, (s12.trans s3) _ _ e, ec, inr c mc, by have := (a2 c mc).2; omega, fun H4 s4 => ?_⟩
      refine ⟨_, rfl, _, rfl, g, c.1, gs, c.2, rfl, ((s12.trans s3).trans s4) _ _ eg, s4 _ _ ec, fun r hr' => by have := inr c mc r hr'; omega, by have := (a2 c mc).2; omega, fun H5 s5 => ⟨rfl, _, rfl, ?_⟩⟩
      rw [unb_snoc hc]
      have s45 := s4.trans s5
      by_cases k : tot cs c.2 = tot gs c.2
      · rw [if_pos k, List.append_nil]
        exact iteNS (by rw [k]) ⟨s3.trans s45, s45 _ _ e3⟩
      · rw [if_neg k]
        refine iteT' (by rw [decide_eq_false fun z => k (V.int.inj z)]; rfl) ⟨_, rfl, _, s45 _ _ e3, ?_, same_put (s3.trans s45) hL, ?_⟩
        · unfold refs unb
          rw [List.length_map]
          refine small1000 (Nat.le_trans (List.length_filter_le _ _) ?_)
          rw [List.length_take]
          omega
        · rw [upd_same]
          unfold refs
          rw [List.map_append]
          rfl
    · rintro H3 ⟨s3, e3⟩
      have : (refs Cs).length = Cs.length := by unfold refs; rw [List.length_map]
      rw [this, List.take_length] at e3
      exact q _ L Cs (s12.trans s3) rg (a2.same s3) a5 e3
/-- the blocks, as the law tells them -/
def blks (cs gs : List Int) (n : Nat) (Ls : List (List Int)) : List (Str × Int) := (wntN cs gs n).map (fun r => (Str.ofString "empty", r)) ++ (Ls.filter fun l => !decide (tot cs l = tot gs l)).map fun l => (Str.ofString "unbalanced", l.headD 0)
theorem unb_map (cs gs : List Int) (Cs : List (Addr × List Int)) : (unb cs gs Cs).map (·.2) = (Cs.map (·.2)).filter fun l => !decide (tot cs l = tot gs l) := by
  unfold unb
  rw [List.filter_map]
  rfl
def spFCB (K : PySem.W.Frag) : Sp := fun vs H Q _ => ∃ (h p g : Addr) (n : Int) (D : List (Int × Int)) (cs gs : List Int), vs = [.ref h, .ref p, .ref g] ∧ HouseAt H h n D ∧ Forest n D ∧ 0 ≤ n ∧ n ≤ 8 ∧ H p = some (.tup (vi cs)) ∧ H g = some (.tup (vi gs)) ∧ cs.length = n.toNat ∧ gs.length = n.toNat ∧
  ∀ H' v, Same H H' → (∀ Ls, Regs D (occN cs cs.length) Ls → match blks cs gs cs.length Ls with | [] => v = V.non | x :: _ => ∃ t, v = .ref t ∧ H' t = some (.tup [.str x.1, .int x.2])) → Q v H'
abbrev nFindCountBlock : List Str := ["house", "counts", "target", "empty", "unbalanced"]
theorem scFindCountBlock : FnScope nFindCountBlock ["house", "counts", "target"] (defScope sFindCountBlock) := ⟨rfl, rfl, rfl, by decide +kernel, rfl, by decide +kernel, by decide +kernel⟩
theorem ok_fcb {f : Addr} {fd : FuncData} {k : Nat} (F : Fun K "find_count_block" "find_count_block" sFindCountBlock f fd) (Cempty_wanted_rooms : Cal P w K mg base (k + 4) "empty_wanted_rooms" ["counts", "target"] spWnt) (Cunbalanced_regions : Cal P w K mg base (k + 4) "unbalanced_regions" ["house", "counts", "target"] (spUnb K)) : FnOk P w K mg base CX0 (k + 5) f fd ["house", "counts", "target"] (spFCB K) := by
  refine F.ok scFindCountBlock (fun vs H Q E h => ?_) (fun cdv A outer s H vs Q E hr h => ?_)
  · obtain ⟨h, p, g, n, D, cs, gs, rfl, _⟩ := h
    rfl
  · obtain ⟨h, p, g, n, D, cs, gs, rfl, hH, hF, n0, n1, e, eg, lc, lg, q⟩ := h
    refine ⟨_, (pss_cons (ps_set (i := 3) scFindCountBlock.nd rfl (.inl rfl) (pe_cal Cempty_wanted_rooms hr (by rfl) (pa_cons (pv 1) (pa_cons (pv 2) pa_nil))))
      (pss_cons (ps_if (pt_truthK K rfl (pv 3) (by intro _; rfl))
      (pss_one (ps_ret (pe_tup (pa_cons pe_str (pa_cons (pe_ix (ix_listK K rfl) (pv 3) pe_int (fun _ _ => rfl)) pa_nil)))))
      pss_nil)
      (pss_cons (ps_set (i := 4) scFindCountBlock.nd rfl (.inl rfl) (pe_cal Cunbalanced_regions hr (by rfl) (pa_cons (pv 0) (pa_cons (pv 1) (pa_cons (pv 2) pa_nil)))))
      (pss_cons (ps_if (pt_truthK K rfl (pv 4) (by intro _; rfl))
      (pss_one (ps_ret (pe_tup (pa_cons pe_str (pa_cons (pe_ix (ix_tupK K rfl) (pe_ix (ix_listK K rfl) (pv 4) pe_int (fun _ _ => rfl)) pe_int (fun _ _ => rfl)) pa_nil)))))
      pss_nil)
      (pss_one (ps_ret pe_non)))))), ?_⟩
    refine ⟨_, rfl, _, rfl, p, g, cs, gs, rfl, e, eg, by omega, by omega, fun H1 t s1 et => ?_⟩
    refine ⟨_, rfl, _, .inl ⟨_, SqL.of et, rfl⟩, ?_⟩
    cases ew : wntN cs gs cs.length with
    | cons r rs =>
      rw [ew] at et
      refine iteT ⟨_, rfl, t, _, _, _, rfl, rfl, SqL.of et, atI0, by show 2 ≤ sizeLine; decide, fun u hu => ?_⟩
      refine q _ _ (s1.trans (same_upd hu)) fun Ls _ => ?_
      unfold blks
      rw [ew]
      exact ⟨u, rfl, upd_same⟩
    | nil =>
      refine iteF ⟨_, rfl, _, rfl, _, rfl, h, p, g, n, D, cs, gs, rfl, hH.same s1, hF, n0, n1, s1 _ _ e, s1 _ _ eg, lc, lg, fun H2 u Cs s2 rg ta l8 eu => ?_⟩
      refine ⟨_, rfl, _, .inl ⟨_, SqL.of eu, rfl⟩, ?_⟩
      have eb : blks cs gs cs.length (Cs.map (·.2)) = (unb cs gs Cs).map fun c => (Str.ofString "unbalanced", c.2.headD 0) := by
        unfold blks
        rw [ew, ← unb_map, List.map_map]
        rfl
      cases eun : unb cs gs Cs with
      | nil =>
        rw [eun] at eb
        refine iteF (q _ _ (s1.trans s2) fun Ls rg' => ?_)
        rw [rg'.uniq rg]
        rw [eb]
        rfl
      | cons c r =>
        rw [eun] at eu eb
        have mc : c ∈ Cs := by
          have : c ∈ unb cs gs Cs := by rw [eun]; exact List.mem_cons_self
          exact (List.mem_filter.mp this).1
        have ec := (ta c mc).1
        have hd : ∃ y ys, c.2 = y :: ys := by
          obtain ⟨r0, hr0, ic⟩ := (rg.mem c.2).mp (List.mem_map_of_mem (f := (·.2)) mc)
          have := ic.has
          cases e2 : c.2 with
          | nil => rw [e2] at this; cases this
          | cons y ys => exact ⟨y, ys, rfl⟩
        obtain ⟨y, ys, e2⟩ := hd
        rw [e2] at ec
        refine iteT ⟨_, rfl, u, _, _, _, rfl, rfl, SqL.of eu, atI0, c.1, _, _, _, rfl, rfl, SqT.of ec, atI0, by show 2 ≤ sizeLine; decide, fun v hv => ?_⟩
        refine q _ _ ((s1.trans s2).trans (same_upd hv)) fun Ls rg' => ?_
        rw [rg'.uniq rg]
        rw [eb]
        refine ⟨v, rfl, ?_⟩
        show (upd H2 v _) v = _
        rw [upd_same]
        show some (HO.tup [_, V.int y]) = some (HO.tup [_, V.int (c.2.headD 0)])
        rw [e2]
        rfl
end
end Fw
set_option maxHeartbeats 2000000
namespace Fw
open PySem PySem.Spec PyProof.Rows L2
/-! blocks of any value -/
/-- is it this text -/
def isTx (z : Str) : PyData → Bool
  | .str y => y == z
  | _ => false
def noDict : PyData → Bool
  | .dict _ => false
  | _ => true
section
variable {X : Cx} {av : List Addr}
/-- any value but a dict == text -/
def rEqTx (K : PySem.W.Frag) : R2 := fun x y H Q => ∃ z d, y = .str z ∧ Dx K [] H x d ∧ noDict d = true ∧ Q (.bl (isTx z d)) H
theorem op_eqTx {K : PySem.W.Frag} (hK : X.K = K) (hu : X.A.units + 64 < cLine) : OpR X (compareOp .Eq) (rEqTx K) := by
  subst hK
  replace hu : X.A.units < cLine := by omega
  rintro pins s σ H x _ v u Q I rx ry ⟨z, d, rfl, h, nd, q⟩
  obtain ⟨t, rfl⟩ := ry
  have fin : ∀ {x : Value} {b : Bool}, SeqAt.RcAt X.A s x (.str z t) b → Q (.bl b) H → wpAny (model X.prog X.w) X.A (compareOp .Eq x (.str z t)) (EP X pins σ Q) X.xe s := fun {x b} k q => k X.prog X.w X.xe _ ⟨.bl b, H, I, rfl, q⟩
  cases h with
  | non => cases rx; exact fin (SeqAt.RcAt.none_str z t) q
  | bl b => cases rx; exact fin (SeqAt.RcAt.bool_str b z t) q
  | int i => obtain ⟨u, rfl⟩ := rx; exact fin (SeqAt.RcAt.int_str i u z t) q
  | str y => obtain ⟨u, rfl⟩ := rx; exact fin (SeqAt.RcAt.str_str y u z t) q
  | lst h _ _ =>
    cases rx
    obtain ⟨its, _, pl, _⟩ := I.list h
    exact fin (SeqAt.RcAt.list_str z t pl.isList hu) q
  | tup h _ =>
    cases rx
    obtain ⟨its, _, pl, _⟩ := I.tuple h
    exact fin (SeqAt.RcAt.tuple_str z t pl hu) q
  | dct e => cases nd
end
/-- the rooms that stand in unbalanced blocks -/
def unR (cs gs : List Int) (Ls : List (List Int)) : List Int := (Ls.filter fun l => !decide (tot cs l = tot gs l)).map fun l => l.headD 0
def icb (n : Int) (cs gs : List Int) (Ls : List (List Int)) : PyData → Bool
  | .tuple [w, .int r] => decide (0 ≤ r ∧ r < n) && if isTx "empty" w then decide (r ∈ wntN cs gs cs.length) else isTx "unbalanced" w && decide (r ∈ unR cs gs Ls)
  | _ => false
def wordOk : PyData → Bool
  | .tuple [w, .int _] => noDict w
  | _ => true
theorem icb_no {n : Int} {cs gs : List Int} {Ls : List (List Int)} {d : PyData} (h : isPr d = false) : icb n cs gs Ls d = false := by
  unfold icb
  split
  · cases h
  · rfl
theorem icb_noR {n : Int} {cs gs : List Int} {Ls : List (List Int)} {x y : PyData} (h : isRm n y = false) : icb n cs gs Ls (.tuple [x, y]) = false := by
  cases y with
  | int r =>
    have : decide (0 ≤ r ∧ r < n) = false := h
    show (decide (0 ≤ r ∧ r < n) && _) = false
    rw [this]
    rfl
  | _ => rfl
section
variable {P : Program} {w : World} {K : PySem.W.Frag} {mg : Str → Option Value} {base : Heap}
def spICB (K : PySem.W.Frag) : Sp := fun vs H Q _ => ∃ (h p g : Addr) (n : Int) (D : List (Int × Int)) (cs gs : List Int) (v : V) (d : PyData), vs = [.ref h, .ref p, .ref g, v] ∧ HouseAt H h n D ∧ Forest n D ∧ 0 ≤ n ∧ n ≤ 8 ∧ H p = some (.tup (vi cs)) ∧ H g = some (.tup (vi gs)) ∧ cs.length = n.toNat ∧ gs.length = n.toNat ∧ Dx K [] H v d ∧ wordOk d = true ∧
  ∀ H' b, Same H H' → (∀ Ls, Regs D (occN cs cs.length) Ls → b = icb n cs gs Ls d) → Q (.bl b) H'
abbrev nIsCountBlock : List Str := ["house", "counts", "target", "value", "word", "room", "region"]
theorem scIsCountBlock : FnScope nIsCountBlock ["house", "counts", "target", "value"] (defScope sIsCountBlock) := ⟨rfl, rfl, rfl, by decide +kernel, rfl, by decide +kernel, by decide +kernel⟩
theorem ok_icb {f : Addr} {fd : FuncData} {k : Nat} (F : Fun K "is_count_block" "is_count_block" sIsCountBlock f fd) (Cis_pair : Cal P w K mg base (k + 4) "is_pair" pIsInt (spIsPairA K)) (Cis_room : Cal P w K mg base (k + 4) "is_room" pIsRoom (spIsRoomA K)) (Cempty_wanted_rooms : Cal P w K mg base (k + 4) "empty_wanted_rooms" ["counts", "target"] spWnt) (Cunbalanced_regions : Cal P w K mg base (k + 4) "unbalanced_regions" ["house", "counts", "target"] (spUnb K)) : FnOk P w K mg base CX0 (k + 5) f fd ["house", "counts", "target", "value"] (spICB K) := by
  refine F.ok scIsCountBlock (fun vs H Q E h => ?_) (fun cdv A outer s H vs Q E hr h => ?_)
  · obtain ⟨h, p, g, n, D, cs, gs, v, d, rfl, _⟩ := h
    rfl
  · obtain ⟨h, p, g, n, D, cs, gs, v, d, rfl, hH, hF, n0, n1, e, eg, lc, lg, hd, wo, q⟩ := h
    refine ⟨_, (pss_cons (ps_if (pt_not (pt_val (pe_cal Cis_pair hr (by rfl) (pa_cons (pv 3) pa_nil))))
      (pss_one (ps_ret pe_bl))
      pss_nil)
      (pss_cons (ps_asg (pv 3) (pg_tup (by rfl) (pgs_cons (pg_name (i := 4) scIsCountBlock.nd rfl (.inl rfl)) (pgs_cons (pg_name (i := 5) scIsCountBlock.nd rfl (.inl rfl)) pgs_nil))))
      (pss_cons (ps_if (pt_not (pt_val (pe_cal Cis_room hr (by rfl) (pa_cons (pv 0) (pa_cons (pv 5) pa_nil)))))
      (pss_one (ps_ret pe_bl))
      pss_nil)
      (pss_cons (ps_if (pt_cmpR (op_eqTx (K := K) rfl hr.units) (pv 4) pe_str (nomark _))
      (pss_one (ps_ret (pe_cmpR (op_inK K rfl) (pv 5) (pe_cal Cempty_wanted_rooms hr (by rfl) (pa_cons (pv 1) (pa_cons (pv 2) pa_nil))) (by rfl))))
      pss_nil)
      (pss_one (ps_ret (pe_and (pe_cmpR (op_eqTx (K := K) rfl hr.units) (pv 4) pe_str (nomark _)) (pe_one (pe_cmpR (op_inK K rfl) (pv 5) (pe_lc (own := [("region", 6)]) (g := gName 6) (by rfl) scIsCountBlock.nd (pi_listK K rfl (pe_cal Cunbalanced_regions hr (by rfl) (pa_cons (pv 0) (pa_cons (pv 1) (pa_cons (pv 2) pa_nil)))))
 (blkOk_by (own := [("region", 6)]) (N := nIsCountBlock) (sc := defScope sIsCountBlock) (by decide +kernel))
 (fun _ _ _ _ _ => (pg_name (i := 6) scIsCountBlock.nd rfl (.inl rfl))) (fun _ _ _ _ _ => pts_nil) (fun _ _ _ _ _ => (pe_ix (ix_tupK K rfl) (pv 6) pe_int (fun _ _ => rfl)))) (by rfl)))))))))), ?_⟩
    refine ⟨_, rfl, v, d, rfl, hd, _, rfl, ?_⟩
    cases ep : isPr d with
    | false => exact iteT (q _ _ (Same.refl _) fun Ls _ => (icb_no ep).symm)
    | true =>
      cases hd with
      | @tup a xs ds sq da =>
        have l2 : ds.length = 2 := of_decide_eq_true ep
        obtain ⟨dx, dy, rfl⟩ : ∃ dx dy, ds = [dx, dy] := by
          match ds, l2 with
          | [dx, dy], _ => exact ⟨dx, dy, rfl⟩
        obtain ⟨x, y, rfl, hx, hy⟩ : ∃ x y, xs = [x, y] ∧ Dx K [] H x dx ∧ Dx K [] H y dy := by
          cases da with
          | cons hx t =>
            cases t with
            | cons hy t =>
              cases t
              exact ⟨_, _, rfl, hx, hy⟩
        refine iteF ⟨_, rfl, a, _, rfl, sq, rfl, _, _, rfl, _, _, rfl, rfl, ?_⟩
        refine ⟨_, rfl, _, rfl, h, n, D, y, dy, rfl, hH, hy, _, rfl, ?_⟩
        cases er : isRm n dy with
        | false => exact iteT (q _ _ (Same.refl _) fun Ls _ => (icb_noR er).symm)
        | true =>
          cases hy with
          | int r =>
            have rr : decide (0 ≤ r ∧ r < n) = true := er
            have nd : noDict dx = true := wo
            have ei : ∀ Ls, icb n cs gs Ls (.tuple [dx, .int r]) = if isTx "empty" dx then decide (r ∈ wntN cs gs cs.length) else isTx "unbalanced" dx && decide (r ∈ unR cs gs Ls) := fun Ls => by
              show (decide (0 ≤ r ∧ r < n) && _) = _
              rw [rr]
              rfl
            refine iteF ⟨_, rfl, _, dx, rfl, hx, nd, ?_⟩
            cases ee : isTx "empty" dx with
            | true =>
              refine ⟨_, rfl, iteT ⟨_, rfl, _, rfl, _, rfl, p, g, cs, gs, rfl, e, eg, by omega, by omega, fun H1 t s1 et => ?_⟩⟩
              refine ⟨t, _, rfl, .inl (SqL.of et), rfl, by rw [List.all_eq_true]; intro z hz; obtain ⟨i, _, rfl⟩ := List.mem_map.mp hz; rfl, ?_⟩
              rw [if_neg (by decide), inV_vi]
              exact q _ _ s1 fun Ls _ => by rw [ei, ee]; rfl
            | false =>
              refine ⟨_, rfl, iteF ⟨_, rfl, _, dx, rfl, hx, nd, _, rfl, ?_⟩⟩
              cases eu : isTx "unbalanced" dx with
              | false => exact iteF (q _ _ (Same.refl _) fun Ls _ => by rw [ei, ee, eu]; rfl)
              | true =>
                refine iteT ⟨_, rfl, _, rfl, _, rfl, _, rfl, h, p, g, n, D, cs, gs, rfl, hH, hF, n0, n1, e, eg, lc, lg, fun H2 u Cs s2 rg ta l8 eu2 => ?_⟩
                have lu : (unb cs gs Cs).length ≤ 8 := Nat.le_trans (List.length_filter_le _ _) l8
                refine ⟨u, rfl, ⟨_, SqL.of eu2⟩, fun L hL => lc_list (K := K) (a := u) (xs := refs (unb cs gs Cs)) (fun i H3 => Same H2 H3 ∧ H3 L = some (.lst (vi (((unb cs gs Cs).take i).map fun c => c.2.headD 0)))) ⟨same_upd hL, upd_same⟩ (fun i H3 _ hh => SqL.of (hh.1 _ _ eu2)) ?_ ?_⟩
                · rintro i x H3 hx' ⟨s3, e3⟩
                  obtain ⟨c, hc, rfl⟩ := get_refs hx'
                  have hi := lt_of_get hc
                  have mc : c ∈ Cs := (List.mem_filter.mp (List.mem_of_getElem? hc)).1
                  have ec := s3 _ _ (ta c mc).1
                  obtain ⟨y, ys, e2⟩ : ∃ y ys, c.2 = y :: ys := by
                    obtain ⟨r0, hr0, ic⟩ := (rg.mem c.2).mp (List.mem_map_of_mem (f := (·.2)) mc)
                    have := ic.has
                    cases e2 : c.2 with
                    | nil => rw [e2] at this; cases this
                    | cons y ys => exact ⟨y, ys, rfl⟩
                  rw [e2] at ec
                  refine ⟨rfl, ?_⟩
                  unfold tYes
                  refine iteT ⟨_, rfl, c.1, _, _, _, rfl, rfl, SqT.of ec, atI0, _, e3, ?_, same_put s3 hL, ?_⟩
                  · rw [List.length_map, List.length_map, List.length_take]
                    exact small1000 (by omega)
                  · rw [upd_same, take_snoc hc, List.map_append, vi_app, List.map_cons, e2]
                    rfl
                · rintro H3 ⟨s3, e3⟩
                  have : (refs (unb cs gs Cs)).length = (unb cs gs Cs).length := by unfold refs; rw [List.length_map]
                  rw [this, List.take_length] at e3
                  refine ⟨L, _, rfl, .inl (SqL.of e3), rfl, by rw [List.all_eq_true]; intro z hz; obtain ⟨i, _, rfl⟩ := List.mem_map.mp hz; rfl, ?_⟩
                  rw [if_neg (by decide), inV_vi]
                  refine q _ _ (s2.trans s3) fun Ls rg' => ?_
                  rw [ei, ee, eu, rg'.uniq rg]
                  show _ = decide (r ∈ unR cs gs (Cs.map (·.2)))
                  unfold unR
                  rw [← unb_map, List.map_map]
                  rfl
          | _ => cases er
      | _ => cases ep
end
end Fw
set_option maxHeartbeats 2000000
namespace Fw
open PySem PySem.Spec PyProof.Rows L2
/-! the law's blocks -/
abbrev rws (ps : List (Addr × Str × Int)) : List V := ps.map fun q => V.ref q.1
def RowsAt (H : Hp) (ps : List (Addr × Str × Int)) : Prop := ∀ q ∈ ps, H q.1 = some (.tup [.str q.2.1, .int q.2.2])
theorem RowsAt.same {H H' : Hp} {ps : List (Addr × Str × Int)} (h : RowsAt H ps) (e : Same H H') : RowsAt H' ps := fun q hq => e _ _ (h q hq)
theorem RowsAt.put {H : Hp} {ps : List (Addr × Str × Int)} (h : RowsAt H ps) {L : Addr} {xs ys : List V} (e : H L = some (.lst xs)) : RowsAt (upd H L (.lst ys)) ps := fun q hq => (upd_ne (ne_of (h q hq) e (by intro z; cases z))).trans (h q hq)
theorem RowsAt.snoc {H : Hp} {ps : List (Addr × Str × Int)} (h : RowsAt H ps) {a : Addr} {z : Str} {r : Int} (e : H a = some (.tup [.str z, .int r])) : RowsAt H (ps ++ [(a, z, r)]) := fun q hq => by
  rcases List.mem_append.mp hq with hq | hq
  · exact h q hq
  · rw [List.mem_singleton.mp hq]; exact e
theorem tot_sub (cs gs : List Int) : ∀ l : List Int, (l.map fun r => at0 cs r.toNat - at0 gs r.toNat).sum = tot cs l - tot gs l
  | [] => rfl
  | r :: l => by
    have ih := tot_sub cs gs l
    unfold tot at ih ⊢
    simp only [List.map_cons, List.sum_cons]
    omega
theorem blks_len {D : List (Int × Int)} {cs gs : List Int} {Ls : List (List Int)} (h : Regs D (occN cs cs.length) Ls) (l : cs.length ≤ 8) : (blks cs gs cs.length Ls).length ≤ 16 := by
  have h1 := h.total (occN_up cs cs.length)
  have h2 := occN_len cs cs.length
  have h4 := sum_ge Ls fun C hC => by
    obtain ⟨r, hr', ic⟩ := (h.mem C).mp hC
    exact List.length_pos_of_mem ic.has
  unfold blks
  rw [List.length_append, List.length_map, List.length_map]
  have h5 := wntN_len cs gs cs.length
  have h6 := List.length_filter_le (fun l => !decide (tot cs l = tot gs l)) Ls
  omega
section
variable {P : Program} {w : World} {K : PySem.W.Frag} {mg : Str → Option Value} {base : Heap}
end
end Fw
set_option maxHeartbeats 4000000
namespace Fw
open PySem PySem.Spec PyProof.Rows L2
/-! drawn counts -/
structure Bd (n : Int) (cs : List Int) : Prop where
  len : cs.length = n.toNat
  bd : ∀ c ∈ cs, 0 ≤ c ∧ c ≤ 10 ^ 12
theorem Bd.at {n : Int} {cs : List Int} (h : Bd n cs) {r : Int} (r0 : 0 ≤ r) (r1 : r < n) : 0 ≤ at0 cs r.toNat ∧ at0 cs r.toNat ≤ 10 ^ 12 := by
  have lt : r.toNat < cs.length := by have := h.len; omega
  unfold at0
  rw [List.getD_eq_getElem?_getD, List.getElem?_eq_getElem lt]
  exact h.bd _ (List.getElem_mem lt)
theorem Bd.ix {n : Int} {cs : List Int} (h : Bd n cs) {r : Int} (r0 : 0 ≤ r) (r1 : r < n) : atI (vi cs) r = some (.int (at0 cs r.toNat)) := at0_ix r0 (by have := h.len; omega)
theorem Bd.set {n : Int} {cs : List Int} (h : Bd n cs) (j : Nat) {v : Int} (v0 : 0 ≤ v) (v1 : v ≤ 10 ^ 12) : Bd n (cs.set j v) := by
  refine ⟨by rw [List.length_set]; exact h.len, fun c hc => ?_⟩
  rcases List.mem_or_eq_of_mem_set hc with hc | hc
  · exact h.bd c hc
  · rw [hc]; exact ⟨v0, v1⟩
theorem Bd.rot {n : Int} {cs : List Int} (h : Bd n cs) (i : Nat) : Bd n (cs.drop i ++ cs.take i) := by
  refine ⟨?_, fun c hc => ?_⟩
  · rw [List.length_append, List.length_drop, List.length_take]
    have := h.len
    omega
  · rcases List.mem_append.mp hc with hc | hc
    · exact h.bd c (List.mem_of_mem_drop hc)
    · exact h.bd c (List.mem_of_mem_take hc)
theorem ix_ok {k : Nat} {x : Int} (h0 : 0 ≤ x) (h1 : x < k) : ixN k x = some x.toNat := by
  unfold ixN
  rw [if_pos h0, if_pos h1]
theorem Bd.ixn {n : Int} {cs : List Int} (h : Bd n cs) {r : Int} (r0 : 0 ≤ r) (r1 : r < n) : ixN (vi cs).length r = some r.toNat := ix_ok r0 (by rw [List.length_map]; have := h.len; omega)
theorem vi_set (cs : List Int) (j : Nat) (v : Int) : (vi cs).set j (.int v) = vi (cs.set j v) := by
  unfold vi
  rw [List.map_set]
theorem at0_set {cs : List Int} {i j : Nat} {v : Int} (hj : j < cs.length) : at0 (cs.set i v) j = if i = j then v else at0 cs j := by
  unfold at0
  rw [List.getD_eq_getElem?_getD, List.getD_eq_getElem?_getD, List.getElem?_set]
  by_cases h : i = j
  · subst h
    rw [if_pos rfl, if_pos rfl, if_pos hj]
    rfl
  · rw [if_neg h, if_neg h]
theorem five {x : Int} (h0 : 0 ≤ x) (h1 : x < 5) : ∃ y : Int, atI [V.int 0, V.int 1, V.int 1, V.int 2, V.int 3] x = some (.int y) ∧ 0 ≤ y ∧ y ≤ 3 := by
  obtain rfl | rfl | rfl | rfl | rfl : x = 0 ∨ x = 1 ∨ x = 2 ∨ x = 3 ∨ x = 4 := by omega
  · exact ⟨0, rfl, by decide, by decide⟩
  · exact ⟨1, rfl, by decide, by decide⟩
  · exact ⟨1, rfl, by decide, by decide⟩
  · exact ⟨2, rfl, by decide, by decide⟩
  · exact ⟨3, rfl, by decide, by decide⟩
theorem four {x g d : Int} (h0 : 0 ≤ x) (h1 : x < 4) (g0 : 0 ≤ g) (d0 : 0 ≤ d) (d1 : d ≤ g) : ∃ y : Int, atI [V.int g, V.int (g.fdiv 2), V.int (if 1 < g then 1 else g), V.int d] x = some (.int y) ∧ 0 ≤ y ∧ y ≤ g := by
  obtain rfl | rfl | rfl | rfl : x = 0 ∨ x = 1 ∨ x = 2 ∨ x = 3 := by omega
  · exact ⟨g, rfl, g0, by omega⟩
  · refine ⟨_, rfl, ?_⟩
    rw [Int.fdiv_eq_ediv_of_nonneg _ (by decide)]
    omega
  · refine ⟨_, rfl, ?_⟩
    split <;> omega
  · exact ⟨d, rfl, d0, d1⟩
section
variable {P : Program} {w : World} {K : PySem.W.Frag} {mg : Str → Option Value} {base : Heap}
end
end Fw
set_option maxHeartbeats 4000000
namespace Fw
open PySem PySem.Spec PyProof.Rows L2
/-! a house, counts and a target, shown -/
theorem gd_num {i : Int} (h0 : 0 ≤ i) (h1 : i ≤ 10 ^ 12) : Gd 0 0 0 (.int i) := by
  refine ⟨?_, ?_, ?_⟩
  · show decide (i.natAbs ≤ 10 ^ 59 + 0) = true
    refine decide_eq_true (Nat.le_trans (show i.natAbs ≤ 10 ^ 12 by omega) (by decide))
  · simp [PyData.depth]
  · simp [PyData.bulk]
theorem gd_nums : ∀ {cs : List Int}, (∀ c ∈ cs, 0 ≤ c ∧ c ≤ 10 ^ 12) → GdA 0 0 cs.length (cs.map PyData.int)
  | [], _ => GdA.nil
  | c :: cs, h => by
    have h1 := h c List.mem_cons_self
    exact (GdA.cons (gd_num h1.1 h1.2) (gd_nums fun x hx => h x (List.mem_cons_of_mem _ hx))).up (Nat.le_refl _) (Nat.le_refl _) (by rw [List.length_cons]; omega)
theorem gd_pds : ∀ {D : List (Int × Int)}, (∀ d ∈ D, 0 ≤ d.1 ∧ d.1 ≤ 100 ∧ 0 ≤ d.2 ∧ d.2 ≤ 100) → GdA 0 1 (3 * D.length) (D.map pd)
  | [], _ => GdA.nil.up (Nat.le_refl _) (Nat.zero_le _) (Nat.zero_le _)
  | d :: D, h => by
    have h1 := h d List.mem_cons_self
    have a : Gd 0 1 2 (pd d) := Gd.tup (GdA.cons (gd_num h1.1 (by omega)) (GdA.cons (gd_num h1.2.2.1 (by omega)) (GdA.nil (n := 0))))
    exact (GdA.cons a (gd_pds fun x hx => h x (List.mem_cons_of_mem _ hx))).up (Nat.le_refl _) (Nat.le_refl _) (by rw [List.length_cons]; omega)
def hcg (n : Int) (D : List (Int × Int)) (cs gs : List Int) : PyData := .tuple [hd n D, .tuple (cs.map PyData.int), .tuple (gs.map PyData.int)]
theorem hcg_gd {n : Int} {D : List (Int × Int)} {cs gs : List Int} (f : Forest n D) (n0 : 0 ≤ n) (n1 : n ≤ 8) (hc : Bd n cs) (hg : Bd n gs) : Gd 0 4 200 (hcg n D cs gs) := by
  have h : ∀ d ∈ D, 0 ≤ d.1 ∧ d.1 ≤ 100 ∧ 0 ≤ d.2 ∧ d.2 ≤ 100 := fun d hd => by
    have := f.ends (a := d.1) (b := d.2) hd
    omega
  have hl : D.length ≤ 8 := f.len
  have a := (Gd.tup (gd_pds h))
  have b : Gd 0 3 _ (hd n D) := Gd.tup (GdA.cons ((gd_num n0 (by omega)).up (Nat.le_refl 0) (Nat.zero_le 2) (Nat.le_refl 0)) (GdA.cons a (GdA.nil (n := 0))))
  have lc := hc.len
  have lg := hg.len
  have c := (Gd.tup (gd_nums hc.bd)).up (Nat.le_refl 0) (show 1 ≤ 3 by omega) (Nat.le_refl _)
  have d := (Gd.tup (gd_nums hg.bd)).up (Nat.le_refl 0) (show 1 ≤ 3 by omega) (Nat.le_refl _)
  exact (Gd.tup (GdA.cons b (GdA.cons c (GdA.cons d (GdA.nil (n := 0)))))).up (Nat.le_refl _) (Nat.le_refl _) (by omega)
theorem dxA_pds {K : PySem.W.Frag} {H : Hp} : ∀ {ps : List (Addr × Int × Int)}, (∀ p ∈ ps, H p.1 = some (.tup [.int p.2.1, .int p.2.2])) → DxAll K [] H (ps.map fun p => V.ref p.1) ((ps.map (·.2)).map pd)
  | [], _ => .nil
  | p :: ps, h => .cons (.tup (SqT.of (h p List.mem_cons_self)) (.cons (.int _) (.cons (.int _) .nil))) (dxA_pds fun x hx => h x (List.mem_cons_of_mem _ hx))
theorem dxA_nums {K : PySem.W.Frag} {H : Hp} : ∀ {cs : List Int}, DxAll K [] H (vi cs) (cs.map PyData.int)
  | [] => .nil
  | _ :: _ => .cons (.int _) dxA_nums
theorem hcg_dx {K : PySem.W.Frag} {H : Hp} {u h p g : Addr} {n : Int} {D : List (Int × Int)} {cs gs : List Int} (e : H u = some (.tup [.ref h, .ref p, .ref g])) (hH : HouseAt H h n D) (ep : H p = some (.tup (vi cs))) (eg : H g = some (.tup (vi gs))) : Dx K [] H (.ref u) (hcg n D cs gs) := by
  obtain ⟨q, ps, h1, h2, rfl, h4⟩ := hH
  exact .tup (SqT.of e) (.cons (.tup (SqT.of h1) (.cons (.int _) (.cons (.tup (SqT.of h2) (dxA_pds h4)) .nil))) (.cons (.tup (SqT.of ep) dxA_nums) (.cons (.tup (SqT.of eg) dxA_nums) .nil)))
theorem three (i : Nat) (hi : i < 6) : ∃ m : Int, atI [V.int 1, V.int 9, V.int (4 * 10 ^ (10 : Int).toNat)] ((0 + (i : Int)).fmod 3) = some (.int m) ∧ 1 ≤ m ∧ m ≤ 40000000000 := by
  match i, hi with
  | 0, _ => exact ⟨1, rfl, by decide, by decide⟩
  | 1, _ => exact ⟨9, rfl, by decide, by decide⟩
  | 2, _ => exact ⟨_, rfl, by decide, by decide⟩
  | 3, _ => exact ⟨1, rfl, by decide, by decide⟩
  | 4, _ => exact ⟨9, rfl, by decide, by decide⟩
  | 5, _ => exact ⟨_, rfl, by decide, by decide⟩
end Fw
set_option maxHeartbeats 4000000
namespace Fw
open PySem PySem.Spec PyProof.Rows L2
/-! counts and a target that can be reached -/
theorem four3 {x g d : Int} (h0 : 0 ≤ x) (h1 : x < 3) (g0 : 0 ≤ g) (d0 : 0 ≤ d) (d1 : d ≤ g) : ∃ y : Int, atI [V.int g, V.int (g.fdiv 2), V.int d] x = some (.int y) ∧ 0 ≤ y ∧ y ≤ g := by
  obtain rfl | rfl | rfl : x = 0 ∨ x = 1 ∨ x = 2 := by omega
  · exact ⟨g, rfl, g0, by omega⟩
  · refine ⟨_, rfl, ?_⟩
    rw [Int.fdiv_eq_ediv_of_nonneg _ (by decide)]
    omega
  · exact ⟨d, rfl, d0, d1⟩
theorem at0_out {cs : List Int} {j : Nat} (h : cs.length ≤ j) : at0 cs j = 0 := by
  unfold at0
  rw [List.getD_eq_getElem?_getD, List.getElem?_eq_none h]
  rfl
theorem at0_other {cs : List Int} {i j : Nat} {v : Int} (h : i ≠ j) : at0 (cs.set i v) j = at0 cs j := by
  unfold at0
  rw [List.getD_eq_getElem?_getD, List.getD_eq_getElem?_getD, List.getElem?_set, if_neg h]
theorem at0_same {cs : List Int} {i : Nat} {v : Int} (h : i < cs.length) : at0 (cs.set i v) i = v := by
  rw [at0_set h, if_pos rfl]
theorem tot_set {gs : List Int} {a : Int} (a0 : 0 ≤ a) (a1 : a < (gs.length : Nat)) (v : Int) : ∀ {l : List Int}, l.Nodup → (∀ r ∈ l, 0 ≤ r) → tot (gs.set a.toNat v) l = tot gs l + if a ∈ l then v - at0 gs a.toNat else 0
  | [], _, _ => by rw [if_neg List.not_mem_nil]; rfl
  | r :: l, hn, hl => by
    have nd := List.nodup_cons.mp hn
    have ih := tot_set a0 a1 v nd.2 fun x hx => hl x (List.mem_cons_of_mem _ hx)
    have r0 := hl r List.mem_cons_self
    have e : ∀ cs : List Int, tot cs (r :: l) = at0 cs r.toNat + tot cs l := fun cs => by unfold tot; rw [List.map_cons, List.sum_cons]
    rw [e, e, ih]
    by_cases h : a = r
    · subst h
      rw [if_neg nd.1, if_pos List.mem_cons_self, at0_same (by omega)]
      omega
    · rw [at0_other (by omega)]
      by_cases k : a ∈ l
      · rw [if_pos k, if_pos (List.mem_cons_of_mem _ k)]
        omega
      · rw [if_neg k, if_neg (by intro z; rcases List.mem_cons.mp z with z | z; exact h z; exact k z)]
        omega
/-- the same totals in each region, nobody where nobody was -/
structure Bal (D : List (Int × Int)) (R : List Int) (cs gs : List Int) : Prop where
  tt : ∀ r ∈ R, ∀ l, IsC D R r l → tot cs l = tot gs l
  zz : ∀ j, at0 cs j = 0 → at0 gs j = 0
theorem Bal.refl (D : List (Int × Int)) (R : List Int) (cs : List Int) : Bal D R cs cs := ⟨fun _ _ _ _ => rfl, fun _ h => h⟩
theorem Bal.step {D : List (Int × Int)} {R cs gs : List Int} {n : Int} (h : Bal D R cs gs) (mR : ∀ r, r ∈ R ↔ 0 ≤ r ∧ r < n ∧ at0 cs r.toNat > 0) (lg : gs.length = n.toNat) {a b m : Int} {l0 : List Int} (ha : a ∈ R) (hC : IsC D R a l0) (hb : b ∈ l0) :
    Bal D R cs ((gs.set a.toNat (at0 gs a.toNat - m)).set b.toNat (at0 (gs.set a.toNat (at0 gs a.toNat - m)) b.toNat + m)) := by
  have ra := (mR a).mp ha
  have hbR := hC.sub ha b hb
  have rb := (mR b).mp hbR
  have hCb := hC.re ha hb
  refine ⟨fun r hr l hl => ?_, fun j hj => ?_⟩
  · have nd : l.Nodup := hl.up.imp fun {x y} h => by omega
    have pos : ∀ x ∈ l, 0 ≤ x := fun x hx => ((mR x).mp (hl.sub hr x hx)).1
    have l2 : (gs.set a.toNat (at0 gs a.toNat - m)).length = gs.length := List.length_set
    rw [tot_set rb.1 (by rw [l2]; omega) _ nd pos, tot_set ra.1 (by omega) _ nd pos, h.tt r hr l hl]
    have iff : a ∈ l ↔ b ∈ l := by
      constructor
      · intro z
        rw [(hl.re hr z).one hC]
        exact hb
      · intro z
        rw [(hl.re hr z).one hCb]
        exact hC.has
    by_cases z : a ∈ l
    · rw [if_pos z, if_pos (iff.mp z)]
      omega
    · rw [if_neg z, if_neg fun y => z (iff.mpr y)]
      omega
  · have na : a.toNat ≠ j := fun e => by rw [e] at ra; omega
    have nb : b.toNat ≠ j := fun e => by rw [e] at rb; omega
    rw [at0_other nb, at0_other na]
    exact h.zz j hj
section
variable {P : Program} {w : World} {K : PySem.W.Frag} {mg : Str → Option Value} {base : Heap}
end
end Fw
set_option maxHeartbeats 4000000
namespace Fw
open PySem PySem.Spec PyProof.Rows L2
/-! net flows -/
theorem up_min {y : Int} {ys : List Int} (h : (y :: ys).Pairwise (· < ·)) : ∀ v ∈ y :: ys, y ≤ v := fun v hv => by
  rcases List.mem_cons.mp hv with e | e
  · omega
  · have := (List.pairwise_cons.mp h).1 v e
    omega
theorem regs_ex (D : List (Int × Int)) {R : List Int} (upR : R.Pairwise (· < ·)) : ∃ Ls, Regs D R Ls := by
  classical
  have ex : ∀ r, ∃ l, r ∈ R → IsC D R r l := fun r => by
    by_cases h : r ∈ R
    · obtain ⟨l, hl⟩ := isC_ex D upR h
      exact ⟨l, fun _ => hl⟩
    · exact ⟨[], fun z => absurd z h⟩
  let C : Int → List Int := fun r => (ex r).choose
  have hC : ∀ r ∈ R, IsC D R r (C r) := fun r hr => (ex r).choose_spec hr
  have hd : ∀ r ∈ R, (∀ v ∈ C r, r ≤ v) → ∃ ys, C r = r :: ys := fun r hr hm => by
    have h1 := (hC r hr).has
    have h2 := (hC r hr).up
    cases e : C r with
    | nil => rw [e] at h1; cases h1
    | cons y ys =>
      rw [e] at h1 h2 hm
      have a := up_min h2 r h1
      have b := hm y List.mem_cons_self
      exact ⟨ys, by rw [show y = r by omega]⟩
  refine ⟨(R.filter fun r => decide (∀ v ∈ C r, r ≤ v)).map C, ?_, fun l => ⟨fun hl => ?_, fun hl => ?_⟩⟩
  · rw [List.pairwise_map]
    refine List.Pairwise.imp_of_mem (R := (· < ·)) (fun {x y} hx hy h => ?_) (upR.filter _)
    obtain ⟨hx1, hx2⟩ := List.mem_filter.mp hx
    obtain ⟨hy1, hy2⟩ := List.mem_filter.mp hy
    obtain ⟨xs, ex⟩ := hd x hx1 (of_decide_eq_true hx2)
    obtain ⟨ys, ey⟩ := hd y hy1 (of_decide_eq_true hy2)
    rw [ex, ey]
    exact lexI_head h
  · obtain ⟨r, hr, rfl⟩ := List.mem_map.mp hl
    have := (List.mem_filter.mp hr).1
    exact ⟨r, this, hC r this⟩
  · obtain ⟨r, hr, ic⟩ := hl
    have h1 := ic.has
    cases e : l with
    | nil => rw [e] at h1; cases h1
    | cons y ys =>
      have my : y ∈ l := by rw [e]; exact List.mem_cons_self
      have yR := ic.sub hr y my
      have icy := ic.re hr my
      have ey := (hC y yR).one icy
      refine List.mem_map.mpr ⟨y, List.mem_filter.mpr ⟨yR, decide_eq_true ?_⟩, by rw [ey, e]⟩
      rw [ey, e]
      have := icy.up
      rw [e] at this
      exact up_min this
def lessD (D : List (Int × Int)) (x : Int × Int) : List (Int × Int) := D.filter fun d => !decide (d = x)
theorem Grown.less {U : List Int} {E : List (Int × Int)} (x : Int × Int) (g : Grown U E) : Grown U (lessD E x) := by
  induction g with
  | nil => exact .nil
  | room v _ n ih => exact .room v ih n
  | @door U E v u a b _ n m c ih =>
    unfold lessD at ih ⊢
    rw [List.filter_cons]
    by_cases h : (a, b) = x
    · rw [decide_eq_true h]
      exact .room v ih n
    · rw [decide_eq_false h]
      exact .door v u a b ih n m c
theorem Forest.less {n : Int} {D : List (Int × Int)} (x : Int × Int) (f : Forest n D) : Forest n (lessD D x) := by
  obtain ⟨U, E, g, hU, p, l, up⟩ := f
  exact ⟨U, lessD E x, g.less x, hU, p.filter _, l, up.filter _⟩
/-- how many more go from a to b -/
def Nf (D : List (Int × Int)) (R cs gs : List Int) (a b f : Int) : Prop := ∃ l, IsC (lessD D (a, b)) R a l ∧ f = tot cs l - tot gs l
theorem Nf.one {D : List (Int × Int)} {R cs gs : List Int} {a b f g : Int} (x : Nf D R cs gs a b f) (y : Nf D R cs gs a b g) : f = g := by
  obtain ⟨l, h1, rfl⟩ := x
  obtain ⟨m, h2, rfl⟩ := y
  rw [h1.one h2]
section
variable {P : Program} {w : World} {K : PySem.W.Frag} {mg : Str → Option Value} {base : Heap}
def spNF (K : PySem.W.Frag) : Sp := fun vs H Q _ => ∃ (h p g : Addr) (n : Int) (D : List (Int × Int)) (cs gs : List Int) (a b : Int), vs = [.ref h, .ref p, .ref g, .int a, .int b] ∧ HouseAt H h n D ∧ Forest n D ∧ 0 ≤ n ∧ n ≤ 8 ∧ H p = some (.tup (vi cs)) ∧ H g = some (.tup (vi gs)) ∧ cs.length = n.toNat ∧ gs.length = n.toNat ∧ a ∈ occN cs cs.length ∧
  ∀ H' f, Same H H' → Nf D (occN cs cs.length) cs gs a b f → Q (.int f) H'
abbrev nNetFlow : List Str := ["house", "counts", "target", "a", "b", "rooms", "doors", "apart", "door", "sides", "side"]
theorem scNetFlow : FnScope nNetFlow ["house", "counts", "target", "a", "b"] (defScope sNetFlow) := ⟨rfl, rfl, rfl, by decide +kernel, rfl, by decide +kernel, by decide +kernel⟩
theorem ok_nf {f : Addr} {fd : FuncData} {k : Nat} (F : Fun K "net_flow" "net_flow" sNetFlow f fd) (T : Nm mg) (Ccomponents : Cal P w K mg base (k + 3) "components" ["house", "rooms"] (spComp K)) (Coccupied_rooms : Cal P w K mg base (k + 3) "occupied_rooms" ["counts"] spOccN) (Ctotal : Cal P w K mg base (k + 3) "total" ["counts", "rooms"] (spTot K)) : FnOk P w K mg base CX0 (k + 4) f fd ["house", "counts", "target", "a", "b"] (spNF K) := by
  refine F.ok scNetFlow (fun vs H Q E h => ?_) (fun cdv A outer s H vs Q E hr h => ?_)
  · obtain ⟨h, p, g, n, D, cs, gs, a, b, rfl, _⟩ := h
    rfl
  · obtain ⟨h, p, g, n, D, cs, gs, a, b, rfl, hH, hF, n0, n1, e, eg, lc, lg, ha, q⟩ := h
    refine ⟨_, (pss_cons (ps_asg (pv 0) (pg_tup (by rfl) (pgs_cons (pg_name (i := 5) scNetFlow.nd rfl (.inl rfl)) (pgs_cons (pg_name (i := 6) scNetFlow.nd rfl (.inl rfl)) pgs_nil))))
      (pss_cons (ps_set (i := 7) scNetFlow.nd rfl (.inl rfl) (pe_tup (pa_cons (pv 5) (pa_cons (pe_callTy (call_tupleK K rfl) (by rfl) T.tuple (by decide +kernel) (pa_cons (pe_lc (own := [("door", 8)]) (g := gName 8) (by rfl) scNetFlow.nd (pi_tupK K rfl (pv 6))
 (blkOk_by (own := [("door", 8)]) (N := nNetFlow) (sc := defScope sNetFlow) (by decide +kernel))
 (fun _ _ _ _ _ => (pg_name (i := 8) scNetFlow.nd rfl (.inl rfl))) (fun _ _ _ _ _ => pts_one (pt_cmpR (op_neDK K rfl hr.units) (pv 8) (pe_tup (pa_cons (pv 3) (pa_cons (pv 4) pa_nil))) (nomark _))) (fun _ _ _ _ _ => (pv 8))) pa_nil)) pa_nil))))
      (pss_cons (ps_setLc (i := 9) (own := [("side", 10)]) (g := gName 10) (by rfl) scNetFlow.nd rfl rfl (sw_true rfl rfl rfl (by decide +kernel)) (pi_tupK K rfl (pe_cal Ccomponents hr (by rfl) (pa_cons (pv 7) (pa_cons (pe_cal Coccupied_rooms hr (by rfl) (pa_cons (pv 1) pa_nil)) pa_nil))))
 (blkOk_by (own := [("side", 10)]) (N := nNetFlow) (sc := defScope sNetFlow) (by decide +kernel))
 (fun _ _ _ _ _ => (pg_name (i := 10) scNetFlow.nd rfl (.inl rfl))) (fun _ _ _ _ _ => pts_one (pt_cmpR (op_inK K rfl) (pv 3) (pv 10) (by rfl))) (fun _ _ _ _ _ => (pv 10)))
      (pss_one (ps_ret (pe_op op_sub (pe_cal Ctotal hr (by rfl) (pa_cons (pv 1) (pa_cons (pe_ix (ix_listK K rfl) (pv 9) pe_int (fun _ _ => rfl)) pa_nil))) (pe_cal Ctotal hr (by rfl) (pa_cons (pv 2) (pa_cons (pe_ix (ix_listK K rfl) (pv 9) pe_int (fun _ _ => rfl)) pa_nil))))))))), ?_⟩
    obtain ⟨qd, ps, eh, eq, eD, hp⟩ := hH
    have lps : ps.length ≤ 8 := by have := hF.len; rw [eD, List.length_map] at this; exact this
    refine ⟨_, rfl, h, _, rfl, SqT.of eh, rfl, _, _, rfl, _, _, rfl, rfl, ?_⟩
    refine ⟨_, rfl, _, rfl, qd, rfl, ⟨_, SqT.of eq⟩, fun L hL => lc_tup (K := K) (a := qd) (xs := ps.map fun p => V.ref p.1) (fun i H1 => Same H H1 ∧ H1 L = some (.lst (((ps.take i).filter fun p => !decide (p.2 = (a, b))).map fun p => V.ref p.1))) ⟨same_upd hL, upd_same⟩ (fun i H1 _ hh => SqT.of (hh.1 _ _ eq)) ?_ ?_⟩
    · rintro i x H1 hx ⟨s1, e1⟩
      obtain ⟨d, hd, rfl⟩ : ∃ q, ps[i]? = some q ∧ x = .ref q.1 := by
        rw [List.getElem?_map] at hx
        cases e : ps[i]? with
        | none => rw [e] at hx; cases hx
        | some q => rw [e] at hx; cases hx; exact ⟨q, rfl, rfl⟩
      have md := List.mem_of_getElem? hd
      have hi := lt_of_get hd
      refine ⟨rfl, _, rfl, _, rfl, _, rfl, by show 2 ≤ sizeLine; decide, fun u hu => ?_⟩
      have su := same_upd (o := .tup [V.int a, V.int b]) hu
      refine ⟨pd d.2, pd (a, b), dp_pair (su _ _ (s1 _ _ (hp d md))), dp_pair upd_same, pd_shaped _, pd_shaped _, _, rfl, ?_⟩
      rw [pd_eqv, take_snoc hd, filter_snoc]
      by_cases z : d.2 = (a, b)
      · rw [decide_eq_true z, if_neg (by decide), List.append_nil]
        exact iteF ⟨s1.trans su, su _ _ e1⟩
      · rw [decide_eq_false z, if_pos (by decide)]
        refine iteT ⟨_, rfl, _, su _ _ e1, ?_, same_put (s1.trans su) hL, ?_⟩
        · rw [List.length_map]
          refine small1000 (Nat.le_trans (List.length_filter_le _ _) ?_)
          rw [List.length_take]
          omega
        · rw [upd_same, List.map_append]
          rfl
    rintro H1 ⟨s1, e1⟩
    rw [List.length_map, List.take_length] at e1
    refine ⟨L, _, rfl, .inl ⟨SqL.of e1, fun t ht => ⟨by show 2 ≤ sizeLine; decide, fun w hw => ?_⟩⟩⟩
    have st := same_upd (o := .tup ((ps.filter fun p => !decide (p.2 = (a, b))).map fun p => V.ref p.1)) ht
    have sw := same_upd (o := .tup [V.int n, V.ref t]) hw
    have s2 := s1.trans (st.trans sw)
    have hW : HouseAt (upd (upd H1 t (.tup ((ps.filter fun p => !decide (p.2 = (a, b))).map fun p => V.ref p.1))) w (.tup [V.int n, V.ref t])) w n (lessD D (a, b)) := by
      refine ⟨t, ps.filter fun p => !decide (p.2 = (a, b)), upd_same, sw _ _ upd_same, ?_, fun p hp' => s2 _ _ (hp p (List.mem_filter.mp hp').1)⟩
      rw [eD]
      unfold lessD
      rw [List.filter_map]
      rfl
    generalize upd (upd H1 t (.tup ((ps.filter fun p => !decide (p.2 = (a, b))).map fun p => V.ref p.1))) w (.tup [V.int n, V.ref t]) = H2 at *
    have upR := occN_up cs cs.length
    have lR := occN_len cs cs.length
    refine ⟨_, rfl, _, rfl, p, cs, rfl, s2 _ _ e, by omega, fun H3 o s3 eo => ?_⟩
    refine ⟨w, o, n, lessD D (a, b), _, rfl, hW.same s3, hF.less _, n0, n1, eo, upR, by omega, fun H4 t4 Cs s4 a1 a2 a3 a4 a5 => ?_⟩
    have rg : Regs (lessD D (a, b)) (occN cs cs.length) (Cs.map (·.2)) := ⟨a3, a4⟩
    have s04 := s2.trans (s3.trans s4)
    refine ⟨t4, rfl, ⟨_, SqT.of a1⟩, fun M hM => lc_tup (K := K) (a := t4) (xs := refs Cs) (fun i H5 => Same H4 H5 ∧ H5 M = some (.lst (refs ((Cs.take i).filter fun c => decide (a ∈ c.2))))) ⟨same_upd hM, upd_same⟩ (fun i H5 _ hh => SqT.of (hh.1 _ _ a1)) ?_ ?_⟩
    · rintro i x H5 hx ⟨s5, e5⟩
      obtain ⟨c, hc, rfl⟩ := get_refs hx
      have mc := List.mem_of_getElem? hc
      have hi := lt_of_get hc
      refine ⟨rfl, _, rfl, _, rfl, c.1, _, rfl, .inr (SqT.of (s5 _ _ (a2 c mc).1)), rfl, flat_vi _, _, rfl, ?_⟩
      rw [if_neg (by decide), inV_vi, take_snoc hc, filter_snoc]
      refine ite2 (fun z => ?_) (fun z => ?_)
      · rw [if_pos z]
        refine ⟨_, rfl, _, e5, ?_, same_put s5 hM, ?_⟩
        · unfold refs
          rw [List.length_map]
          refine small1000 (Nat.le_trans (List.length_filter_le _ _) ?_)
          rw [List.length_take]
          omega
        · rw [upd_same]
          unfold refs
          rw [List.map_append]
          rfl
      · rw [if_neg z, List.append_nil]
        exact ⟨s5, e5⟩
    · rintro H5 ⟨s5, e5⟩
      have : (refs Cs).length = Cs.length := by unfold refs; rw [List.length_map]
      rw [this, List.take_length] at e5
      obtain ⟨c, rest, eF, mc, hac⟩ : ∃ c rest, (Cs.filter fun c => decide (a ∈ c.2)) = c :: rest ∧ c ∈ Cs ∧ a ∈ c.2 := by
        obtain ⟨l, hl, hal⟩ := rg.ex upR ha
        obtain ⟨c0, hc0, rfl⟩ := List.mem_map.mp hl
        have m0 : c0 ∈ Cs.filter fun c => decide (a ∈ c.2) := List.mem_filter.mpr ⟨hc0, decide_eq_true hal⟩
        cases eF : Cs.filter fun c => decide (a ∈ c.2) with
        | nil => rw [eF] at m0; cases m0
        | cons c rest =>
          have : c ∈ Cs.filter fun c => decide (a ∈ c.2) := by rw [eF]; exact List.mem_cons_self
          exact ⟨c, rest, rfl, (List.mem_filter.mp this).1, of_decide_eq_true (List.mem_filter.mp this).2⟩
      rw [eF] at e5
      have ic := (rg.has (List.mem_map_of_mem (f := (·.2)) mc) hac).2
      have inr : ∀ r ∈ c.2, 0 ≤ r ∧ r < (cs.length : Nat) := fun r hr' => by
        have := (rg.has (List.mem_map_of_mem (f := (·.2)) mc) hr').1
        have := mem_occN.mp this
        exact ⟨this.1, this.2.1⟩
      have s05 := s04.trans s5
      have ec := s5 _ _ (a2 c mc).1
      have lcc := (a2 c mc).2
      refine ⟨_, rfl, _, rfl, M, _, _, _, rfl, rfl, SqL.of e5, atI0, p, c.1, cs, c.2, rfl, s05 _ _ e, ec, inr, by omega, fun H6 s6 => ?_⟩
      refine ⟨_, rfl, _, rfl, M, _, _, _, rfl, rfl, SqL.of (s6 _ _ e5), atI0, g, c.1, gs, c.2, rfl, (s05.trans s6) _ _ eg, s6 _ _ ec, fun r hr' => by have := inr r hr'; omega, by omega, fun H7 s7 => ?_⟩
      exact ⟨_, _, rfl, rfl, q _ _ (s05.trans (s6.trans s7)) ⟨c.2, ic, rfl⟩⟩
end
end Fw
set_option maxHeartbeats 4000000
namespace Fw
open PySem PySem.Spec PyProof.Rows L2
/-! the flows of all doors -/
def inn (cs : List Int) (d : Int × Int) : Bool := decide (at0 cs d.1.toNat > 0) && decide (at0 cs d.2.toNat > 0)
/-- flows at addresses -/
abbrev Fl := Addr × Int × Int × Int
def FlAt (H : Hp) (fs : List Fl) : Prop := ∀ q ∈ fs, H q.1 = some (.tup [.int q.2.1, .int q.2.2.1, .int q.2.2.2])
abbrev flr (fs : List Fl) : List V := fs.map fun q => V.ref q.1
theorem FlAt.same {H H' : Hp} {fs : List Fl} (h : FlAt H fs) (e : Same H H') : FlAt H' fs := fun q hq => e _ _ (h q hq)
theorem get_mapA {α : Type} {f : α → V} {xs : List α} {i : Nat} {x : V} (h : (xs.map f)[i]? = some x) : ∃ q, xs[i]? = some q ∧ x = f q := by
  rw [List.getElem?_map] at h
  cases e : xs[i]? with
  | none => rw [e] at h; cases h
  | some q => rw [e] at h; cases h; exact ⟨q, rfl, rfl⟩
/-- the flows of a house: its doors between rooms that are not empty -/
structure Flows (D : List (Int × Int)) (cs gs : List Int) (fs : List (Int × Int × Int)) : Prop where
  doors : fs.map (fun q => (q.1, q.2.1)) = D.filter (inn cs)
  nf : ∀ q ∈ fs, Nf D (occN cs cs.length) cs gs q.1 q.2.1 q.2.2
section
variable {P : Program} {w : World} {K : PySem.W.Frag} {mg : Str → Option Value} {base : Heap}
def spNFs (K : PySem.W.Frag) : Sp := fun vs H Q _ => ∃ (h p g : Addr) (n : Int) (D : List (Int × Int)) (cs gs : List Int), vs = [.ref h, .ref p, .ref g] ∧ HouseAt H h n D ∧ Forest n D ∧ 0 ≤ n ∧ n ≤ 8 ∧ H p = some (.tup (vi cs)) ∧ H g = some (.tup (vi gs)) ∧ cs.length = n.toNat ∧ gs.length = n.toNat ∧ (∀ Ls, Regs D (occN cs cs.length) Ls → blks cs gs cs.length Ls = []) ∧
  ∀ H' t fs, Same H H' → H' t = some (.tup (flr fs)) → FlAt H' fs → fs.length ≤ 8 → Flows D cs gs (fs.map (·.2)) → Q (.ref t) H'
abbrev nNetFlows : List Str := ["house", "counts", "target", "block", "inner", "a", "b"]
theorem scNetFlows : FnScope nNetFlows ["house", "counts", "target"] (defScope sNetFlows) := ⟨rfl, rfl, rfl, by decide +kernel, rfl, by decide +kernel, by decide +kernel⟩
theorem ok_nfs {f : Addr} {fd : FuncData} {k : Nat} (F : Fun K "net_flows" "net_flows" sNetFlows f fd) (T : Nm mg) (Cfind_count_block : Cal P w K mg base (k + 5) "find_count_block" ["house", "counts", "target"] (spFCB K)) (Cnet_flow : Cal P w K mg base (k + 5) "net_flow" ["house", "counts", "target", "a", "b"] (spNF K)) : FnOk P w K mg base CX0 (k + 6) f fd ["house", "counts", "target"] (spNFs K) := by
  refine F.ok scNetFlows (fun vs H Q E h => ?_) (fun cdv A outer s H vs Q E hr h => ?_)
  · obtain ⟨h, p, g, n, D, cs, gs, rfl, _⟩ := h
    rfl
  · obtain ⟨h, p, g, n, D, cs, gs, rfl, hH, hF, n0, n1, e, eg, lc, lg, nb, q⟩ := h
    refine ⟨_, (pss_cons (ps_set (i := 3) scNetFlows.nd rfl (.inl rfl) (pe_cal Cfind_count_block hr (by rfl) (pa_cons (pv 0) (pa_cons (pv 1) (pa_cons (pv 2) pa_nil)))))
      (pss_cons (ps_if (pt_cmp (pc_notN (pv 3)))
      pss_never
      pss_nil)
      (pss_cons (ps_setLc (i := 4) (own := [("a", 5), ("b", 6)]) (g := gTup K 2 (gCons (gName 5) (gCons (gName 6) gNil))) (by rfl) scNetFlows.nd rfl rfl (sw_true rfl rfl rfl (by decide +kernel)) (pi_tupK K rfl (pe_ix (ix_tupK K rfl) (pv 0) pe_int (fun _ _ => rfl)))
 (blkOk_by (own := [("a", 5), ("b", 6)]) (N := nNetFlows) (sc := defScope sNetFlows) (by decide +kernel))
 (fun _ _ _ _ _ => (pg_tup (by rfl) (pgs_cons (pg_name (i := 5) scNetFlows.nd rfl (.inl rfl)) (pgs_cons (pg_name (i := 6) scNetFlows.nd rfl (.inl rfl)) pgs_nil)))) (fun _ _ _ _ _ => pts_one (PW.pt (pw_and (pt_cmpR op_gt (pe_ix (ix_tupK K rfl) (pv 1) (pv 5) (fun _ _ => rfl)) pe_int (nomark _)) (pw_and1 (pt_cmpR op_gt (pe_ix (ix_tupK K rfl) (pv 1) (pv 6) (fun _ _ => rfl)) pe_int (nomark _)))))) (fun _ _ _ _ _ => (pe_tup (pa_cons (pv 5) (pa_cons (pv 6) pa_nil)))))
      (pss_one (ps_ret (pe_callTy (call_tupleK K rfl) (by rfl) T.tuple (by decide +kernel) (pa_cons (pe_lc (own := [("a", 5), ("b", 6)]) (g := gTup K 2 (gCons (gName 5) (gCons (gName 6) gNil))) (by rfl) scNetFlows.nd (pi_listK K rfl (pv 4))
 (blkOk_by (own := [("a", 5), ("b", 6)]) (N := nNetFlows) (sc := defScope sNetFlows) (by decide +kernel))
 (fun _ _ _ _ _ => (pg_tup (by rfl) (pgs_cons (pg_name (i := 5) scNetFlows.nd rfl (.inl rfl)) (pgs_cons (pg_name (i := 6) scNetFlows.nd rfl (.inl rfl)) pgs_nil)))) (fun _ _ _ _ _ => pts_nil) (fun _ _ _ _ _ => (pe_tup (pa_cons (pv 5) (pa_cons (pv 6) (pa_cons (pe_cal Cnet_flow hr (by rfl) (pa_cons (pv 0) (pa_cons (pv 1) (pa_cons (pv 2) (pa_cons (pv 5) (pa_cons (pv 6) pa_nil)))))) pa_nil)))))) pa_nil))))))), ?_⟩
    refine ⟨_, rfl, _, rfl, _, rfl, h, p, g, n, D, cs, gs, rfl, hH, hF, n0, n1, e, eg, lc, lg, fun H1 v s1 hv => ?_⟩
    obtain ⟨Ls, rg⟩ := regs_ex D (occN_up cs cs.length)
    have hv := hv Ls rg
    rw [nb Ls rg] at hv
    have hv : v = V.non := hv
    subst hv
    refine ⟨_, rfl, _, rfl, iteF ?_⟩
    have hH1 := hH.same s1
    obtain ⟨qd, ps, eh, eq, eD, hp⟩ := id hH1
    have lps : ps.length ≤ 8 := by have := hF.len; rw [eD, List.length_map] at this; exact this
    have ends : ∀ d ∈ D, (0 ≤ d.1 ∧ d.1 < n) ∧ 0 ≤ d.2 ∧ d.2 < n := fun d hd => by
      have := hF.ends (a := d.1) (b := d.2) hd
      omega
    have e1 := s1 _ _ e
    have eg1 := s1 _ _ eg
    refine ⟨_, rfl, h, _, _, _, rfl, rfl, SqT.of eh, atI1, qd, rfl, ⟨_, SqT.of eq⟩, fun L hL => lc_tup (K := K) (a := qd) (xs := ps.map fun p => V.ref p.1) (fun i H2 => ∃ is : List (Addr × Int × Int), Same H1 H2 ∧ H2 L = some (.lst (is.map fun q => V.ref q.1)) ∧ (∀ q ∈ is, H2 q.1 = some (.tup [.int q.2.1, .int q.2.2])) ∧ is.map (·.2) = (D.take i).filter (inn cs)) ⟨[], same_upd hL, upd_same, fun q hq => (by cases hq), rfl⟩ (fun i H2 _ hh => ?_) ?_ ?_⟩
    · obtain ⟨_, s2, _⟩ := hh
      exact SqT.of (s2 _ _ eq)
    · rintro i x H2 hx ⟨is, s2, e2, r2, m2⟩
      obtain ⟨d, hd, rfl⟩ := get_mapA hx
      have md := List.mem_of_getElem? hd
      have hi := lt_of_get hd
      have ed : D[i]? = some d.2 := by rw [eD, List.getElem?_map, hd]; rfl
      have en := ends d.2 (List.mem_of_getElem? ed)
      have li : is.length ≤ i := by
        have := congrArg List.length m2
        rw [List.length_map] at this
        have h2 := List.length_filter_le (inn cs) (D.take i)
        rw [List.length_take] at h2
        omega
      refine ⟨d.1, _, rfl, SqT.of (s2 _ _ (hp d md)), rfl, _, _, rfl, _, _, rfl, rfl, rfl, _, rfl, _, rfl, p, _, _, _, rfl, rfl, SqT.of (s2 _ _ e1), at0_ix en.1.1 (by omega), _, _, rfl, rfl, _, rfl, ?_⟩
      have no : inn cs d.2 = false → ∃ is : List (Addr × Int × Int), Same H1 H2 ∧ H2 L = some (.lst (is.map fun q => V.ref q.1)) ∧ (∀ q ∈ is, H2 q.1 = some (.tup [.int q.2.1, .int q.2.2])) ∧ is.map (·.2) = (D.take (i + 1)).filter (inn cs) := fun z => by
        refine ⟨is, s2, e2, r2, ?_⟩
        rw [m2, take_snoc ed, filter_snoc, if_neg (by rw [z]; decide), List.append_nil]
      refine ite2 (fun z1 => ?_) (fun z1 => ?_)
      · refine ⟨_, rfl, _, rfl, p, _, _, _, rfl, rfl, SqT.of (s2 _ _ e1), at0_ix en.2.1 (by omega), _, _, rfl, rfl, _, rfl, ?_⟩
        refine ite2 (fun z2 => ?_) (fun z2 => ?_)
        · have yes : inn cs d.2 = true := by
            unfold inn
            rw [Bool.and_eq_true]
            exact ⟨z1, z2⟩
          refine ⟨_, rfl, _, rfl, by show 2 ≤ sizeLine; decide, fun u hu => ?_⟩
          have su := same_upd (o := .tup [V.int d.2.1, V.int d.2.2]) hu
          have e3 := su _ _ e2
          refine ⟨_, e3, by rw [List.length_map]; exact small1000 (by omega), is ++ [(u, d.2)], same_put (s2.trans su) hL, ?_, fun q hq => ?_, ?_⟩
          · rw [upd_same, List.map_append]
            rfl
          · rcases List.mem_append.mp hq with hq | hq
            · have z := su _ _ (r2 q hq)
              exact (upd_ne (ne_of z e3 (by intro y; cases y))).trans z
            · rw [List.mem_singleton.mp hq]
              exact (upd_ne (ne_of (show (upd H2 u (.tup [V.int d.2.1, V.int d.2.2])) u = some _ from upd_same) e3 (by intro y; cases y))).trans upd_same
          · rw [List.map_append, m2, take_snoc ed, filter_snoc, if_pos yes]
            rfl
        · refine no ?_
          unfold inn
          rw [Bool.and_eq_false_iff]
          exact .inr (Bool.eq_false_iff.mpr z2)
      · refine iteF (no ?_)
        unfold inn
        rw [Bool.and_eq_false_iff]
        exact .inl (Bool.eq_false_iff.mpr z1)
    rintro H2 ⟨is, s2, e2, r2, m2⟩
    have tk : (ps.map fun p => V.ref p.1).length = D.length := by rw [eD, List.length_map, List.length_map]
    rw [tk, List.take_length] at m2
    have li : is.length ≤ 8 := by
      have h1 := congrArg List.length m2
      rw [List.length_map] at h1
      have h2 := List.length_filter_le (inn cs) D
      have h3 := hF.len
      omega
    refine ⟨_, rfl, L, rfl, ⟨_, SqL.of e2⟩, fun M hM => lc_list (K := K) (a := L) (xs := is.map fun q => V.ref q.1) (fun i H3 => ∃ fs : List Fl, Same H2 H3 ∧ H3 M = some (.lst (flr fs)) ∧ FlAt H3 fs ∧ fs.length = i ∧ fs.map (fun q => (q.2.1, q.2.2.1)) = (is.take i).map (·.2) ∧ ∀ q ∈ fs, Nf D (occN cs cs.length) cs gs q.2.1 q.2.2.1 q.2.2.2) ⟨[], same_upd hM, upd_same, fun q hq => (by cases hq), rfl, rfl, fun q hq => (by cases hq)⟩ (fun i H3 _ hh => ?_) ?_ ?_⟩
    · obtain ⟨_, s3, _⟩ := hh
      exact SqL.of (s3 _ _ e2)
    · rintro i x H3 hx ⟨fs, s3, e3, r3, l3, m3, n3⟩
      obtain ⟨d, hd, rfl⟩ := get_mapA hx
      have md := List.mem_of_getElem? hd
      have hi := lt_of_get hd
      have dD : d.2 ∈ D.filter (inn cs) := by rw [← m2]; exact List.mem_map_of_mem md
      obtain ⟨dD, din⟩ := List.mem_filter.mp dD
      unfold inn at din
      rw [Bool.and_eq_true] at din
      have en := ends d.2 dD
      have s13 := s2.trans s3
      refine ⟨d.1, _, rfl, SqT.of (s3 _ _ (r2 d md)), rfl, _, _, rfl, _, _, rfl, rfl, rfl, ?_⟩
      unfold tYes
      refine iteT ⟨_, rfl, _, rfl, _, rfl, _, rfl, _, rfl, _, rfl, _, rfl, h, p, g, n, D, cs, gs, d.2.1, d.2.2, rfl, hH1.same s13, hF, n0, n1, s13 _ _ e1, s13 _ _ eg1, lc, lg, mem_occN.mpr ⟨en.1.1, by omega, of_decide_eq_true din.1⟩, fun H4 f s4 hf => ⟨by show 3 ≤ sizeLine; decide, fun u hu => ?_⟩⟩
      have su := s4.trans (same_upd (o := .tup [V.int d.2.1, V.int d.2.2, V.int f]) hu)
      have e4 := su _ _ e3
      refine ⟨_, e4, by rw [List.length_map]; exact small1000 (by omega), fs ++ [(u, d.2.1, d.2.2, f)], same_put (s3.trans su) hM, ?_, fun q hq => ?_, ?_, ?_, fun q hq => ?_⟩
      · rw [upd_same]
        unfold flr
        rw [List.map_append]
        rfl
      · rcases List.mem_append.mp hq with hq | hq
        · have z := su _ _ (r3 q hq)
          exact (upd_ne (ne_of z e4 (by intro y; cases y))).trans z
        · rw [List.mem_singleton.mp hq]
          exact (upd_ne (ne_of (show (upd H4 u (.tup [V.int d.2.1, V.int d.2.2, V.int f])) u = some _ from upd_same) e4 (by intro y; cases y))).trans upd_same
      · rw [List.length_append, List.length_singleton, l3]
      · rw [List.map_append, m3, take_snoc hd, List.map_append]
        rfl
      · rcases List.mem_append.mp hq with hq | hq
        · exact n3 q hq
        · rw [List.mem_singleton.mp hq]
          exact hf
    · rintro H3 ⟨fs, s3, e3, r3, l3, m3, n3⟩
      rw [List.length_map] at l3 m3
      rw [List.take_length] at m3
      refine ⟨M, _, rfl, .inl ⟨SqL.of e3, fun t ht => q _ t fs (s1.trans (s2.trans (s3.trans (same_upd ht)))) upd_same (r3.same (same_upd ht)) (by omega) ⟨?_, fun x hx => ?_⟩⟩⟩
      · rw [List.map_map, ← m2, ← m3]
        rfl
      · obtain ⟨q', hq', rfl⟩ := List.mem_map.mp hx
        exact n3 q' hq'
def fsum (fs : List (Int × Int × Int)) : Int := (fs.map fun q => if q.2.2 < 0 then -q.2.2 else q.2.2).sum
def spFew (K : PySem.W.Frag) : Sp := fun vs H Q _ => ∃ (h p g : Addr) (n : Int) (D : List (Int × Int)) (cs gs : List Int), vs = [.ref h, .ref p, .ref g] ∧ HouseAt H h n D ∧ Forest n D ∧ 0 ≤ n ∧ n ≤ 8 ∧ H p = some (.tup (vi cs)) ∧ H g = some (.tup (vi gs)) ∧ cs.length = n.toNat ∧ gs.length = n.toNat ∧ (∀ Ls, Regs D (occN cs cs.length) Ls → blks cs gs cs.length Ls = []) ∧
  ∀ H' fs, Same H H' → Flows D cs gs fs → Q (.int (fsum fs)) H'
abbrev nFewestMoves : List Str := ["house", "counts", "target", "a", "b", "flow"]
theorem scFewestMoves : FnScope nFewestMoves ["house", "counts", "target"] (defScope sFewestMoves) := ⟨rfl, rfl, rfl, by decide +kernel, rfl, by decide +kernel, by decide +kernel⟩
theorem ok_few {f : Addr} {fd : FuncData} {k : Nat} (F : Fun K "fewest_moves" "fewest_moves" sFewestMoves f fd) (T : Nm mg) (Tsum : mg "sum" = none) (Cnet_flows : Cal P w K mg base (k + 6) "net_flows" ["house", "counts", "target"] (spNFs K)) : FnOk P w K mg base CX0 (k + 7) f fd ["house", "counts", "target"] (spFew K) := by
  refine F.ok scFewestMoves (fun vs H Q E h => ?_) (fun cdv A outer s H vs Q E hr h => ?_)
  · obtain ⟨h, p, g, n, D, cs, gs, rfl, _⟩ := h
    rfl
  · obtain ⟨h, p, g, n, D, cs, gs, rfl, hH, hF, n0, n1, e, eg, lc, lg, nb, q⟩ := h
    refine ⟨_, (pss_one (ps_ret (pe_callB (cr_sum rfl) (by rfl) Tsum (by decide +kernel) (pa_cons (pe_lc (own := [("a", 3), ("b", 4), ("flow", 5)]) (g := gTup K 3 (gCons (gName 3) (gCons (gName 4) (gCons (gName 5) gNil)))) (by rfl) scFewestMoves.nd (pi_tupK K rfl (pe_cal Cnet_flows hr (by rfl) (pa_cons (pv 0) (pa_cons (pv 1) (pa_cons (pv 2) pa_nil)))))
 (blkOk_by (own := [("a", 3), ("b", 4), ("flow", 5)]) (N := nFewestMoves) (sc := defScope sFewestMoves) (by decide +kernel))
 (fun _ _ _ _ _ => (pg_tup (by rfl) (pgs_cons (pg_name (i := 3) scFewestMoves.nd rfl (.inl rfl)) (pgs_cons (pg_name (i := 4) scFewestMoves.nd rfl (.inl rfl)) (pgs_cons (pg_name (i := 5) scFewestMoves.nd rfl (.inl rfl)) pgs_nil))))) (fun _ _ _ _ _ => pts_nil) (fun _ _ _ _ _ => (pe_callB call_abs (by rfl) T.abs (by decide +kernel) (pa_cons (pv 5) pa_nil)))) pa_nil)))), ?_⟩
    refine ⟨_, rfl, _, rfl, _, rfl, h, p, g, n, D, cs, gs, rfl, hH, hF, n0, n1, e, eg, lc, lg, nb, fun H1 t fs s1 et rf lf hf => ?_⟩
    refine ⟨t, rfl, ⟨_, SqT.of et⟩, fun L hL => lc_tup (K := K) (a := t) (xs := flr fs) (fun i H2 => Same H1 H2 ∧ H2 L = some (.lst (vi ((fs.take i).map fun q => if q.2.2.2 < 0 then -q.2.2.2 else q.2.2.2)))) ⟨same_upd hL, upd_same⟩ (fun i H2 _ hh => SqT.of (hh.1 _ _ et)) ?_ ?_⟩
    · rintro i x H2 hx ⟨s2, e2⟩
      obtain ⟨d, hd, rfl⟩ := get_mapA hx
      have md := List.mem_of_getElem? hd
      refine ⟨d.1, _, rfl, SqT.of (s2 _ _ (rf d md)), rfl, _, _, rfl, _, _, rfl, _, _, rfl, rfl, rfl, ?_⟩
      unfold tYes
      refine iteT ⟨_, rfl, _, rfl, _, e2, ?_, same_put s2 hL, ?_⟩
      · rw [List.length_map, List.length_map, List.length_take]
        exact small1000 (by omega)
      · rw [upd_same, take_snoc hd, List.map_append, vi_app]
        rfl
    · rintro H2 ⟨s2, e2⟩
      rw [List.length_map, List.take_length] at e2
      refine ⟨L, _, rfl, SqL.of e2, ?_⟩
      have := q H2 (fs.map (·.2)) (s1.trans s2) hf
      unfold fsum at this
      rw [List.map_map] at this
      exact this
end
end Fw
set_option maxHeartbeats 2000000
namespace Fw
open PySem PySem.Spec PyProof.Rows L2
/-- what the written part says of one of the error classes -/
structure EC (K : PySem.W.Frag) (C : Addr) : Prop where
  o : OexC K C
  x : XfC K C
  cl : (PySem.W.clsIn K C).isSome = true
  ofc : PySem.W.findIn K (.ref C) "__class__" = some (some (.builtin "object.__class__"))
  sp : PySem.W.specialIn K (.builtin "object.__class__") "__get__" = some (some (.builtin "getset_descriptor.__get__"))
  tk : PySem.W.takesIn K (.builtin "object.__class__") = some true
  mo : PySem.W.mroIn K C (.type "object") = some true
/-- C(e, ..) as a value: the exception stays tracked -/
def tMkV (C : Addr) (sp : Sp) (ta : TA) : TE := fun σ H Q => ta σ H fun vs H1 => vs.length ≤ 1000 ∧ ∀ a, H1 a = none → sp (.ref a :: vs) (upd H1 a (exo a C none)) (fun v H2 => v = .non ∧ Q (.ref a) H2) E0
section
variable {X : Cx} {e : Expr} {es : List Expr} {ta : TA} {p pos : Pos}
theorem run_oex {C fI : Addr} {k : Nat} {fd : FuncData} {ps : List Str} {sp : Sp} {pins : List (Addr × Obj)} {σ : L2.St} {H1 : Hp} {z : Shared} {us : List Value} {vs : List V} {Q : VK} (T : OexC X.K C) (iC : PySem.W.findIn X.K (.ref C) "__init__" = some (some (.ref fI))) (tI : PySem.W.typeIn X.K (.ref fI) = some (.type "function"))
    (F1 : FnOk X.prog X.w X.K X.mg X.base CX0 k fI fd ps sp) (hr : Room (k + 1) X.A) (hb : Binds X.K fd ps []) (I1 : Inv X pins σ H1 z) (r1 : Vals vs us) (hz : vs.length ≤ 1000)
    (qi : ∀ a, H1 a = none → sp (.ref a :: vs) (upd H1 a (exo a C none)) (fun v H2 => v = .non ∧ Q (.ref a) H2) E0) : wpAny (model X.prog X.w) X.A (call (.ref C) us) (EP X pins σ Q) X.xe z := by
  obtain ⟨_, _, _, _, bm, _, _, _, _, _, _, _, _, _, _, hC, hbm⟩ := T.cls
  obtain ⟨hp, g, dr, tk, os⟩ := z
  have le : hp.objs.size ≤ hp.objs.size + 1 := Nat.le_succ _
  have hq := qi (hp.objs.size + 1) (I1.hok.fresh le)
  have at2 : ((hp.push (PySem.W.kdv_tup us)).push (PySem.HandSPX.excO C hp.objs.size)).get? (hp.objs.size + 1) = some (PySem.HandSPX.excO C hp.objs.size) := by heap_get
  have Jn : Inv X pins σ (upd H1 (hp.objs.size + 1) (exo (hp.objs.size + 1) C none)) ⟨(hp.push (PySem.W.kdv_tup us)).push (PySem.HandSPX.excO C hp.objs.size), g, dr, tk, os⟩ :=
    I1.laid (t' := tk) (fun b o e => Heap.get?_push_of_some _ (Heap.get?_push_of_some _ e)) le (exo_ok at2)
  have rs : Vals (V.ref (hp.objs.size + 1) :: vs) (Value.ref (hp.objs.size + 1) :: us) := .cons rfl r1
  have ln : (Value.ref (hp.objs.size + 1) :: us ++ []).length = ps.length := by
    rw [List.append_nil, ← rs.length]
    exact F1.len _ _ _ _ hq
  have few : us.length ≤ sizeLine := by
    rw [← r1.length, sizeLine_eq]
    omega
  have bi := hb _ (Value.ref (hp.objs.size + 1) :: us) Jn.kIn ln
  rw [List.append_nil] at bi
  refine wpAny_call (PySem.HandSPX.call_own F.excBase_ValueError (fun Y => PySem.HandSPX.refsVE_contains Y bm hbm) (I1.kIn _ _ hC) (PySem.W.looks_findIn I1.kIn iC) (fun self => PySem.W.bind_fn I1.kIn self tI) few
    (codeAny_mono (F1.run _ X.stack _ _ ⟨Value.ref (hp.objs.size + 1) :: us, []⟩ (Value.ref (hp.objs.size + 1) :: us) _ _ E0 (hr.make C us []) (Jn.env0.make C us []) bi rs hq) ?_))
  intro r z' e
  match r, e with
  | .error _, e => exact e.elim
  | .ok .next, e => exact e.elim
  | .ok .brk, e => exact e.elim
  | .ok .cont, e => exact e.elim
  | .ok (.ret u), e =>
    obtain ⟨v, H2, J, rv, ev, qv⟩ := Jn.after e
    subst ev
    exact ⟨rv, .ref (hp.objs.size + 1), H2, J, rfl, qv⟩
theorem pe_oex {x : Str} {C fI : Addr} {k : Nat} {fd : FuncData} {ps : List Str} {sp : Sp} (T : OexC X.K C) (iC : PySem.W.findIn X.K (.ref C) "__init__" = some (some (.ref fI))) (tI : PySem.W.typeIn X.K (.ref fI) = some (.type "function"))
    (F1 : FnOk X.prog X.w X.K X.mg X.base CX0 k fI fd ps sp) (hr : Room (k + 1) X.A) (hb : Binds X.K fd ps []) (hg : Gl X x) (hm : X.mg x = some (.ref C)) (ha : PA X (e :: es) ta)
    (hdb : (x == ("__debug__" : Str)) = false := by decide) (h1 : starEach (e :: es) X.env = (false, eval e X.env) :: starEach es X.env := by rfl) (h2 : (backTo pos (starEach es X.env)).any (·.1) = false := by rfl) :
    PE X (.Call (.Name x p) (e :: es) [] pos) (tMkV C sp ta) := by
  constructor
  intro pins z σ H Q I h
  refine wpAny_Call_Name_kw (ld_glob I hg hm (PySem.W.callWith_K (h₀ := X.base) I.ok.mod.kin T.kC (thn (ha.run pos pins z σ H _ I h) ?_) h1 h2) hdb)
  rintro us z1 ⟨vs, H1, I1, r1, hz, q1⟩
  exact ⟨I1.kIn, run_oex T iC tI F1 hr hb I1 r1 hz q1⟩
theorem pe_oex0 {x : Str} {C fI : Addr} {k : Nat} {fd : FuncData} {ps : List Str} {sp : Sp} (T : OexC X.K C) (iC : PySem.W.findIn X.K (.ref C) "__init__" = some (some (.ref fI))) (tI : PySem.W.typeIn X.K (.ref fI) = some (.type "function"))
    (F1 : FnOk X.prog X.w X.K X.mg X.base CX0 k fI fd ps sp) (hr : Room (k + 1) X.A) (hb : Binds X.K fd ps []) (hg : Gl X x) (hm : X.mg x = some (.ref C)) (hdb : (x == ("__debug__" : Str)) = false := by decide) : PE X (.Call (.Name x p) [] [] pos) (tMkV C sp tNil) := by
  constructor
  intro pins z σ H Q I h
  obtain ⟨hz, q1⟩ := h
  exact wpAny_Call_Name_kw (ld_glob I hg hm (PySem.W.callWith_K0 I.kIn T.kC (run_oex T iC tI F1 hr hb I .nil hz q1)) hdb)
/-- e.f of such an exception -/
def tEf (K : PySem.W.Frag) (f : Str) (te : TE) : TE := fun σ H Q => te σ H fun x H1 => ∃ (a C dx : Addr) (fs : List (Str × V)) (v : V), x = .ref a ∧ XfC K C ∧ PySem.W.findIn K (.ref C) f = some none ∧ H1 a = some (exo a C (some dx)) ∧ H1 dx = some (exd dx fs) ∧ fs.lookup f = some v ∧ Q v H1
theorem pe_ef {te : TE} {f : Str} (he : PE X e te) (hb : attributeBase e f X.env (eval e X.env) = eval e X.env := by rfl) : PE X (.Attribute e f pos) (tEf X.K f te) := by
  constructor
  intro pins z σ H Q I h
  refine attr_of hb (thn (he.run pins z σ H _ I h) ?_)
  rintro u z1 ⟨x, H1, I1, rx, a, C, dx, fs, v, rfl, T, no, ea, ed, l, q⟩
  obtain rfl : u = Value.ref a := rx
  obtain ⟨t1, ho⟩ := exo_at I1.hok ea
  obtain ⟨mA, ns, hr⟩ := exd_at I1.hok ed
  obtain ⟨od, hod, hl⟩ := lookIn_ns ns
  obtain ⟨u, hu, ru⟩ := RelO.some_of (v := v) (o := mA f) (by rw [← l]; exact hr f)
  have J : PySem.W.InstAt z1.heap a _ C (some od) := ⟨ho, rfl, rfl, hod⟩
  exact HandSPX.exc_get I1.kIn J T.ga T.gg T.exC (PySem.W.findObj_own T.hdC no rfl (by rw [hl, hu])) (handed_of ru) ⟨v, H1, I1.tok _, ru, q⟩
/-- isinstance(e, c) of such an exception -/
def rIsX (K : PySem.W.Frag) : List V → Hp → VK → Prop := fun xs H Q => ∃ (a D : Addr) (c : V) (cv : Value) (d : Option Addr) (b : Bool), xs = [.ref a, c] ∧ ClsV c cv ∧ EC K D ∧ H a = some (exo a D d) ∧ (∀ dx, d = some dx → ∃ fs, H dx = some (exd dx fs)) ∧ PySem.W.kitOne K (.ref D) cv = some b ∧ Q (.bl b) H
theorem call_isX : CallR X (.builtin "isinstance") (rIsX X.K) := by
  intro pn sh σ H xs us Q J rr hx
  obtain ⟨a, D, c, cv, d, b, rfl, k, T, ea, hd, e, q⟩ := hx
  obtain ⟨ua, ub, rfl, ra, rb⟩ := vals2 rr
  have e2 := k.eq rb
  subst e2
  cases (show ua = Value.ref a from ra)
  obtain ⟨t1, ho⟩ := exo_at J.hok ea
  have M : ∃ od, PySem.W.InstAt sh.heap a { cls := .ref D, dict := d, data := .fields #[.ref t1, .none, .none, .none, .bool false, .none] } D od := by
    cases d with
    | none => exact ⟨none, ho, rfl, rfl, trivial⟩
    | some dx =>
      obtain ⟨fs, ed⟩ := hd dx rfl
      obtain ⟨mA, ns, _⟩ := exd_at J.hok ed
      obtain ⟨od, hod, _⟩ := lookIn_ns ns
      exact ⟨some od, ho, rfl, rfl, hod⟩
  obtain ⟨od, M⟩ := M
  exact PySem.W.kia_one (PySem.W.kitx_exc T.cl T.x.ga T.x.gg T.x.exC T.ofc T.sp T.tk T.mo) J.kIn M e (fun z => nomatch z) fun tk => ⟨.bl b, H, J.tok tk, rfl, q⟩
/-- l.count(True), l a list of bools -/
def rCntB (K : PySem.W.Frag) : V → List V → Hp → VK → Prop := fun x xs H Q => ∃ (p : Addr) (bs : List Bool), x = .ref p ∧ xs = [.bl true] ∧ SqL K H p (bs.map V.bl) ∧ Q (.int ((bs.count true : Nat) : Int)) H
def isT : Value → Bool
  | .bool b => b
  | _ => false
theorem mt_countB : MtR X "list.count" (rCntB X.K) := by
  intro pn s σ H x xs v us Q I rx rys hx
  obtain ⟨p, bs, rfl, rfl, hs, q⟩ := hx
  cases rx
  obtain ⟨ut, rfl, rt⟩ := rys.one
  cases (show ut = Value.bool true from rt)
  obtain ⟨its, rv, ⟨⟨oc, dd, od, sl⟩, n, ho, hc, _, hd⟩, _⟩ := I.list hs
  simp only at hc hd
  subst hc hd
  have all : ∀ {bs : List Bool} {us : List Value}, Vals (bs.map V.bl) us → (∀ y ∈ us, ∃ b, y = Value.bool b) ∧ us.countP isT = bs.count true := by
    intro bs
    induction bs with
    | nil => intro us r; cases r; exact ⟨fun y hy => (by cases hy), rfl⟩
    | cons b bs ih =>
      intro us r
      cases r with
      | cons r rr =>
        obtain ⟨h1, h2⟩ := ih rr
        have e := (show _ = Value.bool b from r)
        subst e
        refine ⟨fun y hy => ?_, ?_⟩
        · rcases List.mem_cons.mp hy with e | e
          · exact ⟨b, e⟩
          · exact h1 y e
        · rw [List.countP_cons, List.count_cons, h2]
          cases b <;> rfl
  obtain ⟨h1, h2⟩ := all rv
  refine call_meets PySem.F.slot_list_count ⟨_, ho, rfl⟩ PySem.F.entry_list_count (PySem.F.args_list_count_2 _ _) (SeqAt.list_countAt p its.toArray n dd sl (.bool true) isT) ⟨ho, fun y hy => ?_, ?_⟩
  · obtain ⟨b, rfl⟩ := h1 y (by simpa using hy)
    have := SeqAt.EqAt.bool_bool (A := X.A.in1) (s := s) b true
    rw [show (b == true) = isT (.bool b) by cases b <;> rfl] at this
    exact this
  · refine ⟨.int ((bs.count true : Nat) : Int), H, I.tok _, ⟨s.toks, ?_⟩, q⟩
    show Value.int ((its.toArray.toList.countP isT : Nat) : Int) s.toks = _
    rw [← h2]
end
end Fw
set_option maxHeartbeats 2000000
namespace Fw
open PySem PySem.Spec PyProof.Rows L2
/-- the classes above an error class, without itself -/
abbrev above (E : Addr) : List Value := [.ref E, .type "ValueError", .type "Exception", .type "BaseException", .type "object"]
/-- an error class by its place, with its __init__ -/
structure CF (K : PySem.W.Frag) (mg : Str → Option Value) (x : Str) (q : Str) (st : Stmt) (ps : List Str) (E C : Addr) (f : Addr) (fd : FuncData) : Prop where
  e : EC K C
  g : mg x = some (.ref C)
  mro : ∃ cd, PySem.W.clsIn K C = some cd ∧ cd.mro = .ref C :: above E
  i : PySem.W.findIn K (.ref C) "__init__" = some (some (.ref f))
  t : PySem.W.typeIn K (.ref f) = some (.type "function")
  F : Fun K "__init__" q st f fd
  b : Binds K fd ps []
theorem cf_mk {K : PySem.W.Frag} {h : Heap} {mg : Str → Option Value} {x q : Str} {st : Stmt} {ps : List Str} {E C f : Addr}
    {nm qn : Str} {N : Addr} {bs : List Value} {sn : List Str} {sub : List Value} {ab : Bool} {col : Option Bool} {dd : Option Addr} {m0 m1 m2 m3 m5 : Option Value}
    {od an : Option Addr} {sl : Array (Option Value)} {oc kV dc pm cd ct : Value} (X : K.In h) (G : h.Ns mainGlobals mg)
    (hb : ∀ fd, Fun K "__init__" q st f fd → Binds K fd ps [])
    (aC : PySem.W.nsIn K mainGlobals x = some (some (.ref C)))
    (xL : K.lookup C = some (excClassObj nm qn C N bs (above E) true sn sub ab col dd m0 m1 m2 m3 m5 "ValueError.__new__"))
    (sa : PySem.W.findIn K (.ref C) "__setattr__" = some (some (.builtin "object.__setattr__"))) (ga : PySem.W.findIn K (.ref C) "__getattribute__" = some (some (.builtin "BaseException.__getattribute__"))) (gg : PySem.W.findIn K (.ref C) "__getattr__" = some none)
    (a1 : PySem.W.findIn K (.ref C) "__init__" = some (some (.ref f))) (t1 : PySem.W.typeIn K (.ref f) = some (.type "function"))
    (l1 : K.lookup f = some ⟨oc, od, .func (PySem.W.fnOf "__init__" q (defArgs st) (defBody st) (defScope st) .none kV dc pm an cd ct), sl⟩) (c1 : PySem.W.codeIn K cd q = true) (k1 : PySem.W.keepIn K (.ref f) = true)
    (kC : PySem.W.keepIn K (.ref C) = true) (tC : PySem.W.typeIn K (.ref C) = some (.type "type")) (hC : PySem.W.hasDictIn K C = true)
    (ca : PySem.W.findIn K (.ref C) "__class__" = some (some (.builtin "object.__class__")))
    (sp : PySem.W.specialIn K (.builtin "object.__class__") "__get__" = some (some (.builtin "getset_descriptor.__get__"))) (tk : PySem.W.takesIn K (.builtin "object.__class__") = some true) :
    ∃ fd, CF K mg x q st ps E C f fd := by
  have cl : PySem.W.clsIn K C = some { name := nm, bases := bs, mro := .ref C :: above E, ns := N, qualname := qn, hasDict := true, slotNames := sn, subclasses := sub, abstract := ab, collection := col, hasDel := false } := by
    unfold PySem.W.clsIn
    rw [xL]
  have mr : ∀ v, PySem.W.mroIn K C v = some ((Value.ref C :: above E).contains v) := fun v => by
    unfold PySem.W.mroIn
    rw [cl]
    rfl
  have exC : PySem.W.subIn K (.ref C) (.type "BaseException") = some true := (mr _).trans rfl
  have F1 := fun_mk (st := st) l1 c1 k1
  refine ⟨_, ⟨⟨⟨nm, qn, N, bs, _, sn, sub, ab, col, dd, m0, m1, m2, m3, m5, xL, rfl⟩, sa, exC, tC, kC⟩, ⟨ga, gg, exC, hC⟩, by rw [cl]; rfl, ca, sp, tk, (mr _).trans rfl⟩, PySem.W.mg_of X G aC, ⟨_, cl, rfl⟩, a1, t1, F1, hb _ F1⟩
end Fw
set_option maxHeartbeats 2000000
namespace Fw
open PySem PySem.Spec PyProof.Rows L2
/-- what the __init__ of an error with a field does -/
def spIniF (f : Str) (C : Addr) : Sp := fun vs H Q _ => ∃ (a : Addr) (v : V), vs = [.ref a, v] ∧ H a = some (exo a C none) ∧ ∀ dx, H dx = none → dx ≠ a → Q .non (upd (upd H dx (exd dx [(f, v)])) a (exo a C (some dx)))
/-- an error class of the text with one field -/
def CE (K : PySem.W.Frag) (mg : Str → Option Value) (x q fld : Str) (st : Stmt) : Prop := ∃ E C f fd, CF K mg x q st ["self", fld] E C f fd ∧ PySem.W.findIn K (.ref C) fld = some none
/-- an error class that can be raised, by its name -/
structure ErR (P : Program) (w : World) (K : PySem.W.Frag) (mg : Str → Option Value) (base : Heap) (x fld : Str) (E C : Addr) : Prop where
  e : EC K C
  g : mg x = some (.ref C)
  mro : ∃ cd, PySem.W.clsIn K C = some cd ∧ cd.mro = .ref C :: above E
  no : PySem.W.findIn K (.ref C) fld = some none
  i : ∃ f fd, PySem.W.findIn K (.ref C) "__init__" = some (some (.ref f)) ∧ PySem.W.typeIn K (.ref f) = some (.type "function") ∧ Binds K fd ["self", fld] [] ∧ FnOk P w K mg base CX0 1 f fd ["self", fld] (spIniF fld C)
section
variable {P : Program} {w : World} {K : PySem.W.Frag} {mg : Str → Option Value} {base : Heap}
end
/-! ### except among the errors -/
theorem exm_ref {K : PySem.W.Frag} {D E C : Addr} (hm : ∃ cd, PySem.W.clsIn K D = some cd ∧ cd.mro = .ref D :: above E) (e : EC K C) : PySem.W.exmOne K (.ref D) (.ref C) = some (decide (C = D ∨ C = E)) := by
  obtain ⟨cd, h1, h2⟩ := hm
  unfold PySem.W.exmOne
  rw [if_pos (by rw [e.o.exC]; rfl)]
  unfold PySem.W.kitCls
  simp only [e.cl, e.o.tyC]
  rw [if_pos (by rfl)]
  show PySem.W.mroIn K D (.ref C) = _
  unfold PySem.W.mroIn
  rw [h1]
  show (if cd.mro.isEmpty then none else some (cd.mro.contains (.ref C))) = _
  rw [h2]
  show some ((Value.ref D :: above E).contains (.ref C)) = _
  by_cases e1 : C = D <;> by_cases e2 : C = E <;> simp [e1, e2]
theorem exm_two {K : PySem.W.Frag} {D E C1 C2 : Addr} (hm : ∃ cd, PySem.W.clsIn K D = some cd ∧ cd.mro = .ref D :: above E) (e1 : EC K C1) (e2 : EC K C2) (h : C1 = D ∨ C2 = D) : PySem.W.exmAny K (.ref D) [.ref C1, .ref C2] = some true := by
  unfold PySem.W.exmAny PySem.W.exmAny PySem.W.exmAny
  rw [exm_ref hm e1, exm_ref hm e2]
  show some _ = some true
  congr 1
  rcases h with h | h <;> simp [h]
/-! ### raise -/
theorem raise_end {fld : Str} {C : Addr} {v : V} {H1 : Hp} {Q : XK} (q : ∀ d H', Same H1 H' → H' d = some (.xd [(fld, v)]) → Q (.ref C) (some d) H') : ([v] : List V).length ≤ 1000 ∧ ∀ a, H1 a = none → spIniF fld C (.ref a :: ([v] ++ [])) (upd H1 a (exo a C none))
    (fun v H2 => v = .non ∧ ∃ (d : Addr) (fs : List (Str × V)), H2 a = some (exo a C (some d)) ∧ H2 d = some (exd d fs) ∧ H1 d = none ∧ Q (.ref C) (some d) (upd (del H2 a) d (.xd fs))) (fun _ _ _ => False) := by
  refine ⟨by show 1 ≤ 1000; decide, fun a ha => ⟨a, v, rfl, upd_same, fun dx h1 h2 => ?_⟩⟩
  have hd : H1 dx = none := by rw [← h1, upd_ne h2]
  refine ⟨rfl, dx, _, upd_same, (upd_ne h2).trans upd_same, hd, q _ _ (fun b o e => ?_) upd_same⟩
  have n1 : b ≠ a := ne_of_none e ha
  have n2 : b ≠ dx := ne_of_none e hd
  rw [upd_ne n2, del_ne n1, upd_ne n1, upd_ne n2, upd_ne n1]
  exact e
theorem pmk_er {X : Cx} {x fld : Str} {E C : Addr} {k : Nat} {p pos : Pos} {e : Expr} {te : TE} (R : ErR X.prog X.w X.K X.mg X.base x fld E C) (hr : Room (k + 2) X.A) (hg : Gl X x) (he : PE X e te) (hdb : (x == ("__debug__" : Str)) = false := by decide)
    (h1 : starEach [e] X.env = (false, eval e X.env) :: starEach [] X.env := by rfl) (h2 : (backTo pos (starEach [] X.env)).any (·.1) = false := by rfl) : PMk X (.Call (.Name x p) [e] [] pos) (tMkO C (spIniF fld C) [] (tCons te tNil)) := by
  obtain ⟨f, fd, a, b, c, d⟩ := R.i
  exact pmk_oex R.e.o a b (d.mono (Nat.le_add_left 1 k)) hr c .nil pass0 hg R.g (pa_cons he pa_nil (hs := h1)) hdb h1 h2
/-! ### a def that may raise, by its name -/
def CalX (P : Program) (w : World) (K : PySem.W.Frag) (mg : Str → Option Value) (base : Heap) (k : Nat) (x : Str) (ps : List Str) (sp : Sp) : Prop :=
  ∃ f fd, mg x = some (.ref f) ∧ PySem.W.keepIn K (.ref f) = true ∧ Binds K fd ps [] ∧ FnOk P w K mg base (L2.CX P w) k f fd ps sp
theorem DefE.calX {P : Program} {w : World} {K : PySem.W.Frag} {mg : Str → Option Value} {base : Heap} {x : Str} {st : Stmt} {ps : List Str} {k : Nat} {sp : Sp} (D : DefE K mg x st ps) (h : ∀ f fd, Def K mg x st f fd ps → FnOk P w K mg base (L2.CX P w) k f fd ps sp) : CalX P w K mg base k x ps sp := by
  obtain ⟨f, fd, d⟩ := D
  exact ⟨f, fd, d.g, d.F.kp, d.b, h f fd d⟩
theorem pe_calX {X : Cx} {W : WX} {k : Nat} {ps : List Str} {sp : Sp} {x : Str} {p pos : Pos} {e : Expr} {es : List Expr} {t : TA} (C : CalX X.prog X.w X.K X.mg X.base k x ps sp) (tk : Takes X W) (hr : Room k X.A) (hg : Gl X x) (ha : PA X (e :: es) t) (hdb : (x == ("__debug__" : Str)) = false := by decide)
    (h1 : starEach (e :: es) X.env = (false, eval e X.env) :: starEach es X.env := by rfl) (h2 : (backTo pos (starEach es X.env)).any (·.1) = false := by rfl) : PE X (.Call (.Name x p) (e :: es) [] pos) (tCallS sp (WE W) t) := by
  obtain ⟨f, fd, a, b, c, d⟩ := C
  exact pe_callS d hr hg a b c (fun σ => passAt tk σ) ha hdb h1 h2
/-! ### an exception that has landed, and the state around it -/
structure Air (X : Cx) (pins : List (Addr × Obj)) (B : Heap) (a : Addr) (cls : Value) (d : Option Addr) (σ : L2.St) (H : Hp) (z : Shared) : Prop where
  ex : ∃ g : Shared, Inv X pins σ H g ∧ (∀ b o, g.heap.get? b = some o → b ∉ frs X.stack → B.get? b = some o) ∧ g.heap.UpToSlots z.heap ∧ z.os = g.os
  fly : HandSPX.FlyingZ B (X.env :: X.outer) a (Zc cls d) z.heap
  free : H a = none
  bare : AllBare z.gens
section
variable {X : Cx} {pins : List (Addr × Obj)} {B : Heap} {a : Addr} {cls : Value} {d : Option Addr} {σ : L2.St} {H : Hp} {z : Shared}
theorem Air.inv (x : Air X pins B a cls d σ H z) : Inv X pins σ H z := by
  obtain ⟨g, i, k, u, o⟩ := x.ex
  exact i.landed k x.fly.1 u o x.bare
theorem Air.step {h' : Heap} (x : Air X pins B a cls d σ H z) (f : HandSPX.FlyingZ B (X.env :: X.outer) a (Zc cls d) h') (u : z.heap.UpToSlots h') : Air X pins B a cls d σ H { z with heap := h' } := by
  obtain ⟨g, i, k, u0, o⟩ := x.ex
  exact ⟨⟨g, i, k, u0.trans u, o⟩, f, x.free, x.bare⟩
theorem Air.push (x : Air X pins B a cls d σ H z) (o : Obj) : Air X pins B a cls d σ H { z with heap := z.heap.push o } := by
  have up : ∀ b q, z.heap.get? b = some q → (z.heap.push o).get? b = some q := fun b q e => Heap.get?_push_of_some _ e
  obtain ⟨c1, c2, c3, ob, fs, tb, ot, us, g1, g2, g3, g4, g5, g6, g7, g8, g9⟩ := x.fly
  exact x.step ⟨fun b q e => up b q (c1 b q e), c2, c3.of_keeps fun b q e _ => ⟨q, up b q e, rfl⟩, ob, fs, tb, ot, us, up _ _ g1, g2, g3, g4, g5, g6, up _ _ g7, g8, g9⟩ (Heap.UpToSlots.of_keeps up)
theorem Air.hold (x : Air X pins B a cls d σ H z) (fr : X.env.frame = some X.env.locals) : ∃ oe, z.heap.get? a = some oe ∧ Zc cls d oe ∧ (∃ vs, oe.data = .fields vs) ∧ Inv (X.suite a ((a, oe) :: (X.pn ++ pins))) [] σ H z := by
  obtain ⟨oe, fs, at0, zc, fd⟩ := x.fly.there
  have off : ∀ v : Env, v ∈ X.env :: X.outer → v.frame ≠ some a := by
    intro v mv ev
    obtain ⟨_, ob, at1, plain⟩ := x.fly.2.2.1.mem (List.mem_filterMap.2 ⟨v, mv, ev⟩)
    cases Option.some.inj (at0.symm.trans at1)
    exact plain fs fd
  refine ⟨oe, at0, zc, ⟨fs, fd⟩, x.inv.suite at0 fd x.free ?_ ?_⟩
  · intro same
    exact off X.env (.head _) (by rw [fr, same])
  · intro inFs
    obtain ⟨v, mv, ev⟩ := List.mem_filterMap.1 inFs
    exact off v (.tail _ mv) ev
/-- what comes of a suite, and of a try's body, told outside of it -/
theorem sp_suite {q : Addr × Obj} {D : Ends} {f : Flow} (ok : X.Ok) (h : L2.SP (X.suite a (q :: (X.pn ++ pins))) [] D f z) : L2.SP X pins D f z :=
  match f, h with
  | .next, ⟨t, G, J, w⟩ | .brk, ⟨t, G, J, w⟩ | .cont, ⟨t, G, J, w⟩ => ⟨t, G, J.unsuite ok, w⟩
  | .ret _, ⟨v, t, G, J, r, w⟩ => ⟨v, t, G, J.unsuite ok, r, w⟩
theorem sp_body {xe : Value → Shared → Prop} {D : Ends} {f : Flow} (ok : X.Ok) (h : L2.SP (X.tr (X.pn ++ pins) xe) [] D f z) : L2.SP X pins D f z :=
  match f, h with
  | .next, ⟨t, G, J, w⟩ | .brk, ⟨t, G, J, w⟩ | .cont, ⟨t, G, J, w⟩ => ⟨t, G, J.ofTry ok, w⟩
  | .ret _, ⟨v, t, G, J, r, w⟩ => ⟨v, t, G, J.ofTry ok, r, w⟩
/-- it lands -/
theorem air_of {W : WX} {xe : Value → Shared → Prop} {u : Value} {Q : Unit → Shared → Prop} {E : Value → Shared → Prop} (st : X.stack = X.env :: X.outer) (fr : X.env.frame = some X.env.locals) (ok : X.Ok) (x : XE (X.tr (X.pn ++ pins) xe) W u z)
    (k : ∀ B a cls d σ H z', u = .ref a → Air X pins B a cls d σ H z' → W cls d σ H → Q () z') :
    wpAny (model X.prog X.w) X.A (noteFrame u X.env) (fun _ y => wpAny (model X.prog X.w) X.A (setFlight u none) Q E y) E z := by
  obtain ⟨a, B, g, _, σ, H, cls, d, rfl, i, gr, us, sky, free, eo, bare, w⟩ := x
  refine Sky.land Zc.steady (ok.frames.trans (congrArg some st)) fr (st ▸ sky) fun h' fl us' => ?_
  exact k B a cls d σ H _ rfl ⟨⟨g, i.ofTry ok, gr, us.trans us', eo⟩, fl, free, bare⟩ w
/-- a class of the text, or a builtin one, by its name in a clause -/
theorem Air.name {x : Str} {c : Value} {p : Pos} {Q : Value → Shared → Prop} {E : Value → Shared → Prop} (y : Air X pins B a cls d σ H z) (fr : X.env.frame = some X.env.locals) (nm : L2.Names X x c) (h : Q c z) : wpAny (model X.prog X.w) (X.A.mark (some (.ref a))) (eval (.Name x p) X.env) Q E z := by
  obtain ⟨oe, _, _, _, J⟩ := y.hold fr
  obtain ⟨gl, nd, own | ⟨out, blt, nn⟩⟩ := nm
  · exact ld_glob J gl own h nd
  · exact ld_blt J gl out blt h nn nd
end
/-! ### try: .. except (A, B): .. , where it surely is one of the two -/
theorem ps_try_two {X : Cx} {body : List Stmt} {x1 x2 : Str} {c1 c2 : Value} {b₀ : Stmt} {suite : List Stmt} {p1 p2 tpos pos' pos : Pos} {kk : Nat} {tb : WX → TS} {ts : TS} (st : X.stack = X.env :: X.outer) (fr : X.env.frame = some X.env.locals) (n1 : L2.Names X x1 c1) (n2 : L2.Names X x2 c2)
    (hb : ∀ (W : WX) (pn : List (Addr × Obj)) (xe : Value → Shared → Prop), Takes (X.tr pn xe) W → PassesOwn (model X.prog X.w) X.A X.env xe → PSs (X.tr pn xe) body (tb W))
    (hsu : ∀ (a : Addr) (oe : Obj) (pn : List (Addr × Obj)), PSs (X.suite a ((a, oe) :: pn)) (b₀ :: suite) ts) :
    PS X (.Try body [.ExceptHandler (some (.Tuple [.Name x1 p1, .Name x2 p2] kk tpos)) none (b₀ :: suite) pos'] [] [] pos) (fun D σ H => tb (fun cls _ σ' H' => PySem.W.exmAny X.K cls [c1, c2] = some true ∧ ts D σ' H') D σ H) := by
  constructor
  intro pins z σ H D I rd
  have ok := I.ok
  have caught : ∀ (xe : Value → Shared → Prop) (u : Value) (y : Shared), XE (X.tr (X.pn ++ pins) xe) (fun cls _ σ' H' => PySem.W.exmAny X.K cls [c1, c2] = some true ∧ ts D σ' H') u y →
      wpAny (model X.prog X.w) X.A (noteFrame u X.env) (fun _ y1 => wpAny (model X.prog X.w) X.A (setFlight u none) (fun _ y2 =>
        wpAny (model X.prog X.w) X.A (handleBy u X.env [.ExceptHandler (some (.Tuple [.Name x1 p1, .Name x2 p2] kk tpos)) none (b₀ :: suite) pos']) (L2.SP X pins D) X.xe y2) X.xe y1) X.xe y := by
    intro xe u y air
    refine air_of st fr ok air fun B a cls d σ1 H1 y1 eu y1a yes => ?_
    subst eu
    refine wpAny_handleBy_cons (codeAny_handlers_test (wpAny_Tuple (wpAny_items_cons (y1a.name fr n1 (wpAny_items_cons (y1a.name fr n2 (wpAny_items_nil ⟨?_, ?_⟩))))))) fun e => nomatch e
    · show 2 ≤ sizeLine
      decide
    have y2a := y1a.push { cls := .type "tuple", data := .seq [c1, c2].toArray }
    obtain ⟨oe, at2, zc, _, _⟩ := y2a.hold fr
    have kind : PySem.W.Looks (model X.prog X.w) (y1.heap.push { cls := .type "tuple", data := .seq [c1, c2].toArray }) (typeOf (.ref a)) cls := fun _ _ _ _ keep w => wpAny_typeOf_ref (keep _ _ at2) (zc.1.symm ▸ w)
    refine (PySem.W.exm_tup2 y2a.inv.kIn kind (Heap.get?_push_size _ rfl) yes.1).here (codeAny_handlers_suite (HandSPX.lands_againZ y2a.fly fun h3 f3 u3 => ?_))
    obtain ⟨oe3, _, _, _, J3⟩ := (y2a.step f3 u3).hold fr
    exact wpAny_mono ((hsu a oe3 (X.pn ++ pins)).run [] _ _ H1 _ J3 yes.2) (fun _ _ r => sp_suite ok r) fun _ _ no => no.elim
  refine wpAny_Try_except (wpAny_mono ((hb _ (X.pn ++ pins) _ (fun u y air => caught _ u y air) PassesOwn.looking).run [] z σ H D (I.toTry _) rd) (fun f y r => ?_) fun _ _ r => r)
  have r := sp_body ok r
  match f, r with
  | .next, r => exact wpAny_execs_nil r
  | .brk, r | .cont, r | .ret _, r => exact r
end Fw
set_option maxHeartbeats 2000000
namespace Fw
open PySem PySem.Spec PyProof.Rows L2
/-- the class above all errors -/
structure HE (K : PySem.W.Frag) (mg : Str → Option Value) (E : Addr) : Prop where
  g : mg "HouseError" = some (.ref E)
  ex : PySem.W.subIn K (.ref E) (.type "BaseException") = some true
  cl : (PySem.W.clsIn K E).isSome = true
  ty : PySem.W.typeIn K (.ref E) = some (.type "type")
  m : (PySem.W.clsIn K E).map (·.mro) = some (above E)
/-- an error class of the text with one field, below E -/
def CEE (K : PySem.W.Frag) (mg : Str → Option Value) (E : Addr) (x q fld : Str) (st : Stmt) : Prop := ∃ C f fd, CF K mg x q st ["self", fld] E C f fd ∧ PySem.W.findIn K (.ref C) fld = some none
abbrev Mro (K : PySem.W.Frag) (E D : Addr) : Prop := ∃ cd, PySem.W.clsIn K D = some cd ∧ cd.mro = .ref D :: above E
theorem he_mk {K : PySem.W.Frag} {h : Heap} {mg : Str → Option Value} {E : Addr} {nm qn : Str} {N : Addr} {bs : List Value} {sn : List Str} {sub : List Value} {ab : Bool} {col : Option Bool} {dd : Option Addr} {m0 m1 m2 m3 m5 : Option Value} (X : K.In h) (G : h.Ns mainGlobals mg)
    (aE : PySem.W.nsIn K mainGlobals "HouseError" = some (some (.ref E))) (ex : PySem.W.subIn K (.ref E) (.type "BaseException") = some true)
    (xL : K.lookup E = some (excClassObj nm qn E N bs [.type "ValueError", .type "Exception", .type "BaseException", .type "object"] true sn sub ab col dd m0 m1 m2 m3 m5 "ValueError.__new__")) (ty : PySem.W.typeIn K (.ref E) = some (.type "type")) : HE K mg E := by
  have cl : ∃ cd, PySem.W.clsIn K E = some cd ∧ cd.mro = above E := by
    unfold PySem.W.clsIn
    rw [xL]
    exact ⟨_, rfl, rfl⟩
  obtain ⟨cd, h1, h2⟩ := cl
  exact ⟨PySem.W.mg_of X G aE, ex, by rw [h1]; rfl, ty, by rw [h1, ← h2]; rfl⟩
theorem HE.ne {K : PySem.W.Frag} {mg : Str → Option Value} {E C : Addr} (h : HE K mg E) (c : Mro K E C) : C ≠ E := fun e => by
  obtain ⟨cd, h1, h2⟩ := c
  have := h.m
  rw [← e, h1] at this
  simp only [Option.map_some, Option.some.injEq] at this
  rw [h2] at this
  have := congrArg List.length this
  cases this
theorem exm_he {K : PySem.W.Frag} {mg : Str → Option Value} {D E : Addr} (hm : Mro K E D) (h : HE K mg E) : PySem.W.exmOne K (.ref D) (.ref E) = some true := by
  obtain ⟨cd, h1, h2⟩ := hm
  unfold PySem.W.exmOne
  rw [if_pos (by rw [h.ex]; rfl)]
  unfold PySem.W.kitCls
  simp only [h.cl, h.ty]
  rw [if_pos (by rfl)]
  show PySem.W.mroIn K D (.ref E) = _
  unfold PySem.W.mroIn
  rw [h1]
  show (if cd.mro.isEmpty then none else some (cd.mro.contains (.ref E))) = _
  rw [h2]
  simp
theorem kitR {K : PySem.W.Frag} {D E C : Addr} (hm : Mro K E D) (hC : (PySem.W.clsIn K C).isSome = true) (tC : PySem.W.typeIn K (.ref C) = some (.type "type")) : PySem.W.kitOne K (.ref D) (.ref C) = some (decide (C = D ∨ C = E)) := by
  obtain ⟨cd, h1, h2⟩ := hm
  unfold PySem.W.kitOne
  by_cases e : D = C
  · rw [if_pos (by rw [e]; exact beq_self_eq_true _)]
    simp [e]
  · rw [if_neg (by simpa using e)]
    unfold PySem.W.kitCls
    simp only [hC, tC]
    rw [if_pos (by rfl)]
    show PySem.W.mroIn K D (.ref C) = _
    unfold PySem.W.mroIn
    rw [h1]
    show (if cd.mro.isEmpty then none else some (cd.mro.contains (.ref C))) = _
    rw [h2]
    show some ((Value.ref D :: above E).contains (.ref C)) = _
    have e' : C ≠ D := fun z => e z.symm
    by_cases e2 : C = E <;> simp [e', e2]
theorem kitVE {K : PySem.W.Frag} {D E : Addr} (hm : Mro K E D) : PySem.W.kitOne K (.ref D) (.type "ValueError") = some true := by
  obtain ⟨cd, h1, h2⟩ := hm
  unfold PySem.W.kitOne
  rw [if_neg (by simp)]
  unfold PySem.W.kitCls
  simp only []
  rw [if_pos (by decide +kernel)]
  show PySem.W.mroIn K D (.type "ValueError") = _
  unfold PySem.W.mroIn
  rw [h1]
  show (if cd.mro.isEmpty then none else some (cd.mro.contains _)) = _
  rw [h2]
  show some ((Value.ref D :: above E).contains _) = _
  simp
/-- none of them -/
theorem kit_none {K : PySem.W.Frag} {t : Value} : ∀ {cs : List Value}, (∀ c ∈ cs, PySem.W.kitOne K t c = some false) → PySem.W.kitAny K t cs = some false
  | [], _ => rfl
  | c :: cs, h => by
    unfold PySem.W.kitAny
    rw [h c (List.mem_cons_self ..)]
    exact kit_none fun x hx => h x (List.mem_cons_of_mem _ hx)
/-- isinstance of the exception that a suite holds -/
structure HeldX (K : PySem.W.Frag) (cls : Value) (d : Option Addr) (D : Addr) (H : Hp) : Prop where
  c : cls = .ref D
  e : EC K D
  x : ∀ dx, d = some dx → ∃ fs, H dx = some (.xd fs)
def rIsC (K : PySem.W.Frag) (a : Addr) (cls : Value) (d : Option Addr) : List V → Hp → VK → Prop := fun xs H Q => ∃ (D : Addr) (c : V) (cv : Value) (b : Bool), xs = [.ref a, c] ∧ HeldX K cls d D H ∧ ClsV c cv ∧ PySem.W.kitOne K (.ref D) cv = some b ∧ Q (.bl b) H
def rIsT (K : PySem.W.Frag) (a : Addr) (cls : Value) (d : Option Addr) : List V → Hp → VK → Prop := fun xs H Q => ∃ (D t : Addr) (cs : List V) (cvs : List Value) (b : Bool), xs = [.ref a, .ref t] ∧ HeldX K cls d D H ∧ SqT K H t cs ∧ (∀ us, Vals cs us → us = cvs) ∧ PySem.W.kitAny K (.ref D) cvs = some b ∧ Q (.bl b) H
section
variable {X : Cx} {a : Addr} {oe : Obj} {pn : List (Addr × Obj)} {cls : Value} {d : Option Addr}
theorem held_inst {pins : List (Addr × Obj)} {σ : L2.St} {H : Hp} {s : Shared} {D : Addr} (I : Inv (X.suite a ((a, oe) :: pn)) pins σ H s) (hz : Zc cls d oe) (hf : ∃ vs, oe.data = .fields vs) (h : HeldX X.K cls d D H) : ∃ od, PySem.W.InstAt s.heap a oe D od := by
  obtain ⟨here, _⟩ := I.pin (a, oe) (List.mem_append_left _ (List.mem_cons_self ..))
  obtain ⟨vs, hv⟩ := hf
  have nc : PySem.W.notCls oe := by unfold PySem.W.notCls; rw [hv]
  cases d with
  | none => exact ⟨none, here, hz.1.trans h.c, nc, by rw [hz.2]; trivial⟩
  | some dx =>
    obtain ⟨fs, e⟩ := h.x dx rfl
    obtain ⟨mA, ns, _⟩ := (show ObjOk X.prog X.w H s.heap dx (.xd fs) from I.hok dx _ e)
    obtain ⟨od, ho, _⟩ := lookIn_ns ns
    exact ⟨some od, here, hz.1.trans h.c, nc, by rw [hz.2]; exact ho⟩
theorem call_isC (hz : Zc cls d oe) (hf : ∃ vs, oe.data = .fields vs) : CallR (X.suite a ((a, oe) :: pn)) (.builtin "isinstance") (rIsC X.K a cls d) := by
  rintro pins s σ H _ us Q I r ⟨D, c, cv, b, rfl, h, k, e, q⟩
  obtain ⟨ua, ub, rfl, ra, rb⟩ := vals2 r
  cases k.eq rb
  cases (show ua = Value.ref a from ra)
  obtain ⟨od, M⟩ := held_inst I hz hf h
  exact PySem.W.kia_one (PySem.W.kitx_exc h.e.cl h.e.x.ga h.e.x.gg h.e.x.exC h.e.ofc h.e.sp h.e.tk h.e.mo) I.kIn M e (fun z => nomatch z) fun tk => ⟨.bl b, H, I.tok tk, rfl, q⟩
theorem call_isT (hz : Zc cls d oe) (hf : ∃ vs, oe.data = .fields vs) : CallR (X.suite a ((a, oe) :: pn)) (.builtin "isinstance") (rIsT X.K a cls d) := by
  rintro pins s σ H _ us Q I r ⟨D, t, cs, cvs, b, rfl, h, ht, all, e, q⟩
  obtain ⟨ua, ub, rfl, ra, rb⟩ := vals2 r
  cases (show ua = Value.ref a from ra)
  cases (show ub = Value.ref t from rb)
  obtain ⟨od, M⟩ := held_inst I hz hf h
  obtain ⟨its, rv, ⟨⟨tc, dd, da, ss⟩, at0, c0, n, d0⟩, _⟩ := I.tuple ht
  cases c0
  cases d0
  cases all its rv
  exact PySem.W.kia_tup (PySem.W.kitx_exc h.e.cl h.e.x.ga h.e.x.gg h.e.x.exC h.e.ofc h.e.sp h.e.tk h.e.mo) I.kIn M at0 e (fun z => nomatch z) fun tk => ⟨.bl b, H, I.tok tk, rfl, q⟩
end
/-- two classes of unlike names are not one -/
theorem CF.ne {K : PySem.W.Frag} {mg : Str → Option Value} {x y q1 q2 : Str} {s1 s2 : Stmt} {p1 p2 : List Str} {E C1 C2 f1 f2 : Addr} {d1 d2 : FuncData} (a : CF K mg x q1 s1 p1 E C1 f1 d1) (b : CF K mg y q2 s2 p2 E C2 f2 d2) (n : q1 ≠ q2) : C1 ≠ C2 := fun e => by
  subst e
  have ef : f1 = f2 := by
    have := a.i.symm.trans b.i
    cases this
    rfl
  subst ef
  obtain ⟨oc, od, kV, doc, pm, an, c, ct, osl, rfl, l1, _⟩ := a.F.ex
  obtain ⟨oc', od', kV', doc', pm', an', c', ct', osl', rfl, l2, _⟩ := b.F.ex
  rw [l1] at l2
  simp only [Option.some.injEq, Obj.mk.injEq, Data.func.injEq] at l2
  exact n (by have := congrArg (·.qualname) l2.2.2.1; exact this)
end Fw
set_option maxHeartbeats 2000000
namespace Fw
open PySem PySem.Spec PyProof.Rows L2
/-- an error class that can be raised, with all that is told of it -/
structure Er1 (P : Program) (w : World) (K : PySem.W.Frag) (mg : Str → Option Value) (base : Heap) (x q fld : Str) (E C : Addr) : Prop where
  r : ErR P w K mg base x fld E C
  c : ∃ st f fd, CF K mg x q st ["self", fld] E C f fd
theorem Er1.ne {P : Program} {w : World} {K : PySem.W.Frag} {mg : Str → Option Value} {base : Heap} {x y q1 q2 f1 f2 : Str} {E C1 C2 : Addr} (a : Er1 P w K mg base x q1 f1 E C1) (b : Er1 P w K mg base y q2 f2 E C2) (n : q1 ≠ q2) : C1 ≠ C2 := by
  obtain ⟨_, _, _, a⟩ := a.c
  obtain ⟨_, _, _, b⟩ := b.c
  exact a.ne b n
/-- e of class C is no D -/
theorem Er1.isnt {P : Program} {w : World} {K : PySem.W.Frag} {mg : Str → Option Value} {base : Heap} {x y q1 q2 f1 f2 : Str} {E C1 C2 : Addr} (a : Er1 P w K mg base x q1 f1 E C1) (b : Er1 P w K mg base y q2 f2 E C2) (h : HE K mg E) (n : q1 ≠ q2) : PySem.W.kitOne K (.ref C1) (.ref C2) = some false := by
  rw [kitR a.r.mro b.r.e.cl b.r.e.o.tyC, decide_eq_false]
  rintro (e | e)
  · exact a.ne b n e.symm
  · exact h.ne b.r.mro e
theorem Er1.is {P : Program} {w : World} {K : PySem.W.Frag} {mg : Str → Option Value} {base : Heap} {x q1 f1 : Str} {E C1 : Addr} (a : Er1 P w K mg base x q1 f1 E C1) : PySem.W.kitOne K (.ref C1) (.ref C1) = some true := by
  rw [kitR a.r.mro a.r.e.cl a.r.e.o.tyC, decide_eq_true (.inl rfl)]
section
variable {P : Program} {w : World} {K : PySem.W.Frag} {mg : Str → Option Value} {base : Heap} {E : Addr}
theorem HE.names {X : Cx} {E : Addr} (h : HE X.K X.mg E) (g : Gl X "HouseError") : L2.Names X "HouseError" (.ref E) := ⟨g, by decide, .inl h.g⟩
theorem er1_Blocked (c : CEE K mg E "Blocked" "Blocked.__init__" "block" iBlocked) : ∃ C, Er1 P w K mg base "Blocked" "Blocked.__init__" "block" E C := by
  obtain ⟨C, f, fd, c, no⟩ := c
  refine ⟨C, ⟨c.e, c.g, c.mro, no, f, fd, c.i, c.t, c.b, ?_⟩, _, _, _, c⟩
  refine Fun.ok c.F (N := ["self", "block"]) ⟨rfl, rfl, rfl, by decide +kernel, rfl, by decide +kernel, by decide +kernel⟩ (fun vs H Q E h => ?_) (fun cdv A outer s H vs Q E hr h => ?_)
  · obtain ⟨a, v, rfl, _⟩ := h
    rfl
  · obtain ⟨a, v, rfl, ea, q⟩ := h
    exact ⟨_, pss_one (ps_ost (pv 0) (pv 1)), _, rfl, _, rfl, a, C, rfl, c.e.o, no, .inl ⟨ea, q⟩⟩
end
end Fw
namespace Fw
open PySem PySem.Spec PyProof.Rows L2
/-- a statement that raises nothing, in a def that may raise -/
theorem ps_calm {X : Cx} {st : Stmt} {t : TS} (h : PS X.nox st t) : PS X st t := by
  constructor
  intro pins z σ H D I rd
  exact wpAny_mono (h.run pins z σ H D (I.wish _) rd) (fun _ _ => L2.SP.unwish) fun _ _ no => no.elim
section
variable {P : Program} {w : World} {K : PySem.W.Frag} {mg : Str → Option Value} {base : Heap}
end
end Fw
set_option maxHeartbeats 2000000
namespace Fw
open PySem PySem.Spec PyProof.Rows L2
/-! dicts keyed by placements -/
/-- a placement as a key -/
def pk (P : List (Str × Int)) : NestedKey := .tup (P.map fun x => .tup [.text x.1, .num x.2])
theorem pk_inj : ∀ {P R : List (Str × Int)}, pk P = pk R → P = R := by
  intro P R h
  injection h with h
  induction P generalizing R with
  | nil => cases R with
    | nil => rfl
    | cons y r => cases h
  | cons x P ih => cases R with
    | nil => cases h
    | cons y R =>
      rw [List.map_cons, List.map_cons] at h
      injection h with h1 h2
      injection h1 with h1
      injection h1 with h1 h3
      injection h1 with h1
      injection h3 with h3 h4
      injection h3 with h3
      rw [ih h2, Prod.ext h1 h3]
theorem pk_depth (P : List (Str × Int)) : (pk P).depth ≤ 2 := by
  have : NestedKey.depthAll (P.map fun x => NestedKey.tup [.text x.1, .num x.2]) ≤ 1 := by
    induction P with
    | nil => exact Nat.zero_le _
    | cons x P ih =>
      rw [List.map_cons]
      simp only [NestedKey.depthAll, NestedKey.depth]
      omega
  unfold pk
  simp only [NestedKey.depth]
  omega
/-- what the object of such a dict is -/
def DnO (P : Program) (w : World) (d : Addr) (xs : List (NestedKey × Addr × Value)) : HO :=
  .ext fun h => ∃ o es ep, h.get? d = some o ∧ o.ExactDict ∧ o.data = .dict es ep ∧ es.toList = xs.map (entryOfKey (nestedKind P w)) ∧ (xs.map (·.1)).Nodup
/-- what ties an entry to what is told of it -/
def DnE (H : Hp) (p : List (Str × Int) × V) (q : NestedKey × Addr × Value) : Prop := pk p.1 = q.1 ∧ PlAt H q.2.1 p.1 ∧ RelV p.2 q.2.2
structure DnAt (P : Program) (w : World) (H : Hp) (d : Addr) (ks : List (List (Str × Int) × V)) : Prop where
  ex : ∃ xs, H d = some (DnO P w d xs) ∧ Paired (DnE H) ks xs
  no : d ≠ sysModules
  z : ks.length ≤ sizeLine
theorem paired_right {α β : Type} {F : α → β → Prop} : ∀ {xs : List α} {ys : List β}, Paired F xs ys → ∀ {y : β}, y ∈ ys → ∃ x, F x y
  | _, _, .nil, _, h => nomatch h
  | _, _, .cons h r, y, m => by
    rcases List.mem_cons.mp m with e | m
    · exact e ▸ ⟨_, h⟩
    · exact paired_right r m
section
variable {X : Cx} {pins : List (Addr × Obj)} {σ : L2.St} {H : Hp} {s : Shared}
theorem nested_row (I : Inv X pins σ H s) {a : Addr} {z : Str} {i : Int} (h : H a = some (.tup [.str z, .int i])) : NestedIs s.heap (.tup [.text z, .num i]) (.ref a) := by
  obtain ⟨its, r, pl, _⟩ := I.tuple (SqT.of h)
  obtain ⟨o, ho, hc, n, hd⟩ := pl
  cases r with
  | cons r1 r =>
    cases r with
    | cons r2 r =>
      cases r
      obtain ⟨t1, e1⟩ := r1
      obtain ⟨t2, e2⟩ := r2
      exact .tup ho hc hd (.cons (by rw [e1]; exact .text _ _) (.cons (by rw [e2]; exact .int _ _) .nil))
theorem nested_rows (I : Inv X pins σ H s) : ∀ {ps : List (Addr × Str × Int)} {its : List Value}, (∀ q ∈ ps, H q.1 = some (.tup [.str q.2.1, .int q.2.2])) → Vals (ps.map fun q => V.ref q.1) its → NestedAll s.heap ((ps.map (·.2)).map fun x => NestedKey.tup [.text x.1, .num x.2]) its
  | [], _, _, r => by cases r; exact .nil
  | q :: ps, _, h, r => by
    cases r with
    | cons r1 r2 =>
      cases r1
      exact .cons (nested_row I (h q (List.mem_cons_self ..))) (nested_rows I (fun y hy => h y (List.mem_cons_of_mem _ hy)) r2)
/-- a placement that lies in memory is that key -/
theorem nested_pl (I : Inv X pins σ H s) {a : Addr} {P : List (Str × Int)} (h : PlAt H a P) : (nestedKind X.prog X.w).is s.heap (pk P) a := by
  obtain ⟨ps, h1, rfl, h3⟩ := h
  obtain ⟨its, r, pl, _⟩ := I.tuple (h1.sq (K := X.K))
  obtain ⟨o, ho, hc, n, hd⟩ := pl
  exact ⟨.tup ho hc hd (nested_rows I h3 r), Nat.le_trans (pk_depth _) (by decide)⟩
theorem keys_pk {ks : List (List (Str × Int) × V)} {xs : List (NestedKey × Addr × Value)} (pr : Paired (DnE H) ks xs) : (pairsH xs).map (·.1) = ks.map fun p => pk p.1 := by
  induction pr with
  | nil => rfl
  | cons h _ ih =>
    exact congr (congrArg List.cons h.1.symm) ih
theorem value_pk {ks : List (List (Str × Int) × V)} {xs : List (NestedKey × Addr × Value)} (pr : Paired (DnE H) ks xs) {P : List (Str × Int)} {v : V} (m : (P, v) ∈ ks) : ∃ u, (pk P, u) ∈ pairsH xs ∧ RelV v u := by
  induction pr with
  | nil => cases m
  | cons h _ ih =>
    rcases List.mem_cons.mp m with e | m
    · subst e
      exact ⟨_, by rw [h.1]; exact List.mem_cons_self, h.2.2⟩
    · obtain ⟨u, hu, r⟩ := ih m
      exact ⟨u, List.mem_cons_of_mem _ hu, r⟩
/-- what the rules of such a dict want -/
theorem DnAt.keyed {ks : List (List (Str × Int) × V)} {d : Addr} (I : Inv X pins σ H s) (h : DnAt X.prog X.w H d ks) : ∃ xs, H d = some (DnO X.prog X.w d xs) ∧ Paired (DnE H) ks xs ∧ s.heap.DictOfH (nestedKind X.prog X.w) d xs := by
  obtain ⟨xs, e, pr⟩ := h.ex
  obtain ⟨⟨o, es, ep, ho, he, hd, hl, hn⟩, _, _⟩ := (show ObjOk X.prog X.w H s.heap d (DnO X.prog X.w d xs) from I.hok d _ e)
  refine ⟨xs, e, pr, o, es, ep, ho, he, hd, hl, fun x hx => ?_, hn⟩
  obtain ⟨p, hp⟩ := paired_right pr hx
  rw [← hp.1]
  exact nested_pl I hp.2.1
theorem op_notInP (hu : X.A.units + 64 < cLine) : OpR X (compareOp .NotIn) (fun x y H Q => ∃ (a d : Addr) (P : List (Str × Int)) (ks : List (List (Str × Int) × V)), x = .ref a ∧ y = .ref d ∧ PlAt H a P ∧ DnAt X.prog X.w H d ks ∧ Q (.bl (!decide (∃ p ∈ ks, p.1 = P))) H) := by
  rintro pn s σ H _ _ v u Q I rx ry ⟨a, d, P, ks, rfl, rfl, hp, hd, q⟩
  cases (show v = Value.ref a from rx)
  cases (show u = Value.ref d from ry)
  obtain ⟨xs, e, pr, hm⟩ := hd.keyed I
  refine notIn_keyed (knd := nestedKind X.prog X.w) (A := X.A) (by show X.A.units + 1 + 8 < cLine; omega) (nested_pl I hp) (by simpa using hd.no) ⟨xs, hm, rfl⟩ ?_
  refine ⟨.bl _, H, I.tok _, ?_, q⟩
  show Value.bool _ = Value.bool _
  congr 2
  rw [Bool.eq_iff_iff, valueAt_isSome, keys_pk pr, decide_eq_true_iff]
  constructor
  · intro m
    obtain ⟨p, hp, e⟩ := List.mem_map.mp m
    exact ⟨p, hp, pk_inj e⟩
  · rintro ⟨p, mp, rfl⟩
    exact List.mem_map_of_mem (f := fun p : List (Str × Int) × V => pk p.1) mp
theorem getItem_pk (hu : X.A.units + 64 < cLine) {d b : Addr} {P : List (Str × Int)} {v : V} {ks : List (List (Str × Int) × V)} {Q : Value → Shared → Prop} {E : Value → Shared → Prop} (I : Inv X pins σ H s) (hp : PlAt H b P) (hd : DnAt X.prog X.w H d ks) (m : (P, v) ∈ ks)
    (h : ∀ u s', Inv X pins σ H s' → RelV v u → Q u s') : wpAny (model X.prog X.w) X.A (getItem (.ref d) (.ref b)) Q E s := by
  obtain ⟨xs, e, pr, hm⟩ := hd.keyed I
  obtain ⟨u, hu', r⟩ := value_pk pr m
  have nd : ((pairsH xs).map (·.1)).Nodup := Heap.DictKeyed.nodup ⟨xs, hm, rfl⟩
  exact getItem_keyed (knd := nestedKind X.prog X.w) (A := X.A) (by show X.A.units + 1 + 8 < cLine; omega) (nested_pl I hp) ⟨xs, hm, rfl⟩ (valueAt_of_mem nd hu') (h u _ (I.tok _) r)
theorem paired_map {α β : Type} {F G : α → β → Prop} (i : ∀ x y, F x y → G x y) : ∀ {xs : List α} {ys : List β}, Paired F xs ys → Paired G xs ys
  | _, _, .nil => .nil
  | _, _, .cons h r => .cons (i _ _ h) (paired_map i r)
theorem paired_snoc {α β : Type} {F : α → β → Prop} {x : α} {y : β} (h : F x y) : ∀ {xs : List α} {ys : List β}, Paired F xs ys → Paired F (xs ++ [x]) (ys ++ [y])
  | _, _, .nil => .cons h .nil
  | _, _, .cons h1 r => .cons h1 (paired_snoc h r)
theorem Tk.putE {H H' : Hp} (a : Tk H H') {L : Addr} {φ : Heap → Prop} {o : HO} (h : H' L = some (.ext φ)) : Tk H (upd H' L o) := by
  refine ⟨fun e => ?_, fun e => ?_⟩
  · rw [upd_ne (ne_of (a.t e) h (by intro z; cases z))]
    exact a.t e
  · rw [upd_ne (ne_of (a.f e) h (by intro z; cases z))]
    exact a.f e
/-- such a dict stays while it and the tuples stay -/
theorem DnAt.tk {P : Program} {w : World} {H H' : Hp} {d : Addr} {ks : List (List (Str × Int) × V)} (h : DnAt P w H d ks) (t : Tk H H') (e : H' d = H d) : DnAt P w H' d ks := by
  obtain ⟨⟨xs, h1, h2⟩, h3, h4⟩ := h
  exact ⟨⟨xs, e.trans h1, paired_map (fun _ _ z => ⟨z.1, z.2.1.tk t, z.2.2⟩) h2⟩, h3, h4⟩
theorem DnAt.same {P : Program} {w : World} {H H' : Hp} {d : Addr} {ks : List (List (Str × Int) × V)} (h : DnAt P w H d ks) (s : Same H H') : DnAt P w H' d ks := by
  obtain ⟨xs, h1, _⟩ := h.ex
  exact h.tk (Tk.of s) ((s _ _ h1).trans h1.symm)
/-- d[p] = v, p not there yet -/
theorem setItem_pk (hu : X.A.units + 64 < cLine) {d b : Addr} {P : List (Str × Int)} {v : V} {u : Value} {ks : List (List (Str × Int) × V)} {Q : Unit → Shared → Prop} {E : Value → Shared → Prop} (I : Inv X pins σ H s) (hp : PlAt H b P) (hd : DnAt X.prog X.w H d ks) (nw : ∀ p ∈ ks, p.1 ≠ P) (z : ks.length < sizeLine) (rv : RelV v u)
    (h : ∀ H' s', Inv X pins σ H' s' → (∃ xs, H' = upd H d (DnO X.prog X.w d xs)) → DnAt X.prog X.w H' d (ks ++ [(P, v)]) → Q () s') : wpAny (model X.prog X.w) X.A (setItem (.ref d) (.ref b) u) Q E s := by
  obtain ⟨xs, e, pr, hm⟩ := hd.keyed I
  have lx : xs.length = ks.length := by
    have := congrArg List.length (keys_pk pr)
    rw [List.length_map, List.length_map, pairsH_length] at this
    exact this
  have no : atKey xs (pk P) = none := by
    cases k : atKey xs (pk P) with
    | none => rfl
    | some y =>
      have : (valueAt (pairsH xs) (pk P)).isSome = true := by rw [valueAt_pairsH, k]; rfl
      rw [valueAt_isSome, keys_pk pr] at this
      obtain ⟨p, m, q⟩ := List.mem_map.mp this
      exact absurd (pk_inj q) (nw p m)
  refine wpAny_setItem_heap (knd := nestedKind X.prog X.w) (A := X.A) (hsz := by rw [lx]; exact hd.z) (by show X.A.units + 1 + 8 < cLine; omega) (nested_pl I hp) hm fun h' hm' hs => ?_
  rw [storedH_new no] at hm'
  obtain ⟨o, es, ep, ho, he, hdt, hl, hk, hn⟩ := hm'
  have new : ObjOk X.prog X.w (upd H d (DnO X.prog X.w d (xs ++ [(pk P, b, u)]))) h' d (DnO X.prog X.w d (xs ++ [(pk P, b, u)])) :=
    ⟨⟨o, es, ep, ho, he, hdt, hl, hn⟩, ⟨o, ho⟩, fun h1 h2 ⟨o, es, ep, ho, r⟩ k => ⟨o, es, ep, k o ho, r⟩⟩
  have t : Tk H (upd H d (DnO X.prog X.w d (xs ++ [(pk P, b, u)]))) := Tk.refl.putE e
  refine h _ _ (d_write I (by rw [e]; exact True.intro) hs ⟨o, ho⟩ new) ⟨_, rfl⟩ ⟨⟨_, upd_same, paired_snoc ⟨rfl, hp.tk t, rv⟩ (paired_map (fun _ _ z => ⟨z.1, z.2.1.tk t, z.2.2⟩) pr)⟩, hd.no, ?_⟩
  rw [List.length_append]
  exact z
theorem dn_empty {P : Program} {w : World} {H : Hp} (h : Heap) : ObjOk P w H (h.push { cls := .type "dict", data := .dict #[] }) h.objs.size (DnO P w h.objs.size []) :=
  ⟨⟨_, #[], 0, Heap.get?_push_size _ rfl, ⟨rfl, rfl, rfl⟩, rfl, rfl, List.nodup_nil⟩, ⟨_, Heap.get?_push_size _ rfl⟩, fun h1 h2 ⟨o, es, ep, ho, r⟩ k => ⟨o, es, ep, k o ho, r⟩⟩
/-- {p: v} -/
def tDNewP (P : Program) (w : World) (tk tv : TE) : TE := fun σ H Q => ∀ d, H d = none → d ≠ sysModules → tk σ (upd H d (DnO P w d [])) fun x H1 => tv σ H1 fun y H2 => ∃ b R, x = .ref b ∧ PlAt H2 b R ∧ H2 d = some (DnO P w d []) ∧
  ∀ H3, (∃ xs, H3 = upd H2 d (DnO P w d xs)) → DnAt P w H3 d [(R, y)] → Q (.ref d) H3
theorem pe_dnewP (hu : X.A.units + 64 < cLine) {k v : Expr} {tk tv : TE} {pos : Pos} (hk : PE X k tk) (hv : PE X v tv) : PE X (.Dict [some k] [v] pos) (tDNewP X.prog X.w tk tv) := by
  refine ⟨fun pn z σ H Q I h => ?_⟩
  have I0 := I.laid (a := z.heap.objs.size) (o := DnO X.prog X.w z.heap.objs.size []) (t' := z.toks) (fun _ _ q => Heap.get?_push_of_some _ q) (Nat.le_refl _) (dn_empty z.heap)
  have h0 := h z.heap.objs.size (I.hok.fresh (Nat.le_refl _)) (fun e => Nat.ne_of_lt I.big e.symm)
  have one := dictDisplay_pairs [(eval k X.env, (do let x ← eval v X.env; standAt pos; pure x : Sem Value))] (by simp) (show 1 < 17 by decide)
  rw [arm_eval_Dict]
  refine wpAny_bind (wpAny_standAt ?_)
  refine (congrArg (fun t => wpAny (model X.prog X.w) X.A t (EP X pn σ Q) X.xe z) one).mpr ?_
  refine wpAny_bind (wpAny_subDictH (knd := nestedKind X.prog X.w) (by show X.A.units + 8 < cLine; omega) (show 1 ≤ 15 by decide) (evalPairs_cons (thn (hk.run pn _ σ _ _ I0 h0) fun kv s1 a1 => ?_)))
  obtain ⟨x, H1, I1, rx, q1⟩ := a1
  refine wpAny_bind (thn (hv.run pn s1 σ H1 _ I1 q1) fun vv s2 a2 => ?_)
  obtain ⟨y, H2, I2, ry, b, R, rfl, hp, e2, q2⟩ := a2
  cases (show kv = Value.ref b from rx)
  have now := I2.hok _ _ e2
  obtain ⟨⟨o, es, ep, ho, he, hd, hl, hn⟩, _, _⟩ := (show ObjOk X.prog X.w H2 s2.heap z.heap.objs.size (DnO X.prog X.w z.heap.objs.size []) from now)
  refine wpAny_bind (wpAny_standAt (wpAny_pure (evalPairs_nil ⟨[(pk R, b, vv)], ⟨rfl, rfl, nested_pl I2 hp, True.intro⟩, ⟨o, es, ep, ho, he, hd, hl, (fun x hx => by cases hx), hn⟩, fun h' tk hm' hs => wpAny_pure ?_⟩)))
  rw [show storedAllH [] [(pk R, b, vv)] = [(pk R, b, vv)] from rfl] at hm'
  obtain ⟨o, es, ep, ho, he, hd, hl, hk, hn⟩ := hm'
  have new : ObjOk X.prog X.w (upd H2 z.heap.objs.size (DnO X.prog X.w z.heap.objs.size [(pk R, b, vv)])) h' z.heap.objs.size (DnO X.prog X.w z.heap.objs.size [(pk R, b, vv)]) :=
    ⟨⟨o, es, ep, ho, he, hd, hl, hn⟩, ⟨o, ho⟩, fun h1 h2 ⟨o, es, ep, ho, r⟩ k => ⟨o, es, ep, k o ho, r⟩⟩
  have t : Tk H2 (upd H2 z.heap.objs.size (DnO X.prog X.w z.heap.objs.size [(pk R, b, vv)])) := Tk.refl.putE e2
  exact ⟨.ref z.heap.objs.size, _, d_write I2 (by rw [e2]; exact True.intro) hs ⟨o, ho⟩ new, rfl, q2 _ ⟨_, rfl⟩ ⟨⟨_, upd_same, .cons ⟨rfl, hp.tk t, ry⟩ .nil⟩, fun e => Nat.ne_of_lt I.big e.symm, by show 1 ≤ sizeLine; decide⟩⟩
/-- d[p], p there -/
def tPGet (P : Program) (w : World) (td ty : TE) : TE := fun σ H Q => td σ H fun x H1 => ty σ H1 fun y H2 => ∃ (d b : Addr) (R : List (Str × Int)) (v : V) (ks : List (List (Str × Int) × V)), x = .ref d ∧ y = .ref b ∧ PlAt H2 b R ∧ DnAt P w H2 d ks ∧ (R, v) ∈ ks ∧ Q v H2
theorem pe_pget (hu : X.A.units + 64 < cLine) {o i : Expr} {pos : Pos} {td ty : TE} (ho : PE X o td) (hi : PE X i ty) (hs : NoSl i) : PE X (.Subscript o i pos) (tPGet X.prog X.w td ty) :=
  ⟨fun pn z σ H Q I h => subD_of PySem.F.slot_dict_getitem.lookup hs (thn (ho.run pn z σ H _ I h) fun u z1 a1 => by
    obtain ⟨x, H1, I1, rx, q1⟩ := a1
    refine thn (hi.run pn z1 σ H1 _ I1 q1) fun iv z2 a2 => ?_
    obtain ⟨y, H2, I2, ry, d, b, R, v, ks, rfl, rfl, hp, hd, m, q⟩ := a2
    cases (show u = Value.ref d from rx)
    cases (show iv = Value.ref b from ry)
    obtain ⟨xs, _, _, hm⟩ := hd.keyed I2
    exact ⟨hm.typeIs, getItem_pk hu I2 hp hd m fun w' z3 I3 rw' => ⟨v, H2, I3, rw', q⟩⟩)⟩
/-- d[p] = v, p not there yet -/
def sPPut (P : Program) (w : World) (td ty tv : TE) : TS := fun D σ H => tv σ H fun v H1 => td σ H1 fun x H2 => ty σ H2 fun y H3 => ∃ (d b : Addr) (R : List (Str × Int)) (ks : List (List (Str × Int) × V)), x = .ref d ∧ y = .ref b ∧ PlAt H3 b R ∧ DnAt P w H3 d ks ∧ (∀ p ∈ ks, p.1 ≠ R) ∧ ks.length < sizeLine ∧
  ∀ H4, (∃ xs, H4 = upd H3 d (DnO P w d xs)) → DnAt P w H4 d (ks ++ [(R, v)]) → D.nx σ H4
theorem ps_pput (hu : X.A.units + 64 < cLine) {o i value : Expr} {pos pos' : Pos} {td ty tv : TE} (ho : PE X o td) (hi : PE X i ty) (hv : PE X value tv) (hs : swapsWith value (some (.Subscript o i pos')) pos.line X.env = pure false) :
    PS X (.Assign [.Subscript o i pos'] value pos) (sPPut X.prog X.w td ty tv) := by
  refine ⟨fun pn z σ H D I h => wpAny_Assign_Subscript (thn (hv.run pn z σ H _ I h) fun r z1 a1 => ?_) hs⟩
  obtain ⟨v, H1, I1, rv, q1⟩ := a1
  refine thn (ho.run pn z1 σ H1 _ I1 q1) fun u z2 a2 => ?_
  obtain ⟨x, H2, I2, rx, q2⟩ := a2
  refine thn (hi.run pn z2 σ H2 _ I2 q2) fun iv z3 a3 => ?_
  obtain ⟨y, H3, I3, ry, d, b, R, ks, rfl, rfl, hp, hd, nw, zz, q⟩ := a3
  cases (show u = Value.ref d from rx)
  cases (show iv = Value.ref b from ry)
  exact setItem_pk hu I3 hp hd nw zz rv fun H4 z4 I4 e d4 => ⟨σ, H4, I4, q H4 e d4⟩
end
end Fw
namespace Fw
open PySem PySem.Spec PyProof.Rows L2
/-! sorted of anything that reads as data -/
theorem each_vals : ∀ {zs : List (V × PyData)} {us : List Value}, Vals (zs.map (·.1)) us → PySem.W.EachIs (fun u z => RelV z.1 u) us zs
  | [], _, r => by cases r; exact .nil
  | z :: zs, _, r => by
    cases r with
    | cons r t => exact .cons r (each_vals t)
theorem vals_each : ∀ {us : List Value} {zs : List (V × PyData)}, PySem.W.EachIs (fun u (z : V × PyData) => RelV z.1 u) us zs → Vals (zs.map (·.1)) us
  | _, _, .nil => .nil
  | _, _, .cons r t => .cons r (vals_each t)
theorem each_reads {X : Cx} {pins : List (Addr × Obj)} {σ : L2.St} {H : Hp} {s : Shared} {h' : Heap} (I : Inv X pins σ H s) (k : ∀ b o, s.heap.get? b = some o → h'.get? b = some o) :
    ∀ {us : List Value} {zs : List (V × PyData)}, PySem.W.EachIs (fun u (z : V × PyData) => RelV z.1 u) us zs → (∀ z ∈ zs, Dp X.K H z.1 z.2) → PySem.W.EachIs (fun u (z : V × PyData) => ∃ as, Reads h' u z.2 as) us zs
  | _, [], .nil, _ => .nil
  | _, z :: zs, .cons r t, hd => by
    obtain ⟨as, r2⟩ := Dp.reads I z.2 z.1 _ (hd z (List.mem_cons_self ..)) r
    exact .cons ⟨as, Reads.keeps k r2⟩ (each_reads I k t fun y hy => hd y (List.mem_cons_of_mem _ hy))
/-- the sorted list -/
def srt (zs : List (V × PyData)) : List (V × PyData) := zs.mergeSort (PySem.W.dataLe false (·.2))
def rSortDat (K : PySem.W.Frag) : List V → Hp → VK → Prop := fun vs H Q => ∃ (a : Addr) (zs : List (V × PyData)), vs = [.ref a] ∧ (SqL K H a (zs.map (·.1)) ∨ SqT K H a (zs.map (·.1))) ∧ (∀ z ∈ zs, Dp K H z.1 z.2) ∧
  PySem.W.AllAlike (zs.map (·.2)) ∧ PySem.W.Sortable (zs.map (·.2)) ∧ (∀ z ∈ zs, z.2.depth ≤ 60) ∧ ∀ p, H p = none → Q (.ref p) (upd H p (.lst ((srt zs).map (·.1))))
theorem cr_sortedDat {X : Cx} (K : PySem.W.Frag) (hK : X.K = K) (hu : X.A.units + 64 < cLine) : CallR X (.builtin "sorted") (rSortDat K) := by
  subst hK
  rintro pins s σ H vs us Q I r ⟨a, zs, rfl, hs, hd, al, so, dp, q⟩
  obtain ⟨u, rfl, ru⟩ := vals1 r
  cases (show u = Value.ref a from ru)
  obtain ⟨its, rv, hz, col⟩ : ∃ its : List Value, Vals (zs.map (·.1)) its ∧ its.length ≤ sizeLine ∧ ∀ (G : List Value → Shared → Prop) (E : Value → Shared → Prop),
      (∀ h' : Heap, (∀ b o, s.heap.get? b = some o → h'.get? b = some o) → G its { s with heap := h' }) → wpAny (model X.prog X.w) X.A.in1 (collect (.ref a)) G E s := by
    rcases hs with hs | hs
    · obtain ⟨its, rv, ⟨o, n, ho, hc, _, hd⟩, hz⟩ := I.list hs
      rw [rv.length] at hz
      refine ⟨its, rv, hz, fun G E g => wpAny_collect_seq a (.inl rfl) ho hc hd (fun h' k => ?_) (by rw [List.size_toArray]; exact hz)⟩
      rw [List.toList_toArray]
      exact g h' k
    · obtain ⟨its, rv, ⟨o, ho, hc, n, hd⟩, hz⟩ := I.tuple hs
      rw [rv.length] at hz
      refine ⟨its, rv, hz, fun G E g => wpAny_collect_seq a (.inr rfl) ho hc hd (fun h' k => ?_) (by rw [List.size_toArray]; exact hz)⟩
      rw [List.toList_toArray]
      exact g h' k
  refine Calls.call_function_entry kind_sorted plain_sorted entry_sorted (args_sorted1 _) ?_
  show wpAny (model X.prog X.w) X.A.in1 (Builtin.«sorted» _) _ _ _
  unfold Builtin.«sorted»
  refine wpAny_bind (m := checkCount "sorted" 1 1 _) (wpAny_pure (wpAny_bind (col _ _ fun h' kp => ?_)))
  refine wpAny_bind (wpAny_newList ?_ hz)
  have at0 : (h'.push (seqObj "list" its.toArray 0)).get? h'.objs.size = some (seqObj "list" its.toArray 0) := Heap.get?_push_size _ rfl
  have ee := each_vals rv
  have keep : ∀ b o, s.heap.get? b = some o → (PySem.W.sortingHeap (h'.push (seqObj "list" its.toArray 0)) h'.objs.size its).get? b = some o := fun b o e => by
    have e1 := kp b o e
    have nb : b ≠ h'.objs.size := Nat.ne_of_lt (Heap.lt_size e1)
    exact Heap.get?_push_of_some _ (Heap.get?_push_of_some _ ((Heap.get?_update_ne _ _ _ _ nb).trans (Heap.get?_push_of_some _ e1)))
  have er := each_reads I keep ee hd
  have S := PySem.W.SortsAt.data (prog := X.prog) (w := X.w) (A := X.A.in1.in1) (s := { s with heap := PySem.W.sortingHeap (h'.push (seqObj "list" its.toArray 0)) h'.objs.size its }) (PySem.W.each_map (R := fun v d => ∃ as, Reads (PySem.W.sortingHeap (h'.push (seqObj "list" its.toArray 0)) h'.objs.size its) v d as) (fun z : V × PyData => z.2) er) al so (fun d hd => by
    obtain ⟨z, hz, rfl⟩ := List.mem_map.mp hd
    have := dp z hz
    show X.A.units + 1 + 1 + z.2.depth < cLine
    omega)
  refine wpAny_bind (wpAny_holding (wpAny_call_entry slot_list_sort ⟨_, at0, rfl⟩ entry_list_sort (PySem.W.list_sort_vals at0 S hz ?_) (args_list_sort _)))
  refine ⟨_, rfl, wpAny_pure ⟨_, rfl, ?_⟩⟩
  have out := vals_each (PySem.W.sortVals_data false ee er al)
  generalize hO : PySem.W.sortVals (PySem.W.dataKind (PySem.W.sortingHeap (h'.push (seqObj "list" its.toArray 0)) h'.objs.size its) (zs.map (·.2))) false its its = O at out
  have hO' : PySem.W.sortVals (PySem.W.dataKind (PySem.W.sortingHeap (h'.push (seqObj "list" its.toArray 0)) h'.objs.size its) (zs.map fun x => x.2)) false its its = O := hO
  obtain ⟨e', he'⟩ := sortedHeap_at (vs := its) (out := O.toArray) at0
  have I1 : Inv X pins σ H { s with heap := h' } := I.kept (t' := s.toks) kp
  refine ⟨.ref h'.objs.size, upd H h'.objs.size (.lst ((srt zs).map (·.1))), I1.laid (t' := s.toks) (o := .lst ((srt zs).map (·.1))) (fun b u e => ?_) (Nat.le_refl _) ⟨?_, O, e', out, he'⟩, rfl, q _ (I1.hok.fresh (Nat.le_refl _))⟩
  · have lt := Heap.lt_size e
    rw [sortedHeap_old (Nat.ne_of_lt lt) (by rw [size_push']; exact Nat.lt_succ_of_lt lt)]
    exact Heap.get?_push_of_some _ e
  · have h1 := rv.length
    rw [List.length_map] at h1 ⊢
    unfold srt
    rw [List.length_mergeSort]
    omega
/-! text * number -/
def repS (z : Str) (k : Nat) : Str := ⟨(List.replicate k z.cps).foldl (· ++ ·) #[]⟩
theorem op_mulS {X : Cx} : OpR X (binaryOp .Mult) (fun x y H Q => ∃ (z : Str) (k : Int), x = .str z ∧ y = .int k ∧ 2 ≤ k ∧ k ≤ 1000 ∧ 1 ≤ z.length ∧ z.length ≤ 1000 ∧ (repS z k.toNat).length ≤ sizeLine ∧ Q (.str (repS z k.toNat)) H) := by
  rintro pins s σ H x y v u Q I rx ry ⟨z, k, rfl, rfl, k0, k1, z0, z1, zz, q⟩
  obtain ⟨t, rfl⟩ := rx
  obtain ⟨t', rfl⟩ := ry
  have b : ¬ k < 1 := by omega
  have e : (k == 1 || z.length == 0) = false := by
    rw [beq_eq_false_iff_ne.mpr (show k ≠ 1 by omega), beq_eq_false_iff_ne.mpr (show z.length ≠ 0 by omega)]
    rfl
  refine P.mul_str (by rw [decide_eq_false (by omega), decide_eq_false (by omega)]; rfl) (fun _ _ => ?_) (fun _ _ => ?_) ?_
  · have h1 : (z.length : Int) * k ≤ 1000 * 1000 := Int.mul_le_mul (by omega) k1 (by omega) (by omega)
    have h2 : (z.length : Int) ≤ (2 ^ 63 - 1) / k := (Int.le_ediv_iff_mul_le (by omega)).mpr (by omega)
    omega
  · unfold Builtin.Str.tooLong
    have h1 : z.length * k.toNat ≤ 1000 * 1000 := Nat.mul_le_mul z1 (by omega)
    have := sizeLine_eq
    exact decide_eq_false (by omega)
  · rw [if_neg b, e, if_neg (by decide)]
    exact ⟨zz, .str (repS z k.toNat), H, I.tok _, ⟨_, rfl⟩, q⟩
/-! a placement, sorted -/
theorem pp_le {a b : Str × Int} (h : PySem.W.dataLe false pp a b = true) (n : a.1 ≠ b.1) : ltS a.1 b.1 := by
  have h : (!PySem.W.dataLt (pp b) (pp a)) = true := h
  have e : PySem.W.dataLt (pp b) (pp a) = PySem.W.dataLt (.str b.1) (.str a.1) := by
    unfold pp
    rw [PySem.W.dataLt_pair (by simp [PySem.W.alike]) (by simp [PySem.W.alike]), if_neg]
    simp only [PyData.eqv]
    intro z
    exact n (by simpa using z : b.1 = a.1).symm
  rw [e] at h
  have h2 : PySem.W.dataLe false (fun x : Str × Int => .str x.1) a b = true := h
  rw [PySem.W.dataLe_str] at h2
  have h2 : a.1.cps.toList ≤ b.1.cps.toList := of_decide_eq_true h2
  exact ltS_of (Std.not_lt.mpr h2) n
theorem sort_pl {K : PySem.W.Frag} {H : Hp} {c : Addr} {ps : List (Addr × Str × Int)} {Q : VK} (hc : SqL K H c (ps.map fun q => V.ref q.1) ∨ SqT K H c (ps.map fun q => V.ref q.1)) (hp : ∀ q ∈ ps, H q.1 = some (.tup [.str q.2.1, .int q.2.2]))
    (h : ∀ (p : Addr) (qs : List (Addr × Str × Int)), H p = none → qs.Perm ps → qs.Pairwise (fun a b => a.2.1 ≠ b.2.1 → ltS a.2.1 b.2.1) → Q (.ref p) (upd H p (.lst (qs.map fun q => V.ref q.1)))) : rSortDat K [.ref c] H Q := by
  have e1 : (ps.map fun q => (V.ref q.1, pp q.2)).map (·.1) = ps.map fun q => V.ref q.1 := by rw [List.map_map]; rfl
  have e2 : (ps.map fun q => (V.ref q.1, pp q.2)).map (·.2) = ps.map fun q => pp q.2 := by rw [List.map_map]; rfl
  refine ⟨c, ps.map fun q => (V.ref q.1, pp q.2), rfl, by rw [e1]; exact hc, fun z hz => ?_, ?_, ?_, fun z hz => ?_, fun p hn => ?_⟩
  · obtain ⟨q, hq, rfl⟩ := List.mem_map.mp hz
    exact .tup (SqT.of (hp q hq)) (.cons (.str _) (.cons (.int _) .nil))
  · rw [e2]
    exact PySem.W.AllAlike.of (enc := fun q : Addr × Str × Int => pp q.2) fun a b => by simp [pp, PySem.W.alike, PySem.W.alikeAll]
  · rw [e2]
    exact PySem.W.Sortable.tuples (enc := fun q : Addr × Str × Int => pp q.2) fun b => ⟨_, _, rfl⟩
  · obtain ⟨q, hq, rfl⟩ := List.mem_map.mp hz
    simp [pp, PyData.depth, PyData.depthAll]
  · have es : srt (ps.map fun q => (V.ref q.1, pp q.2)) = (ps.mergeSort (PySem.W.dataLe false fun q : Addr × Str × Int => pp q.2)).map fun q => (V.ref q.1, pp q.2) :=
      (PySem.W.sort_maps (f := fun q : Addr × Str × Int => (V.ref q.1, pp q.2)) fun a _ b _ => rfl).symm
    rw [es, List.map_map]
    refine h p _ hn (List.mergeSort_perm _ _) ?_
    have tot : PySem.W.TotalLe (PySem.W.dataLe false fun q : Addr × Str × Int => pp q.2) := PySem.W.sortLe_total (listOrd itemOrd) false fun q : Addr × Str × Int => PySem.W.keyToks (pp q.2)
    exact (PySem.W.sort_pairwise tot ps).imp fun {a b} z n => pp_le (a := a.2) (b := b.2) z n
theorem pl_add {n r : Int} {P P' : List (Str × Int)} {nm : Str} (pl : Pl n P) (hn : Nam nm) (no : nm ∉ P.map (·.1)) (r0 : 0 ≤ r) (r1 : r < n) (pm : P'.Perm (P ++ [(nm, r)])) (so : P'.Pairwise (fun a b => a.1 ≠ b.1 → ltS a.1 b.1)) : Pl n P' := by
  have nd : (P'.map (·.1)).Nodup := by
    rw [(pm.map (·.1)).nodup_iff, List.map_append, List.nodup_append]
    refine ⟨pl.nodup, by simp, fun a ha b hb e => ?_⟩
    rw [List.map_cons, List.map_nil, List.mem_singleton] at hb
    rw [e, hb] at ha
    exact no ha
  refine ⟨⟨fun x hx => ?_, ?_⟩, fun x hx => ?_⟩
  · have := (pm.map (·.1)).mem_iff.mp hx
    rw [List.map_append, List.mem_append] at this
    rcases this with m | m
    · exact pl.nm.nam x m
    · rw [List.map_cons, List.map_nil, List.mem_singleton] at m
      rw [m]
      exact hn
  · rw [List.pairwise_map]
    rw [List.nodup_iff_pairwise_ne, List.pairwise_map] at nd
    exact (so.and nd).imp fun {a b} z => z.1 z.2
  · rcases List.mem_append.mp (pm.mem_iff.mp hx) with m | m
    · exact pl.rm x m
    · rw [List.mem_singleton.mp m]
      exact ⟨r0, r1⟩
end Fw
namespace Fw
open PySem PySem.Spec PyProof.Rows L2 SrtO
/-! len and sorted of a dict keyed by placements -/
theorem src_dict {prog : Program} {w : World} {d : Addr} {es : Array DictEntry} {ep : Nat} (hd : (d == sysModules) = false) :
    PySem.W.KdlSrc prog w "dict" d d es.size (fun i v => ∃ hi : i < es.size, v = es[i].key) (fun h => h.DictRaw d es ep) := by
  have lt : ∀ {h : Heap}, h.DictRaw d es ep → d < h.objs.size := fun ⟨_, ho, _⟩ => Heap.lt_size ho
  exact {
    iter := fun _ s hh hm => ⟨_, _, fun _ _ hq => wpAny_pyIter_dict_raw hd hm hq, Walks.rawKeys hh _ d (Nat.ne_of_lt (lt hm)) es ep, ⟨⟨_, Heap.get?_push_size _ rfl, rfl, rfl⟩, hm.at fun _ e => Heap.get?_push_of_some _ e⟩⟩
    hint := fun _ _ _ _ hm hq => PySem.W.kdl_hint_dict hm.typeIs hq
    keep := fun _ _ hm hk => hm.at fun o e => hk d (.inr rfl) o e
    there := fun _ hm => ⟨lt hm, lt hm⟩
    type := fun _ hm => hm.typeIs
    notTuple := by decide
    notList := by decide }
section
variable {X : Cx}
/-- sorted of what collects to data -/
theorem sorted_dat {pins : List (Addr × Obj)} {σ : L2.St} {s : Shared} {H : Hp} {a : Addr} {zs : List (V × PyData)} {its : List Value} {Q : VK} (hu : X.A.units + 64 < cLine) (I : Inv X pins σ H s) (rv : Vals (zs.map (·.1)) its) (hz : its.length ≤ sizeLine)
    (col : ∀ (G : List Value → Shared → Prop) (E : Value → Shared → Prop), (∀ (h' : Heap) (tk : Nat), (∀ b o, s.heap.get? b = some o → h'.get? b = some o) → G its { s with heap := h', toks := tk }) → wpAny (model X.prog X.w) X.A.in1 (collect (.ref a)) G E s)
    (hd : ∀ z ∈ zs, Dp X.K H z.1 z.2) (al : PySem.W.AllAlike (zs.map (·.2))) (so : PySem.W.Sortable (zs.map (·.2))) (dp : ∀ z ∈ zs, z.2.depth ≤ 60)
    (q : ∀ p, H p = none → Q (.ref p) (upd H p (.lst ((srt zs).map (·.1))))) :
    wpAny (model X.prog X.w) X.A (call (.builtin "sorted") [.ref a]) (fun v s' => ∃ x H', Inv X pins σ H' s' ∧ RelV x v ∧ Q x H') X.xe s := by
  refine Calls.call_function_entry kind_sorted plain_sorted entry_sorted (args_sorted1 _) ?_
  show wpAny (model X.prog X.w) X.A.in1 (Builtin.«sorted» _) _ _ _
  unfold Builtin.«sorted»
  refine wpAny_bind (m := checkCount "sorted" 1 1 _) (wpAny_pure (wpAny_bind (col _ _ fun h' tk kp => ?_)))
  refine wpAny_bind (wpAny_newList ?_ hz)
  have at0 : (h'.push (seqObj "list" its.toArray 0)).get? h'.objs.size = some (seqObj "list" its.toArray 0) := Heap.get?_push_size _ rfl
  have ee := each_vals rv
  have keep : ∀ b o, s.heap.get? b = some o → (PySem.W.sortingHeap (h'.push (seqObj "list" its.toArray 0)) h'.objs.size its).get? b = some o := fun b o e => by
    have e1 := kp b o e
    have nb : b ≠ h'.objs.size := Nat.ne_of_lt (Heap.lt_size e1)
    exact Heap.get?_push_of_some _ (Heap.get?_push_of_some _ ((Heap.get?_update_ne _ _ _ _ nb).trans (Heap.get?_push_of_some _ e1)))
  have er := each_reads I keep ee hd
  have S := PySem.W.SortsAt.data (prog := X.prog) (w := X.w) (A := X.A.in1.in1) (s := { s with toks := tk, heap := PySem.W.sortingHeap (h'.push (seqObj "list" its.toArray 0)) h'.objs.size its }) (PySem.W.each_map (R := fun v d => ∃ as, Reads (PySem.W.sortingHeap (h'.push (seqObj "list" its.toArray 0)) h'.objs.size its) v d as) (fun z : V × PyData => z.2) er) al so (fun d hd => by
    obtain ⟨z, hz, rfl⟩ := List.mem_map.mp hd
    have := dp z hz
    show X.A.units + 1 + 1 + z.2.depth < cLine
    omega)
  refine wpAny_bind (wpAny_holding (wpAny_call_entry slot_list_sort ⟨_, at0, rfl⟩ entry_list_sort (PySem.W.list_sort_vals at0 S hz ?_) (args_list_sort _)))
  refine ⟨_, rfl, wpAny_pure ⟨_, rfl, ?_⟩⟩
  have out := vals_each (PySem.W.sortVals_data false ee er al)
  generalize hO : PySem.W.sortVals (PySem.W.dataKind (PySem.W.sortingHeap (h'.push (seqObj "list" its.toArray 0)) h'.objs.size its) (zs.map (·.2))) false its its = O at out
  have hO' : PySem.W.sortVals (PySem.W.dataKind (PySem.W.sortingHeap (h'.push (seqObj "list" its.toArray 0)) h'.objs.size its) (zs.map fun x => x.2)) false its its = O := hO
  obtain ⟨e', he'⟩ := sortedHeap_at (vs := its) (out := O.toArray) at0
  have I1 : Inv X pins σ H { s with heap := h', toks := tk } := I.kept (t' := tk) kp
  refine ⟨.ref h'.objs.size, upd H h'.objs.size (.lst ((srt zs).map (·.1))), I1.laid (t' := tk) (o := .lst ((srt zs).map (·.1))) (fun b u e => ?_) (Nat.le_refl _) ⟨?_, O, e', out, he'⟩, rfl, q _ (I1.hok.fresh (Nat.le_refl _))⟩
  · have lt := Heap.lt_size e
    rw [sortedHeap_old (Nat.ne_of_lt lt) (by rw [size_push']; exact Nat.lt_succ_of_lt lt)]
    exact Heap.get?_push_of_some _ e
  · have h1 := rv.length
    rw [List.length_map] at h1 ⊢
    unfold srt
    rw [List.length_mergeSort]
    omega
/-- sorted of what collects to one value or none -/
theorem sorted_short {pins : List (Addr × Obj)} {σ : L2.St} {s : Shared} {H : Hp} {a : Addr} {xs : List V} {its : List Value} {Q : VK} (I : Inv X pins σ H s) (rv : Vals xs its) (hz : its.length ≤ 1)
    (col : ∀ (G : List Value → Shared → Prop) (E : Value → Shared → Prop), (∀ (h' : Heap) (tk : Nat), (∀ b o, s.heap.get? b = some o → h'.get? b = some o) → G its { s with heap := h', toks := tk }) → wpAny (model X.prog X.w) X.A.in1 (collect (.ref a)) G E s)
    (q : ∀ p, H p = none → Q (.ref p) (upd H p (.lst xs))) :
    wpAny (model X.prog X.w) X.A (call (.builtin "sorted") [.ref a]) (EP X pins σ Q) X.xe s := by
  have ll : its.length ≤ sizeLine := Nat.le_trans hz (by show 1 ≤ sizeLine; decide)
  refine sorted_any swo_int (fun us z => us = its ∧ Inv X pins σ H z ∧ z = { s with heap := z.heap, toks := z.toks }) (col _ _ fun h' tk kp => ⟨rfl, I.kept kp, rfl⟩) (fun vs z g => by rw [g.1]; exact ll) (fun vs z g h2 => by rw [g.1] at h2; omega) ?_
  rintro us z out ⟨rfl, J, ez'⟩ h1 h2
  have same : out = us := by
    have p := h2.perm
    match us, hz, p with
    | [], _, p => exact List.perm_nil.mp p
    | [x], _, p => exact List.perm_singleton.mp p
  rw [same]
  have at0 : (z.heap.push (seqObj "list" us.toArray 0)).get? z.heap.objs.size = some (seqObj "list" us.toArray 0) := Heap.get?_push_size _ rfl
  obtain ⟨e', he'⟩ := sortedHeap_at (vs := us) (out := us.toArray) at0
  refine ⟨.ref z.heap.objs.size, upd H z.heap.objs.size (.lst xs), J.laid (t' := z.toks) (fun b u e => ?_) (Nat.le_refl _) ⟨?_, us, e', rv, he'⟩, rfl, q _ (J.hok.fresh (Nat.le_refl _))⟩
  · have lt := Heap.lt_size e
    rw [sortedHeap_old (Nat.ne_of_lt lt) (by rw [size_push']; exact Nat.lt_succ_of_lt lt)]
    exact Heap.get?_push_of_some _ e
  · have := rv.length
    omega
theorem paired_len {α β : Type} {F : α → β → Prop} : ∀ {xs : List α} {ys : List β}, Paired F xs ys → xs.length = ys.length
  | _, _, .nil => rfl
  | _, _, .cons _ r => congrArg Nat.succ (paired_len r)
theorem call_lenP {X : Cx} : CallR X (.builtin "len") (fun xs H Q => ∃ (d : Addr) (ks : List (List (Str × Int) × V)), xs = [.ref d] ∧ DnAt X.prog X.w H d ks ∧ Q (.int ks.length) H) := by
  intro pins s σ H xs us Q I r h
  obtain ⟨d, ks, rfl, hd, q⟩ := h
  rw [Vals.ref1 r]
  obtain ⟨xs, e, pr, hm⟩ := hd.keyed I
  have l := paired_len pr
  have z := hd.z
  refine call_len_dictH (by simpa using hd.no) hm (by rw [← l]; have := sizeLine_eq; omega) ?_
  exact ⟨.int ks.length, H, I.tok _, ⟨_, by rw [← l]⟩, q⟩
/-- sorted(d): the keys in some order -/
def rSortP (P : Program) (w : World) : List V → Hp → VK → Prop := fun vs H Q => ∃ (d : Addr) (ks : List (List (Str × Int) × V)), vs = [.ref d] ∧ DnAt P w H d ks ∧ ((∀ p ∈ ks, p.1 ≠ []) ∨ ks.length ≤ 1) ∧
  ∀ p (bs : List (Addr × List (Str × Int))), H p = none → (bs.map (·.2)).Perm (ks.map (·.1)) → (∀ b ∈ bs, PlAt H b.1 b.2) → Q (.ref p) (upd H p (.lst (bs.map fun b => V.ref b.1)))
theorem keys_of {H : Hp} : ∀ {ks : List (List (Str × Int) × V)} {xs : List (NestedKey × Addr × Value)}, Paired (DnE H) ks xs → ∃ bs : List (Addr × List (Str × Int)), bs.map (·.2) = ks.map (·.1) ∧ (∀ b ∈ bs, PlAt H b.1 b.2) ∧ bs.map (·.1) = xs.map fun x => x.2.1
  | _, _, .nil => ⟨[], rfl, (fun _ h => nomatch h), rfl⟩
  | k :: ks, x :: xs, .cons h r => by
    obtain ⟨bs, b1, b2, b3⟩ := keys_of r
    refine ⟨(x.2.1, k.1) :: bs, by rw [List.map_cons, b1]; rfl, fun b hb => ?_, by rw [List.map_cons, b3]; rfl⟩
    rcases List.mem_cons.mp hb with rfl | hb
    · exact h.2.1
    · exact b2 b hb
theorem alike_pld (xs ys : List (Str × Int)) : PySem.W.alikeAll (xs.map pp) (ys.map pp) = true := by
  induction xs generalizing ys with
  | nil => simp [PySem.W.alikeAll]
  | cons x xs ih =>
    cases ys with
    | nil => simp [PySem.W.alikeAll]
    | cons y ys => simp [PySem.W.alikeAll, pp, PySem.W.alike, ih ys]
theorem pld_depth (xs : List (Str × Int)) : (pld xs).depth ≤ 60 := by
  have : PyData.depthAll (xs.map pp) ≤ 2 := by
    induction xs with
    | nil => simp [PyData.depthAll]
    | cons x xs ih =>
      rw [List.map_cons]
      simp only [PyData.depthAll, pp, PyData.depth]
      omega
  show (PyData.tuple (xs.map pp)).depth ≤ 60
  simp only [PyData.depth]
  omega
end
theorem cr_sortedPl {X : Cx} (hc : X.calm = true) (hu : X.A.units + 64 < cLine) : CallR X (.builtin "sorted") (rSortP X.prog X.w) := by
  intro pins s σ H xs us Q I r h
  obtain ⟨d, ks, rfl, hd, ne, q⟩ := h
  rw [Vals.ref1 r]
  obtain ⟨xs, e, pr, hm⟩ := hd.keyed I
  have l := paired_len pr
  have z := hd.z
  obtain ⟨bs, b1, b2, b3⟩ := keys_of pr
  have lb : bs.length = ks.length := by
    have := congrArg List.length b1
    rw [List.length_map, List.length_map] at this
    exact this
  obtain ⟨es, ep, raw, sz, at'⟩ := hm.raw
  have rv : Vals (bs.map fun b => V.ref b.1) (xs.map fun x => Value.ref x.2.1) := by
    have : (bs.map fun b => V.ref b.1) = xs.map fun x => V.ref x.2.1 := by
      have := congrArg (List.map V.ref) b3
      rw [List.map_map, List.map_map] at this
      exact this
    rw [this]
    clear this raw at' sz b3 b1 l pr hm e
    induction xs with
    | nil => exact .nil
    | cons x xs ih => exact .cons rfl ih
  have lx : (xs.map fun x => Value.ref x.2.1).length = ks.length := by rw [List.length_map, l]
  have col : ∀ (G : List Value → Shared → Prop) (E : Value → Shared → Prop), (∀ (h' : Heap) (tk : Nat), (∀ b o, s.heap.get? b = some o → h'.get? b = some o) → G (xs.map fun x => Value.ref x.2.1) { s with heap := h', toks := tk }) → wpAny (model X.prog X.w) X.A.in1 (collect (.ref d)) G E s := fun G E g => by
    refine PySem.W.kdu_collect (src_dict (by simpa using hd.no)) (I.ok.hd hc) raw (by omega) fun h' tk acc keep items => ?_
    have : acc.toList = xs.map fun x => Value.ref x.2.1 := by
      refine List.ext_getElem? fun i => ?_
      rw [Array.getElem?_toList, List.getElem?_map]
      by_cases hi : i < acc.size
      · have ei : acc[i]? = some acc[i] := Array.getElem?_eq_getElem hi
        obtain ⟨hj, ev⟩ := items.2 i _ ei
        obtain ⟨y, y1, y2, _⟩ := at' i hj
        rw [ei, y1, ev, y2]
        rfl
      · have n1 : acc[i]? = none := Array.getElem?_eq_none (by omega)
        have n2 : xs[i]? = none := List.getElem?_eq_none (by have := items.1; omega)
        rw [n1, n2]
        rfl
    rw [this]
    exact g h' tk keep
  rcases ne with ne | short
  · let f : Addr × List (Str × Int) → V × PyData := fun b => (V.ref b.1, pld b.2)
    have f1 : (bs.map f).map (·.1) = bs.map fun b => V.ref b.1 := by rw [List.map_map]; rfl
    have f2 : (bs.map f).map (·.2) = bs.map fun b => pld b.2 := by rw [List.map_map]; rfl
    refine sorted_dat hu I (zs := bs.map f) (by rw [f1]; exact rv) (by rw [lx]; exact z) col (fun y hy => ?_) ?_ ?_ (fun y hy => ?_) fun p hp => ?_
    · obtain ⟨b, hb, rfl⟩ := List.mem_map.mp hy
      exact (b2 b hb).dp
    · rw [f2]
      exact PySem.W.AllAlike.of (enc := fun b : Addr × List (Str × Int) => pld b.2) fun a b => by
        show PySem.W.alike (.tuple (a.2.map pp)) (.tuple (b.2.map pp)) = true
        rw [PySem.W.alike]
        exact alike_pld _ _
    · rw [f2]
      refine .inl fun y hy => ?_
      obtain ⟨b, hb, rfl⟩ := List.mem_map.mp hy
      have mb : b.2 ∈ ks.map (·.1) := by rw [← b1]; exact List.mem_map_of_mem hb
      obtain ⟨k, hk, ek⟩ := List.mem_map.mp mb
      have nb := ne k hk
      rw [ek] at nb
      obtain ⟨x, r, er⟩ := List.exists_cons_of_ne_nil nb
      exact ⟨pp x, r.map pp, by rw [er]; rfl⟩
    · obtain ⟨b, hb, rfl⟩ := List.mem_map.mp hy
      exact pld_depth _
    · have es' : srt (bs.map f) = (bs.mergeSort (PySem.W.dataLe false fun b : Addr × List (Str × Int) => pld b.2)).map f := (PySem.W.sort_maps (f := f) fun a _ b _ => rfl).symm
      rw [es', List.map_map]
      have pm := List.mergeSort_perm bs (PySem.W.dataLe false fun b : Addr × List (Str × Int) => pld b.2)
      refine q p _ hp ?_ fun b hb => b2 b (pm.mem_iff.mp hb)
      rw [← b1]
      exact pm.map _
  · exact sorted_short I rv (by rw [lx]; exact short) col fun p hp => q p bs hp (by rw [b1]) b2
end Fw
set_option maxHeartbeats 2000000
namespace Fw
open PySem PySem.Spec PyProof.Rows L2 SrtO
/-! dicts keyed by tuples of ints: {t: v} and sorted(d) -/
/-- {k: v}, k a tuple of ints and texts -/
def tDisp1 (tk tv : TE) : TE := fun σ H Q => ∀ d, H d = none → tk σ (upd H d (.dT [])) fun x H1 => tv σ H1 fun y H2 => ∃ (b : Addr) (ks : List L2.Key), x = .ref b ∧ H2 b = some (.tup (ks.map kV)) ∧ H2 d = some (.dT []) ∧ Q (.ref d) (upd H2 d (.dT [(ks, y)]))
theorem pe_disp1 {X : Cx} (hu : X.A.units + 64 < cLine) {k v : Expr} {tk tv : TE} {pos : Pos} (hk : PE X k tk) (hv : PE X v tv) : PE X (.Dict [some k] [v] pos) (tDisp1 tk tv) := by
  refine ⟨fun pn z σ H Q I h => ?_⟩
  have I0 := I.laid (a := z.heap.objs.size) (o := .dT []) (t' := z.toks) (fun _ _ q => Heap.get?_push_of_some _ q) (Nat.le_refl _) (dt_empty z.heap I.big)
  have h0 := h z.heap.objs.size (I.hok.fresh (Nat.le_refl _))
  have one := dictDisplay_pairs [(eval k X.env, (do let x ← eval v X.env; standAt pos; pure x : Sem Value))] (by simp) (show 1 < 17 by decide)
  rw [arm_eval_Dict]
  refine wpAny_bind (wpAny_standAt ?_)
  refine (congrArg (fun t => wpAny (model X.prog X.w) X.A t (EP X pn σ Q) X.xe z) one).mpr ?_
  refine wpAny_bind (wpAny_subDictH (knd := tupleKind (mixKind X.prog X.w)) (show X.A.units < cLine by omega) (show 1 ≤ 15 by decide) (evalPairs_cons (thn (hk.run pn _ σ _ _ I0 h0) fun kv s1 a1 => ?_)))
  obtain ⟨x, H1, I1, rx, q1⟩ := a1
  refine wpAny_bind (thn (hv.run pn s1 σ H1 _ I1 q1) fun vv s2 a2 => ?_)
  obtain ⟨y, H2, I2, ry, b, ks, rfl, eb, e2, q2⟩ := a2
  cases (show kv = Value.ref b from rx)
  obtain ⟨zz, hdm, xs, rel, dd⟩ := dt_of I2.hok e2
  cases rel
  refine wpAny_bind (wpAny_standAt (wpAny_pure (evalPairs_nil ⟨[(ks, b, vv)], ⟨rfl, rfl, key_of I2.hok eb, True.intro⟩, dd, fun h' tk hm' hs => wpAny_pure ?_⟩)))
  rw [show storedAllH [] [(ks, b, vv)] = [(ks, b, vv)] from rfl] at hm'
  obtain ⟨q, es, ep, hq, g2, g3, g4, _, g5⟩ := hm'
  refine ⟨.ref z.heap.objs.size, _, d_write (ob := .dT [(ks, y)]) I2 (by rw [e2]; exact True.intro) hs ⟨q, hq⟩ ⟨by show 1 ≤ sizeLine; decide, hdm, [(ks, b, vv)], .cons ⟨rfl, ?_, ry⟩ .nil, q, es, ep, hq, g2, g3, g4, g5⟩, rfl, q2⟩
  rw [upd_ne (ne_of eb e2 (fun z => nomatch z))]
  exact eb
/-- ints as a key -/
def ik (c : List Int) : List L2.Key := c.map Sum.inl
theorem ik_V (c : List Int) : (ik c).map kV = vi c := by
  unfold ik vi
  rw [List.map_map]
  rfl
theorem ik_inj {c d : List Int} (h : ik c = ik d) : c = d := by
  induction c generalizing d with
  | nil => cases d with
    | nil => rfl
    | cons y d => cases h
  | cons x c ih => cases d with
    | nil => cases h
    | cons y d =>
      obtain ⟨h1, h2⟩ := List.cons.inj h
      rw [Sum.inl.inj h1, ih h2]
def kvs1 (L : List (List Int × V)) : List (List L2.Key × V) := L.map fun p => (ik p.1, p.2)
theorem valV_ik {L : List (List Int × V)} (nd : (L.map (·.1)).Nodup) {c : List Int} {v : V} (h : (c, v) ∈ L) : valV (kvs1 L) (ik c) = some v := by
  induction L with
  | nil => cases h
  | cons x L ih =>
    rw [List.map_cons, List.nodup_cons] at nd
    unfold kvs1
    rw [List.map_cons]
    rcases List.mem_cons.mp h with e | m
    · rw [valV_pos (by rw [← e]), ← e]
    · rw [valV_neg (fun z => nd.1 (by rw [ik_inj z]; exact List.mem_map_of_mem (f := (·.1)) m))]
      exact ih nd.2 m
theorem valV_ik_none {L : List (List Int × V)} {c : List Int} (h : c ∉ L.map (·.1)) : valV (kvs1 L) (ik c) = none := by
  induction L with
  | nil => rfl
  | cons x L ih =>
    unfold kvs1
    rw [List.map_cons, valV_neg (fun z => h (by rw [← ik_inj z]; simp))]
    exact ih fun z => h (by rw [List.map_cons]; exact List.mem_cons_of_mem _ z)
theorem kvs1_app (L M : List (List Int × V)) : kvs1 (L ++ M) = kvs1 L ++ kvs1 M := by unfold kvs1; rw [List.map_append]
/-- sorted(d), its keys tuples of ints, none of them empty -/
def rSortC : List V → Hp → VK → Prop := fun vs H Q => ∃ (d : Addr) (L : List (List Int × V)), vs = [.ref d] ∧ H d = some (.dT (kvs1 L)) ∧ (∀ p ∈ L, p.1 ≠ []) ∧
  ∀ p (bs : List (Addr × List Int)), H p = none → (bs.map (·.2)).Perm (L.map (·.1)) → (∀ b ∈ bs, H b.1 = some (.tup (vi b.2))) → Q (.ref p) (upd H p (.lst (bs.map fun b => V.ref b.1)))
theorem keysC {H : Hp} : ∀ {L : List (List Int × V)} {xs : List (List L2.Key × Addr × Value)}, KT H (kvs1 L) xs → ∃ bs : List (Addr × List Int), bs.map (·.2) = L.map (·.1) ∧ (∀ b ∈ bs, H b.1 = some (.tup (vi b.2))) ∧ bs.map (·.1) = xs.map fun x => x.2.1
  | [], _, h => by cases h; exact ⟨[], rfl, (fun _ h => nomatch h), rfl⟩
  | k :: L, _, h => by
    cases h with
    | @cons _ x _ xs h r =>
    obtain ⟨bs, b1, b2, b3⟩ := keysC (L := L) r
    refine ⟨(x.2.1, k.1) :: bs, by rw [List.map_cons, b1]; rfl, fun b hb => ?_, by rw [List.map_cons, b3]; rfl⟩
    rcases List.mem_cons.mp hb with rfl | hb
    · have := h.2.1
      rw [show ((ik k.1, k.2) : List L2.Key × V).1 = ik k.1 from rfl, ik_V] at this
      exact this
    · exact b2 b hb
theorem alike_ints (xs ys : List Int) : PySem.W.alikeAll (xs.map PyData.int) (ys.map PyData.int) = true := by
  induction xs generalizing ys with
  | nil => simp [PySem.W.alikeAll]
  | cons x xs ih =>
    cases ys with
    | nil => simp [PySem.W.alikeAll]
    | cons y ys => simp [PySem.W.alikeAll, PySem.W.alike, ih ys]
theorem cr_sortedC {X : Cx} (hc : X.calm = true) (hu : X.A.units + 64 < cLine) : CallR X (.builtin "sorted") rSortC := by
  intro pins s σ H xs us Q I r h
  obtain ⟨d, L, rfl, hd, ne, q⟩ := h
  rw [Vals.ref1 r]
  obtain ⟨z, dn, xs, rel, hm⟩ := dt_of I.hok hd
  have l := paired_len rel
  obtain ⟨bs, b1, b2, b3⟩ := keysC rel
  obtain ⟨es, ep, raw, sz, at'⟩ := hm.raw
  have rv : Vals (bs.map fun b => V.ref b.1) (xs.map fun x => Value.ref x.2.1) := by
    have : (bs.map fun b => V.ref b.1) = xs.map fun x => V.ref x.2.1 := by
      have := congrArg (List.map V.ref) b3
      rw [List.map_map, List.map_map] at this
      exact this
    rw [this]
    clear this raw at' sz b3 b1 l rel hm
    induction xs with
    | nil => exact .nil
    | cons x xs ih => exact .cons rfl ih
  have lx : (xs.map fun x => Value.ref x.2.1).length = (kvs1 L).length := by rw [List.length_map, l]
  have col : ∀ (G : List Value → Shared → Prop) (E : Value → Shared → Prop), (∀ (h' : Heap) (tk : Nat), (∀ b o, s.heap.get? b = some o → h'.get? b = some o) → G (xs.map fun x => Value.ref x.2.1) { s with heap := h', toks := tk }) → wpAny (model X.prog X.w) X.A.in1 (collect (.ref d)) G E s := fun G E g => by
    refine PySem.W.kdu_collect (src_dict dn) (I.ok.hd hc) raw (by rw [List.length_map] at lx; omega) fun h' tk acc keep items => ?_
    have : acc.toList = xs.map fun x => Value.ref x.2.1 := by
      refine List.ext_getElem? fun i => ?_
      rw [Array.getElem?_toList, List.getElem?_map]
      by_cases hi : i < acc.size
      · have ei : acc[i]? = some acc[i] := Array.getElem?_eq_getElem hi
        obtain ⟨hj, ev⟩ := items.2 i _ ei
        obtain ⟨y, y1, y2, _⟩ := at' i hj
        rw [ei, y1, ev, y2]
        rfl
      · have n1 : acc[i]? = none := Array.getElem?_eq_none (by omega)
        have n2 : xs[i]? = none := List.getElem?_eq_none (by have := items.1; omega)
        rw [n1, n2]
        rfl
    rw [this]
    exact g h' tk keep
  let f : Addr × List Int → V × PyData := fun b => (V.ref b.1, .tuple (b.2.map PyData.int))
  have f1 : (bs.map f).map (·.1) = bs.map fun b => V.ref b.1 := by rw [List.map_map]; rfl
  have f2 : (bs.map f).map (·.2) = bs.map fun b => PyData.tuple (b.2.map PyData.int) := by rw [List.map_map]; rfl
  refine sorted_dat hu I (zs := bs.map f) (by rw [f1]; exact rv) (by rw [lx]; exact z) col (fun y hy => ?_) ?_ ?_ (fun y hy => ?_) fun p hp => ?_
  · obtain ⟨b, hb, rfl⟩ := List.mem_map.mp hy
    exact .tup (SqT.of (b2 b hb)) (dp_ints _)
  · rw [f2]
    exact PySem.W.AllAlike.of (enc := fun b : Addr × List Int => PyData.tuple (b.2.map PyData.int)) fun a b => by
      show PySem.W.alike (.tuple (a.2.map PyData.int)) (.tuple (b.2.map PyData.int)) = true
      rw [PySem.W.alike]
      exact alike_ints _ _
  · rw [f2]
    refine .inl fun y hy => ?_
    obtain ⟨b, hb, rfl⟩ := List.mem_map.mp hy
    have mb : b.2 ∈ L.map (·.1) := by rw [← b1]; exact List.mem_map_of_mem hb
    obtain ⟨k, hk, ek⟩ := List.mem_map.mp mb
    have nb := ne k hk
    rw [ek] at nb
    obtain ⟨x, r, er⟩ := List.exists_cons_of_ne_nil nb
    exact ⟨.int x, r.map PyData.int, by rw [er]; rfl⟩
  · obtain ⟨b, hb, rfl⟩ := List.mem_map.mp hy
    show (PyData.tuple (b.2.map PyData.int)).depth ≤ 60
    rw [PyData.depth, deep_ints]
    decide
  · have es' : srt (bs.map f) = (bs.mergeSort (PySem.W.dataLe false fun b : Addr × List Int => PyData.tuple (b.2.map PyData.int))).map f := (PySem.W.sort_maps (f := f) fun a _ b _ => rfl).symm
    rw [es', List.map_map]
    have pm := List.mergeSort_perm bs (PySem.W.dataLe false fun b : Addr × List Int => PyData.tuple (b.2.map PyData.int))
    refine q p _ hp ?_ fun b hb => b2 b (pm.mem_iff.mp hb)
    rw [← b1]
    exact pm.map _
end Fw
set_option maxHeartbeats 4000000
namespace Fw
open PySem PySem.Spec PyProof.Rows L2
/-! a next target, within the regions -/
structure Bdb (b n : Int) (cs : List Int) : Prop where
  len : cs.length = n.toNat
  bd : ∀ c ∈ cs, 0 ≤ c ∧ c ≤ b
theorem Bd.b {n : Int} {cs : List Int} (h : Bd n cs) : Bdb (10 ^ 12) n cs := ⟨h.len, h.bd⟩
theorem Bdb.at {b n : Int} {cs : List Int} (h : Bdb b n cs) {r : Int} (r0 : 0 ≤ r) (r1 : r < n) : 0 ≤ at0 cs r.toNat ∧ at0 cs r.toNat ≤ b := by
  have lt : r.toNat < cs.length := by have := h.len; omega
  unfold at0
  rw [List.getD_eq_getElem?_getD, List.getElem?_eq_getElem lt]
  exact h.bd _ (List.getElem_mem lt)
theorem Bdb.ix {b n : Int} {cs : List Int} (h : Bdb b n cs) {r : Int} (r0 : 0 ≤ r) (r1 : r < n) : atI (vi cs) r = some (.int (at0 cs r.toNat)) := at0_ix r0 (by have := h.len; omega)
theorem Bdb.ixn {b n : Int} {cs : List Int} (h : Bdb b n cs) {r : Int} (r0 : 0 ≤ r) (r1 : r < n) : ixN (vi cs).length r = some r.toNat := ix_ok r0 (by rw [List.length_map]; have := h.len; omega)
theorem Bdb.set {b c n : Int} {cs : List Int} (h : Bdb b n cs) (bc : b ≤ c) (j : Nat) {v : Int} (v0 : 0 ≤ v) (v1 : v ≤ c) : Bdb c n (cs.set j v) := by
  refine ⟨by rw [List.length_set]; exact h.len, fun x hx => ?_⟩
  rcases List.mem_or_eq_of_mem_set hx with hx | hx
  · have := h.bd x hx
    omega
  · rw [hx]; exact ⟨v0, v1⟩
/-- the same rooms are not empty -/
def Pos (cs gs : List Int) : Prop := ∀ j, at0 gs j > 0 ↔ at0 cs j > 0
theorem Pos.step {cs gs : List Int} {a b : Nat} (h : Pos cs gs) (ga : at0 gs a > 1) (cb : at0 cs b > 0) (gb : 0 ≤ at0 gs b) (la : a < gs.length) (lb : b < gs.length) : Pos cs ((gs.set a (at0 gs a - 1)).set b (at0 (gs.set a (at0 gs a - 1)) b + 1)) := fun j => by
  have ca := (h a).mp (by omega)
  by_cases e : b = j
  · subst e
    rw [at0_same (by rw [List.length_set]; exact lb), at0_set lb]
    by_cases e2 : a = b
    · rw [if_pos e2]; omega
    · rw [if_neg e2]; omega
  · rw [at0_other e]
    by_cases e2 : a = j
    · subst e2
      rw [at0_same la]
      omega
    · rw [at0_other e2]
      exact h j
theorem Pos.occ {cs gs : List Int} (h : Pos cs gs) (l : gs.length = cs.length) : occN gs gs.length = occN cs cs.length := by
  unfold occN
  rw [l]
  congr 1
  refine List.filter_congr fun j _ => ?_
  rw [decide_eq_decide]
  exact h j
section
variable {P : Program} {w : World} {K : PySem.W.Frag} {mg : Str → Option Value} {base : Heap}
end
end Fw
set_option maxHeartbeats 2000000
namespace Fw
open PySem PySem.Spec PyProof.Rows L2
/-! flows in a forest: mathematics -/
theorem Wk.sub {D D' : List (Int × Int)} {R : List Int} {g v : Int} (h : ∀ a b, adj D a b → adj D' a b) (w : Wk D R g v) : Wk D' R g v := by
  induction w with
  | base => exact .base
  | step _ a o ih => exact .step ih (h _ _ a) o
theorem less_mem {D : List (Int × Int)} {x y : Int × Int} : y ∈ lessD D x ↔ y ∈ D ∧ y ≠ x := by
  unfold lessD
  rw [List.mem_filter]
  simp
theorem less_adj {D : List (Int × Int)} {x : Int × Int} (a b : Int) (h : adj (lessD D x) a b) : adj D a b := by
  rcases h with h | h
  · exact .inl (less_mem.mp h).1
  · exact .inr (less_mem.mp h).1
theorem adj_less {D : List (Int × Int)} {x : Int × Int} {a b : Int} (h : adj D a b) (n1 : (a, b) ≠ x) (n2 : (b, a) ≠ x) : adj (lessD D x) a b := by
  rcases h with h | h
  · exact .inl (less_mem.mpr ⟨h, n1⟩)
  · exact .inr (less_mem.mpr ⟨h, n2⟩)
/-- a door parts its ends -/
theorem Grown.bridge {U : List Int} {E : List (Int × Int)} (g : Grown U E) {R : List Int} {a b : Int} (h : (a, b) ∈ E) : ¬ Wk (lessD E (a, b)) R a b := by
  induction g with
  | nil => cases h
  | room v _ n ih => exact ih h
  | @door U E v u x y g0 n m c ih =>
    have noV : ∀ z, ¬ adj E z v := fun z hz => by
      rcases hz with hz | hz
      · exact n (g0.ends _ _ hz).2.1
      · exact n (g0.ends _ _ hz).1
    have ab := (Grown.door v u x y g0 n m c).ends _ _ h
    by_cases e : (a, b) = (x, y)
    · have sub : ∀ p q, adj (lessD ((x, y) :: E) (a, b)) p q → adj E p q := fun p q hz => by
        rcases hz with hz | hz
        · have := less_mem.mp hz
          rcases List.mem_cons.mp this.1 with k | k
          · exact absurd (k.trans e.symm) this.2
          · exact .inl k
        · have := less_mem.mp hz
          rcases List.mem_cons.mp this.1 with k | k
          · exact absurd (k.trans e.symm) this.2
          · exact .inr k
      intro w0
      have w := w0.sub sub
      clear w0 sub
      cases e
      rcases minmax _ _ _ _ c with ⟨rfl, rfl, _⟩ | ⟨rfl, rfl, _⟩
      · -- b = v
        cases w with
        | base => omega
        | step _ z _ => exact noV _ z
      · -- a = v
        have key : ∀ z, Wk E R a z → z = a := fun z w => by
          induction w with
          | base => rfl
          | step _ z _ ih => rw [ih] at z; exact absurd (adj_symm z) (noV _)
        have := key _ w
        omega
    · have hE : (a, b) ∈ E := by
        rcases List.mem_cons.mp h with k | k
        · exact absurd k e
        · exact k
      have en := g0.ends _ _ hE
      intro w
      have key : ∀ z, Wk (lessD ((x, y) :: E) (a, b)) R a z → (z ≠ v → Wk (lessD E (a, b)) R a z) ∧ (z = v → Wk (lessD E (a, b)) R a u) := fun z w => by
        induction w with
        | base => exact ⟨fun _ => .base, fun z => absurd (z ▸ en.1) n⟩
        | @step p q w0 ad hq ih =>
          have ad' := less_adj _ _ ad
          have cases1 : (p = u ∧ q = v) ∨ (p = v ∧ q = u) ∨ adj (lessD E (a, b)) p q := by
            rcases ad with hz | hz
            · have k := less_mem.mp hz
              rcases List.mem_cons.mp k.1 with k1 | k1
              · cases k1
                rcases minmax _ _ _ _ c with ⟨rfl, rfl, _⟩ | ⟨rfl, rfl, _⟩
                · exact .inl ⟨rfl, rfl⟩
                · exact .inr (.inl ⟨rfl, rfl⟩)
              · exact .inr (.inr (.inl (less_mem.mpr ⟨k1, k.2⟩)))
            · have k := less_mem.mp hz
              rcases List.mem_cons.mp k.1 with k1 | k1
              · cases k1
                rcases minmax _ _ _ _ c with ⟨rfl, rfl, _⟩ | ⟨rfl, rfl, _⟩
                · exact .inr (.inl ⟨rfl, rfl⟩)
                · exact .inl ⟨rfl, rfl⟩
              · exact .inr (.inr (.inr (less_mem.mpr ⟨k1, k.2⟩)))
          have uv : u ≠ v := fun z => n (z ▸ m)
          rcases cases1 with ⟨rfl, rfl⟩ | ⟨rfl, rfl⟩ | k
          · exact ⟨fun z => absurd rfl z, fun _ => ih.1 uv⟩
          · exact ⟨fun _ => ih.2 rfl, fun z => absurd z uv⟩
          · have np : p ≠ v := fun z => by
              subst z
              exact noV _ (adj_symm (less_adj _ _ k))
            have nq : q ≠ v := fun z => by
              subst z
              exact noV _ (less_adj _ _ k)
            exact ⟨fun _ => .step (ih.1 np) k hq, fun z => absurd z nq⟩
      exact ih hE ((key _ w).1 fun z => n (z ▸ en.2.1))
theorem Forest.bridge {n : Int} {D : List (Int × Int)} (f : Forest n D) {R : List Int} {a b : Int} (h : (a, b) ∈ D) : ¬ Wk (lessD D (a, b)) R a b := by
  obtain ⟨U, E, g, _, p, _⟩ := f
  intro w
  refine g.bridge (R := R) (p.mem_iff.mp h) (w.sub fun x y z => ?_)
  have : Fw.adj (lessD D (a, b)) = Fw.adj (lessD E (a, b)) := adj_perm (p.filter _)
  rw [← this]
  exact z
/-- a region and the two sides of one of its doors -/
theorem door_split {D : List (Int × Int)} {R : List Int} {a b : Int} (h : (a, b) ∈ D) (hb : b ∈ R) (v : Int) : Wk D R a v ↔ Wk (lessD D (a, b)) R a v ∨ Wk (lessD D (a, b)) R b v := by
  constructor
  · intro w
    induction w with
    | base => exact .inl .base
    | @step p q w0 ad hq ih =>
      by_cases n1 : (p, q) = (a, b)
      · cases n1
        exact .inr .base
      · by_cases n2 : (q, p) = (a, b)
        · cases n2
          exact .inl .base
        · have k := adj_less ad n1 n2
          rcases ih with ih | ih
          · exact .inl (.step ih k hq)
          · exact .inr (.step ih k hq)
  · rintro (w | w)
    · exact w.sub less_adj
    · exact (Wk.step .base (.inl h) hb).trans (w.sub less_adj)
theorem perm_sum {l m : List Int} (h : l.Perm m) : l.sum = m.sum := by
  induction h with
  | nil => rfl
  | cons x _ ih => rw [List.sum_cons, List.sum_cons, ih]
  | swap x y l => simp only [List.sum_cons]; omega
  | trans _ _ i1 i2 => exact i1.trans i2
theorem tot_perm {cs l m : List Int} (h : l.Perm m) : tot cs l = tot cs m := by
  unfold tot
  exact perm_sum (h.map _)
theorem tot_app (cs l m : List Int) : tot cs (l ++ m) = tot cs l + tot cs m := by
  unfold tot
  rw [List.map_append, List.sum_append]
theorem sides_sum {n : Int} {D : List (Int × Int)} (f : Forest n D) {R : List Int} {a b : Int} (h : (a, b) ∈ D) (ha : a ∈ R) (hb : b ∈ R) {l la lb : List Int} (h0 : IsC D R a l) (h1 : IsC (lessD D (a, b)) R a la) (h2 : IsC (lessD D (a, b)) R b lb) (cs : List Int) : tot cs l = tot cs la + tot cs lb := by
  rw [← tot_app]
  refine tot_perm ((List.perm_ext_iff_of_nodup (up_nodup h0.up) ?_).mpr fun v => ?_)
  · rw [List.nodup_append]
    refine ⟨up_nodup h1.up, up_nodup h2.up, fun x hx y hy e => ?_⟩
    subst e
    exact f.bridge (R := R) h (((h1.mem x).mp hx).trans (((h2.mem x).mp hy).symm hb))
  · rw [List.mem_append, h0.mem, h1.mem, h2.mem]
    exact door_split h hb v
/-! at a room -/
def oth (r : Int) (d : Int × Int) : Int := if d.1 = r then d.2 else d.1
/-- a door of the room to another one -/
structure Inc (D : List (Int × Int)) (R : List Int) (r : Int) (d : Int × Int) : Prop where
  mem : d ∈ D
  at' : d = (r, oth r d) ∨ d = (oth r d, r)
  inR : oth r d ∈ R
theorem inc_of {D : List (Int × Int)} {R : List Int} {r : Int} {d : Int × Int} (h : d ∈ D) (e : d.1 = r ∨ d.2 = r) (o : oth r d ∈ R) : Inc D R r d := by
  refine ⟨h, ?_, o⟩
  unfold oth
  obtain ⟨a, b⟩ := d
  by_cases k : a = r
  · subst k
    exact .inl (by simp)
  · rcases e with e | e
    · exact absurd e k
    · subst e
      exact .inr (by simp [k])
section
variable {n : Int} {D : List (Int × Int)} {R : List Int} {r : Int}
theorem Inc.no (f : Forest n D) {d : Int × Int} (i : Inc D R r d) : ¬ Wk (lessD D d) R (oth r d) r := fun w => by
  have h := i.mem
  have o := i.inR
  have k := i.at'
  clear i
  generalize oth r d = x at *
  rcases k with e | e
  · subst e
    exact f.bridge (R := R) h (w.symm o)
  · subst e
    exact f.bridge (R := R) h w
theorem Inc.off {d : Int × Int} (i : Inc D R r d) {p q : Int} (hp : p ≠ r) (hq : q ≠ r) : (p, q) ≠ d := fun e => by
  rcases i.at' with k | k
  · rw [k] at e
    exact hp (congrArg Prod.fst e)
  · rw [k] at e
    exact hq (congrArg Prod.snd e)
theorem Inc.adj {d : Int × Int} (i : Inc D R r d) : Fw.adj D (oth r d) r := by
  have h := i.mem
  rcases i.at' with k | k
  · rw [k] at h
    exact .inr h
  · rw [k] at h
    exact .inl h
theorem Inc.apart (f : Forest n D) (hr : r ∈ R) {d d' : Int × Int} (i : Inc D R r d) (i' : Inc D R r d') (ne : d' ≠ d) {v : Int} (w : Wk (lessD D d) R (oth r d) v) (w' : Wk (lessD D d') R (oth r d') v) : False := by
  have key : ∀ x, Wk (lessD D d') R (oth r d') x → Wk (lessD D d) R (oth r d') x := fun x k => by
    induction k with
    | base => exact .base
    | @step p q k0 ad hq ih =>
      have np : p ≠ r := fun e => i'.no f (by rw [e] at k0; exact k0)
      have kq : Wk (lessD D d') R (oth r d') q := .step k0 ad hq
      have nq : q ≠ r := fun e => i'.no f (by rw [e] at kq; exact kq)
      exact .step ih (adj_less (less_adj _ _ ad) (i.off np nq) (i.off nq np)) hq
  have w2 := w.trans ((key _ w').symm i'.inR)
  have h' := i'.mem
  have ad : Fw.adj (lessD D d) (oth r d') r := by
    rcases i'.at' with k | k
    · refine .inr (less_mem.mpr ⟨?_, ?_⟩)
      · rw [← k]; exact h'
      · rw [← k]; exact ne
    · refine .inl (less_mem.mpr ⟨?_, ?_⟩)
      · rw [← k]; exact h'
      · rw [← k]; exact ne
  exact i.no f (.step w2 ad hr)
theorem Inc.cover {v : Int} (w : Wk D R r v) : v = r ∨ ∃ d, Inc D R r d ∧ Wk (lessD D d) R (oth r d) v := by
  induction w with
  | base => exact .inl rfl
  | @step p q k ad hq ih =>
    by_cases e : q = r
    · exact .inl e
    · refine .inr ?_
      have new : Fw.adj D r q → ∃ d, Inc D R r d ∧ Wk (lessD D d) R (oth r d) q := fun z => by
        rcases z with z | z
        · have o : oth r (r, q) = q := by simp [oth]
          exact ⟨(r, q), inc_of z (.inl rfl) (by rw [o]; exact hq), by rw [o]; exact .base⟩
        · have o : oth r (q, r) = q := by simp [oth, e]
          exact ⟨(q, r), inc_of z (.inr rfl) (by rw [o]; exact hq), by rw [o]; exact .base⟩
      rcases ih with ih | ⟨d, i, w⟩
      · rw [ih] at ad
        exact new ad
      · by_cases ep : p = r
        · rw [ep] at ad
          exact new ad
        · exact ⟨d, i, .step w (adj_less ad (i.off ep e) (i.off e ep)) hq⟩
/-- the region of a room: the room and what lies behind each of its doors -/
theorem room_sum (f : Forest n D) (hr : r ∈ R) {I : List (Int × Int)} (nd : I.Nodup) (hI : ∀ d, d ∈ I ↔ Inc D R r d) {S : Int × Int → List Int} (hS : ∀ d ∈ I, IsC (lessD D d) R (oth r d) (S d)) {K : List Int} (hK : IsC D R r K) (cs : List Int) : tot cs K = at0 cs r.toNat + (I.map fun d => tot cs (S d)).sum := by
  have flat : ∀ J : List (Int × Int), J.Nodup → (∀ d ∈ J, d ∈ I) → (J.flatMap S).Nodup ∧ tot cs (J.flatMap S) = (J.map fun d => tot cs (S d)).sum := fun J => by
    induction J with
    | nil => exact fun _ _ => ⟨.nil, rfl⟩
    | cons d J ih =>
      intro nJ hJ
      obtain ⟨n1, n2⟩ := List.nodup_cons.mp nJ
      obtain ⟨h1, h2⟩ := ih n2 fun x hx => hJ x (List.mem_cons_of_mem _ hx)
      have hd := hJ d List.mem_cons_self
      rw [List.flatMap_cons]
      refine ⟨?_, ?_⟩
      · rw [List.nodup_append]
        refine ⟨up_nodup (hS d hd).up, h1, fun x hx y hy e => ?_⟩
        subst e
        obtain ⟨d', hd', hx'⟩ := List.mem_flatMap.mp hy
        have hd'I := hJ d' (List.mem_cons_of_mem _ hd')
        exact Inc.apart f hr ((hI d).mp hd) ((hI d').mp hd'I) (fun z => n1 (z ▸ hd')) (((hS d hd).mem x).mp hx) (((hS d' hd'I).mem x).mp hx')
      · rw [tot_app, List.map_cons, List.sum_cons, h2]
  obtain ⟨h1, h2⟩ := flat I nd fun d hd => hd
  have e : tot cs (r :: I.flatMap S) = at0 cs r.toNat + tot cs (I.flatMap S) := by
    unfold tot
    rw [List.map_cons, List.sum_cons]
  rw [← h2, ← e]
  refine tot_perm ((List.perm_ext_iff_of_nodup (up_nodup hK.up) ?_).mpr fun v => ?_)
  · refine List.nodup_cons.mpr ⟨fun z => ?_, h1⟩
    obtain ⟨d, hd, hx⟩ := List.mem_flatMap.mp z
    exact ((hI d).mp hd).no f (((hS d hd).mem r).mp hx)
  · rw [hK.mem, List.mem_cons, List.mem_flatMap]
    constructor
    · intro w
      rcases Inc.cover w with e | ⟨d, i, w⟩
      · exact .inl e
      · have hd := (hI d).mpr i
        exact .inr ⟨d, hd, ((hS d hd).mem v).mpr w⟩
    · rintro (e | ⟨d, hd, hv⟩)
      · rw [e]; exact .base
      · have i := (hI d).mp hd
        exact (Wk.step .base (adj_symm i.adj) i.inR).trans ((((hS d hd).mem v).mp hv).sub less_adj)
end
/-- what leaves a room less what comes into it, by one door -/
def sg (r : Int) (q : Int × Int × Int) : Int := (if q.1 = r then q.2.2 else 0) - (if q.2.1 = r then q.2.2 else 0)
theorem sum_if {α : Type} (p : α → Bool) (g : α → Int) : ∀ L : List α, (L.map fun d => if p d then g d else 0).sum = ((L.filter p).map g).sum
  | [] => rfl
  | d :: L => by
    have ih := sum_if p g L
    rw [List.map_cons, List.sum_cons, ih, List.filter_cons]
    cases p d with
    | true => rw [if_pos rfl, if_pos rfl, List.map_cons, List.sum_cons]
    | false => rw [if_neg (by decide), if_neg (by decide)]; omega
theorem sum_sub {α : Type} (g h : α → Int) : ∀ L : List α, (L.map fun d => g d - h d).sum = (L.map g).sum - (L.map h).sum
  | [] => rfl
  | d :: L => by
    have ih := sum_sub g h L
    simp only [List.map_cons, List.sum_cons]
    omega
section
variable {n : Int} {D : List (Int × Int)} {R cs gs : List Int} {r : Int}
theorem inn_R (f : Forest n D) (mR : ∀ x, x ∈ R ↔ 0 ≤ x ∧ x < n ∧ at0 cs x.toNat > 0) {d : Int × Int} (h : d ∈ D) : inn cs d = true ↔ d.1 ∈ R ∧ d.2 ∈ R := by
  have en := f.ends (a := d.1) (b := d.2) h
  rw [mR, mR]
  unfold inn
  rw [Bool.and_eq_true, decide_eq_true_eq, decide_eq_true_eq]
  omega
theorem conserve (f : Forest n D) (mR : ∀ x, x ∈ R ↔ 0 ≤ x ∧ x < n ∧ at0 cs x.toNat > 0) (upR : R.Pairwise (· < ·)) {fs : List (Int × Int × Int)} (hd : fs.map (fun q => (q.1, q.2.1)) = D.filter (inn cs)) (hn : ∀ q ∈ fs, Nf D R cs gs q.1 q.2.1 q.2.2) (bal : ∀ r ∈ R, ∀ l, IsC D R r l → tot cs l = tot gs l) (hr : r ∈ R) : (fs.map (sg r)).sum = at0 cs r.toNat - at0 gs r.toNat := by
  classical
  obtain ⟨K, hK⟩ := isC_ex D upR hr
  have bK := bal r hr K hK
  have exS : ∀ d : Int × Int, ∃ l, oth r d ∈ R → IsC (lessD D d) R (oth r d) l := fun d => by
    by_cases h : oth r d ∈ R
    · obtain ⟨l, hl⟩ := isC_ex (lessD D d) upR h
      exact ⟨l, fun _ => hl⟩
    · exact ⟨[], fun z => absurd z h⟩
  let S : Int × Int → List Int := fun d => (exS d).choose
  have hS : ∀ d, oth r d ∈ R → IsC (lessD D d) R (oth r d) (S d) := fun d h => (exS d).choose_spec h
  let at' : Int × Int → Bool := fun d => decide (d.1 = r ∨ d.2 = r)
  let I := (D.filter (inn cs)).filter at'
  have hI : ∀ d, d ∈ I ↔ Inc D R r d := fun d => by
    constructor
    · intro h
      obtain ⟨h1, h2⟩ := List.mem_filter.mp h
      obtain ⟨h0, h1⟩ := List.mem_filter.mp h1
      have rr := (inn_R f mR h0).mp h1
      refine inc_of h0 (of_decide_eq_true h2) ?_
      unfold oth
      split
      · exact rr.2
      · exact rr.1
    · intro i
      have o := i.inR
      refine List.mem_filter.mpr ⟨List.mem_filter.mpr ⟨i.mem, (inn_R f mR i.mem).mpr ?_⟩, decide_eq_true ?_⟩
      · rcases i.at' with e | e
        · rw [e]; exact ⟨hr, o⟩
        · rw [e]; exact ⟨o, hr⟩
      · rcases i.at' with e | e
        · exact .inl (by rw [e])
        · exact .inr (by rw [e])
  have nd : I.Nodup := ((f.nodup).filter _).filter _
  have hSI : ∀ d ∈ I, IsC (lessD D d) R (oth r d) (S d) := fun d h => hS d ((hI d).mp h).inR
  have r1 := room_sum f hr nd hI hSI hK cs
  have r2 := room_sum f hr nd hI hSI hK gs
  have each : ∀ q ∈ fs, sg r q = (fun d => if at' d then tot gs (S d) - tot cs (S d) else 0) (q.1, q.2.1) := fun q hq => by
    have hm : (q.1, q.2.1) ∈ D.filter (inn cs) := by rw [← hd]; exact List.mem_map_of_mem (f := fun q : Int × Int × Int => (q.1, q.2.1)) hq
    obtain ⟨h0, h1⟩ := List.mem_filter.mp hm
    have rr := (inn_R f mR h0).mp h1
    have en := f.ends h0
    obtain ⟨la, hla, ef⟩ := hn q hq
    show sg r q = if at' (q.1, q.2.1) then tot gs (S (q.1, q.2.1)) - tot cs (S (q.1, q.2.1)) else 0
    unfold sg
    by_cases e1 : q.1 = r
    · have e2 : q.2.1 ≠ r := by omega
      rw [if_pos e1, if_neg e2, if_pos (decide_eq_true (.inl e1))]
      have o : oth r (q.1, q.2.1) = q.2.1 := by simp [oth, e1]
      have hb := hS (q.1, q.2.1) (by rw [o]; exact rr.2)
      rw [o] at hb
      have hK' : IsC D R q.1 K := by rw [e1]; exact hK
      have t1 := sides_sum f h0 rr.1 rr.2 hK' hla hb cs
      have t2 := sides_sum f h0 rr.1 rr.2 hK' hla hb gs
      omega
    · by_cases e2 : q.2.1 = r
      · rw [if_neg e1, if_pos e2, if_pos (decide_eq_true (.inr e2))]
        have o : oth r (q.1, q.2.1) = q.1 := by simp [oth, e1]
        have ha := hS (q.1, q.2.1) (by rw [o]; exact rr.1)
        rw [o] at ha
        rw [ha.one hla]
        omega
      · rw [if_neg e1, if_neg e2, if_neg (by simp [at', e1, e2])]
        rfl
  have s1 : (fs.map (sg r)).sum = ((D.filter (inn cs)).map fun d => if at' d then tot gs (S d) - tot cs (S d) else 0).sum := by
    rw [← hd, List.map_map]
    congr 1
    exact List.map_congr_left each
  rw [s1, sum_if, sum_sub]
  show (I.map fun d => tot gs (S d)).sum - (I.map fun d => tot cs (S d)).sum = _
  omega
end
end Fw
set_option maxHeartbeats 2000000
namespace Fw
open PySem PySem.Spec PyProof.Rows L2
/-! the order of transfers: triples (count, from, to) -/
abbrev Tr := Int × Int × Int
/-- in a forest some transfer starts where nobody arrives -/
theorem Grown.source {U : List Int} {E : List (Int × Int)} (g : Grown U E) : ∀ W : List Tr, (∀ t ∈ W, adj E t.2.1 t.2.2) → (∀ t ∈ W, ∀ u ∈ W, ¬ (u.2.1 = t.2.2 ∧ u.2.2 = t.2.1)) → W ≠ [] → ∃ t ∈ W, ∀ u ∈ W, u.2.2 ≠ t.2.1 := by
  induction g with
  | nil =>
    intro W hE _ ne
    cases W with
    | nil => exact absurd rfl ne
    | cons t W =>
      rcases hE t List.mem_cons_self with h | h <;> cases h
  | room v _ n ih => exact ih
  | @door U E v u x y g0 n m c ih =>
    intro W hE op ne
    have uv : u ≠ v := fun z => n (z ▸ m)
    have tri : ∀ t ∈ W, (t.2.1 = u ∧ t.2.2 = v) ∨ (t.2.1 = v ∧ t.2.2 = u) ∨ (adj E t.2.1 t.2.2 ∧ t.2.1 ≠ v ∧ t.2.2 ≠ v) := fun t ht => by
      have inE : ∀ p q, (p, q) ∈ E → p ≠ v ∧ q ≠ v := fun p q h => by
        have := g0.ends _ _ h
        exact ⟨fun z => n (z ▸ this.1), fun z => n (z ▸ this.2.1)⟩
      have ends : ∀ p q : Int, (p, q) = (x, y) → (p = u ∧ q = v) ∨ (p = v ∧ q = u) := fun p q h => by
        cases h
        rcases minmax _ _ _ _ c with ⟨h1, h2, _⟩ | ⟨h1, h2, _⟩
        · exact .inl ⟨h1, h2⟩
        · exact .inr ⟨h1, h2⟩
      rcases hE t ht with h | h
      · rcases List.mem_cons.mp h with h | h
        · rcases ends _ _ h with k | k
          · exact .inl k
          · exact .inr (.inl k)
        · have := inE _ _ h
          exact .inr (.inr ⟨.inl h, this.1, this.2⟩)
      · rcases List.mem_cons.mp h with h | h
        · rcases ends _ _ h with k | k
          · exact .inr (.inl ⟨k.2, k.1⟩)
          · exact .inl ⟨k.2, k.1⟩
        · have := inE _ _ h
          exact .inr (.inr ⟨.inr h, this.2, this.1⟩)
    by_cases hv : ∃ t ∈ W, t.2.1 = v
    · obtain ⟨t, ht, e⟩ := hv
      refine ⟨t, ht, fun z hz k => ?_⟩
      rw [e] at k
      have tu : t.2.2 = u := by
        rcases tri t ht with h | h | h
        · exact absurd (h.1.symm.trans e) uv
        · exact h.2
        · exact absurd e h.2.1
      have zu : z.2.1 = u := by
        rcases tri z hz with h | h | h
        · exact h.1
        · exact absurd (h.2.symm.trans k) uv
        · exact absurd k h.2.2
      exact op t ht z hz ⟨zu.trans tu.symm, k.trans e.symm⟩
    · have nv : ∀ t ∈ W, t.2.1 ≠ v := fun t ht e => hv ⟨t, ht, e⟩
      by_cases hW : ∃ t ∈ W, t.2.2 ≠ v
      · have := ih (W.filter fun t => decide (t.2.2 ≠ v)) (fun t ht => ?_) (fun t ht z hz => op t (List.mem_filter.mp ht).1 z (List.mem_filter.mp hz).1) ?_
        · obtain ⟨t, ht, hs⟩ := this
          obtain ⟨t1, t2⟩ := List.mem_filter.mp ht
          refine ⟨t, t1, fun z hz k => ?_⟩
          by_cases e : z.2.2 = v
          · exact nv t t1 (k.symm.trans e)
          · exact hs z (List.mem_filter.mpr ⟨hz, decide_eq_true e⟩) k
        · obtain ⟨t1, t2⟩ := List.mem_filter.mp ht
          have t2 : t.2.2 ≠ v := of_decide_eq_true t2
          rcases tri t t1 with h | h | h
          · exact absurd h.2 t2
          · exact absurd h.1 (nv t t1)
          · exact h.1
        · obtain ⟨t, t1, t2⟩ := hW
          intro z
          have : t ∈ W.filter fun t => decide (t.2.2 ≠ v) := List.mem_filter.mpr ⟨t1, decide_eq_true t2⟩
          rw [z] at this
          cases this
      · cases W with
        | nil => exact absurd rfl ne
        | cons t W =>
          refine ⟨t, List.mem_cons_self, fun z hz k => ?_⟩
          have zv : z.2.2 = v := Classical.not_not.mp fun h => hW ⟨z, hz, h⟩
          exact nv t List.mem_cons_self (k.symm.trans zv)
theorem Forest.source {n : Int} {D : List (Int × Int)} (f : Forest n D) (W : List Tr) (h : ∀ t ∈ W, Fw.adj D t.2.1 t.2.2) (op : ∀ t ∈ W, ∀ u ∈ W, ¬ (u.2.1 = t.2.2 ∧ u.2.2 = t.2.1)) (ne : W ≠ []) : ∃ t ∈ W, ∀ u ∈ W, u.2.2 ≠ t.2.1 := by
  obtain ⟨U, E, g, _, p, _⟩ := f
  exact g.source W (fun t ht => by rw [← adj_perm p]; exact h t ht) op ne
def rcv (W : List Tr) : List Int := W.map (·.2.2)
def nowT (W : List Tr) : List Tr := W.filter fun t => !decide (t.2.1 ∈ rcv W)
def lateT (W : List Tr) : List Tr := W.filter fun t => decide (t.2.1 ∈ rcv W)
/-- done so far and waiting: nobody comes into a room after somebody left it -/
structure Ord (W0 P W : List Tr) : Prop where
  perm : (P ++ W).Perm W0
  up : P.Pairwise fun t u => u.2.2 ≠ t.2.1
  off : ∀ t ∈ P, ∀ u ∈ W, u.2.2 ≠ t.2.1
theorem Ord.start (W : List Tr) : Ord W [] W := ⟨.refl _, .nil, fun _ h => by cases h⟩
theorem Ord.next {W0 P W : List Tr} (h : Ord W0 P W) : Ord W0 (P ++ nowT W) (lateT W) := by
  have nw : ∀ t ∈ nowT W, ∀ u ∈ W, u.2.2 ≠ t.2.1 := fun t ht u hu e => by
    have := (List.mem_filter.mp ht).2
    rw [Bool.not_eq_true', decide_eq_false_iff_not] at this
    exact this (List.mem_map.mpr ⟨u, hu, e⟩)
  have sub1 : ∀ u ∈ nowT W, u ∈ W := fun u hu => (List.mem_filter.mp hu).1
  have sub2 : ∀ u ∈ lateT W, u ∈ W := fun u hu => (List.mem_filter.mp hu).1
  refine ⟨?_, ?_, fun t ht u hu => ?_⟩
  · rw [List.append_assoc]
    refine (List.Perm.append_left P ?_).trans h.perm
    have := List.filter_append_perm (fun t : Tr => !decide (t.2.1 ∈ rcv W)) W
    simp only [Bool.not_not] at this
    exact this
  · rw [List.pairwise_append]
    refine ⟨h.up, List.pairwise_of_forall_mem_list fun t ht u hu => nw t ht u (sub1 u hu), fun t ht u hu => h.off t ht u (sub1 u hu)⟩
  · rcases List.mem_append.mp ht with ht | ht
    · exact h.off t ht u (sub2 u hu)
    · exact nw t ht u (sub2 u hu)
theorem late_less {n : Int} {D : List (Int × Int)} (f : Forest n D) {W : List Tr} (h : ∀ t ∈ W, adj D t.2.1 t.2.2) (op : ∀ t ∈ W, ∀ u ∈ W, ¬ (u.2.1 = t.2.2 ∧ u.2.2 = t.2.1)) (ne : W ≠ []) : (lateT W).length < W.length := by
  obtain ⟨t, ht, hs⟩ := f.source W h op ne
  refine List.length_filter_lt_length_iff_exists.mpr ⟨t, ht, ?_⟩
  rw [decide_eq_true_eq]
  intro z
  obtain ⟨u, hu, e⟩ := List.mem_map.mp z
  exact hs u hu e
/-- what a transfer takes from a room -/
def sgT (r : Int) (t : Tr) : Int := (if t.2.1 = r then t.1 else 0) - (if t.2.2 = r then t.1 else 0)
def doT (h : List Int) (t : Tr) : List Int := (h.set t.2.1.toNat (at0 h t.2.1.toNat - t.1)).set t.2.2.toNat (at0 (h.set t.2.1.toNat (at0 h t.2.1.toNat - t.1)) t.2.2.toNat + t.1)
/-- transfers that can be done in order and lead to the target -/
structure Goes (n : Int) (gs cs : List Int) (P : List Tr) : Prop where
  lc : cs.length = n.toNat
  lg : gs.length = n.toNat
  g0 : ∀ r, 0 ≤ r → r < n → 0 ≤ at0 gs r.toNat
  ok : ∀ t ∈ P, 1 ≤ t.1 ∧ (0 ≤ t.2.1 ∧ t.2.1 < n) ∧ (0 ≤ t.2.2 ∧ t.2.2 < n) ∧ t.2.1 ≠ t.2.2 ∧ at0 cs t.2.2.toNat > 0
  up : P.Pairwise fun t u => u.2.2 ≠ t.2.1
  sum : ∀ r, 0 ≤ r → r < n → at0 cs r.toNat = at0 gs r.toNat + (P.map (sgT r)).sum
theorem doT_at {n : Int} {cs : List Int} {t : Tr} (lc : cs.length = n.toNat) (a : 0 ≤ t.2.1 ∧ t.2.1 < n) (b : 0 ≤ t.2.2 ∧ t.2.2 < n) (ne : t.2.1 ≠ t.2.2) {r : Int} (r0 : 0 ≤ r) : at0 (doT cs t) r.toNat = at0 cs r.toNat - sgT r t := by
  unfold doT sgT
  by_cases e2 : t.2.2 = r
  · subst e2
    rw [at0_same (by rw [List.length_set]; omega), at0_other (by omega), if_neg ne, if_pos rfl]
    omega
  · rw [at0_other (by omega), if_neg e2]
    by_cases e1 : t.2.1 = r
    · subst e1
      rw [at0_same (by omega), if_pos rfl]
      omega
    · rw [at0_other (by omega), if_neg e1]
      omega
theorem sum_pos : ∀ {l : List Int}, (∀ x ∈ l, 0 ≤ x) → 0 ≤ l.sum
  | [], _ => Int.le_refl _
  | x :: l, h => by
    have h1 := h x List.mem_cons_self
    have h2 := sum_pos fun y hy => h y (List.mem_cons_of_mem _ hy)
    rw [List.sum_cons]
    omega
theorem Goes.step {n : Int} {gs cs : List Int} {t : Tr} {P : List Tr} (h : Goes n gs cs (t :: P)) : t.1 ≤ at0 cs t.2.1.toNat ∧ at0 cs t.2.2.toNat > 0 ∧ Goes n gs (doT cs t) P := by
  have ok := h.ok t List.mem_cons_self
  obtain ⟨u1, u2⟩ := List.pairwise_cons.mp h.up
  refine ⟨?_, ok.2.2.2.2, ?_, h.lg, h.g0, fun u hu => ?_, u2, fun r r0 r1 => ?_⟩
  · have s := h.sum t.2.1 ok.2.1.1 ok.2.1.2
    have g := h.g0 t.2.1 ok.2.1.1 ok.2.1.2
    rw [List.map_cons, List.sum_cons] at s
    have p : 0 ≤ (P.map (sgT t.2.1)).sum := sum_pos fun x hx => by
      obtain ⟨u, hu, rfl⟩ := List.mem_map.mp hx
      have k := (h.ok u (List.mem_cons_of_mem _ hu)).1
      unfold sgT
      rw [if_neg (u1 u hu)]
      split <;> omega
    have e : sgT t.2.1 t = t.1 := by
      unfold sgT
      rw [if_pos rfl, if_neg fun z => ok.2.2.2.1 z.symm]
      omega
    omega
  · unfold doT
    rw [List.length_set, List.length_set]
    exact h.lc
  · have k := h.ok u (List.mem_cons_of_mem _ hu)
    refine ⟨k.1, k.2.1, k.2.2.1, k.2.2.2.1, ?_⟩
    rw [doT_at h.lc ok.2.1 ok.2.2.1 ok.2.2.2.1 k.2.2.1.1]
    have e : sgT u.2.2 t ≤ 0 := by
      unfold sgT
      rw [if_neg fun z => u1 u hu z.symm]
      split <;> omega
    have := k.2.2.2.2
    omega
  · rw [doT_at h.lc ok.2.1 ok.2.2.1 ok.2.2.2.1 r0]
    have s := h.sum r r0 r1
    rw [List.map_cons, List.sum_cons] at s
    omega
theorem Goes.done {n : Int} {gs cs : List Int} (h : Goes n gs cs []) : cs = gs := by
  refine List.ext_getElem (h.lc.trans h.lg.symm) fun i h1 h2 => ?_
  have s := h.sum (i : Int) (by omega) (by have := h.lc; omega)
  rw [Int.toNat_natCast] at s
  have e1 : at0 cs i = cs[i] := at0_get (List.getElem?_eq_getElem h1)
  have e2 : at0 gs i = gs[i] := at0_get (List.getElem?_eq_getElem h2)
  rw [e1, e2] at s
  simpa using s
/-- a flow as a transfer -/
def trf (q : Int × Int × Int) : Tr := if q.2.2 > 0 then (q.2.2, q.1, q.2.1) else (-q.2.2, q.2.1, q.1)
theorem trf_sg (r : Int) (q : Int × Int × Int) : sgT r (trf q) = sg r q := by
  unfold trf sgT sg
  split
  · rfl
  · simp only
    split <;> split <;> omega
end Fw
set_option maxHeartbeats 4000000
namespace Fw
open PySem PySem.Spec PyProof.Rows L2
/-! transfers and plans -/
theorem FlAt.put {H : Hp} {fs : List Fl} (h : FlAt H fs) {L : Addr} {xs ys : List V} (e : H L = some (.lst xs)) : FlAt (upd H L (.lst ys)) fs := fun q hq => (upd_ne (ne_of (h q hq) e (by intro z; cases z))).trans (h q hq)
theorem FlAt.snoc {H : Hp} {fs : List Fl} (h : FlAt H fs) {q : Fl} (e : H q.1 = some (.tup [.int q.2.1, .int q.2.2.1, .int q.2.2.2])) : FlAt H (fs ++ [q]) := fun x hx => by
  rcases List.mem_append.mp hx with hx | hx
  · exact h x hx
  · rw [List.mem_singleton.mp hx]; exact e
theorem flr_app (a b : List Fl) : flr (a ++ b) = flr a ++ flr b := by unfold flr; rw [List.map_append]
def nz (q : Int × Int × Int) : Bool := !decide (q.2.2 = 0)
theorem flows_ok {n : Int} {D : List (Int × Int)} {cs gs : List Int} {fs : List (Int × Int × Int)} (f : Forest n D) (h : Flows D cs gs fs) : (∀ t ∈ (fs.filter nz).map trf, adj D t.2.1 t.2.2) ∧ ∀ t ∈ (fs.filter nz).map trf, ∀ u ∈ (fs.filter nz).map trf, ¬ (u.2.1 = t.2.2 ∧ u.2.2 = t.2.1) := by
  have dr : ∀ q ∈ fs, (q.1, q.2.1) ∈ D := fun q hq => by
    have : (q.1, q.2.1) ∈ D.filter (inn cs) := by rw [← h.doors]; exact List.mem_map_of_mem (f := fun q : Int × Int × Int => (q.1, q.2.1)) hq
    exact (List.mem_filter.mp this).1
  constructor
  · intro t ht
    obtain ⟨q, hq, rfl⟩ := List.mem_map.mp ht
    have := dr q (List.mem_filter.mp hq).1
    unfold trf
    split
    · exact .inl this
    · exact .inr this
  · rintro t ht u hu ⟨e1, e2⟩
    obtain ⟨q, hq, rfl⟩ := List.mem_map.mp ht
    obtain ⟨q', hq', rfl⟩ := List.mem_map.mp hu
    have m1 := (List.mem_filter.mp hq).1
    have m2 := (List.mem_filter.mp hq').1
    have a1 := f.ends (dr q m1)
    have a2 := f.ends (dr q' m2)
    have n1 := h.nf q m1
    have n2 := h.nf q' m2
    unfold trf at e1 e2
    by_cases z : q.2.2 > 0
    · by_cases z' : q'.2.2 > 0
      · simp only [if_pos z, if_pos z'] at e1 e2
        omega
      · simp only [if_pos z, if_neg z'] at e1 e2
        rw [e1, e2] at n2
        have := n1.one n2
        omega
    · by_cases z' : q'.2.2 > 0
      · simp only [if_neg z, if_pos z'] at e1 e2
        rw [e1, e2] at n2
        have := n1.one n2
        omega
      · simp only [if_neg z, if_neg z'] at e1 e2
        omega
section
variable {P : Program} {w : World} {K : PySem.W.Frag} {mg : Str → Option Value} {base : Heap}
end
end Fw
set_option maxHeartbeats 4000000
namespace Fw
open PySem PySem.Spec PyProof.Rows L2
/-! triples that can be done -/
/-- xs[j], j not negative, by values -/
def rGetL (K : PySem.W.Frag) : V → V → Hp → VK → Prop := fun x y H Q => ∃ p xs j v, x = .ref p ∧ y = .int j ∧ 0 ≤ j ∧ SqL K H p xs ∧ xs[j.toNat]? = some v ∧ Q v H
theorem get_at0 {X : Cx} : PGet X (rGetL X.K) := by
  intro pins s σ H o i ov iv Q I ro ri h
  obtain ⟨p, xs, j, v, rfl, rfl, j0, hs, hv, q⟩ := h
  cases ro
  obtain ⟨t, rfl⟩ := ri
  obtain ⟨its, r, pl, hz⟩ := I.list hs
  obtain ⟨w, ew, rv⟩ := r.get hv
  have lj : j.toNat < its.length := (List.getElem?_eq_some_iff.mp ew).1
  have l6 := line63
  exact getItem_listL pl.isList j0 (by have := r.length; omega) ew ⟨v, H, I, rv, q⟩
theorem at0_nth {cs : List Int} {r : Int} (h0 : 0 ≤ r) (h1 : r < (cs.length : Nat)) : (vi cs)[r.toNat]? = some (.int (at0 cs r.toNat)) := by
  have lt : r.toNat < cs.length := by omega
  rw [List.getElem?_map, List.getElem?_eq_getElem lt]
  unfold at0
  rw [List.getD_eq_getElem?_getD, List.getElem?_eq_getElem lt]
  rfl
theorem eqv_refl_ints (hs : List Int) : PyData.eqv (.tuple (hs.map PyData.int)) (.tuple (hs.map PyData.int)) = true := by
  rw [PyData.eqv]
  induction hs with
  | nil => rw [List.map_nil, PyData.eqvAll]
  | cons x hs ih =>
    rw [List.map_cons, PyData.eqvAll, ih]
    simp [PyData.eqv]
section
variable {P : Program} {w : World} {K : PySem.W.Frag} {mg : Str → Option Value} {base : Heap}
end
end Fw
set_option maxHeartbeats 2000000
namespace Fw
open PySem PySem.Spec PyProof.Rows L2
/-! plans go -/
theorem Bal.noblk {D : List (Int × Int)} {cs gs : List Int} (h : Bal D (occN cs cs.length) cs gs) {Ls : List (List Int)} (rg : Regs D (occN cs cs.length) Ls) : blks cs gs cs.length Ls = [] := by
  unfold blks
  rw [List.append_eq_nil_iff, List.map_eq_nil_iff, List.map_eq_nil_iff]
  constructor
  · unfold wntN
    rw [List.map_eq_nil_iff, List.filter_eq_nil_iff]
    intro j _ z
    rw [Bool.and_eq_true, decide_eq_true_eq, decide_eq_true_eq] at z
    have := h.zz j z.1
    omega
  · rw [List.filter_eq_nil_iff]
    intro l hl z
    obtain ⟨r, hr, ic⟩ := (rg.mem l).mp hl
    rw [decide_eq_true (h.tt r hr l ic)] at z
    cases z
theorem at0_mul (k : Int) (cs : List Int) (j : Nat) : at0 (cs.map (· * k)) j = at0 cs j * k := by
  unfold at0
  rw [List.getD_eq_getElem?_getD, List.getD_eq_getElem?_getD, List.getElem?_map]
  cases cs[j]? with
  | none => simp
  | some x => rfl
theorem sum_mul (k : Int) : ∀ l : List Int, (l.map (· * k)).sum = l.sum * k
  | [] => by simp
  | x :: l => by rw [List.map_cons, List.sum_cons, List.sum_cons, sum_mul k l, Int.add_mul]
def scl (k : Int) (t : Tr) : Tr := (t.1 * k, t.2.1, t.2.2)
theorem sgT_scl (k r : Int) (t : Tr) : sgT r (scl k t) = sgT r t * k := by
  unfold sgT scl
  simp only
  split <;> split <;> simp [Int.sub_mul, Int.neg_mul]
theorem sum_nz (r : Int) : ∀ fs : List (Int × Int × Int), (((fs.filter nz).map trf).map (sgT r)).sum = (fs.map (sg r)).sum
  | [] => rfl
  | q :: fs => by
    have ih := sum_nz r fs
    rw [List.filter_cons, List.map_cons, List.sum_cons]
    by_cases z : q.2.2 = 0
    · rw [if_neg (by unfold nz; rw [decide_eq_true z]; decide), ih]
      have : sg r q = 0 := by
        unfold sg
        rw [z]
        split <;> split <;> rfl
      omega
    · rw [if_pos (by unfold nz; rw [decide_eq_false z]; rfl), List.map_cons, List.map_cons, List.sum_cons, ih, trf_sg]
theorem plan_goes {n : Int} {D : List (Int × Int)} {cs gs : List Int} {fs : List (Int × Int × Int)} {ts : List Tr} {k : Int} (f : Forest n D) (n0 : 0 ≤ n) (lc : cs.length = n.toNat) (lg : gs.length = n.toNat) (c0 : ∀ j, 0 ≤ at0 cs j) (g0 : ∀ j, 0 ≤ at0 gs j) (bal : Bal D (occN cs cs.length) cs gs) (hf : Flows D cs gs fs) (od : Ord ((fs.filter nz).map trf) ts []) (k1 : 1 ≤ k) :
    Goes n (gs.map (· * k)) (cs.map (· * k)) (ts.map (scl k)) ∧ ∀ t ∈ ts, adj D t.2.1 t.2.2 := by
  have mR : ∀ x, x ∈ occN cs cs.length ↔ 0 ≤ x ∧ x < n ∧ at0 cs x.toNat > 0 := fun x => by rw [mem_occN]; omega
  have pm := od.perm
  rw [List.append_nil] at pm
  have inT : ∀ t ∈ ts, ∃ q ∈ fs, q.2.2 ≠ 0 ∧ t = trf q := fun t ht => by
    obtain ⟨q, hq, e⟩ := List.mem_map.mp (pm.mem_iff.mp ht)
    obtain ⟨h1, h2⟩ := List.mem_filter.mp hq
    refine ⟨q, h1, fun z => ?_, e.symm⟩
    unfold nz at h2
    rw [decide_eq_true z] at h2
    cases h2
  have dr : ∀ q ∈ fs, (q.1, q.2.1) ∈ D ∧ q.1 ∈ occN cs cs.length ∧ q.2.1 ∈ occN cs cs.length := fun q hq => by
    have : (q.1, q.2.1) ∈ D.filter (inn cs) := by rw [← hf.doors]; exact List.mem_map_of_mem (f := fun q : Int × Int × Int => (q.1, q.2.1)) hq
    obtain ⟨h1, h2⟩ := List.mem_filter.mp this
    exact ⟨h1, (inn_R f mR h1).mp h2⟩
  have okT : ∀ t ∈ ts, 1 ≤ t.1 ∧ t.2.1 ∈ occN cs cs.length ∧ t.2.2 ∈ occN cs cs.length ∧ t.2.1 ≠ t.2.2 := fun t ht => by
    obtain ⟨q, hq, nzq, rfl⟩ := inT t ht
    obtain ⟨d1, d2, d3⟩ := dr q hq
    have en := f.ends d1
    unfold trf
    split
    · exact ⟨by show 1 ≤ q.2.2; omega, d2, d3, by show q.1 ≠ q.2.1; omega⟩
    · exact ⟨by show 1 ≤ -q.2.2; omega, d3, d2, by show q.2.1 ≠ q.1; omega⟩
  have sumT : ∀ r, 0 ≤ r → r < n → at0 cs r.toNat = at0 gs r.toNat + (ts.map (sgT r)).sum := fun r r0 r1 => by
    have e : (ts.map (sgT r)).sum = (fs.map (sg r)).sum := by rw [← sum_nz]; exact perm_sum (pm.map _)
    by_cases hr : r ∈ occN cs cs.length
    · rw [e, conserve f mR (occN_up _ _) hf.doors hf.nf bal.tt hr]
      omega
    · have cz : at0 cs r.toNat = 0 := by
        have h1 := c0 r.toNat
        have h2 : ¬ at0 cs r.toNat > 0 := fun z => hr ((mR r).mpr ⟨r0, r1, z⟩)
        omega
      have z : (ts.map (sgT r)).sum = 0 := by
        have all : ∀ t ∈ ts, sgT r t = 0 := fun t ht => by
          have o := okT t ht
          unfold sgT
          have n1 : t.2.1 ≠ r := fun z => hr (by rw [← z]; exact o.2.1)
          have n2 : t.2.2 ≠ r := fun z => hr (by rw [← z]; exact o.2.2.1)
          rw [if_neg n1, if_neg n2]
          rfl
        rw [List.map_congr_left all]
        clear all pm od inT okT e
        induction ts with
        | nil => rfl
        | cons t ts ih => rw [List.map_cons, List.sum_cons, ih]; rfl
      rw [cz, bal.zz _ cz, z]
      rfl
  refine ⟨⟨by rw [List.length_map]; exact lc, by rw [List.length_map]; exact lg, fun r _ _ => ?_, fun t ht => ?_, ?_, fun r r0 r1 => ?_⟩, fun t ht => (flows_ok f hf).1 t (pm.mem_iff.mp ht)⟩
  · rw [at0_mul]
    exact Int.mul_nonneg (g0 _) (by omega)
  · obtain ⟨u, hu, rfl⟩ := List.mem_map.mp ht
    have o := okT u hu
    have a := (mR _).mp o.2.1
    have b := (mR _).mp o.2.2.1
    refine ⟨?_, ⟨a.1, a.2.1⟩, ⟨b.1, b.2.1⟩, o.2.2.2, ?_⟩
    · show 1 ≤ u.1 * k
      have := Int.mul_le_mul o.1 k1 (by omega) (by omega)
      omega
    · rw [at0_mul]
      exact Int.mul_pos b.2.2 (by omega)
  · rw [List.pairwise_map]
    exact od.up
  · rw [at0_mul, at0_mul, sumT r r0 r1, Int.add_mul, ← sum_mul, List.map_map, List.map_map]
    congr 2
    exact List.map_congr_left fun t _ => (sgT_scl k r t).symm
end Fw
set_option maxHeartbeats 2000000
namespace Fw
open PySem PySem.Spec PyProof.Rows L2
/-! counts that are reached by transfers of one person (k59) -/
def stC (D : List (Int × Int)) (c r : List Int) : Prop := ∃ a b, adj D a b ∧ at0 c a.toNat > 0 ∧ at0 c b.toNat > 0 ∧ r = doT c (1, a, b)
inductive RkC (D : List (Int × Int)) : Nat → List Int → List Int → Prop
  | zero (c : List Int) : RkC D 0 c c
  | step {k : Nat} {c q r : List Int} : RkC D k c q → stC D q r → RkC D (k + 1) c r
section
variable {n : Int} {D : List (Int × Int)}
theorem RkC.trans {c q : List Int} {j : Nat} (h : RkC D j c q) : ∀ {k : Nat} {r : List Int}, RkC D k q r → RkC D (j + k) c r := by
  intro k r g
  induction g with
  | zero => exact h
  | step g1 s ih => exact .step (ih h) s
theorem doT_len (c : List Int) (t : Tr) : (doT c t).length = c.length := by
  unfold doT
  rw [List.length_set, List.length_set]
theorem RkC.len {c q : List Int} {k : Nat} (h : RkC D k c q) : q.length = c.length := by
  induction h with
  | zero => rfl
  | step _ s ih =>
    obtain ⟨a, b, _, _, _, rfl⟩ := s
    rw [doT_len, ih]
theorem adj_rng (f : Forest n D) {a b : Int} (h : adj D a b) : (0 ≤ a ∧ a < n) ∧ (0 ≤ b ∧ b < n) ∧ a ≠ b := by
  have rn := f.adj h
  refine ⟨⟨rn.1, rn.2.1⟩, ⟨rn.2.2.1, rn.2.2.2⟩, fun e => ?_⟩
  rw [e] at h
  rcases h with q | q <;> exact absurd (f.ends q).2.1 (Int.lt_irrefl _)
theorem step_at (f : Forest n D) {c : List Int} (lc : c.length = n.toNat) {a b : Int} (h : adj D a b) {r : Int} (r0 : 0 ≤ r) : at0 (doT c (1, a, b)) r.toNat = at0 c r.toNat - ((if a = r then 1 else 0) - (if b = r then 1 else 0)) := by
  have rn := adj_rng f h
  exact doT_at lc rn.1 rn.2.1 rn.2.2 r0
theorem step_nn (f : Forest n D) {c : List Int} (lc : c.length = n.toNat) (c0 : ∀ j, 0 ≤ at0 c j) {a b : Int} (h : adj D a b) (ha : at0 c a.toNat > 0) : ∀ j, 0 ≤ at0 (doT c (1, a, b)) j := fun j => by
  have := step_at f lc h (r := (j : Int)) (by omega)
  rw [Int.toNat_natCast] at this
  rw [this]
  have := c0 j
  by_cases e : a = (j : Int)
  · rw [e, Int.toNat_natCast] at ha
    rw [if_pos e]
    split <;> omega
  · rw [if_neg e]
    split <;> omega
theorem RkC.nn (f : Forest n D) {c q : List Int} {k : Nat} (lc : c.length = n.toNat) (c0 : ∀ j, 0 ≤ at0 c j) (h : RkC D k c q) : ∀ j, 0 ≤ at0 q j := by
  induction h with
  | zero => exact c0
  | step g s ih =>
    obtain ⟨a, b, ad, ha, hb, rfl⟩ := s
    exact step_nn f (by rw [g.len]; exact lc) (ih lc c0) ad ha
theorem at0_le {c : List Int} : ∀ (j : Nat), (∀ x ∈ c, 0 ≤ x) → at0 c j ≤ c.sum := fun j h => by
  unfold at0
  induction c generalizing j with
  | nil => simp
  | cons x c ih =>
    have hx := h x List.mem_cons_self
    have hp := sum_pos fun y hy => h y (List.mem_cons_of_mem _ hy)
    rw [List.sum_cons]
    cases j with
    | zero => show x ≤ _; omega
    | succ j =>
      have := ih j fun y hy => h y (List.mem_cons_of_mem _ hy)
      show (c.getD j 0) ≤ _
      omega
theorem sum_set (v : Int) : ∀ (c : List Int) (j : Nat), j < c.length → (c.set j v).sum = c.sum + v - at0 c j
  | x :: c, 0, _ => by
    rw [List.set_cons_zero, List.sum_cons, List.sum_cons]
    show _ = _ - x
    omega
  | x :: c, j + 1, h => by
    have := sum_set v c j (by rw [List.length_cons] at h; omega)
    rw [List.set_cons_succ, List.sum_cons, List.sum_cons, this]
    show _ = _ - at0 c j
    omega
theorem step_sum (f : Forest n D) {c : List Int} (lc : c.length = n.toNat) {a b : Int} (h : adj D a b) : (doT c (1, a, b)).sum = c.sum := by
  have rn := adj_rng f h
  unfold doT
  rw [sum_set _ _ _ (by rw [List.length_set]; show b.toNat < _; omega), sum_set _ _ _ (by show a.toNat < _; omega)]
  show _ + (at0 (c.set a.toNat (at0 c a.toNat - 1)) b.toNat + 1) - at0 (c.set a.toNat (at0 c a.toNat - 1)) b.toNat = _
  show c.sum + (at0 c a.toNat - 1) - at0 c a.toNat + _ - _ = _
  omega
theorem RkC.sum (f : Forest n D) {c q : List Int} {k : Nat} (lc : c.length = n.toNat) (h : RkC D k c q) : q.sum = c.sum := by
  induction h with
  | zero => rfl
  | step g s ih =>
    obtain ⟨a, b, ad, ha, hb, rfl⟩ := s
    rw [step_sum f (by rw [g.len]; exact lc) ad, ih lc]
/-- the same totals in each region -/
theorem RkC.bal (f : Forest n D) {c q : List Int} {k : Nat} (lc : c.length = n.toNat) (c0 : ∀ j, 0 ≤ at0 c j) (h : RkC D k c q) : Bal D (occN c c.length) c q := by
  induction h with
  | zero => exact .refl _ _ _
  | step g s ih =>
    rename_i c q r
    obtain ⟨a, b, ad, ha, hb, rfl⟩ := s
    have ih := ih lc c0
    have mR : ∀ r, r ∈ occN c c.length ↔ 0 ≤ r ∧ r < n ∧ at0 c r.toNat > 0 := fun x => by rw [mem_occN]; omega
    have rn := adj_rng f ad
    have pos : ∀ x : Int, at0 q x.toNat > 0 → at0 c x.toNat > 0 := fun x hx => by
      have h1 := c0 x.toNat
      by_cases e : at0 c x.toNat = 0
      · have := ih.zz _ e
        omega
      · omega
    have aR := (mR a).mpr ⟨rn.1.1, rn.1.2, pos a ha⟩
    have bR := (mR b).mpr ⟨rn.2.1.1, rn.2.1.2, pos b hb⟩
    obtain ⟨l, hl⟩ := isC_ex D (occN_up c c.length) aR
    exact ih.step mR (by rw [g.len]; exact lc) aR hl ((hl.mem b).mpr (.step .base ad bR))
/-! no fewer transfers than the net flows -/
def magC (f : Int) : Int := if f < 0 then -f else f
theorem magC_tri' (a b c : Int) : magC (a - c) ≤ magC (a - b) + magC (b - c) := by
  unfold magC
  split <;> split <;> split <;> omega
theorem sum_le2' {α : Type} {f g : α → Int} {b : Int} (k : ∀ x, f x ≤ g x) : ∀ l : List α, (l.map f).sum ≤ (l.map g).sum
  | [] => by simp
  | x :: l => by
    have := sum_le2' (b := b) k l
    have := k x
    simp only [List.map_cons, List.sum_cons]
    omega
theorem sum_add' {α : Type} (f g : α → Int) : ∀ l : List α, (l.map fun x => f x + g x).sum = (l.map f).sum + (l.map g).sum
  | [] => by simp
  | x :: l => by
    have := sum_add' f g l
    simp only [List.map_cons, List.sum_cons]
    omega
theorem sum_zero' {α : Type} {f : α → Int} : ∀ {l : List α}, (∀ x ∈ l, f x = 0) → (l.map f).sum = 0
  | [], _ => rfl
  | x :: l, h => by
    rw [List.map_cons, List.sum_cons, h x List.mem_cons_self, sum_zero' fun y hy => h y (List.mem_cons_of_mem _ hy)]
    rfl
theorem sum_one' {α β : Type} {f : α → Int} {key : α → β} {k0 : β} : ∀ {l : List α}, (l.map key).Nodup → (∀ x ∈ l, key x ≠ k0 → f x = 0) → (∀ x ∈ l, f x ≤ 1) → (l.map f).sum ≤ 1
  | [], _, _, _ => by simp
  | x :: l, nd, h0, h1 => by
    rw [List.map_cons, List.nodup_cons] at nd
    rw [List.map_cons, List.sum_cons]
    have ih := sum_one' nd.2 (fun y hy => h0 y (List.mem_cons_of_mem _ hy)) fun y hy => h1 y (List.mem_cons_of_mem _ hy)
    have x1 := h1 x List.mem_cons_self
    by_cases e : key x = k0
    · have : (l.map f).sum = 0 := sum_zero' fun y hy => h0 y (List.mem_cons_of_mem _ hy) fun q => nd.1 (by rw [e, ← q]; exact List.mem_map_of_mem hy)
      omega
    · rw [h0 x List.mem_cons_self e]
      omega
theorem tot_step {c l : List Int} (lc : c.length = n.toNat) (f : Forest n D) {a b : Int} (ad : adj D a b) (nd : l.Nodup) (pos : ∀ x ∈ l, 0 ≤ x) : tot (doT c (1, a, b)) l = tot c l + (if b ∈ l then 1 else 0) - (if a ∈ l then 1 else 0) := by
  have rn := adj_rng f ad
  unfold doT
  dsimp only
  rw [tot_set rn.2.1.1 (by rw [List.length_set]; omega) _ nd pos, tot_set rn.1.1 (by omega) _ nd pos]
  by_cases h1 : b ∈ l
  · by_cases h2 : a ∈ l
    · rw [if_pos h1, if_pos h2, if_pos h1, if_pos h2]; omega
    · rw [if_pos h1, if_neg h2, if_pos h1, if_neg h2]; omega
  · by_cases h2 : a ∈ l
    · rw [if_neg h1, if_pos h2, if_neg h1, if_pos h2]; omega
    · rw [if_neg h1, if_neg h2, if_neg h1, if_neg h2]; omega
theorem side_leC (f : Forest n D) {R : List Int} {zs : List ((Int × Int) × List Int)} (nd : (zs.map (·.1)).Nodup) (hS : ∀ z ∈ zs, z.1 ∈ D ∧ IsC (lessD D z.1) R z.1.1 z.2 ∧ ∀ x ∈ z.2, 0 ≤ x) {c q : List Int} {k : Nat} (lc : c.length = n.toNat) (h : RkC D k c q) (hR : ∀ r : Int, 0 ≤ r → at0 c r.toNat > 0 → r ∈ R) (zz : ∀ j, at0 c j = 0 → at0 q j = 0) (c0 : ∀ j, 0 ≤ at0 c j) :
    (zs.map fun z => magC (tot c z.2 - tot q z.2)).sum ≤ (k : Nat) := by
  induction h with
  | zero => 
    rw [sum_zero' fun z _ => by rw [Int.sub_self]; rfl]
    exact Int.le_refl _
  | step g s ih =>
    rename_i k c q r
    have zq := (g.bal f lc c0).zz
    have ih := ih lc hR zq c0
    obtain ⟨a, b, ad, ha, hb, rfl⟩ := s
    have rn := adj_rng f ad
    have pos : ∀ x : Int, 0 ≤ x → at0 q x.toNat > 0 → x ∈ R := fun x x0 hx => hR x x0 (by
      have h1 := c0 x.toNat
      by_cases e : at0 c x.toNat = 0
      · have := zq _ e
        omega
      · omega)
    have aR := pos a rn.1.1 ha
    have bR := pos b rn.2.1.1 hb
    have lq : q.length = n.toNat := by rw [g.len]; exact lc
    have st : (zs.map fun z => magC (tot q z.2 - tot (doT q (1, a, b)) z.2)).sum ≤ 1 := by
      have key : ∀ z ∈ zs, z.1 ≠ (a, b) → z.1 ≠ (b, a) → magC (tot q z.2 - tot (doT q (1, a, b)) z.2) = 0 := fun z hz n1 n2 => by
        obtain ⟨zD, ic, zp⟩ := hS z hz
        have al := adj_less ad (Ne.symm n1) (Ne.symm n2)
        have iff : a ∈ z.2 ↔ b ∈ z.2 := by
          rw [ic.mem, ic.mem]
          exact ⟨fun w => .step w al bR, fun w => .step w (adj_symm al) aR⟩
        rw [tot_step lq f ad (up_nodup ic.up) zp]
        unfold magC
        by_cases y : a ∈ z.2
        · rw [if_pos y, if_pos (iff.mp y)]
          split <;> omega
        · rw [if_neg y, if_neg fun w => y (iff.mpr w)]
          split <;> omega
      have one : ∀ z ∈ zs, magC (tot q z.2 - tot (doT q (1, a, b)) z.2) ≤ 1 := fun z hz => by
        obtain ⟨zD, ic, zp⟩ := hS z hz
        rw [tot_step lq f ad (up_nodup ic.up) zp]
        unfold magC
        split <;> split <;> split <;> omega
      rcases ad with y | y
      · refine sum_one' (k0 := (a, b)) nd (fun z hz ne => key z hz ne fun e => ?_) one
        have := (hS z hz).1
        rw [e] at this
        have h1 := (f.ends this).2.1
        have h2 := (f.ends y).2.1
        omega
      · refine sum_one' (k0 := (b, a)) nd (fun z hz ne => key z hz (fun e => ?_) ne) one
        have := (hS z hz).1
        rw [e] at this
        have h1 := (f.ends this).2.1
        have h2 := (f.ends y).2.1
        omega
    have t := sum_le2' (b := 0) (f := fun z : (Int × Int) × List Int => magC (tot c z.2 - tot (doT q (1, a, b)) z.2)) (g := fun z => magC (tot c z.2 - tot q z.2) + magC (tot q z.2 - tot (doT q (1, a, b)) z.2)) (fun z => magC_tri' _ _ _) zs
    rw [sum_add'] at t
    omega
theorem all_of3 {α β : Type} {R : α → β → Prop} : ∀ {l : List α}, (∀ a ∈ l, ∃ b, R a b) → ∃ zs : List (α × β), zs.map (·.1) = l ∧ ∀ z ∈ zs, R z.1 z.2
  | [], _ => ⟨[], rfl, fun z hz => nomatch hz⟩
  | a :: l, h => by
    obtain ⟨b, hb⟩ := h a List.mem_cons_self
    obtain ⟨zs, h1, h2⟩ := all_of3 fun x hx => h x (List.mem_cons_of_mem _ hx)
    exact ⟨(a, b) :: zs, by rw [List.map_cons, h1], fun z hz => (List.mem_cons.mp hz).elim (fun e => e ▸ hb) (h2 z)⟩
theorem few_leC (f : Forest n D) {c q : List Int} {k : Nat} (lc : c.length = n.toNat) (c0 : ∀ j, 0 ≤ at0 c j) (h : RkC D k c q) {fs : List (Int × Int × Int)} (fl : Flows D c q fs) : (fs.map fun q => magC q.2.2).sum ≤ (k : Nat) := by
  obtain ⟨zs, z1, z2⟩ := all_of3 (R := fun (x : Int × Int × Int) (l : List Int) => IsC (lessD D (x.1, x.2.1)) (occN c c.length) x.1 l ∧ x.2.2 = tot c l - tot q l) (l := fs) fun x hx => fl.nf x hx
  have mR : ∀ r, r ∈ occN c c.length ↔ 0 ≤ r ∧ r < n ∧ at0 c r.toNat > 0 := fun x => by rw [mem_occN]; omega
  have dn : ∀ z ∈ zs, (z.1.1, z.1.2.1) ∈ D ∧ z.1.1 ∈ occN c c.length := fun z hz => by
    have m1 : (z.1.1, z.1.2.1) ∈ D.filter (inn c) := by
      rw [← fl.doors]
      exact List.mem_map.mpr ⟨z.1, by rw [← z1]; exact List.mem_map_of_mem (f := (·.1)) hz, rfl⟩
    obtain ⟨m2, m3⟩ := List.mem_filter.mp m1
    exact ⟨m2, ((inn_R f mR m2).mp m3).1⟩
  have sl := side_leC f (R := occN c c.length) (zs := zs.map fun z => ((z.1.1, z.1.2.1), z.2)) (by
    rw [List.map_map]
    have : (zs.map ((fun z : (Int × Int) × List Int => z.1) ∘ fun z => ((z.1.1, z.1.2.1), z.2))) = fs.map fun q => (q.1, q.2.1) := by
      rw [← z1, List.map_map]
      rfl
    rw [this, fl.doors]
    exact f.nodup.filter _) (fun z hz => by
    obtain ⟨y, hy, rfl⟩ := List.mem_map.mp hz
    exact ⟨(dn y hy).1, (z2 y hy).1, fun x hx => ((mR x).mp ((z2 y hy).1.sub (dn y hy).2 x hx)).1⟩) lc h (fun r r0 hr => (mR r).mpr ⟨r0, by
      have : r.toNat < c.length := by
        refine Nat.lt_of_not_le fun z => ?_
        rw [at0_out z] at hr
        exact absurd hr (by decide)
      omega, hr⟩) (h.bal f lc c0).zz c0
  rw [List.map_map] at sl
  have eq : fs.map (fun x => magC x.2.2) = zs.map ((fun z : (Int × Int) × List Int => magC (tot c z.2 - tot q z.2)) ∘ fun z => ((z.1.1, z.1.2.1), z.2)) := by
    rw [← z1, List.map_map]
    exact List.map_congr_left fun z hz => congrArg magC (z2 z hz).2
  rw [eq]
  exact sl
/-! a plan, one by one -/
theorem doT_more {c : List Int} {a b : Int} (lc : c.length = n.toNat) (ra : 0 ≤ a ∧ a < n) (rb : 0 ≤ b ∧ b < n) (ne : a ≠ b) (m : Int) : doT (doT c (m, a, b)) (1, a, b) = doT c (m + 1, a, b) := by
  have l1 := doT_len c (m, a, b)
  refine List.ext_getElem (by rw [doT_len, doT_len, doT_len]) fun i h1 h2 => ?_
  have e1 : at0 (doT (doT c (m, a, b)) (1, a, b)) i = (doT (doT c (m, a, b)) (1, a, b))[i] := at0_get (List.getElem?_eq_getElem h1)
  have e2 : at0 (doT c (m + 1, a, b)) i = (doT c (m + 1, a, b))[i] := at0_get (List.getElem?_eq_getElem h2)
  rw [← e1, ← e2]
  have x1 := doT_at (n := n) (cs := doT c (m, a, b)) (t := (1, a, b)) (by rw [l1]; exact lc) ra rb ne (r := (i : Int)) (by omega)
  have x2 := doT_at (n := n) (cs := c) (t := (m, a, b)) lc ra rb ne (r := (i : Int)) (by omega)
  have x3 := doT_at (n := n) (cs := c) (t := (m + 1, a, b)) lc ra rb ne (r := (i : Int)) (by omega)
  rw [Int.toNat_natCast] at x1 x2 x3
  rw [x1, x2, x3]
  unfold sgT
  dsimp only
  split <;> split <;> omega
theorem doT_zero {c : List Int} {a b : Int} (lc : c.length = n.toNat) (ra : 0 ≤ a ∧ a < n) (rb : 0 ≤ b ∧ b < n) (ne : a ≠ b) : doT c (0, a, b) = c := by
  refine List.ext_getElem (doT_len _ _) fun i h1 h2 => ?_
  have e1 : at0 (doT c (0, a, b)) i = (doT c (0, a, b))[i] := at0_get (List.getElem?_eq_getElem h1)
  have e2 : at0 c i = c[i] := at0_get (List.getElem?_eq_getElem h2)
  rw [← e1, ← e2]
  have x2 := doT_at (n := n) (cs := c) (t := (0, a, b)) lc ra rb ne (r := (i : Int)) (by omega)
  rw [Int.toNat_natCast] at x2
  rw [x2]
  unfold sgT
  dsimp only
  split <;> split <;> omega
theorem some_steps (f : Forest n D) {c : List Int} {a b : Int} (lc : c.length = n.toNat) (c0 : ∀ j, 0 ≤ at0 c j) (ad : adj D a b) (hb : at0 c b.toNat > 0) : ∀ m : Nat, (m : Int) ≤ at0 c a.toNat → RkC D m c (doT c ((m : Int), a, b))
  | 0, _ => by
    have rn := adj_rng f ad
    rw [show ((0 : Nat) : Int) = 0 from rfl, doT_zero lc rn.1 rn.2.1 rn.2.2]
    exact .zero c
  | m + 1, h => by
    have rn := adj_rng f ad
    have ih := some_steps f lc c0 ad hb m (by omega)
    refine .step ih ⟨a, b, ad, ?_, ?_, ?_⟩
    · rw [doT_at (n := n) lc rn.1 rn.2.1 rn.2.2 rn.1.1]
      unfold sgT
      dsimp only
      rw [if_pos rfl, if_neg (Ne.symm rn.2.2)]
      omega
    · rw [doT_at (n := n) lc rn.1 rn.2.1 rn.2.2 rn.2.1.1]
      unfold sgT
      dsimp only
      rw [if_neg rn.2.2, if_pos rfl]
      omega
    · rw [doT_more lc rn.1 rn.2.1 rn.2.2]
      rfl
theorem goes_rk (f : Forest n D) {gs : List Int} : ∀ {ts : List Tr} {cs : List Int}, Goes n gs cs ts → (∀ j, 0 ≤ at0 cs j) → (∀ t ∈ ts, adj D t.2.1 t.2.2) → ∃ k : Nat, (k : Int) = (ts.map (·.1)).sum ∧ RkC D k cs gs
  | [], cs, h, _, _ => ⟨0, rfl, by rw [h.done]; exact .zero _⟩
  | t :: ts, cs, h, c0, ad => by
    have ok := h.ok t List.mem_cons_self
    obtain ⟨h1, h2, h3⟩ := h.step
    have a1 := ad t List.mem_cons_self
    obtain ⟨m, em⟩ := Int.eq_ofNat_of_zero_le (show 0 ≤ t.1 by omega)
    have s1 := some_steps f h.lc c0 a1 h2 m (by rw [← em]; exact h1)
    have et : ((m : Int), t.2.1, t.2.2) = t := by rw [← em]
    rw [et] at s1
    obtain ⟨k, e, g⟩ := goes_rk f h3 (s1.nn f h.lc c0) fun u hu => ad u (List.mem_cons_of_mem _ hu)
    refine ⟨m + k, ?_, s1.trans g⟩
    rw [List.map_cons, List.sum_cons, ← e]
    omega
theorem map_one (gs : List Int) : gs.map (· * 1) = gs := by
  rw [show (fun x : Int => x * 1) = id from funext fun x => Int.mul_one x, List.map_id]
theorem scl_one (t : Tr) : scl 1 t = t := by
  unfold scl
  rw [Int.mul_one]
theorem trf_mag (q : Int × Int × Int) : (trf q).1 = magC q.2.2 := by
  unfold trf magC
  split <;> split <;> (dsimp only <;> omega)
theorem sum_mag_nz : ∀ fs : List (Int × Int × Int), (((fs.filter nz).map trf).map (·.1)).sum = (fs.map fun q => magC q.2.2).sum
  | [] => rfl
  | q :: fs => by
    have ih := sum_mag_nz fs
    rw [List.filter_cons, List.map_cons, List.sum_cons]
    by_cases z : q.2.2 = 0
    · rw [if_neg (by unfold nz; rw [decide_eq_true z]; decide), ih, z]
      show _ = magC 0 + _
      rw [show magC 0 = 0 from rfl]
      omega
    · rw [if_pos (by unfold nz; rw [decide_eq_false z]; rfl), List.map_cons, List.map_cons, List.sum_cons, ih, trf_mag]
theorem ord_ex (f : Forest n D) {W0 : List Tr} (h : ∀ t ∈ W0, adj D t.2.1 t.2.2) (op : ∀ t ∈ W0, ∀ u ∈ W0, ¬ (u.2.1 = t.2.2 ∧ u.2.2 = t.2.1)) : ∀ (k : Nat) {P W : List Tr}, W.length ≤ k → Ord W0 P W → ∃ ts, Ord W0 ts []
  | 0, P, W, l, o => by
    rw [List.length_eq_zero_iff.mp (Nat.le_zero.mp l)] at o
    exact ⟨P, o⟩
  | k + 1, P, W, l, o => by
    by_cases e : W = []
    · rw [e] at o
      exact ⟨P, o⟩
    · have sub : ∀ u ∈ W, u ∈ W0 := fun u hu => o.perm.mem_iff.mp (List.mem_append.mpr (.inr hu))
      have := late_less f (fun t ht => h t (sub t ht)) (fun t ht u hu => op t (sub t ht) u (sub u hu)) e
      exact ord_ex f h op k (by omega) o.next
/-- where nothing is unbalanced the net flows are enough -/
theorem flows_rk (f : Forest n D) (n0 : 0 ≤ n) {cs gs : List Int} {fs : List (Int × Int × Int)} (lc : cs.length = n.toNat) (lg : gs.length = n.toNat) (c0 : ∀ j, 0 ≤ at0 cs j) (g0 : ∀ j, 0 ≤ at0 gs j) (bal : Bal D (occN cs cs.length) cs gs) (hf : Flows D cs gs fs) : ∃ k : Nat, (k : Int) = (fs.map fun q => magC q.2.2).sum ∧ RkC D k cs gs := by
  have fo := flows_ok f hf
  obtain ⟨ts, od⟩ := ord_ex f fo.1 fo.2 _ (Nat.le_refl _) (Ord.start _)
  obtain ⟨g, ad⟩ := plan_goes f n0 lc lg c0 g0 bal hf od (k := 1) (Int.le_refl _)
  rw [map_one, map_one, show ts.map (scl 1) = ts by rw [List.map_congr_left fun t _ => scl_one t, List.map_id']] at g
  obtain ⟨k, e, r⟩ := goes_rk f g c0 ad
  refine ⟨k, ?_, r⟩
  have pm := od.perm
  rw [List.append_nil] at pm
  rw [e, ← sum_mag_nz, perm_sum (pm.map (·.1))]
/-- no block: balanced -/
theorem noblk_one {cs gs : List Int} (lg : gs.length = cs.length) (c0 : ∀ j, 0 ≤ at0 cs j) (g0 : ∀ j, 0 ≤ at0 gs j) {Ls : List (List Int)} (rg : Regs D (occN cs cs.length) Ls) (e : blks cs gs cs.length Ls = []) : Bal D (occN cs cs.length) cs gs := by
  unfold blks at e
  rw [List.append_eq_nil_iff, List.map_eq_nil_iff, List.map_eq_nil_iff] at e
  obtain ⟨e1, e2⟩ := e
  refine ⟨fun r hr l hl => ?_, fun j hj => ?_⟩
  · have m := (rg.mem l).mpr ⟨r, hr, hl⟩
    rw [List.filter_eq_nil_iff] at e2
    have := e2 l m
    rw [Bool.not_eq_true', decide_eq_false_iff_not, Classical.not_not] at this
    exact this
  · unfold wntN at e1
    rw [List.map_eq_nil_iff, List.filter_eq_nil_iff] at e1
    by_cases hl : j < cs.length
    · have := e1 j (List.mem_range.mpr hl)
      rw [Bool.and_eq_true, decide_eq_true_eq, decide_eq_true_eq] at this
      have g := g0 j
      by_cases z : at0 gs j = 0
      · exact z
      · exact absurd ⟨hj, by omega⟩ this
    · exact at0_out (by omega)
theorem noblk_bal {cs gs : List Int} (lg : gs.length = cs.length) (c0 : ∀ j, 0 ≤ at0 cs j) (g0 : ∀ j, 0 ≤ at0 gs j) (h : ∀ Ls, Regs D (occN cs cs.length) Ls → blks cs gs cs.length Ls = []) : Bal D (occN cs cs.length) cs gs := by
  obtain ⟨Ls, rg⟩ := regs_ex D (occN_up cs cs.length)
  exact noblk_one lg c0 g0 rg (h Ls rg)
end
/-! the search -/
abbrev KvI := List (List Int × V)
structure BfsC (D : List (Int × Int)) (c : List Int) (L : KvI) (F : List (List Int)) : Prop where
  nd : (L.map (·.1)).Nodup
  rk : ∀ p ∈ L, ∃ j : Nat, p.2 = .int j ∧ RkC D j c p.1
  st : (c, V.int 0) ∈ L
  fr : ∀ q ∈ F, q ∈ L.map (·.1)
  so : F.Pairwise fun x y => ∀ i j : Nat, (x, V.int i) ∈ L → (y, V.int j) ∈ L → i ≤ j
  mx : ∀ h, F.head? = some h → ∀ p ∈ L, ∀ i j : Nat, (h, V.int i) ∈ L → p.2 = .int j → j ≤ i + 1
  cl : ∀ p ∈ L, p.1 ∉ F → ∀ r, stC D p.1 r → ∃ i j : Nat, p.2 = .int i ∧ (r, V.int j) ∈ L ∧ j ≤ i + 1
theorem kv_one {L : KvI} (nd : (L.map (·.1)).Nodup) {q : List Int} {u v : V} (h : (q, u) ∈ L) (k : (q, v) ∈ L) : u = v := by
  induction L with
  | nil => cases h
  | cons x L ih =>
    rw [List.map_cons, List.nodup_cons] at nd
    rcases List.mem_cons.mp h with e | h
    · rcases List.mem_cons.mp k with e' | k
      · rw [← e] at e'
        exact (congrArg Prod.snd e').symm
      · exact absurd (by rw [← e]; exact List.mem_map_of_mem (f := (·.1)) k) nd.1
    · rcases List.mem_cons.mp k with e' | k
      · exact absurd (by rw [← e']; exact List.mem_map_of_mem (f := (·.1)) h) nd.1
      · exact ih nd.2 h k
theorem BfsC.start (D : List (Int × Int)) (c : List Int) : BfsC D c [(c, .int 0)] [c] := by
  refine ⟨by simp, fun p hp => ?_, by simp, fun q hq => by simpa using hq, List.pairwise_singleton _ _, fun h hh p hp i j hi hj => ?_, fun p hp hn => ?_⟩
  · rw [List.mem_singleton.mp hp]
    exact ⟨0, rfl, .zero _⟩
  · rw [List.mem_singleton.mp hp] at hj
    have : j = 0 := by
      have := V.int.inj hj
      omega
    omega
  · rw [List.mem_singleton.mp hp] at hn
    exact absurd (by simp) hn
theorem BfsC.done {D : List (Int × Int)} {c : List Int} {L : KvI} (h : BfsC D c L []) : ∀ {k : Nat} {r : List Int}, RkC D k c r → ∃ j : Nat, (r, V.int j) ∈ L ∧ j ≤ k := by
  intro k r hr
  generalize ec : c = c' at hr
  induction hr with
  | zero x => subst ec; exact ⟨0, h.st, Nat.le_refl _⟩
  | step g s ih =>
    obtain ⟨j, m, l⟩ := ih ec
    obtain ⟨i, j', e, m', l'⟩ := h.cl _ m (by simp) _ s
    have : j = i := by
      have := V.int.inj e
      omega
    exact ⟨j', m', by omega⟩
/-- within a round: q is looked at, S are its transfers that were looked at -/
structure MidC (D : List (Int × Int)) (c q : List Int) (i : Nat) (L : KvI) (F : List (List Int)) (S : Int → Int → Prop) : Prop where
  nd : (L.map (·.1)).Nodup
  rk : ∀ p ∈ L, ∃ j : Nat, p.2 = .int j ∧ RkC D j c p.1
  st : (c, V.int 0) ∈ L
  qi : (q, V.int i) ∈ L
  fr : ∀ q ∈ F, q ∈ L.map (·.1)
  so : F.Pairwise fun x y => ∀ i j : Nat, (x, V.int i) ∈ L → (y, V.int j) ∈ L → i ≤ j
  lo : ∀ x ∈ F, ∀ j : Nat, (x, V.int j) ∈ L → i ≤ j
  mx : ∀ p ∈ L, ∀ j : Nat, p.2 = .int j → j ≤ i + 1
  cl : ∀ p ∈ L, p.1 ∉ F → p.1 ≠ q → ∀ r, stC D p.1 r → ∃ i j : Nat, p.2 = .int i ∧ (r, V.int j) ∈ L ∧ j ≤ i + 1
  dn : ∀ a b, S a b → adj D a b → at0 q a.toNat > 0 → at0 q b.toNat > 0 → doT q (1, a, b) ∈ L.map (·.1)
theorem BfsC.mid {D : List (Int × Int)} {c q : List Int} {L : KvI} {F : List (List Int)} (h : BfsC D c L (q :: F)) : ∃ i : Nat, MidC D c q i L F fun _ _ => False := by
  obtain ⟨p, hp, e⟩ := List.mem_map.mp (h.fr q List.mem_cons_self)
  obtain ⟨i, ei, _⟩ := h.rk p hp
  have qi : (q, V.int i) ∈ L := by rw [← ei, ← e]; exact hp
  obtain ⟨s1, s2⟩ := List.pairwise_cons.mp h.so
  refine ⟨i, h.nd, h.rk, h.st, qi, fun x hx => h.fr x (List.mem_cons_of_mem _ hx), s2, fun x hx j hj => s1 x hx i j qi hj, fun p hp j hj => h.mx q rfl p hp i j qi hj, fun p hp h1 h2 => h.cl p hp fun z => ?_, fun _ _ z => z.elim⟩
  rcases List.mem_cons.mp z with z | z
  · exact h2 z
  · exact h1 z
theorem MidC.add {D : List (Int × Int)} {c q : List Int} {i : Nat} {L : KvI} {F : List (List Int)} {S : Int → Int → Prop} (h : MidC D c q i L F S) {a b : Int} (ad : adj D a b) (ha : at0 q a.toNat > 0) (hb : at0 q b.toNat > 0) (nw : doT q (1, a, b) ∉ L.map (·.1)) : MidC D c q i (L ++ [(doT q (1, a, b), .int ((i : Int) + 1))]) (F ++ [doT q (1, a, b)]) fun x y => S x y ∨ (x = a ∧ y = b) := by
  have ei : ((i : Int) + 1) = ((i + 1 : Nat) : Int) := by omega
  rw [ei]
  obtain ⟨j0, e0, r0⟩ := h.rk _ h.qi
  have e0 : i = j0 := by
    have := V.int.inj e0
    omega
  subst e0
  have old : ∀ x (j : Nat), x ≠ doT q (1, a, b) → (x, V.int j) ∈ L ++ [(doT q (1, a, b), V.int ((i + 1 : Nat) : Int))] → (x, V.int j) ∈ L := fun x j ne hx => by
    rcases List.mem_append.mp hx with m | m
    · exact m
    · have := List.mem_singleton.mp m
      exact absurd (congrArg Prod.fst this) ne
  have newj : ∀ j : Nat, (doT q (1, a, b), V.int j) ∈ L ++ [(doT q (1, a, b), V.int ((i + 1 : Nat) : Int))] → j = i + 1 := fun j hx => by
    rcases List.mem_append.mp hx with m | m
    · exact absurd (List.mem_map_of_mem (f := (·.1)) m) nw
    · have := congrArg Prod.snd (List.mem_singleton.mp m)
      have := V.int.inj this
      omega
  have fne : ∀ x ∈ F, x ≠ doT q (1, a, b) := fun x hx e => nw (by rw [← e]; exact h.fr x hx)
  refine ⟨?_, fun p hp => ?_, List.mem_append.mpr (.inl h.st), List.mem_append.mpr (.inl h.qi), fun x hx => ?_, ?_, fun x hx j hj => ?_, fun p hp j hj => ?_, fun p hp h1 h2 r hr => ?_, fun x y hS a1 a2 a3 => ?_⟩
  · rw [List.map_append, List.nodup_append]
    refine ⟨h.nd, by simp, fun x hx y hy => ?_⟩
    have hy : y = doT q (1, a, b) := by simpa using hy
    rw [hy]
    exact fun e => nw (by rw [← e]; exact hx)
  · rcases List.mem_append.mp hp with m | m
    · exact h.rk p m
    · rw [List.mem_singleton.mp m]
      exact ⟨i + 1, rfl, .step r0 ⟨a, b, ad, ha, hb, rfl⟩⟩
  · rw [List.map_append]
    rcases List.mem_append.mp hx with m | m
    · exact List.mem_append.mpr (.inl (h.fr x m))
    · rw [List.mem_singleton.mp m]
      exact List.mem_append.mpr (.inr (by simp))
  · rw [List.pairwise_append]
    refine ⟨(List.pairwise_of_forall_mem_list (l := F) (r := fun x y => True) fun _ _ _ _ => trivial).imp_of_mem (S := fun x y => True) (fun _ _ _ => trivial) |> fun _ => ?_, List.pairwise_singleton _ _, fun x hx y hy i1 j1 h1 h2 => ?_⟩
    · refine List.Pairwise.imp_of_mem (fun {x y} hx hy z i1 j1 h1 h2 => z i1 j1 (old x i1 (fne x hx) h1) (old y j1 (fne y hy) h2)) h.so
    · have hy : y = doT q (1, a, b) := by simpa using hy
      rw [hy] at h2
      rw [newj j1 h2]
      exact h.mx (x, .int i1) (old x i1 (fne x hx) h1) i1 rfl
  · rcases List.mem_append.mp hx with m | m
    · exact h.lo x m j (old x j (fne x m) hj)
    · rw [List.mem_singleton.mp m] at hj
      rw [newj j hj]
      omega
  · rcases List.mem_append.mp hp with m | m
    · exact h.mx p m j hj
    · rw [List.mem_singleton.mp m] at hj
      have := V.int.inj hj
      omega
  · rcases List.mem_append.mp hp with m | m
    · obtain ⟨i1, j1, e1, m1, l1⟩ := h.cl p m (fun z => h1 (List.mem_append.mpr (.inl z))) h2 r hr
      exact ⟨i1, j1, e1, List.mem_append.mpr (.inl m1), l1⟩
    · rw [List.mem_singleton.mp m] at h1
      exact absurd (List.mem_append.mpr (.inr (by simp))) h1
  · rw [List.map_append]
    rcases hS with hS | ⟨rfl, rfl⟩
    · exact List.mem_append.mpr (.inl (h.dn x y hS a1 a2 a3))
    · exact List.mem_append.mpr (.inr (by simp))
theorem MidC.skip {D : List (Int × Int)} {c q : List Int} {i : Nat} {L : KvI} {F : List (List Int)} {S S' : Int → Int → Prop} (h : MidC D c q i L F S) (k : ∀ a b, S' a b → S a b ∨ (adj D a b → at0 q a.toNat > 0 → at0 q b.toNat > 0 → doT q (1, a, b) ∈ L.map (·.1))) : MidC D c q i L F S' :=
  ⟨h.nd, h.rk, h.st, h.qi, h.fr, h.so, h.lo, h.mx, h.cl, fun a b hS a1 a2 a3 => (k a b hS).elim (fun z => h.dn a b z a1 a2 a3) fun z => z a1 a2 a3⟩
theorem MidC.bfs {D : List (Int × Int)} {c q : List Int} {i : Nat} {L : KvI} {F : List (List Int)} {S : Int → Int → Prop} (h : MidC D c q i L F S) (all : ∀ a b, adj D a b → S a b) : BfsC D c L F := by
  refine ⟨h.nd, h.rk, h.st, h.fr, h.so, fun x hx p hp i1 j1 h1 h2 => ?_, fun p hp hn r hr => ?_⟩
  · have m : x ∈ F := List.mem_of_head? hx
    have := h.lo x m i1 h1
    have := h.mx p hp j1 h2
    omega
  · by_cases e : p.1 = q
    · obtain ⟨a, b, ad, ha, hb, er⟩ := hr
      rw [e] at ha hb er
      have m := h.dn a b (all a b ad) ad ha hb
      rw [← er] at m
      obtain ⟨x, hx, ex⟩ := List.mem_map.mp m
      obtain ⟨j, ej, _⟩ := h.rk x hx
      have hi : p.2 = .int i := kv_one h.nd (show (q, p.2) ∈ L by rw [← e]; exact hp) h.qi
      refine ⟨i, j, hi, ?_, h.mx x hx j ej⟩
      rw [← ej, ← ex]
      exact hx
    · exact h.cl p hp hn e r hr
/-! how many -/
def allC (m : Nat) : Nat → List (List Int)
  | 0 => [[]]
  | k + 1 => (List.range (m + 1)).flatMap fun (x : Nat) => (allC m k).map fun l => (x : Int) :: l
theorem allC_len (m : Nat) : ∀ k, (allC m k).length = (m + 1) ^ k
  | 0 => rfl
  | k + 1 => by
    unfold allC
    rw [List.length_flatMap]
    have : ∀ xs : List Nat, (xs.map fun x => ((allC m k).map fun l => ((x : Nat) : Int) :: l).length).sum = xs.length * (m + 1) ^ k := fun xs => by
      induction xs with
      | nil => simp
      | cons x xs ih => rw [List.map_cons, List.sum_cons, ih, List.length_map, allC_len m k, List.length_cons, Nat.succ_mul, Nat.add_comm]
    rw [this, List.length_range, Nat.pow_succ, Nat.mul_comm]
theorem allC_mem {m : Nat} : ∀ {l : List Int}, (∀ x ∈ l, 0 ≤ x ∧ x ≤ (m : Nat)) → l ∈ allC m l.length
  | [], _ => List.mem_singleton.mpr rfl
  | x :: l, h => by
    have hx := h x List.mem_cons_self
    have ih := allC_mem fun y hy => h y (List.mem_cons_of_mem _ hy)
    refine List.mem_flatMap.mpr ⟨x.toNat, List.mem_range.mpr (by omega), List.mem_map.mpr ⟨l, ih, ?_⟩⟩
    rw [Int.toNat_of_nonneg hx.1]
theorem len_inC {α : Type} [DecidableEq α] : ∀ {xs ys : List α}, xs.Nodup → (∀ x ∈ xs, x ∈ ys) → xs.length ≤ ys.length
  | [], _, _, _ => Nat.zero_le _
  | x :: xs, ys, nd, h => by
    have nd := List.nodup_cons.mp nd
    have i := len_inC (xs := xs) (ys := ys.erase x) nd.2 fun y hy => (List.mem_erase_of_ne (show y ≠ x from fun e => nd.1 (e ▸ hy))).mpr (h y (List.mem_cons_of_mem _ hy))
    have e := List.length_erase_of_mem (h x (List.mem_cons_self ..))
    have p := List.length_pos_of_mem (h x (List.mem_cons_self ..))
    rw [List.length_cons]
    omega
theorem RkC.in {n : Int} {D : List (Int × Int)} (f : Forest n D) {c q : List Int} {k m : Nat} (lc : c.length = n.toNat) (c0 : ∀ j, 0 ≤ at0 c j) (hm : c.sum ≤ (m : Nat)) (h : RkC D k c q) : q ∈ allC m n.toNat := by
  have nn := h.nn f lc c0
  have mem : ∀ x ∈ q, 0 ≤ x := fun x hx => by
    obtain ⟨i, hi, rfl⟩ := List.mem_iff_getElem.mp hx
    have := nn i
    rwa [at0_get (List.getElem?_eq_getElem hi)] at this
  have := allC_mem (m := m) (l := q) fun x hx => ⟨mem x hx, by
    obtain ⟨i, hi, rfl⟩ := List.mem_iff_getElem.mp hx
    have := at0_le i mem
    rw [at0_get (List.getElem?_eq_getElem hi), h.sum f lc] at this
    omega⟩
  rwa [h.len, lc] at this
theorem few_found {n : Int} {D : List (Int × Int)} (f : Forest n D) {c : List Int} {m : Nat} (lc : c.length = n.toNat) (c0 : ∀ j, 0 ≤ at0 c j) (hm : c.sum ≤ (m : Nat)) {L : KvI} (nd : (L.map (·.1)).Nodup) (rk : ∀ p ∈ L, ∃ j : Nat, p.2 = .int j ∧ RkC D j c p.1) : L.length ≤ (m + 1) ^ n.toNat := by
  have := len_inC (ys := allC m n.toNat) nd fun q hq => by
    obtain ⟨p, hp, rfl⟩ := List.mem_map.mp hq
    obtain ⟨j, _, r⟩ := rk p hp
    exact r.in f lc c0 hm
  rwa [allC_len, List.length_map] at this
end Fw
set_option maxHeartbeats 2000000
namespace Fw
open PySem PySem.Spec PyProof.Rows L2
/-! k59: the search over counts -/
abbrev Cts := List (Addr × List Int)
abbrev snds (fs : Cts) : List (List Int) := fs.map fun q : Addr × List Int => q.2
def CtsAt (H : Hp) (fs : Cts) : Prop := ∀ q ∈ fs, H q.1 = some (.tup (vi q.2))
theorem CtsAt.same {H H' : Hp} {fs : Cts} (h : CtsAt H fs) (e : Same H H') : CtsAt H' fs := fun q hq => e _ _ (h q hq)
theorem CtsAt.putL {H : Hp} {fs : Cts} (h : CtsAt H fs) {L : Addr} {xs : List V} {o : HO} (e : H L = some (.lst xs)) : CtsAt (upd H L o) fs := fun q hq => (upd_ne (ne_of (h q hq) e (by intro z; cases z))).trans (h q hq)
theorem CtsAt.putD {H : Hp} {fs : Cts} (h : CtsAt H fs) {L : Addr} {xs : List (List L2.Key × V)} {o : HO} (e : H L = some (.dT xs)) : CtsAt (upd H L o) fs := fun q hq => (upd_ne (ne_of (h q hq) e (by intro z; cases z))).trans (h q hq)
theorem ik_at {H : Hp} {b : Addr} {c : List Int} (h : H b = some (.tup (vi c))) : H b = some (.tup ((ik c).map kV)) := by rw [ik_V]; exact h
theorem pow9 {n : Int} (n4 : n ≤ 4) : 9 ^ n.toNat ≤ 6561 := by
  have : n.toNat ≤ 4 := by omega
  exact Nat.pow_le_pow_right (by decide) this
theorem take_ints {c : List Int} {i : Nat} {v : Int} (l : i < c.length) (e : at0 c i = v) : vi (c.take (i + 1)) = vi (c.take i) ++ [V.int v] := by
  have : c[i]? = some v := by
    rw [List.getElem?_eq_getElem l]
    have := at0_get (List.getElem?_eq_getElem l)
    rw [← e, this]
  rw [take_snoc this, vi_app]
  rfl
theorem ixN_of {n : Nat} {i : Int} (h0 : 0 ≤ i) (h1 : i < (n : Nat)) : ixN n i = some i.toNat := by
  unfold ixN
  rw [if_pos h0, if_pos h1]
section
variable {P : Program} {w : World} {K : PySem.W.Frag} {mg : Str → Option Value} {base : Heap}
def spRCts : Sp := fun vs H Q _ => ∃ (h p : Addr) (n : Int) (D : List (Int × Int)) (cs : List Int), vs = [.ref h, .ref p] ∧ HouseAt H h n D ∧ Forest n D ∧ 1 ≤ n ∧ n ≤ 4 ∧ H p = some (.tup (vi cs)) ∧ cs.length = n.toNat ∧ (∀ j, 0 ≤ at0 cs j) ∧ cs.sum ≤ 8 ∧
  ∀ H' d L, Same H H' → H d = none → H' d = some (.dT (kvs1 L)) → BfsC D cs L [] → Q (.ref d) H'
abbrev nLRCts : List Str := ["_law_house_here", "_law_now", "_law_found", "_law_frontier", "_law_here", "_law_room", "_law_there", "_law_later", "_law_k"]
theorem scLRCts : FnScope nLRCts ["_law_house_here", "_law_now"] (defScope sLRCts) := ⟨rfl, rfl, rfl, by decide +kernel, rfl, by decide +kernel, by decide +kernel⟩
theorem ok_rcts {f : Addr} {fd : FuncData} {k : Nat} (F : Fun K "_law_reachable_counts" "_law_reachable_counts" sLRCts f fd) (T : Nm mg) (C_law_neighbors : Cal P w K mg base k "_law_neighbors" ["_law_house_here", "_law_room"] spLNb) : FnOk P w K mg base CX0 (k + 1) f fd ["_law_house_here", "_law_now"] spRCts := by
  refine F.ok scLRCts (fun vs H Q E h => ?_) (fun cdv A outer s H vs Q E1 hr h => ?_)
  · obtain ⟨h, p, n, D, cs, rfl, _⟩ := h
    rfl
  · obtain ⟨h, p, n, D, cs, rfl, hH, hF, n1, n4, hp, lc, c0, cs8, q⟩ := h
    refine ⟨_, (pss_cons (ps_par (i := 2) (j := 3) (by rfl) scLRCts.nd rfl rfl (by decide) rfl rfl (pa_cons (pe_disp1 hr.units (pv 1) pe_int) (pa_cons (pe_lst (pa_cons (pv 1) pa_nil)) pa_nil)) (by rfl))
      (pss_cons (ps_while PassesOwn.never (pt_cmpR (op_neL0 (Nat.lt_of_succ_lt (hu_of hr))) (pv 3) (pe_lst pa_nil) (nomark _))
      (pss_cons (ps_set (i := 4) scLRCts.nd rfl (.inr rfl) (pe_bm PySem.F.plainAttrs_list PySem.F.slot_list_pop PySem.F.type_list_pop mt_popAt (pv 3) (pa_cons pe_int pa_nil)))
       (pss_one (ps_for PassesOwn.never rfl (pi_range1 (by rfl) T.range (pa_cons (pe_ix (ix_tupK K rfl) (pv 0) pe_int (fun _ _ => rfl)) pa_nil)) (pg_name (i := 5) scLRCts.nd rfl (.inr rfl))
       (pss_one (ps_for PassesOwn.never rfl (pi_listK K rfl (pe_cal C_law_neighbors hr (by rfl) (pa_cons (pv 0) (pa_cons (pv 5) pa_nil)))) (pg_name (i := 6) scLRCts.nd rfl (.inr rfl))
        (pss_one (ps_if (PW.pt (pw_and (pt_cmpR op_gt (pe_ix (ix_tupK K rfl) (pv 4) (pv 5) (fun _ _ => rfl)) pe_int (nomark _)) (pw_and1 (pt_cmpR op_gt (pe_ix (ix_tupK K rfl) (pv 4) (pv 6) (fun _ _ => rfl)) pe_int (nomark _)))))
         (pss_cons (ps_set (i := 7) scLRCts.nd rfl (.inl rfl) (pe_callTy (call_tupleK K rfl) (by rfl) T.tuple (by decide +kernel) (pa_cons (pe_lc (own := [("_law_k", 8)]) (g := gName 8) (by rfl) scLRCts.nd (pi_range1 (by rfl) T.range (pa_cons (pe_ix (ix_tupK K rfl) (pv 0) pe_int (fun _ _ => rfl)) pa_nil))
 (blkOk_by (own := [("_law_k", 8)]) (N := nLRCts) (sc := defScope sLRCts) (by decide +kernel))
 (fun _ _ _ _ _ => (pg_name (i := 8) scLRCts.nd rfl (.inl rfl))) (fun _ _ _ _ _ => pts_nil) (fun _ _ _ _ _ => (pe_op op_add (pe_op op_sub (pe_ix (ix_tupK K rfl) (pv 4) (pv 8) (fun _ _ => rfl)) (pe_callTy call_int1 (by rfl) T.int (by decide +kernel) (pa_cons (pe_cmpR op_eq (pv 8) (pv 5) (nomark _)) pa_nil))) (pe_callTy call_int1 (by rfl) T.int (by decide +kernel) (pa_cons (pe_cmpR op_eq (pv 8) (pv 6) (nomark _)) pa_nil))))) pa_nil)))
          (pss_one (ps_if (pt_cmp (pc_dnotin (hu_of hr) (pv 7) (pv 2)))
          (pss_cons (ps_asg (pe_op op_add (pe_dget (hu_of hr) (pv 2) (pv 4) (fun _ _ => rfl)) pe_int) (pg_sub (pv 2) (pv 7) (set_dict (hu_of hr))))
           (pss_one (ps_expr (pe_bm PySem.F.plainAttrs_list PySem.F.slot_list_append PySem.F.type_list_append mt_append (pv 3) (pa_cons (pv 7) pa_nil)))))
          pss_nil)))
         pss_nil))))))))
      (pss_one (ps_ret (pv 2))))), ?_⟩
    have sz := sizeLine_eq
    have p9 := pow9 n4
    refine fun d hd => ⟨_, rfl, p, ik cs, rfl, ik_at (same_upd hd _ _ hp), upd_same, ?_⟩
    refine ⟨_, rfl, by show 1 ≤ sizeLine; omega, fun l hl => ⟨_, _, rfl, ?_⟩⟩
    dsimp only [gName]
    have s1 : Same H (upd (upd H d (.dT [])) d (.dT [(ik cs, .int 0)])) := same_put (same_upd hd) hd
    have ed1 : (upd (upd H d (.dT [])) d (.dT [(ik cs, .int 0)])) d = some (.dT (kvs1 [(cs, .int 0)])) := upd_same
    generalize upd (upd H d (.dT [])) d (.dT [(ik cs, .int 0)]) = H1 at *
    have s2 := s1.trans (same_upd (o := .lst [V.ref p]) hl)
    have nl := s1.free hl
    have ndl : d ≠ l := ne_of_none ed1 hl
    refine ⟨fun m σ H' => ∃ (fs : Cts) (L : KvI) (y4 y5 y6 y7 y8 : Option V), σ = [some (.ref h), some (.ref p), some (.ref d), some (.ref l), y4, y5, y6, y7, y8] ∧ Same H H' ∧ H' d = some (.dT (kvs1 L)) ∧ H' l = some (.lst (fs.map fun q => V.ref q.1)) ∧ CtsAt H' fs ∧ BfsC D cs L (snds fs) ∧ fs.length ≤ L.length ∧ m = 2 * (9 ^ n.toNat - L.length) + fs.length,
      ⟨_, [(p, cs)], [(cs, .int 0)], none, none, none, none, none, rfl, s2, same_upd hl _ _ ed1, upd_same, fun q hq => ?_, BfsC.start D cs, Nat.le_refl _, rfl⟩, ?_⟩
    · rw [List.mem_singleton.mp hq]
      exact s2 _ _ hp
    rintro m σ H2 ⟨fs, L, y4, y5, y6, y7, y8, rfl, sm, ed, el, ct, bf, lfs, rfl⟩
    refine ⟨_, rfl, Nat.zero_le _, fun b hb => ⟨l, b, _, rfl, rfl, SqL.of (same_upd hb _ _ el), SqL.of upd_same, _, rfl, ?_⟩⟩
    have sb := same_upd (o := .lst []) hb
    have sm := sm.trans sb
    have ed := sb _ _ ed
    have el := sb _ _ el
    have ct := ct.same sb
    clear s1 s2 ed1 hb
    generalize upd H2 b (.lst []) = H3 at *
    clear sb
    cases fs with
    | nil => exact iteF ⟨_, rfl, q _ d L sm hd ed bf⟩
    | cons x fr =>
    obtain ⟨a0, c1⟩ := x
    refine iteT ⟨_, fun _ _ h => h, ?_⟩
    have ea := ct (a0, c1) List.mem_cons_self
    obtain ⟨i0, md⟩ := bf.mid
    obtain ⟨j0, e0, r0⟩ := md.rk _ md.qi
    have lq : c1.length = n.toNat := by rw [r0.len]; exact lc
    refine ⟨_, rfl, .inl ⟨rfl, _, SqL.of el⟩, l, _, _, 0, .ref a0, rfl, rfl, el, by decide, by decide, by simp [seqIndex?], rfl, ?_⟩
    rw [show ((((a0, c1) :: fr).map fun q : Addr × List Int => V.ref q.1).eraseIdx 0) = fr.map fun q => V.ref q.1 from rfl]
    have s4 := same_put (o := .lst (fr.map fun q => V.ref q.1)) sm nl
    have ed4 : (upd H3 l (.lst (fr.map fun q => V.ref q.1))) d = some (.dT (kvs1 L)) := (upd_ne ndl).trans ed
    have el4 : (upd H3 l (.lst (fr.map fun q => V.ref q.1))) l = some (.lst (fr.map fun q => V.ref q.1)) := upd_same
    have ct4 : CtsAt (upd H3 l (.lst (fr.map fun q => V.ref q.1))) fr := CtsAt.putL (fun q hq => ct q (List.mem_cons_of_mem _ hq)) el
    have ea4 : (upd H3 l (.lst (fr.map fun q => V.ref q.1))) a0 = some (.tup (vi c1)) := (upd_ne (ne_of ea el (by intro z; cases z))).trans ea
    generalize upd H3 l (.lst (fr.map fun q => V.ref q.1)) = H4 at *
    clear ed el ct ea sm
    rw [List.length_cons] at lfs
    obtain ⟨qd, eh4⟩ := (hH.same s4).room0
    have fewL : ∀ {M : KvI} {G : List (List Int)} {S : Int → Int → Prop}, MidC D cs c1 i0 M G S → M.length ≤ 9 ^ n.toNat := fun mm => few_found (m := 8) hF lc c0 cs8 mm.nd mm.rk
    refine ⟨_, rfl, h, _, _, _, rfl, rfl, SqT.of eh4, atI0, n, rfl, by omega, by omega, for_range (lo := 0) (n := n.toNat) (fun i σ H' => ∃ (fs : Cts) (M : KvI) (y5 y6 y7 y8 : Option V), σ = [some (.ref h), some (.ref p), some (.ref d), some (.ref l), some (.ref a0), y5, y6, y7, y8] ∧ Same H H' ∧ H' d = some (.dT (kvs1 M)) ∧ H' l = some (.lst (fs.map fun q => V.ref q.1)) ∧ CtsAt H' fs ∧ H' a0 = some (.tup (vi c1)) ∧ MidC D cs c1 i0 M (snds fs) (fun a _ => a < (i : Int)) ∧ fs.length ≤ M.length ∧ 2 * (9 ^ n.toNat - M.length) + fs.length < 2 * (9 ^ n.toNat - L.length) + (fr.length + 1))
      ⟨fr, L, _, _, _, _, rfl, s4, ed4, el4, ct4, ea4, md.skip (fun a b hab => .inr fun ad _ _ => by have := (adj_rng hF ad).1.1; omega), by omega, by omega⟩ ?_ ?_⟩
    · rintro i σ' H5 hi ⟨fs, M, z5, z6, z7, z8, rfl, s5, ed5, el5, ct5, ea5, md5, lf5, me5⟩
      refine ⟨_, rfl, _, rfl, h, n, D, 0 + (i : Int), rfl, hH.same s5, hF, fun H6 nl6 s6 hn6 en6 => ?_⟩
      have ndn : d ≠ nl6 := ne_of_none ed5 hn6
      have nln : l ≠ nl6 := ne_of_none el5 hn6
      have s56 := s5.trans s6
      have ed6 := s6 _ _ ed5
      have el6 := s6 _ _ el5
      have ct6 := ct5.same s6
      have ea6 := s6 _ _ ea5
      clear ed5 el5 ct5 ea5
      refine ⟨nl6, rfl, ⟨_, SqL.of en6⟩, for_list (K := K) (a := nl6) (xs := vi (nb n D (0 + (i : Int)))) (fun j σ H' => ∃ (fs : Cts) (M : KvI) (y6 y7 y8 : Option V), σ = [some (.ref h), some (.ref p), some (.ref d), some (.ref l), some (.ref a0), some (.int (0 + (i : Int))), y6, y7, y8] ∧ Same H H' ∧ H' d = some (.dT (kvs1 M)) ∧ H' l = some (.lst (fs.map fun q => V.ref q.1)) ∧ CtsAt H' fs ∧ H' a0 = some (.tup (vi c1)) ∧ H' nl6 = some (.lst (vi (nb n D (0 + (i : Int))))) ∧ MidC D cs c1 i0 M (snds fs) (fun a b => a < (i : Int) ∨ (a = 0 + (i : Int) ∧ b ∈ (nb n D (0 + (i : Int))).take j)) ∧ fs.length ≤ M.length ∧ 2 * (9 ^ n.toNat - M.length) + fs.length < 2 * (9 ^ n.toNat - L.length) + (fr.length + 1))
        ⟨fs, M, _, _, _, rfl, s56, ed6, el6, ct6, ea6, en6, md5.skip (fun a b hab => hab.elim .inl fun z => absurd z.2 (by rw [List.take_zero]; exact List.not_mem_nil)), lf5, me5⟩ (fun j σ H' _ hh => ?_) ?_ ?_⟩
      · obtain ⟨_, _, _, _, _, _, _, _, _, _, _, e', _⟩ := hh
        exact SqL.of e'
      · rintro j x σ' H7 hx ⟨fs, M, z6, z7, z8, rfl, s7, ed7, el7, ct7, ea7, en7, md7, lf7, me7⟩
        obtain ⟨t, ht, rfl⟩ := get_vi hx
        have mt : t ∈ nb n D (0 + (i : Int)) := List.mem_of_getElem? ht
        have ad := hF.mem_nb.mp mt
        have rn := adj_rng hF ad
        have tk : (nb n D (0 + (i : Int))).take (j + 1) = (nb n D (0 + (i : Int))).take j ++ [t] := take_snoc ht
        have grow : ∀ {M' : KvI} {G : List (List Int)}, MidC D cs c1 i0 M' G (fun a b => (a < (i : Int) ∨ (a = 0 + (i : Int) ∧ b ∈ (nb n D (0 + (i : Int))).take j)) ∨ (a = 0 + (i : Int) ∧ b = t)) → MidC D cs c1 i0 M' G (fun a b => a < (i : Int) ∨ (a = 0 + (i : Int) ∧ b ∈ (nb n D (0 + (i : Int))).take (j + 1))) := fun mm => mm.skip fun a b hab => by
          rcases hab with z | ⟨z1, z2⟩
          · exact .inl (.inl (.inl z))
          · rw [tk] at z2
            rcases List.mem_append.mp z2 with m | m
            · exact .inl (.inl (.inr ⟨z1, m⟩))
            · exact .inl (.inr ⟨z1, List.mem_singleton.mp m⟩)
        have noway : ¬ (at0 c1 (0 + (i : Int)).toNat > 0 ∧ at0 c1 t.toNat > 0) → MidC D cs c1 i0 M (snds fs) (fun a b => a < (i : Int) ∨ (a = 0 + (i : Int) ∧ b ∈ (nb n D (0 + (i : Int))).take (j + 1))) := fun no => grow (md7.skip fun a b hab => hab.elim .inl fun z => .inr fun _ h1 h2 => by
          rw [z.1] at h1
          rw [z.2] at h2
          exact (no ⟨h1, h2⟩).elim)
        refine ⟨_, rfl, _, rfl, a0, _, _, _, rfl, rfl, SqT.of ea7, at0_ix (cs := c1) (by omega) (by omega), _, _, rfl, rfl, _, rfl, ?_⟩
        by_cases g1 : at0 c1 (0 + (i : Int)).toNat > 0
        rotate_left
        · rw [decide_eq_false g1]
          exact iteF (iteF ⟨fs, M, _, _, _, rfl, s7, ed7, el7, ct7, ea7, en7, noway fun z => g1 z.1, lf7, me7⟩)
        rw [decide_eq_true g1]
        refine iteT ⟨_, rfl, _, rfl, a0, _, _, _, rfl, rfl, SqT.of ea7, at0_ix (cs := c1) (by omega) (by omega), _, _, rfl, rfl, _, rfl, ?_⟩
        by_cases g2 : at0 c1 t.toNat > 0
        rotate_left
        · rw [decide_eq_false g2]
          exact iteF ⟨fs, M, _, _, _, rfl, s7, ed7, el7, ct7, ea7, en7, noway fun z => g2 z.2, lf7, me7⟩
        rw [decide_eq_true g2]
        refine iteT ?_
        clear noway
        have lr : (doT c1 (1, 0 + (i : Int), t)).length = n.toNat := by rw [doT_len]; exact lq
        obtain ⟨qd7, eh7⟩ := (hH.same s7).room0
        refine ⟨_, rfl, h, _, _, _, rfl, rfl, SqT.of eh7, atI0, n, rfl, by omega, by omega, fun D0 hD0 => lc_range (lo := 0) (n := n.toNat) (fun m H' => Same H7 H' ∧ H' D0 = some (.lst (vi ((doT c1 (1, 0 + (i : Int), t)).take m)))) ⟨same_upd hD0, upd_same⟩ ?_ ?_⟩
        · rintro m H' hm ⟨s', e'⟩
          refine ⟨rfl, ?_⟩
          unfold tYes
          refine iteT ⟨_, rfl, _, rfl, a0, _, _, _, rfl, rfl, SqT.of (s' _ _ ea7), at0_ix (cs := c1) (by omega) (by omega), _, rfl, _, rfl, rfl, .inr ⟨_, rfl, _, _, rfl, rfl, _, rfl, _, rfl, rfl, .inr ⟨_, rfl, _, _, rfl, rfl, _, e', ?_, same_put s' hD0, ?_⟩⟩⟩
          · rw [List.length_map, List.length_take]
            omega
          · rw [upd_same]
            refine congrArg (fun x => some (HO.lst x)) ?_
            refine (take_ints (by rw [lr]; exact hm) ?_).symm
            have := step_at hF lq ad (r := (m : Int)) (by omega)
            rw [Int.toNat_natCast] at this
            rw [this, show (0 + (m : Int)).toNat = m by omega]
            by_cases k1 : 0 + (m : Int) = 0 + (i : Int)
            · rw [if_pos (decide_eq_true (by rw [k1]) : decide (V.int (0 + (m : Int)) = V.int (0 + (i : Int))) = true), if_pos (by omega : 0 + (i : Int) = (m : Int))]
              by_cases k2 : 0 + (m : Int) = t
              · rw [if_pos (decide_eq_true (by rw [k2]) : decide (V.int (0 + (m : Int)) = V.int t) = true), if_pos (by omega : t = (m : Int))]
                omega
              · rw [if_neg (by rw [decide_eq_false fun z => k2 (V.int.inj z)]; decide : ¬ decide (V.int (0 + (m : Int)) = V.int t) = true), if_neg (by omega : ¬ t = (m : Int))]
                omega
            · rw [if_neg (by rw [decide_eq_false fun z => k1 (V.int.inj z)]; decide : ¬ decide (V.int (0 + (m : Int)) = V.int (0 + (i : Int))) = true), if_neg (by omega : ¬ 0 + (i : Int) = (m : Int))]
              by_cases k2 : 0 + (m : Int) = t
              · rw [if_pos (decide_eq_true (by rw [k2]) : decide (V.int (0 + (m : Int)) = V.int t) = true), if_pos (by omega : t = (m : Int))]
                omega
              · rw [if_neg (by rw [decide_eq_false fun z => k2 (V.int.inj z)]; decide : ¬ decide (V.int (0 + (m : Int)) = V.int t) = true), if_neg (by omega : ¬ t = (m : Int))]
                omega
        rintro H8 ⟨s8, e8⟩
        rw [← lr, List.take_length] at e8
        refine ⟨D0, _, rfl, .inl ⟨SqL.of e8, fun N hN => ?_⟩⟩
        have sN := s8.trans (same_upd (o := .tup (vi (doT c1 (1, 0 + (i : Int), t)))) hN)
        have eN : (upd H8 N (.tup (vi (doT c1 (1, 0 + (i : Int), t))))) N = some (.tup (vi (doT c1 (1, 0 + (i : Int), t)))) := upd_same
        generalize upd H8 N (.tup (vi (doT c1 (1, 0 + (i : Int), t)))) = H9 at *
        have s9 := s7.trans sN
        have ed9 := sN _ _ ed7
        have el9 := sN _ _ el7
        have ct9 := ct7.same sN
        have ea9 := sN _ _ ea7
        have en9 := sN _ _ en7
        clear ed7 el7 ct7 ea7 en7 sN s8 e8 hN hD0
        refine ⟨_, rfl, _, rfl, d, _, rfl, DGet.t ed9 (ik_at eN), _, rfl, ?_⟩
        by_cases inn : doT c1 (1, 0 + (i : Int), t) ∈ M.map (·.1)
        · obtain ⟨x, hx, ex⟩ := List.mem_map.mp inn
          rw [valV_ik md7.nd (show (doT c1 (1, 0 + (i : Int), t), x.2) ∈ M by rw [← ex]; exact hx)]
          exact iteF ⟨fs, M, _, _, _, rfl, s9, ed9, el9, ct9, ea9, en9, grow (md7.skip fun a b hab => hab.elim .inl fun z => .inr fun _ _ _ => by rw [z.1, z.2]; exact inn), lf7, me7⟩
        · rw [valV_ik_none inn]
          refine iteT ?_
          have md' := md7.add ad g1 g2 inn
          have few := fewL md'
          rw [List.length_append, List.length_singleton] at few
          have dg : DGet H9 d (.ref a0) (some (.int i0)) := by
            have := DGet.t ed9 (ik_at ea9)
            rwa [valV_ik md7.nd md7.qi] at this
          refine ⟨_, rfl, _, rfl, d, _, rfl, dg, _, _, rfl, rfl, _, rfl, _, rfl, d, _, rfl, DPut.t ed9 (ik_at eN) (by unfold kvs1; rw [List.length_map]; omega), ?_⟩
          rw [putK_new _ (valV_ik_none inn), show kvs1 M ++ [(ik (doT c1 (1, 0 + (i : Int), t)), V.int ((i0 : Int) + 1))] = kvs1 (M ++ [(doT c1 (1, 0 + (i : Int), t), V.int ((i0 : Int) + 1))]) from (kvs1_app M [(doT c1 (1, 0 + (i : Int), t), V.int ((i0 : Int) + 1))]).symm]
          have sA := same_put (o := .dT (kvs1 (M ++ [(doT c1 (1, 0 + (i : Int), t), V.int ((i0 : Int) + 1))]))) s9 hd
          have edA : (upd H9 d (.dT (kvs1 (M ++ [(doT c1 (1, 0 + (i : Int), t), V.int ((i0 : Int) + 1))])))) d = some (.dT (kvs1 (M ++ [(doT c1 (1, 0 + (i : Int), t), V.int ((i0 : Int) + 1))]))) := upd_same
          have elA := (upd_ne (o := .dT (kvs1 (M ++ [(doT c1 (1, 0 + (i : Int), t), V.int ((i0 : Int) + 1))]))) ndl.symm).trans el9
          have ctA := ct9.putD (o := .dT (kvs1 (M ++ [(doT c1 (1, 0 + (i : Int), t), V.int ((i0 : Int) + 1))]))) ed9
          have eaA := (upd_ne (o := .dT (kvs1 (M ++ [(doT c1 (1, 0 + (i : Int), t), V.int ((i0 : Int) + 1))]))) (ne_of ea9 ed9 (by intro z; cases z))).trans ea9
          have enA := (upd_ne (o := .dT (kvs1 (M ++ [(doT c1 (1, 0 + (i : Int), t), V.int ((i0 : Int) + 1))]))) ndn.symm).trans en9
          have eNA := (upd_ne (o := .dT (kvs1 (M ++ [(doT c1 (1, 0 + (i : Int), t), V.int ((i0 : Int) + 1))]))) (ne_of eN ed9 (by intro z; cases z))).trans eN
          generalize upd H9 d (.dT (kvs1 (M ++ [(doT c1 (1, 0 + (i : Int), t), V.int ((i0 : Int) + 1))]))) = HA at *
          refine ⟨_, rfl, .inl ⟨rfl, _, SqL.of elA⟩, _, rfl, l, _, _, rfl, rfl, elA, by rw [List.length_map]; omega, ?_⟩
          refine ⟨fs ++ [(N, doT c1 (1, 0 + (i : Int), t))], M ++ [(doT c1 (1, 0 + (i : Int), t), V.int ((i0 : Int) + 1))], _, _, _, rfl, same_put sA nl, (upd_ne ndl).trans edA, by rw [upd_same, List.map_append]; rfl, fun y hy => ?_, (upd_ne (ne_of eaA elA (by intro z; cases z))).trans eaA, (upd_ne nln.symm).trans enA, ?_, ?_, ?_⟩
          · rcases List.mem_append.mp hy with m | m
            · exact ctA.putL elA y m
            · rw [List.mem_singleton.mp m]
              exact (upd_ne (ne_of eNA elA (by intro z; cases z))).trans eNA
          · unfold snds
            rw [List.map_append]
            exact grow md'
          · rw [List.length_append, List.length_append]
            show fs.length + 1 ≤ M.length + 1
            omega
          · rw [List.length_append, List.length_append, List.length_singleton, List.length_singleton]
            omega
      · rintro σ' H7 ⟨fs, M, z6, z7, z8, rfl, s7, ed7, el7, ct7, ea7, en7, md7, lf7, me7⟩
        refine ⟨fs, M, _, _, _, _, rfl, s7, ed7, el7, ct7, ea7, md7.skip fun a b hab => ?_, lf7, me7⟩
        by_cases e : a = 0 + (i : Int)
        · refine .inr fun ad h1 h2 => ?_
          refine md7.dn a b (.inr ⟨e, ?_⟩) ad h1 h2
          rw [List.length_map, List.take_length]
          rw [e] at ad
          exact hF.mem_nb.mpr ad
        · exact .inl (.inl (by have : a < ((i + 1 : Nat) : Int) := hab; omega))
    · rintro σ' H5 ⟨fs, M, z5, z6, z7, z8, rfl, s5, ed5, el5, ct5, ea5, md5, lf5, me5⟩
      refine ⟨_, me5, fs, M, _, _, _, _, _, rfl, s5, ed5, el5, ct5, md5.bfs fun a b ad => ?_, lf5, rfl⟩
      have := (adj_rng hF ad).1
      show a < (n.toNat : Int)
      omega
def spAnyG : Sp := fun vs H Q _ => ∃ (s A B p : Addr) (c : Nat) (cs : List Int), vs = [.ref s, .ref p] ∧ StreamAt H s A B c ∧ c < 2 ^ 29 ∧ H p = some (.lst (vi cs)) ∧ p ≠ s ∧ p ≠ A ∧ 1 ≤ cs.length ∧ cs.length ≤ 100 ∧ (∀ x ∈ cs, 0 ≤ x) ∧ cs.sum ≤ 100 ∧
  ∀ H' t gs, StreamAt H' s A B (c + 100) → Fr s A H H' → H' t = some (.tup (vi gs)) → gs.length = cs.length → (∀ j, 0 ≤ at0 gs j) → Q (.ref t) H'
abbrev nLAnyG : List Str := ["_law_stream_here", "_law_now", "_law_goal", "_law_k", "_law_room"]
theorem scLAnyG : FnScope nLAnyG ["_law_stream_here", "_law_now"] (defScope sLAnyG) := ⟨rfl, rfl, rfl, by decide +kernel, rfl, by decide +kernel, by decide +kernel⟩
theorem ok_anyg {f : Addr} {fd : FuncData} {k : Nat} (F : Fun K "_law_any_goal" "_law_any_goal" sLAnyG f fd) (T : Nm mg) (Tsum : mg "sum" = none) (C_law_draw : Cal P w K mg base k "_law_draw" ["_law_stream_here", "_law_many"] spDraw) : FnOk P w K mg base CX0 (k + 1) f fd ["_law_stream_here", "_law_now"] spAnyG := by
  refine F.ok scLAnyG (fun vs H Q E h => ?_) (fun cdv A outer s H vs Q E1 hr h => ?_)
  · obtain ⟨s, A, B, p, c, cs, rfl, _⟩ := h
    rfl
  · obtain ⟨st, SA, SB, p, c, cs, rfl, hS, hc, hp, np1, np2, l1, l2, nn, s100, q⟩ := h
    refine ⟨_, (pss_cons (ps_set (i := 2) scLAnyG.nd rfl (.inl rfl) (pe_op op_rep (pe_lst (pa_cons pe_int pa_nil)) (pe_callB (call_lenK K rfl) (by rfl) T.len (by decide +kernel) (pa_cons (pv 1) pa_nil))))
      (pss_cons (ps_for PassesOwn.never rfl (pi_range1 (by rfl) T.range (pa_cons (pe_callB (cr_sum rfl) (by rfl) Tsum (by decide +kernel) (pa_cons (pv 1) pa_nil)) pa_nil)) (pg_name (i := 3) scLAnyG.nd rfl (.inl rfl))
      (pss_cons (ps_set (i := 4) scLAnyG.nd rfl (.inl rfl) (pe_cal C_law_draw hr (by rfl) (pa_cons (pv 0) (pa_cons (pe_callB (call_lenK K rfl) (by rfl) T.len (by decide +kernel) (pa_cons (pv 1) pa_nil)) pa_nil))))
       (pss_one (ps_asg (pe_op op_add (pe_ix (ix_listK K rfl) (pv 2) (pv 4) (fun _ _ => rfl)) pe_int) (pg_sub (pv 2) (pv 4) set_list)))))
      (pss_one (ps_ret (pe_callTy (call_tupleK K rfl) (by rfl) T.tuple (by decide +kernel) (pa_cons (pv 2) pa_nil)))))), ?_⟩
    have sz := sizeLine_eq
    have sp := sum_pos nn
    refine ⟨by show 1 ≤ sizeLine; omega, fun a ha => ⟨_, rfl, p, _, rfl, .inl (SqL.of (same_upd ha _ _ hp)), a, _, _, rfl, rfl, upd_same, by omega, by rw [List.length_map]; omega, by rw [List.length_map]; show 1 * _ ≤ sizeLine; omega, fun g hg => ?_⟩⟩
    rw [show (List.replicate (((vi cs).length : Nat) : Int).toNat [V.int 0]).flatten = vi (List.replicate cs.length 0) by
      rw [List.length_map, Int.toNat_natCast]
      generalize cs.length = m
      induction m with
      | zero => rfl
      | succ m ih => rw [List.replicate_succ, List.flatten_cons, ih, List.replicate_succ]; rfl]
    have s1 := (same_upd (o := .lst [V.int 0]) ha).trans (same_upd (o := .lst (vi (List.replicate cs.length 0))) hg)
    have eg : (upd (upd H a (.lst [V.int 0])) g (.lst (vi (List.replicate cs.length 0)))) g = some (.lst (vi (List.replicate cs.length 0))) := upd_same
    have hgH : H g = none := (same_upd ha).free hg
    have zg := hS.ne hgH
    have npg : p ≠ g := ne_of_none hp hgH
    have hS1 := hS.same s1
    have hp1 := s1 _ _ hp
    generalize upd (upd H a (.lst [V.int 0])) g (.lst (vi (List.replicate cs.length 0))) = H1 at *
    refine ⟨_, rfl, p, cs, rfl, SqL.of hp1, cs.sum, rfl, by omega, by omega, for_range (lo := 0) (n := cs.sum.toNat) (fun i σ' H' => ∃ (y3 y4 : Option V) (gs : List Int), σ' = [some (.ref st), some (.ref p), some (.ref g), y3, y4] ∧ StreamAt H' st SA SB (c + i) ∧ Fr st SA H H' ∧ H' p = some (.lst (vi cs)) ∧ H' g = some (.lst (vi gs)) ∧ gs.length = cs.length ∧ ∀ j, 0 ≤ at0 gs j)
      ⟨_, _, _, rfl, hS1, Fr.of s1, hp1, eg, List.length_replicate, fun j => ?_⟩ ?_ ?_⟩
    · unfold at0
      rw [List.getD_eq_getElem?_getD]
      cases e : (List.replicate cs.length (0 : Int))[j]? with
      | none => exact Int.le_refl _
      | some x =>
        have := List.mem_of_getElem? e
        rw [(List.mem_replicate.mp this).2]
        exact Int.le_refl _
    · rintro i σ' H2 hi ⟨y3, y4, gs, rfl, hS2, fr2, hp2, eg2, lg, g0⟩
      refine ⟨_, rfl, _, rfl, p, _, rfl, .inl (SqL.of hp2), st, SA, SB, c + i, _, rfl, hS2, by omega, by rw [List.length_map]; omega, by rw [List.length_map]; omega, fun H3 r hS3 fr3 r0 r1 => ?_⟩
      rw [List.length_map] at r1
      have eg3 := fr3 _ _ zg.1.symm zg.2.1.symm eg2
      have hp3 := fr3 _ _ np1 np2 hp2
      have fr13 := fr2.trans fr3
      refine ⟨_, rfl, _, rfl, g, _, _, _, rfl, rfl, SqL.of eg3, at0_ix r0 (by omega), _, _, rfl, rfl, _, rfl, _, rfl, g, _, _, r.toNat, rfl, rfl, eg3, ixN_of r0 (by rw [List.length_map]; omega), ?_⟩
      refine ⟨_, _, gs.set r.toNat (at0 gs r.toNat + 1), rfl, hS3.put zg, fr13.put hgH, (upd_ne npg).trans hp3, by rw [upd_same]; unfold vi; rw [List.map_set], by rw [List.length_set]; exact lg, fun j => ?_⟩
      by_cases e : r.toNat = j
      · rw [← e, at0_same (by omega)]
        have := g0 r.toNat
        omega
      · rw [at0_other e]
        exact g0 j
    · rintro σ' H2 ⟨y3, y4, gs, rfl, hS2, fr2, hp2, eg2, lg, g0⟩
      refine ⟨_, rfl, g, _, rfl, .inl ⟨SqL.of eg2, fun t ht => ?_⟩⟩
      have s2 := same_upd (o := .tup (vi gs)) ht
      exact q _ t gs ((hS2.same s2).mono (by omega)) (fr2.trans (Fr.of s2)) upd_same lg g0
end
end Fw
set_option maxHeartbeats 4000000
namespace Fw
open PySem PySem.Spec PyProof.Rows L2
/-! what k59 shows (icb_iff as in Kh) -/
theorem blk_rng {D : List (Int × Int)} {n : Int} {cs gs : List Int} {Ls : List (List Int)} (rg : Regs D (occN cs cs.length) Ls) (n0 : 0 ≤ n) (lc : cs.length = n.toNat) {b : Str × Int} (hb : b ∈ blks cs gs cs.length Ls) : 0 ≤ b.2 ∧ b.2 < n := by
  unfold blks at hb
  rcases List.mem_append.mp hb with hb | hb
  · obtain ⟨r, hr, rfl⟩ := List.mem_map.mp hb
    unfold wntN at hr
    obtain ⟨j, hj, rfl⟩ := List.mem_map.mp hr
    have := List.mem_range.mp (List.mem_filter.mp hj).1
    exact ⟨by show 0 ≤ (j : Int); omega, by show (j : Int) < n; omega⟩
  · obtain ⟨l, hl, rfl⟩ := List.mem_map.mp hb
    have ml := (List.mem_filter.mp hl).1
    obtain ⟨r, hr, ic⟩ := (rg.mem l).mp ml
    cases el : l with
    | nil =>
      have := ic.has
      rw [el] at this
      cases this
    | cons y ys =>
      have := rg.has ml (r := y) (by rw [el]; exact List.mem_cons_self)
      have := mem_occN.mp this.1
      exact ⟨by show 0 ≤ y; omega, by show y < n; omega⟩
theorem isTx_iff {z : Str} {d : PyData} : isTx z d = true ↔ d = .str z := by
  constructor
  · intro h
    unfold isTx at h
    split at h
    · rw [beq_iff_eq] at h
      rw [h]
    · cases h
  · rintro rfl
    simp [isTx]
theorem icb_iff {D : List (Int × Int)} {n : Int} {cs gs : List Int} {Ls : List (List Int)} (rg : Regs D (occN cs cs.length) Ls) (n0 : 0 ≤ n) (lc : cs.length = n.toNat) {d : PyData} : icb n cs gs Ls d = true ↔ ∃ b ∈ blks cs gs cs.length Ls, d = pp b := by
  constructor
  · intro h
    unfold icb at h
    split at h
    · rename_i w r
      rw [Bool.and_eq_true] at h
      obtain ⟨_, h⟩ := h
      by_cases e : isTx "empty" w = true
      · rw [if_pos e, decide_eq_true_eq] at h
        refine ⟨(Str.ofString "empty", r), ?_, by rw [isTx_iff.mp e]; rfl⟩
        unfold blks
        exact List.mem_append_left _ (List.mem_map.mpr ⟨r, h, rfl⟩)
      · rw [if_neg e, Bool.and_eq_true, decide_eq_true_eq] at h
        refine ⟨(Str.ofString "unbalanced", r), ?_, by rw [isTx_iff.mp h.1]; rfl⟩
        unfold blks
        obtain ⟨l, hl, el⟩ := List.mem_map.mp h.2
        exact List.mem_append_right _ (List.mem_map.mpr ⟨l, hl, by rw [el]⟩)
    · cases h
  · rintro ⟨b, hb, rfl⟩
    have ok := blk_rng rg n0 lc hb
    obtain ⟨z, r⟩ := b
    show (decide (0 ≤ r ∧ r < n) && _) = true
    rw [decide_eq_true ok, Bool.true_and]
    unfold blks at hb
    rcases List.mem_append.mp hb with hb | hb
    · obtain ⟨r', hr, e⟩ := List.mem_map.mp hb
      cases e
      rw [if_pos (isTx_iff.mpr rfl)]
      exact decide_eq_true hr
    · obtain ⟨l, hl, e⟩ := List.mem_map.mp hb
      cases e
      rw [if_neg (show ¬ isTx "empty" (.str "unbalanced") = true by decide +kernel), isTx_iff.mpr rfl, Bool.true_and]
      refine decide_eq_true ?_
      unfold unR
      exact List.mem_map.mpr ⟨l, hl, rfl⟩

theorem at0_nn {c : List Int} (h : ∀ x ∈ c, 0 ≤ x) (j : Nat) : 0 ≤ at0 c j := by
  unfold at0
  rw [List.getD_eq_getElem?_getD]
  cases e : c[j]? with
  | none => exact Int.le_refl _
  | some x => exact h x (List.mem_of_getElem? e)
theorem flows_ex {n : Int} {D : List (Int × Int)} (f : Forest n D) {cs gs : List Int} (lc : cs.length = n.toNat) : ∃ fs, Flows D cs gs fs := by
  have mR : ∀ r, r ∈ occN cs cs.length ↔ 0 ≤ r ∧ r < n ∧ at0 cs r.toNat > 0 := fun x => by rw [mem_occN]; omega
  obtain ⟨zs, z1, z2⟩ := all_of3 (R := fun (d : Int × Int) (l : List Int) => IsC (lessD D d) (occN cs cs.length) d.1 l) (l := D.filter (inn cs)) fun d hd => by
    obtain ⟨m, i⟩ := List.mem_filter.mp hd
    exact isC_ex (lessD D d) (occN_up cs cs.length) ((inn_R f mR m).mp i).1
  refine ⟨zs.map fun z => (z.1.1, z.1.2, tot cs z.2 - tot gs z.2), ?_, fun q hq => ?_⟩
  · rw [← z1, List.map_map]
    rfl
  · obtain ⟨z, hz, rfl⟩ := List.mem_map.mp hq
    exact ⟨z.2, z2 z hz, rfl⟩
theorem fsum_mag (fs : List (Int × Int × Int)) : fsum fs = (fs.map fun q => magC q.2.2).sum := rfl
/-- what the search says of a goal -/
theorem goal_at {n : Int} {D : List (Int × Int)} (f : Forest n D) (n0 : 0 ≤ n) {cs gs : List Int} (lc : cs.length = n.toNat) (lg : gs.length = n.toNat) (c0 : ∀ j, 0 ≤ at0 cs j) (g0 : ∀ j, 0 ≤ at0 gs j) {L : KvI} (bf : BfsC D cs L []) :
    ((∀ Ls, Regs D (occN cs cs.length) Ls → blks cs gs cs.length Ls = []) ↔ gs ∈ L.map (·.1)) ∧ ∀ v fs, (gs, v) ∈ L → Flows D cs gs fs → v = .int (fsum fs) := by
  constructor
  · constructor
    · intro h
      obtain ⟨fs, hf⟩ := flows_ex f (gs := gs) lc
      obtain ⟨k, _, r⟩ := flows_rk f n0 lc lg c0 g0 (noblk_bal (lg.trans lc.symm) c0 g0 h) hf
      obtain ⟨j, m, _⟩ := bf.done r
      exact List.mem_map_of_mem (f := (·.1)) m
    · intro m Ls rg
      obtain ⟨p, hp, e⟩ := List.mem_map.mp m
      obtain ⟨j, _, r⟩ := bf.rk p hp
      rw [e] at r
      exact (r.bal f lc c0).noblk rg
  · intro v fs m hf
    obtain ⟨j, ej, r⟩ := bf.rk _ m
    have lo := few_leC f lc c0 r hf
    obtain ⟨k, ek, rk⟩ := flows_rk f n0 lc lg c0 g0 (r.bal f lc c0) hf
    obtain ⟨j', m', l'⟩ := bf.done rk
    have ev := kv_one bf.nd m m'
    rw [ev] at ej
    have := V.int.inj ej
    rw [ev, fsum_mag]
    congr 1
    omega
end Fw
namespace Fw
open PySem PySem.Spec PyProof.Rows L2
set_option maxHeartbeats 4000000
section
variable {P : Program} {w : World} {K : PySem.W.Frag} {mg : Str → Option Value} {base : Heap}
def spLaw (K : PySem.W.Frag) : Sp := fun vs H Q _ => ∃ (a : Addr) (ns : List Int), vs = [.ref a] ∧ SqL K H a (vi ns) ∧ ns.length ≤ 63 ∧ ∀ H', Q (.bl true) H'
abbrev nLaw : List Str := ["_law_script", "_law_stream_here", "_law_turn", "_law_house_here", "_law_now", "_law_room", "_law_k", "_law_known", "_law_near", "_law_goals", "_law_goal", "_law_found"]
theorem scLaw : FnScope nLaw ["_law_script"] (defScope sLaw) := ⟨rfl, rfl, rfl, by decide +kernel, rfl, by decide +kernel, by decide +kernel⟩
/-- the defs of the text -/
structure All (K : PySem.W.Frag) (mg : Str → Option Value) : Prop where
  T : Nm mg
  any : mg "any" = none
  enumerate : mg "enumerate" = none
  sum : mg "sum" = none
  dis_integer : DefE K mg "is_integer" sIsInt ["value"]
  dis_pair : DefE K mg "is_pair" sIsPair ["value"]
  dis_room : DefE K mg "is_room" sIsRoom ["house", "value"]
  dneighbors : DefE K mg "neighbors" sNb ["house", "room"]
  dcomponents : DefE K mg "components" sComp ["house", "rooms"]
  dsteps_toward : DefE K mg "steps_toward" sSteps ["house", "goal", "rooms"]
  dfind_count_block : DefE K mg "find_count_block" sFindCountBlock ["house", "counts", "target"]
  dempty_wanted_rooms : DefE K mg "empty_wanted_rooms" sEmptyWantedRooms ["counts", "target"]
  dunbalanced_regions : DefE K mg "unbalanced_regions" sUnbalancedRegions ["house", "counts", "target"]
  doccupied_rooms : DefE K mg "occupied_rooms" sOccupiedRooms ["counts"]
  dtotal : DefE K mg "total" sTotal ["counts", "rooms"]
  dis_count_block : DefE K mg "is_count_block" sIsCountBlock ["house", "counts", "target", "value"]
  dnet_flows : DefE K mg "net_flows" sNetFlows ["house", "counts", "target"]
  dnet_flow : DefE K mg "net_flow" sNetFlow ["house", "counts", "target", "a", "b"]
  dfewest_moves : DefE K mg "fewest_moves" sFewestMoves ["house", "counts", "target"]
  d_law_stream : DefE K mg "_law_stream" sStream ["_law_script"]
  d_law_draw : DefE K mg "_law_draw" sDraw ["_law_stream_here", "_law_many"]
  d_law_house : DefE K mg "_law_house" sHouse ["_law_stream_here", "_law_least", "_law_most"]
  d_law_neighbors : DefE K mg "_law_neighbors" sLNb ["_law_house_here", "_law_room"]
  d_law_reachable_counts : DefE K mg "_law_reachable_counts" sLRCts ["_law_house_here", "_law_now"]
  d_law_any_goal : DefE K mg "_law_any_goal" sLAnyG ["_law_stream_here", "_law_now"]
theorem ok_law {f : Addr} {fd : FuncData} (F : Fun K "law" "law" sLaw f fd) (Z : All K mg) : FnG P w K mg base 8 f fd ["_law_script"] (spLaw K) := by
  have T := Z.T
  have Cempty_wanted_rooms : Cal P w K mg base 1 "empty_wanted_rooms" ["counts", "target"] spWnt := Z.dempty_wanted_rooms.cal fun _ _ d => ok_wnt (k := 0) d.F Z.enumerate
  have Ccomponents : Cal P w K mg base 3 "components" ["house", "rooms"] (spComp K) := Z.dcomponents.cal fun _ _ d => by
    obtain ⟨af2, bf2, f2⟩ := Z.dneighbors
    obtain ⟨af3, bf3, f3⟩ := Z.dsteps_toward
    exact ok_comp d.F T Z.any f2 f3
  have Coccupied_rooms : Cal P w K mg base 1 "occupied_rooms" ["counts"] spOccN := Z.doccupied_rooms.cal fun _ _ d => ok_occn (k := 0) d.F T Z.enumerate
  have Ctotal : Cal P w K mg base 1 "total" ["counts", "rooms"] (spTot K) := Z.dtotal.cal fun _ _ d => ok_tot (k := 0) d.F Z.sum
  have Cunbalanced_regions : Cal P w K mg base 4 "unbalanced_regions" ["house", "counts", "target"] (spUnb K) := Z.dunbalanced_regions.cal fun _ _ d => ok_unb (k := 0) d.F (Ccomponents.up (by decide)) (Coccupied_rooms.up (by decide)) (Ctotal.up (by decide))
  have Cfind_count_block : Cal P w K mg base 5 "find_count_block" ["house", "counts", "target"] (spFCB K) := Z.dfind_count_block.cal fun _ _ d => ok_fcb (k := 0) d.F (Cempty_wanted_rooms.up (by decide)) (Cunbalanced_regions.up (by decide))
  have Cnet_flow : Cal P w K mg base 4 "net_flow" ["house", "counts", "target", "a", "b"] (spNF K) := Z.dnet_flow.cal fun _ _ d => ok_nf (k := 0) d.F T (Ccomponents.up (by decide)) (Coccupied_rooms.up (by decide)) (Ctotal.up (by decide))
  have Cnet_flows : Cal P w K mg base 6 "net_flows" ["house", "counts", "target"] (spNFs K) := Z.dnet_flows.cal fun _ _ d => ok_nfs (k := 0) d.F T (Cfind_count_block.up (by decide)) (Cnet_flow.up (by decide))
  have Cfewest_moves : Cal P w K mg base 7 "fewest_moves" ["house", "counts", "target"] (spFew K) := Z.dfewest_moves.cal fun _ _ d => ok_few (k := 0) d.F T Z.sum (Cnet_flows.up (by decide))
  have C_law_stream : Cal P w K mg base 1 "_law_stream" ["_law_script"] (spStream K) := Z.d_law_stream.cal fun _ _ d => ok_stream d.F T
  have C_law_draw : Cal P w K mg base 1 "_law_draw" ["_law_stream_here", "_law_many"] spDraw := Z.d_law_draw.cal fun _ _ d => ok_draw d.F T
  have C_law_house : Cal P w K mg base 2 "_law_house" ["_law_stream_here", "_law_least", "_law_most"] spHouse := Z.d_law_house.cal fun _ _ d => by
    obtain ⟨af2, bf2, f2⟩ := Z.d_law_draw
    exact ok_house d.F T f2
  have C_law_neighbors : Cal P w K mg base 1 "_law_neighbors" ["_law_house_here", "_law_room"] spLNb := Z.d_law_neighbors.cal fun _ _ d => ok_lnb d.F T
  have CnumA : Cal P w K mg base 1 "is_integer" pIsInt (spIsNum K) := Z.dis_integer.cal fun _ _ d => ok_isnum d.F T
  have CroomA : Cal P w K mg base 2 "is_room" pIsRoom (spIsRoomA K) := Z.dis_room.cal fun _ _ d => ok_isrooma d.F T CnumA
  have CpairA : Cal P w K mg base 1 "is_pair" pIsInt (spIsPairA K) := Z.dis_pair.cal fun _ _ d => ok_ispaira d.F T
  have Zc := Cempty_wanted_rooms
  have Zd := Cunbalanced_regions
  have Zl := C_law_neighbors
  have Cis_count_block : Cal P w K mg base 5 "is_count_block" ["house", "counts", "target", "value"] (spICB K) := Z.dis_count_block.cal fun _ _ d => ok_icb (k := 0) d.F (CpairA.up (by decide)) (CroomA.up (by decide)) (Cempty_wanted_rooms.up (by decide)) Cunbalanced_regions
  have C_law_reachable_counts : Cal P w K mg base 2 "_law_reachable_counts" ["_law_house_here", "_law_now"] spRCts := Z.d_law_reachable_counts.cal fun _ _ d => ok_rcts d.F T C_law_neighbors
  have C_law_any_goal : Cal P w K mg base 2 "_law_any_goal" ["_law_stream_here", "_law_now"] spAnyG := Z.d_law_any_goal.cal fun _ _ d => ok_anyg d.F T Z.sum C_law_draw
  refine Fun.okG F scLaw (fun vs H Q E h => ?_) (fun cdv A outer s H vs Q gd hr h => ?_)
  · obtain ⟨a, ns, rfl, _⟩ := h
    rfl
  · obtain ⟨a, ns, rfl, hS, hlen, q⟩ := h
    refine ⟨_, (pss_cons (ps_set (i := 1) scLaw.nd rfl (.inr rfl) (pe_cal C_law_stream (hr.mono (by decide)) (by rfl) (pa_cons (pv 0) pa_nil)))
      (pss_cons (ps_for PassesOwn.never rfl (pi_range1 (by rfl) T.range (pa_cons pe_int pa_nil)) (pg_name (i := 2) scLaw.nd rfl (.inl rfl))
      (pss_cons (ps_set (i := 3) scLaw.nd rfl (.inl rfl) (pe_cal C_law_house (hr.mono (by decide)) (by rfl) (pa_cons (pv 1) (pa_cons pe_int (pa_cons pe_int pa_nil)))))
       (pss_cons (ps_set (i := 4) scLaw.nd rfl (.inr rfl) (pe_lc (own := [("_law_room", 5)]) (g := gName 5) (by rfl) scLaw.nd (pi_range1 (by rfl) T.range (pa_cons (pe_ix (ix_tupK K rfl) (pv 3) pe_int (fun _ _ => rfl)) pa_nil))
 (blkOk_by (own := [("_law_room", 5)]) (N := nLaw) (sc := defScope sLaw) (by decide +kernel))
 (fun _ _ _ _ _ => (pg_name (i := 5) scLaw.nd rfl (.inl rfl))) (fun _ _ _ _ _ => pts_nil) (fun _ _ _ _ _ => (pe_cal C_law_draw (hr.mono (by decide)) (by rfl) (pa_cons (pv 1) (pa_cons pe_int pa_nil))))))
       (pss_cons (ps_for PassesOwn.never rfl (pi_range1 (by rfl) T.range (pa_cons (pe_cal C_law_draw (hr.mono (by decide)) (by rfl) (pa_cons (pv 1) (pa_cons pe_int pa_nil))) pa_nil)) (pg_name (i := 6) scLaw.nd rfl (.inl rfl))
       (pss_cons (ps_set (i := 5) scLaw.nd rfl (.inl rfl) (pe_cal C_law_draw (hr.mono (by decide)) (by rfl) (pa_cons (pv 1) (pa_cons (pe_ix (ix_tupK K rfl) (pv 3) pe_int (fun _ _ => rfl)) pa_nil))))
        (pss_one (ps_asg (pe_op op_add (pe_ix (ix_listK K rfl) (pv 4) (pv 5) (fun _ _ => rfl)) pe_int) (pg_sub (pv 4) (pv 5) set_list)))))
       (pss_cons (ps_set (i := 7) scLaw.nd rfl (.inl rfl) (pe_cal C_law_reachable_counts (hr.mono (by decide)) (by rfl) (pa_cons (pv 3) (pa_cons (pe_callTy (call_tupleK K rfl) (by rfl) T.tuple (by decide +kernel) (pa_cons (pv 4) pa_nil)) pa_nil))))
       (pss_cons (ps_set (i := 8) scLaw.nd rfl (.inr rfl) (pe_callB (cr_sortedC rfl hr.units) (by rfl) T.sorted (by decide +kernel) (pa_cons (pv 7) pa_nil)))
       (pss_cons (ps_setLc (i := 9) (own := [("_law_k", 6)]) (g := gName 6) (by rfl) scLaw.nd rfl rfl (sw_true rfl rfl rfl (by decide +kernel)) (pi_range1 (by rfl) T.range (pa_cons pe_int pa_nil))
 (blkOk_by (own := [("_law_k", 6)]) (N := nLaw) (sc := defScope sLaw) (by decide +kernel))
 (fun _ _ _ _ _ => (pg_name (i := 6) scLaw.nd rfl (.inl rfl))) (fun _ _ _ _ _ => pts_nil) (fun _ _ _ _ _ => (pe_cal C_law_any_goal (hr.mono (by decide)) (by rfl) (pa_cons (pv 1) (pa_cons (pv 4) pa_nil)))))
       (pss_one (ps_for PassesOwn.never rfl (pi_listK K rfl (pe_op op_cat (pv 9) (pe_lc (own := [("_law_k", 6)]) (g := gName 6) (by rfl) scLaw.nd (pi_range1 (by rfl) T.range (pa_cons pe_int pa_nil))
 (blkOk_by (own := [("_law_k", 6)]) (N := nLaw) (sc := defScope sLaw) (by decide +kernel))
 (fun _ _ _ _ _ => (pg_name (i := 6) scLaw.nd rfl (.inl rfl))) (fun _ _ _ _ _ => pts_nil) (fun _ _ _ _ _ => (pe_ix (ix_listK K rfl) (pv 8) (pe_cal C_law_draw (hr.mono (by decide)) (by rfl) (pa_cons (pv 1) (pa_cons (pe_callB (call_lenK K rfl) (by rfl) T.len (by decide +kernel) (pa_cons (pv 8) pa_nil)) pa_nil))) (fun _ _ => rfl)))))) (pg_name (i := 10) scLaw.nd rfl (.inl rfl))
       (pss_cons (ps_set (i := 11) scLaw.nd rfl (.inl rfl) (pe_cal Cfind_count_block (hr.mono (by decide)) (by rfl) (pa_cons (pv 3) (pa_cons (pe_callTy (call_tupleK K rfl) (by rfl) T.tuple (by decide +kernel) (pa_cons (pv 4) pa_nil)) (pa_cons (pv 10) pa_nil)))))
        (pss_cons (ps_if (pt_cmpR op_ne (pe_cmp (pc_isN (pv 11)) rfl) (pe_cmp (pc_din (hu_of hr) (pv 10) (pv 7)) rfl) (nomark _))
        pss_never
        pss_nil)
        (pss_cons (ps_if (PW.pt (pw_and (pt_cmp (pc_isN (pv 11))) (pw_and1 (pt_cmpR op_ne (pe_cal Cfewest_moves (hr.mono (by decide)) (by rfl) (pa_cons (pv 3) (pa_cons (pe_callTy (call_tupleK K rfl) (by rfl) T.tuple (by decide +kernel) (pa_cons (pv 4) pa_nil)) (pa_cons (pv 10) pa_nil)))) (pe_dget (hu_of hr) (pv 7) (pv 10) (fun _ _ => rfl)) (nomark _)))))
        pss_never
        pss_nil)
        (pss_one (ps_if (PW.pt (pw_and (pt_cmp (pc_notN (pv 11))) (pw_and1 (pt_cmpR op_isnot_bl (pe_cal Cis_count_block (hr.mono (by decide)) (by rfl) (pa_cons (pv 3) (pa_cons (pe_callTy (call_tupleK K rfl) (by rfl) T.tuple (by decide +kernel) (pa_cons (pv 4) pa_nil)) (pa_cons (pv 10) (pa_cons (pv 11) pa_nil))))) pe_bl (nomark _)))))
        pss_never
        pss_nil))))))))))))))
      (pss_one (ps_ret pe_bl)))), ?_⟩
    have sz := sizeLine_eq
    refine ⟨_, rfl, a, ns, rfl, hS, hlen, fun H1 s1 A1 B1 sm1 _ _ hS1 => ?_⟩
    refine ⟨3, rfl, by decide, by decide, for_range (lo := 0) (n := 3) (fun i σ H' => ∃ y2 y3 y4 y5 y6 y7 y8 y9 y10 y11, σ = [some (.ref a), some (.ref s1), y2, y3, y4, y5, y6, y7, y8, y9, y10, y11] ∧ StreamAt H' s1 A1 B1 (2000 * i)) ⟨_, _, _, _, _, _, _, _, _, _, rfl, hS1⟩ ?_ ?_⟩
    rotate_left
    · rintro σ H2 ⟨y2, y3, y4, y5, y6, y7, y8, y9, y10, y11, rfl, _⟩
      exact q _
    rintro i σ H2 hi ⟨y2, y3, y4, y5, y6, y7, y8, y9, y10, y11, rfl, hS2⟩
    refine ⟨_, rfl, s1, A1, B1, 2000 * i, _, _, rfl, hS2, by omega, by decide, by decide, by decide, fun H3 h n D hS3 fr3 hH hF n2 n4 => ?_⟩
    obtain ⟨qd, eh3⟩ := hH.room0
    have ln : 2 ≤ n.toNat ∧ n.toNat ≤ 4 := by omega
    -- the counts
    refine ⟨_, rfl, h, _, _, _, rfl, rfl, SqT.of eh3, atI0, n, rfl, by omega, by omega, fun N hN => lc_range (lo := 0) (n := n.toNat) (fun m H' => ∃ xs : List Int, StreamAt H' s1 A1 B1 (2000 * i + 40 + m) ∧ Fr s1 A1 H3 H' ∧ H' N = some (.lst (vi xs)) ∧ xs.length = m ∧ (∀ x ∈ xs, 0 ≤ x) ∧ xs.sum ≤ (m : Nat)) ⟨[], (hS3.same (same_upd hN)).mono (by omega), Fr.of (same_upd hN), upd_same, rfl, fun x hx => (by cases hx), Int.le_refl _⟩ ?_ ?_⟩
    · rintro m H' hm ⟨xs, hS', fr', e', l', nn, s'⟩
      have zN := hS3.ne hN
      refine ⟨rfl, ?_⟩
      unfold tYes
      refine iteT ⟨_, rfl, s1, A1, B1, 2000 * i + 40 + m, _, rfl, hS', by omega, by decide, by decide, fun H'' x hS'' fr'' x0 x1 => ?_⟩
      refine ⟨_, fr'' _ _ zN.1.symm zN.2.1.symm e', by rw [List.length_map]; omega, xs ++ [x], (hS''.put zN).mono (by omega), (fr'.trans fr'').put hN, by rw [upd_same, vi_app]; rfl, by rw [List.length_append, l']; rfl, fun y hy => ?_, ?_⟩
      · rcases List.mem_append.mp hy with z | z
        · exact nn y z
        · rw [List.mem_singleton.mp z]
          exact x0
      · rw [List.sum_append, List.sum_singleton]
        omega
    rintro H4 ⟨xs, hS4, fr4, e4, l4, nn4, sm4⟩
    have zN := hS3.ne hN
    have hS4 := hS4.mono (show 2000 * i + 40 + n.toNat ≤ 2000 * i + 50 by omega)
    refine ⟨_, rfl, s1, A1, B1, 2000 * i + 50, _, rfl, hS4, by omega, by decide, by decide, fun H5 kk hS5 fr5 k0 k1 => ?_⟩
    have e5 := fr5 _ _ zN.1.symm zN.2.1.symm e4
    refine ⟨kk, rfl, by omega, by omega, for_range (lo := 0) (n := kk.toNat) (fun m σ' H' => ∃ (y5 y6 : Option V) (xs : List Int), σ' = [some (.ref a), some (.ref s1), some (.int (0 + (i : Int))), some (.ref h), some (.ref N), y5, y6, y7, y8, y9, y10, y11] ∧ StreamAt H' s1 A1 B1 (2000 * i + 60 + m) ∧ Fr s1 A1 H3 H' ∧ H' N = some (.lst (vi xs)) ∧ xs.length = n.toNat ∧ (∀ x ∈ xs, 0 ≤ x) ∧ xs.sum ≤ (n.toNat : Nat) + m) ⟨_, _, xs, rfl, hS5.mono (by omega), fr4.trans fr5, e5, l4, nn4, by omega⟩ ?_ ?_⟩
    · rintro m σ' H6 hm ⟨z5, z6, xs, rfl, hS6, fr6, e6, l6, nn6, sm6⟩
      have eh6 := fr6.tup hS3 eh3
      refine ⟨_, rfl, _, rfl, h, _, _, _, rfl, rfl, SqT.of eh6, atI0, s1, A1, B1, _, _, rfl, hS6, by omega, by omega, by omega, fun H7 r hS7 fr7 r0 r1 => ?_⟩
      have e7 := fr7 _ _ zN.1.symm zN.2.1.symm e6
      refine ⟨_, rfl, _, rfl, N, _, _, _, rfl, rfl, SqL.of e7, at0_ix r0 (by omega), _, _, rfl, rfl, _, rfl, _, rfl, N, _, _, r.toNat, rfl, rfl, e7, ixN_of r0 (by rw [List.length_map]; omega), ?_⟩
      refine ⟨_, _, xs.set r.toNat (at0 xs r.toNat + 1), rfl, (hS7.put zN).mono (by omega), (fr6.trans fr7).put hN, by rw [upd_same]; unfold vi; rw [List.map_set], by rw [List.length_set]; exact l6, fun y hy => ?_, ?_⟩
      · rcases List.mem_or_eq_of_mem_set hy with z | z
        · exact nn6 y z
        · rw [z]
          have := at0_nn nn6 r.toNat
          omega
      · rw [sum_set _ _ _ (by omega)]
        omega
    rintro σ' H6 ⟨z5, z6, xs, rfl, hS6, fr6, e6, l6, nn6, sm6⟩
    have hS6 := hS6.mono (show 2000 * i + 60 + kk.toNat ≤ 2000 * i + 70 by omega)
    have at6 := at0_nn nn6
    clear e4 e5 nn4 sm4 l4 fr4 fr5 hS4 hS5
    -- the search
    refine ⟨_, rfl, _, rfl, N, _, rfl, .inl ⟨SqL.of e6, fun p hp => ?_⟩⟩
    have s7 := same_upd (o := .tup (vi xs)) hp
    have hH6 := hH.fr hS3 fr6
    refine ⟨h, p, n, D, xs, rfl, hH6.same s7, hF, by omega, n4, upd_same, l6, at6, by omega, fun H8 d L s8 hd ed bf => ?_⟩
    have s68 := s7.trans s8
    have zd := (hS6.same s7).ne hd
    have hS8 := hS6.same s68
    have fr8 := fr6.trans (Fr.of s68)
    have e8 := s68 _ _ e6
    generalize upd H6 p (.tup (vi xs)) = H7 at *
    refine ⟨_, rfl, d, L, rfl, ed, fun x hx => ?_, fun M bs hM pm hb => ?_⟩
    · obtain ⟨j, _, r⟩ := bf.rk x hx
      intro z
      have := r.len
      rw [z, l6] at this
      simp only [List.length_nil] at this
      omega
    have sM := same_upd (o := .lst (bs.map fun b => V.ref b.1)) hM
    have zM := hS8.ne hM
    have eM : (upd H8 M (.lst (bs.map fun b => V.ref b.1))) M = some (.lst (bs.map fun b => V.ref b.1)) := upd_same
    have hS9 := hS8.same sM
    have fr9 := fr8.trans (Fr.of sM)
    have e9 := sM _ _ e8
    have ed9 := sM _ _ ed
    have hb9 : CtsAt (upd H8 M (.lst (bs.map fun b => V.ref b.1))) bs := fun b hh => sM _ _ (hb b hh)
    have bok : ∀ b ∈ bs, b.2.length = n.toNat ∧ ∀ j, 0 ≤ at0 b.2 j := fun b hh => by
      have m : b.2 ∈ L.map (·.1) := pm.mem_iff.mp (List.mem_map_of_mem (f := (·.2)) hh)
      obtain ⟨x, hx, ex⟩ := List.mem_map.mp m
      obtain ⟨j, _, r⟩ := bf.rk x hx
      rw [ex] at r
      exact ⟨by rw [r.len]; exact l6, r.nn hF l6 at6⟩
    have lbs : 0 < bs.length ∧ bs.length ≤ 6561 := by
      have e1 := pm.length_eq
      rw [List.length_map, List.length_map] at e1
      have := List.length_pos_of_mem bf.st
      have f1 := few_found (m := 8) hF l6 at6 (by omega) bf.nd bf.rk
      have := pow9 n4
      have : (8 + 1) ^ n.toNat ≤ 6561 := this
      omega
    generalize upd H8 M (.lst (bs.map fun b => V.ref b.1)) = H9 at *
    clear s7 s8 s68 hS8 fr8 e8 ed hb sM hM hd hS6 fr6 e6 hp hH6
    -- the goals
    refine ⟨4, rfl, by decide, by decide, fun G hG => lc_range (lo := 0) (n := 4) (fun m H' => ∃ gs : Cts, StreamAt H' s1 A1 B1 (2000 * i + 70 + 100 * m) ∧ Fr s1 A1 H9 H' ∧ H' G = some (.lst (gs.map fun b => V.ref b.1)) ∧ gs.length = m ∧ CtsAt H' gs ∧ ∀ b ∈ gs, b.2.length = n.toNat ∧ ∀ j, 0 ≤ at0 b.2 j) ⟨[], (hS9.same (same_upd hG)).mono (by omega), Fr.of (same_upd hG), upd_same, rfl, fun b hh => (by cases hh), fun b hh => (by cases hh)⟩ ?_ ?_⟩
    · rintro m H' hm ⟨gs, hS', fr', e', l', ct', ok'⟩
      have zG := hS9.ne hG
      refine ⟨rfl, ?_⟩
      unfold tYes
      refine iteT ⟨_, rfl, _, rfl, s1, A1, B1, N, _, xs, rfl, hS', by omega, fr' _ _ zN.1.symm zN.2.1.symm e9, zN.1.symm, zN.2.1.symm, by omega, by omega, nn6, by omega, fun H'' t g hS'' fr'' et lg g0 => ?_⟩
      have e2 := fr'' _ _ zG.1.symm zG.2.1.symm e'
      refine ⟨_, e2, by rw [List.length_map]; omega, gs ++ [(t, g)], (hS''.put zG).mono (by omega), (fr'.trans fr'').put hG, by rw [upd_same, List.map_append]; rfl, by rw [List.length_append, l']; rfl, fun b hh => ?_, fun b hh => ?_⟩
      · rcases List.mem_append.mp hh with z | z
        · exact CtsAt.putL (fun b hb => fr''.tup hS' (ct' b hb)) e2 b z
        · rw [List.mem_singleton.mp z]
          exact (upd_ne (ne_of et e2 (by intro z; cases z))).trans et
      · rcases List.mem_append.mp hh with z | z
        · exact ok' b z
        · rw [List.mem_singleton.mp z]
          exact ⟨by rw [lg]; exact l6, g0⟩
    rintro H10 ⟨gs, hS10, fr10, e10, lgs, ct10, ok10⟩
    have zG := hS9.ne hG
    refine ⟨_, rfl, 4, rfl, by decide, by decide, fun G2 hG2 => lc_range (lo := 0) (n := 4) (fun m H' => ∃ g2 : Cts, StreamAt H' s1 A1 B1 (2000 * i + 600 + m) ∧ Fr s1 A1 H10 H' ∧ H' G2 = some (.lst (g2.map fun b => V.ref b.1)) ∧ g2.length = m ∧ ∀ b ∈ g2, b ∈ bs) ⟨[], (hS10.same (same_upd hG2)).mono (by omega), Fr.of (same_upd hG2), upd_same, rfl, fun b hh => (by cases hh)⟩ ?_ ?_⟩
    · rintro m H' hm ⟨g2, hS', fr', e', l', ok'⟩
      have zG2 := hS10.ne hG2
      have eM' := fr' _ _ zM.1.symm zM.2.1.symm (fr10 _ _ zM.1.symm zM.2.1.symm eM)
      refine ⟨rfl, ?_⟩
      unfold tYes
      refine iteT ⟨_, rfl, _, rfl, _, rfl, M, _, rfl, .inl (SqL.of eM'), s1, A1, B1, _, _, rfl, hS', by omega, by rw [List.length_map]; omega, by rw [List.length_map]; omega, fun H'' r hS'' fr'' r0 r1 => ?_⟩
      rw [List.length_map] at r1
      have lt : r.toNat < bs.length := by omega
      have hat : atI (bs.map fun b => V.ref b.1) r = some (.ref (bs[r.toNat]).1) := by
        have := atI_nat (xs := bs.map fun b => V.ref b.1) (j := r.toNat) (v := .ref (bs[r.toNat]).1) (by rw [List.getElem?_map, List.getElem?_eq_getElem lt]; rfl)
        rw [show ((r.toNat : Nat) : Int) = r by omega] at this
        exact this
      have e2 := fr'' _ _ zG2.1.symm zG2.2.1.symm e'
      refine ⟨M, _, _, _, rfl, rfl, SqL.of (fr'' _ _ zM.1.symm zM.2.1.symm eM'), hat, _, e2, by rw [List.length_map]; omega, g2 ++ [bs[r.toNat]], (hS''.put zG2).mono (by omega), (fr'.trans fr'').put hG2, by rw [upd_same, List.map_append]; rfl, by rw [List.length_append, l']; rfl, fun b hh => ?_⟩
      rcases List.mem_append.mp hh with z | z
      · exact ok' b z
      · rw [List.mem_singleton.mp z]
        exact List.getElem_mem lt
    rintro H11 ⟨g2, hS11, fr11, e11, lg2, ok11⟩
    have zG2 := hS10.ne hG2
    have frA := fr10.trans fr11
    have e10' := fr11 _ _ zG.1.symm zG.2.1.symm e10
    refine ⟨G, G2, _, _, rfl, rfl, e10', e11, by rw [List.length_map, List.length_map]; omega, fun G3 hG3 => ?_⟩
    rw [← List.map_append]
    have sG := same_upd (o := .lst ((gs ++ g2).map fun b => V.ref b.1)) hG3
    have eG : (upd H11 G3 (.lst ((gs ++ g2).map fun b => V.ref b.1))) G3 = some (.lst ((gs ++ g2).map fun b => V.ref b.1)) := upd_same
    have hS12 := hS11.same sG
    have ct12 : CtsAt (upd H11 G3 (.lst ((gs ++ g2).map fun b => V.ref b.1))) (gs ++ g2) := fun b hh => by
      rcases List.mem_append.mp hh with z | z
      · exact sG _ _ (fr11.tup hS10 (ct10 b z))
      · exact sG _ _ (frA.tup hS9 (hb9 b (ok11 b z)))
    have ok12 : ∀ b ∈ gs ++ g2, b.2.length = n.toNat ∧ ∀ j, 0 ≤ at0 b.2 j := fun b hh => by
      rcases List.mem_append.mp hh with z | z
      · exact ok10 b z
      · exact bok b (ok11 b z)
    have e12 := sG _ _ (frA _ _ zN.1.symm zN.2.1.symm e9)
    have ed12 := sG _ _ (frA _ _ zd.1.symm zd.2.1.symm ed9)
    have hH12 := (hH.fr hS3 (fr9.trans frA)).same sG
    generalize upd H11 G3 (.lst ((gs ++ g2).map fun b => V.ref b.1)) = H12 at *
    generalize gs ++ g2 = Gs at *
    clear ct10 ok10 ok11 hb9 bok e10 e11 e10' sG e9 ed9 frA fr9 fr10 fr11 hS9 hS10 hS11 eM lbs pm
    refine ⟨G3, rfl, ⟨_, SqL.of eG⟩, for_list (K := K) (a := G3) (xs := Gs.map fun b => V.ref b.1) (fun j σ' H' => ∃ (y10 y11 : Option V), σ' = [some (.ref a), some (.ref s1), some (.int (0 + (i : Int))), some (.ref h), some (.ref N), z5, z6, some (.ref d), some (.ref M), some (.ref G), y10, y11] ∧ Same H12 H') ⟨_, _, rfl, Same.refl _⟩ (fun j σ' H' _ hh => ?_) ?_ ?_⟩
    · obtain ⟨_, _, _, s'⟩ := hh
      exact SqL.of (s' _ _ eG)
    · rintro j x σ' H13 hx ⟨w10, w11, rfl, s13⟩
      obtain ⟨b, hbj, rfl⟩ := get_mapA hx
      obtain ⟨g, gg⟩ := b
      have mb := List.mem_of_getElem? hbj
      have eg := s13 _ _ (ct12 _ mb)
      obtain ⟨lg, g0⟩ := ok12 _ mb
      dsimp only at lg g0 eg
      have e13 := s13 _ _ e12
      have ed13 := s13 _ _ ed12
      have hH13 := hH12.same s13
      obtain ⟨ga, gb⟩ := goal_at hF (by omega) l6 lg at6 g0 bf
      refine ⟨_, rfl, _, rfl, N, _, rfl, .inl ⟨SqL.of e13, fun p1 hp1 => ⟨_, rfl, h, p1, g, n, D, xs, gg, rfl, hH13.same (same_upd hp1), hF, by omega, by omega, upd_same, same_upd hp1 _ _ eg, l6, lg, fun H14 v s14 hv => ?_⟩⟩⟩
      have w14 := (same_upd (o := .tup (vi xs)) hp1).trans s14
      have eg14 := w14 _ _ eg
      have e14 := w14 _ _ e13
      have ed14 := w14 _ _ ed13
      have hH14 := hH13.same w14
      have s1314 := s13.trans w14
      clear w14 s14
      obtain ⟨Ls, rg⟩ := regs_ex D (occN_up xs xs.length)
      have hv := hv Ls rg
      refine ⟨_, rfl, _, rfl, _, rfl, d, _, rfl, DGet.t ed14 (ik_at eg14), rfl, _, rfl, ?_⟩
      by_cases inL : gg ∈ L.map (·.1)
      · have nb := ga.mpr inL
        rw [nb Ls rg] at hv
        obtain rfl : v = V.non := hv
        obtain ⟨y, hy, ey⟩ := List.mem_map.mp inL
        have my : (gg, y.2) ∈ L := by rw [← ey]; exact hy
        have vk := valV_ik bf.nd my
        rw [vk]
        refine iteF ?_
        refine ⟨_, rfl, _, rfl, iteT ⟨_, rfl, _, rfl, N, _, rfl, .inl ⟨SqL.of e14, fun p2 hp2 => ⟨_, rfl, h, p2, g, n, D, xs, gg, rfl, hH14.same (same_upd hp2), hF, by omega, by omega, upd_same, same_upd hp2 _ _ eg14, l6, lg, nb, fun H15 fs s15 hf => ?_⟩⟩⟩⟩
        have w15 := (same_upd (o := .tup (vi xs)) hp2).trans s15
        have dg : DGet H15 d (.ref g) (some y.2) := by
          have := DGet.t (w15 _ _ ed14) (ik_at (w15 _ _ eg14))
          rwa [vk] at this
        rw [gb y.2 fs my hf] at dg
        refine ⟨_, rfl, _, rfl, d, _, rfl, dg, rfl, _, rfl, ?_⟩
        rw [decide_eq_true rfl]
        refine iteF ⟨_, rfl, _, rfl, iteF ⟨_, _, rfl, s1314.trans w15⟩⟩
      · rw [valV_ik_none inL]
        have nn0 : blks xs gg xs.length Ls ≠ [] := fun z => inL (ga.mp fun Ls' rg' => (noblk_one (lg.trans l6.symm) at6 g0 rg z).noblk rg')
        cases hbk : blks xs gg xs.length Ls with
        | nil => exact absurd hbk nn0
        | cons x rest =>
        rw [hbk] at hv
        obtain ⟨t, rfl, et⟩ := hv
        refine iteF ?_
        refine ⟨_, rfl, _, rfl, iteF ?_⟩
        refine ⟨_, rfl, _, rfl, iteT ⟨_, rfl, _, rfl, N, _, rfl, .inl ⟨SqL.of e14, fun p2 hp2 => ⟨_, rfl, _, rfl, h, p2, g, n, D, xs, gg, .ref t, .tuple [.str x.1, .int x.2], rfl, hH14.same (same_upd hp2), hF, by omega, by omega, upd_same, same_upd hp2 _ _ eg14, l6, lg, .tup (SqT.of (same_upd hp2 _ _ et)) (.cons (.str _) (.cons (.int _) .nil)), rfl, fun H15 bb s15 hbb => ?_⟩⟩⟩⟩
        have w15 := (same_upd (o := .tup (vi xs)) hp2).trans s15
        have : bb = true := by
          rw [hbb Ls rg]
          exact (icb_iff rg (by omega) l6).mpr ⟨x, by rw [hbk]; exact List.mem_cons_self, rfl⟩
        rw [this]
        exact ⟨_, _, rfl, rfl, _, rfl, iteF ⟨_, _, rfl, s1314.trans w15⟩⟩
    · rintro σ' H13 ⟨w10, w11, rfl, s13⟩
      exact ⟨_, _, _, _, _, _, _, _, _, _, rfl, (hS12.same s13).mono (by omega)⟩
end
end Fw
set_option maxHeartbeats 8000000
namespace Fw
open PySem L2
theorem all_mk {P : Program} {w : World} {K : PySem.W.Frag} {h : Heap} {mg : Str → Option Value} {fa : Addr} (X : K.In h) (G : h.Ns mainGlobals mg) (hfa : mg "law" = some (.ref fa))
    {f1 : Addr} {od1 an1 : Option Addr} {sl1 : Array (Option Value)} {oc1 kV1 dc1 pm1 cd1 ct1 : Value}
    (a1 : PySem.W.nsIn K mainGlobals "is_integer" = some (some (.ref f1)))
    (l1 : K.lookup f1 = some ⟨oc1, od1, .func (PySem.W.fnOf "is_integer" "is_integer" (defArgs sIsInt) (defBody sIsInt) (defScope sIsInt) .none kV1 dc1 pm1 an1 cd1 ct1), sl1⟩)
    (c1 : PySem.W.codeIn K cd1 "is_integer" = true) (k1 : PySem.W.keepIn K (.ref f1) = true)
    {f2 : Addr} {od2 an2 : Option Addr} {sl2 : Array (Option Value)} {oc2 kV2 dc2 pm2 cd2 ct2 : Value}
    (a2 : PySem.W.nsIn K mainGlobals "is_pair" = some (some (.ref f2)))
    (l2 : K.lookup f2 = some ⟨oc2, od2, .func (PySem.W.fnOf "is_pair" "is_pair" (defArgs sIsPair) (defBody sIsPair) (defScope sIsPair) .none kV2 dc2 pm2 an2 cd2 ct2), sl2⟩)
    (c2 : PySem.W.codeIn K cd2 "is_pair" = true) (k2 : PySem.W.keepIn K (.ref f2) = true)
    {f3 : Addr} {od3 an3 : Option Addr} {sl3 : Array (Option Value)} {oc3 kV3 dc3 pm3 cd3 ct3 : Value}
    (a3 : PySem.W.nsIn K mainGlobals "is_room" = some (some (.ref f3)))
    (l3 : K.lookup f3 = some ⟨oc3, od3, .func (PySem.W.fnOf "is_room" "is_room" (defArgs sIsRoom) (defBody sIsRoom) (defScope sIsRoom) .none kV3 dc3 pm3 an3 cd3 ct3), sl3⟩)
    (c3 : PySem.W.codeIn K cd3 "is_room" = true) (k3 : PySem.W.keepIn K (.ref f3) = true)
    {f4 : Addr} {od4 an4 : Option Addr} {sl4 : Array (Option Value)} {oc4 kV4 dc4 pm4 cd4 ct4 : Value}
    (a4 : PySem.W.nsIn K mainGlobals "neighbors" = some (some (.ref f4)))
    (l4 : K.lookup f4 = some ⟨oc4, od4, .func (PySem.W.fnOf "neighbors" "neighbors" (defArgs sNb) (defBody sNb) (defScope sNb) .none kV4 dc4 pm4 an4 cd4 ct4), sl4⟩)
    (c4 : PySem.W.codeIn K cd4 "neighbors" = true) (k4 : PySem.W.keepIn K (.ref f4) = true)
    {f5 : Addr} {od5 an5 : Option Addr} {sl5 : Array (Option Value)} {oc5 kV5 dc5 pm5 cd5 ct5 : Value}
    (a5 : PySem.W.nsIn K mainGlobals "components" = some (some (.ref f5)))
    (l5 : K.lookup f5 = some ⟨oc5, od5, .func (PySem.W.fnOf "components" "components" (defArgs sComp) (defBody sComp) (defScope sComp) .none kV5 dc5 pm5 an5 cd5 ct5), sl5⟩)
    (c5 : PySem.W.codeIn K cd5 "components" = true) (k5 : PySem.W.keepIn K (.ref f5) = true)
    {f6 : Addr} {od6 an6 : Option Addr} {sl6 : Array (Option Value)} {oc6 kV6 dc6 pm6 cd6 ct6 : Value}
    (a6 : PySem.W.nsIn K mainGlobals "steps_toward" = some (some (.ref f6)))
    (l6 : K.lookup f6 = some ⟨oc6, od6, .func (PySem.W.fnOf "steps_toward" "steps_toward" (defArgs sSteps) (defBody sSteps) (defScope sSteps) .none kV6 dc6 pm6 an6 cd6 ct6), sl6⟩)
    (c6 : PySem.W.codeIn K cd6 "steps_toward" = true) (k6 : PySem.W.keepIn K (.ref f6) = true)
    {f7 : Addr} {od7 an7 : Option Addr} {sl7 : Array (Option Value)} {oc7 kV7 dc7 pm7 cd7 ct7 : Value}
    (a7 : PySem.W.nsIn K mainGlobals "find_count_block" = some (some (.ref f7)))
    (l7 : K.lookup f7 = some ⟨oc7, od7, .func (PySem.W.fnOf "find_count_block" "find_count_block" (defArgs sFindCountBlock) (defBody sFindCountBlock) (defScope sFindCountBlock) .none kV7 dc7 pm7 an7 cd7 ct7), sl7⟩)
    (c7 : PySem.W.codeIn K cd7 "find_count_block" = true) (k7 : PySem.W.keepIn K (.ref f7) = true)
    {f8 : Addr} {od8 an8 : Option Addr} {sl8 : Array (Option Value)} {oc8 kV8 dc8 pm8 cd8 ct8 : Value}
    (a8 : PySem.W.nsIn K mainGlobals "empty_wanted_rooms" = some (some (.ref f8)))
    (l8 : K.lookup f8 = some ⟨oc8, od8, .func (PySem.W.fnOf "empty_wanted_rooms" "empty_wanted_rooms" (defArgs sEmptyWantedRooms) (defBody sEmptyWantedRooms) (defScope sEmptyWantedRooms) .none kV8 dc8 pm8 an8 cd8 ct8), sl8⟩)
    (c8 : PySem.W.codeIn K cd8 "empty_wanted_rooms" = true) (k8 : PySem.W.keepIn K (.ref f8) = true)
    {f9 : Addr} {od9 an9 : Option Addr} {sl9 : Array (Option Value)} {oc9 kV9 dc9 pm9 cd9 ct9 : Value}
    (a9 : PySem.W.nsIn K mainGlobals "unbalanced_regions" = some (some (.ref f9)))
    (l9 : K.lookup f9 = some ⟨oc9, od9, .func (PySem.W.fnOf "unbalanced_regions" "unbalanced_regions" (defArgs sUnbalancedRegions) (defBody sUnbalancedRegions) (defScope sUnbalancedRegions) .none kV9 dc9 pm9 an9 cd9 ct9), sl9⟩)
    (c9 : PySem.W.codeIn K cd9 "unbalanced_regions" = true) (k9 : PySem.W.keepIn K (.ref f9) = true)
    {f10 : Addr} {od10 an10 : Option Addr} {sl10 : Array (Option Value)} {oc10 kV10 dc10 pm10 cd10 ct10 : Value}
    (a10 : PySem.W.nsIn K mainGlobals "occupied_rooms" = some (some (.ref f10)))
    (l10 : K.lookup f10 = some ⟨oc10, od10, .func (PySem.W.fnOf "occupied_rooms" "occupied_rooms" (defArgs sOccupiedRooms) (defBody sOccupiedRooms) (defScope sOccupiedRooms) .none kV10 dc10 pm10 an10 cd10 ct10), sl10⟩)
    (c10 : PySem.W.codeIn K cd10 "occupied_rooms" = true) (k10 : PySem.W.keepIn K (.ref f10) = true)
    {f11 : Addr} {od11 an11 : Option Addr} {sl11 : Array (Option Value)} {oc11 kV11 dc11 pm11 cd11 ct11 : Value}
    (a11 : PySem.W.nsIn K mainGlobals "total" = some (some (.ref f11)))
    (l11 : K.lookup f11 = some ⟨oc11, od11, .func (PySem.W.fnOf "total" "total" (defArgs sTotal) (defBody sTotal) (defScope sTotal) .none kV11 dc11 pm11 an11 cd11 ct11), sl11⟩)
    (c11 : PySem.W.codeIn K cd11 "total" = true) (k11 : PySem.W.keepIn K (.ref f11) = true)
    {f12 : Addr} {od12 an12 : Option Addr} {sl12 : Array (Option Value)} {oc12 kV12 dc12 pm12 cd12 ct12 : Value}
    (a12 : PySem.W.nsIn K mainGlobals "is_count_block" = some (some (.ref f12)))
    (l12 : K.lookup f12 = some ⟨oc12, od12, .func (PySem.W.fnOf "is_count_block" "is_count_block" (defArgs sIsCountBlock) (defBody sIsCountBlock) (defScope sIsCountBlock) .none kV12 dc12 pm12 an12 cd12 ct12), sl12⟩)
    (c12 : PySem.W.codeIn K cd12 "is_count_block" = true) (k12 : PySem.W.keepIn K (.ref f12) = true)
    {f13 : Addr} {od13 an13 : Option Addr} {sl13 : Array (Option Value)} {oc13 kV13 dc13 pm13 cd13 ct13 : Value}
    (a13 : PySem.W.nsIn K mainGlobals "net_flows" = some (some (.ref f13)))
    (l13 : K.lookup f13 = some ⟨oc13, od13, .func (PySem.W.fnOf "net_flows" "net_flows" (defArgs sNetFlows) (defBody sNetFlows) (defScope sNetFlows) .none kV13 dc13 pm13 an13 cd13 ct13), sl13⟩)
    (c13 : PySem.W.codeIn K cd13 "net_flows" = true) (k13 : PySem.W.keepIn K (.ref f13) = true)
    {f14 : Addr} {od14 an14 : Option Addr} {sl14 : Array (Option Value)} {oc14 kV14 dc14 pm14 cd14 ct14 : Value}
    (a14 : PySem.W.nsIn K mainGlobals "net_flow" = some (some (.ref f14)))
    (l14 : K.lookup f14 = some ⟨oc14, od14, .func (PySem.W.fnOf "net_flow" "net_flow" (defArgs sNetFlow) (defBody sNetFlow) (defScope sNetFlow) .none kV14 dc14 pm14 an14 cd14 ct14), sl14⟩)
    (c14 : PySem.W.codeIn K cd14 "net_flow" = true) (k14 : PySem.W.keepIn K (.ref f14) = true)
    {f15 : Addr} {od15 an15 : Option Addr} {sl15 : Array (Option Value)} {oc15 kV15 dc15 pm15 cd15 ct15 : Value}
    (a15 : PySem.W.nsIn K mainGlobals "fewest_moves" = some (some (.ref f15)))
    (l15 : K.lookup f15 = some ⟨oc15, od15, .func (PySem.W.fnOf "fewest_moves" "fewest_moves" (defArgs sFewestMoves) (defBody sFewestMoves) (defScope sFewestMoves) .none kV15 dc15 pm15 an15 cd15 ct15), sl15⟩)
    (c15 : PySem.W.codeIn K cd15 "fewest_moves" = true) (k15 : PySem.W.keepIn K (.ref f15) = true)
    {f16 : Addr} {od16 an16 : Option Addr} {sl16 : Array (Option Value)} {oc16 kV16 dc16 pm16 cd16 ct16 : Value}
    (a16 : PySem.W.nsIn K mainGlobals "_law_stream" = some (some (.ref f16)))
    (l16 : K.lookup f16 = some ⟨oc16, od16, .func (PySem.W.fnOf "_law_stream" "_law_stream" (defArgs sStream) (defBody sStream) (defScope sStream) .none kV16 dc16 pm16 an16 cd16 ct16), sl16⟩)
    (c16 : PySem.W.codeIn K cd16 "_law_stream" = true) (k16 : PySem.W.keepIn K (.ref f16) = true)
    {f17 : Addr} {od17 an17 : Option Addr} {sl17 : Array (Option Value)} {oc17 kV17 dc17 pm17 cd17 ct17 : Value}
    (a17 : PySem.W.nsIn K mainGlobals "_law_draw" = some (some (.ref f17)))
    (l17 : K.lookup f17 = some ⟨oc17, od17, .func (PySem.W.fnOf "_law_draw" "_law_draw" (defArgs sDraw) (defBody sDraw) (defScope sDraw) .none kV17 dc17 pm17 an17 cd17 ct17), sl17⟩)
    (c17 : PySem.W.codeIn K cd17 "_law_draw" = true) (k17 : PySem.W.keepIn K (.ref f17) = true)
    {f18 : Addr} {od18 an18 : Option Addr} {sl18 : Array (Option Value)} {oc18 kV18 dc18 pm18 cd18 ct18 : Value}
    (a18 : PySem.W.nsIn K mainGlobals "_law_house" = some (some (.ref f18)))
    (l18 : K.lookup f18 = some ⟨oc18, od18, .func (PySem.W.fnOf "_law_house" "_law_house" (defArgs sHouse) (defBody sHouse) (defScope sHouse) .none kV18 dc18 pm18 an18 cd18 ct18), sl18⟩)
    (c18 : PySem.W.codeIn K cd18 "_law_house" = true) (k18 : PySem.W.keepIn K (.ref f18) = true)
    {f19 : Addr} {od19 an19 : Option Addr} {sl19 : Array (Option Value)} {oc19 kV19 dc19 pm19 cd19 ct19 : Value}
    (a19 : PySem.W.nsIn K mainGlobals "_law_neighbors" = some (some (.ref f19)))
    (l19 : K.lookup f19 = some ⟨oc19, od19, .func (PySem.W.fnOf "_law_neighbors" "_law_neighbors" (defArgs sLNb) (defBody sLNb) (defScope sLNb) .none kV19 dc19 pm19 an19 cd19 ct19), sl19⟩)
    (c19 : PySem.W.codeIn K cd19 "_law_neighbors" = true) (k19 : PySem.W.keepIn K (.ref f19) = true)
    {f20 : Addr} {od20 an20 : Option Addr} {sl20 : Array (Option Value)} {oc20 kV20 dc20 pm20 cd20 ct20 : Value}
    (a20 : PySem.W.nsIn K mainGlobals "_law_reachable_counts" = some (some (.ref f20)))
    (l20 : K.lookup f20 = some ⟨oc20, od20, .func (PySem.W.fnOf "_law_reachable_counts" "_law_reachable_counts" (defArgs sLRCts) (defBody sLRCts) (defScope sLRCts) .none kV20 dc20 pm20 an20 cd20 ct20), sl20⟩)
    (c20 : PySem.W.codeIn K cd20 "_law_reachable_counts" = true) (k20 : PySem.W.keepIn K (.ref f20) = true)
    {f21 : Addr} {od21 an21 : Option Addr} {sl21 : Array (Option Value)} {oc21 kV21 dc21 pm21 cd21 ct21 : Value}
    (a21 : PySem.W.nsIn K mainGlobals "_law_any_goal" = some (some (.ref f21)))
    (l21 : K.lookup f21 = some ⟨oc21, od21, .func (PySem.W.fnOf "_law_any_goal" "_law_any_goal" (defArgs sLAnyG) (defBody sLAnyG) (defScope sLAnyG) .none kV21 dc21 pm21 an21 cd21 ct21), sl21⟩)
    (c21 : PySem.W.codeIn K cd21 "_law_any_goal" = true) (k21 : PySem.W.keepIn K (.ref f21) = true)
    {f22 : Addr} {od22 an22 : Option Addr} {sl22 : Array (Option Value)} {oc22 kV22 dc22 pm22 cd22 ct22 : Value}
    (a22 : PySem.W.nsIn K mainGlobals "law" = some (some (.ref f22)))
    (l22 : K.lookup f22 = some ⟨oc22, od22, .func (PySem.W.fnOf "law" "law" (defArgs sLaw) (defBody sLaw) (defScope sLaw) .none kV22 dc22 pm22 an22 cd22 ct22), sl22⟩)
    (c22 : PySem.W.codeIn K cd22 "law" = true) (k22 : PySem.W.keepIn K (.ref f22) = true)
    (z_abs : PySem.W.nsIn K mainGlobals "abs" = some none) (z_len : PySem.W.nsIn K mainGlobals "len" = some none) (z_list : PySem.W.nsIn K mainGlobals "list" = some none) (z_range : PySem.W.nsIn K mainGlobals "range" = some none) (z_min : PySem.W.nsIn K mainGlobals "min" = some none) (z_max : PySem.W.nsIn K mainGlobals "max" = some none) (z_tuple : PySem.W.nsIn K mainGlobals "tuple" = some none) (z_sorted : PySem.W.nsIn K mainGlobals "sorted" = some none) (z_isinstance : PySem.W.nsIn K mainGlobals "isinstance" = some none) (z_all : PySem.W.nsIn K mainGlobals "all" = some none) (z_zip : PySem.W.nsIn K mainGlobals "zip" = some none) (z_bool : PySem.W.nsIn K mainGlobals "bool" = some none) (z_int : PySem.W.nsIn K mainGlobals "int" = some none) (z_str : PySem.W.nsIn K mainGlobals "str" = some none) (z_repr : PySem.W.nsIn K mainGlobals "repr" = some none) (z_any : PySem.W.nsIn K mainGlobals "any" = some none) (z_enumerate : PySem.W.nsIn K mainGlobals "enumerate" = some none) (z_sum : PySem.W.nsIn K mainGlobals "sum" = some none) : LawAt P w K mg 8 fa (spLaw K) := by
  have e := hfa.symm.trans (PySem.W.mg_of X G a22)
  cases e
  have T : Nm mg := ⟨PySem.W.mg_none_of X G z_abs, PySem.W.mg_none_of X G z_len, PySem.W.mg_none_of X G z_list, PySem.W.mg_none_of X G z_range, PySem.W.mg_none_of X G z_min, PySem.W.mg_none_of X G z_max, PySem.W.mg_none_of X G z_tuple, PySem.W.mg_none_of X G z_sorted, PySem.W.mg_none_of X G z_isinstance, PySem.W.mg_none_of X G z_all, PySem.W.mg_none_of X G z_zip, PySem.W.mg_none_of X G z_bool, PySem.W.mg_none_of X G z_int, PySem.W.mg_none_of X G z_str, PySem.W.mg_none_of X G z_repr⟩
  have F1 := fun_mk (st := sIsInt) l1 c1 k1
  have b1 := F1.binds (ps := ["value"]) fun _ _ _ _ _ _ us hl => match us, hl with | [_], _ => rfl
  have F2 := fun_mk (st := sIsPair) l2 c2 k2
  have b2 := F2.binds (ps := ["value"]) fun _ _ _ _ _ _ us hl => match us, hl with | [_], _ => rfl
  have F3 := fun_mk (st := sIsRoom) l3 c3 k3
  have b3 := F3.binds (ps := ["house", "value"]) fun _ _ _ _ _ _ us hl => match us, hl with | [_, _], _ => rfl
  have F4 := fun_mk (st := sNb) l4 c4 k4
  have b4 := F4.binds (ps := ["house", "room"]) fun _ _ _ _ _ _ us hl => match us, hl with | [_, _], _ => rfl
  have F5 := fun_mk (st := sComp) l5 c5 k5
  have b5 := F5.binds (ps := ["house", "rooms"]) fun _ _ _ _ _ _ us hl => match us, hl with | [_, _], _ => rfl
  have F6 := fun_mk (st := sSteps) l6 c6 k6
  have b6 := F6.binds (ps := ["house", "goal", "rooms"]) fun _ _ _ _ _ _ us hl => match us, hl with | [_, _, _], _ => rfl
  have F7 := fun_mk (st := sFindCountBlock) l7 c7 k7
  have b7 := F7.binds (ps := ["house", "counts", "target"]) fun _ _ _ _ _ _ us hl => match us, hl with | [_, _, _], _ => rfl
  have F8 := fun_mk (st := sEmptyWantedRooms) l8 c8 k8
  have b8 := F8.binds (ps := ["counts", "target"]) fun _ _ _ _ _ _ us hl => match us, hl with | [_, _], _ => rfl
  have F9 := fun_mk (st := sUnbalancedRegions) l9 c9 k9
  have b9 := F9.binds (ps := ["house", "counts", "target"]) fun _ _ _ _ _ _ us hl => match us, hl with | [_, _, _], _ => rfl
  have F10 := fun_mk (st := sOccupiedRooms) l10 c10 k10
  have b10 := F10.binds (ps := ["counts"]) fun _ _ _ _ _ _ us hl => match us, hl with | [_], _ => rfl
  have F11 := fun_mk (st := sTotal) l11 c11 k11
  have b11 := F11.binds (ps := ["counts", "rooms"]) fun _ _ _ _ _ _ us hl => match us, hl with | [_, _], _ => rfl
  have F12 := fun_mk (st := sIsCountBlock) l12 c12 k12
  have b12 := F12.binds (ps := ["house", "counts", "target", "value"]) fun _ _ _ _ _ _ us hl => match us, hl with | [_, _, _, _], _ => rfl
  have F13 := fun_mk (st := sNetFlows) l13 c13 k13
  have b13 := F13.binds (ps := ["house", "counts", "target"]) fun _ _ _ _ _ _ us hl => match us, hl with | [_, _, _], _ => rfl
  have F14 := fun_mk (st := sNetFlow) l14 c14 k14
  have b14 := F14.binds (ps := ["house", "counts", "target", "a", "b"]) fun _ _ _ _ _ _ us hl => match us, hl with | [_, _, _, _, _], _ => rfl
  have F15 := fun_mk (st := sFewestMoves) l15 c15 k15
  have b15 := F15.binds (ps := ["house", "counts", "target"]) fun _ _ _ _ _ _ us hl => match us, hl with | [_, _, _], _ => rfl
  have F16 := fun_mk (st := sStream) l16 c16 k16
  have b16 := F16.binds (ps := ["_law_script"]) fun _ _ _ _ _ _ us hl => match us, hl with | [_], _ => rfl
  have F17 := fun_mk (st := sDraw) l17 c17 k17
  have b17 := F17.binds (ps := ["_law_stream_here", "_law_many"]) fun _ _ _ _ _ _ us hl => match us, hl with | [_, _], _ => rfl
  have F18 := fun_mk (st := sHouse) l18 c18 k18
  have b18 := F18.binds (ps := ["_law_stream_here", "_law_least", "_law_most"]) fun _ _ _ _ _ _ us hl => match us, hl with | [_, _, _], _ => rfl
  have F19 := fun_mk (st := sLNb) l19 c19 k19
  have b19 := F19.binds (ps := ["_law_house_here", "_law_room"]) fun _ _ _ _ _ _ us hl => match us, hl with | [_, _], _ => rfl
  have F20 := fun_mk (st := sLRCts) l20 c20 k20
  have b20 := F20.binds (ps := ["_law_house_here", "_law_now"]) fun _ _ _ _ _ _ us hl => match us, hl with | [_, _], _ => rfl
  have F21 := fun_mk (st := sLAnyG) l21 c21 k21
  have b21 := F21.binds (ps := ["_law_stream_here", "_law_now"]) fun _ _ _ _ _ _ us hl => match us, hl with | [_, _], _ => rfl
  have F22 := fun_mk (st := sLaw) l22 c22 k22
  have Z : All K mg := ⟨T, PySem.W.mg_none_of X G z_any, PySem.W.mg_none_of X G z_enumerate, PySem.W.mg_none_of X G z_sum, ⟨_, _, ⟨F1, b1, PySem.W.mg_of X G a1⟩⟩, ⟨_, _, ⟨F2, b2, PySem.W.mg_of X G a2⟩⟩, ⟨_, _, ⟨F3, b3, PySem.W.mg_of X G a3⟩⟩, ⟨_, _, ⟨F4, b4, PySem.W.mg_of X G a4⟩⟩, ⟨_, _, ⟨F5, b5, PySem.W.mg_of X G a5⟩⟩, ⟨_, _, ⟨F6, b6, PySem.W.mg_of X G a6⟩⟩, ⟨_, _, ⟨F7, b7, PySem.W.mg_of X G a7⟩⟩, ⟨_, _, ⟨F8, b8, PySem.W.mg_of X G a8⟩⟩, ⟨_, _, ⟨F9, b9, PySem.W.mg_of X G a9⟩⟩, ⟨_, _, ⟨F10, b10, PySem.W.mg_of X G a10⟩⟩, ⟨_, _, ⟨F11, b11, PySem.W.mg_of X G a11⟩⟩, ⟨_, _, ⟨F12, b12, PySem.W.mg_of X G a12⟩⟩, ⟨_, _, ⟨F13, b13, PySem.W.mg_of X G a13⟩⟩, ⟨_, _, ⟨F14, b14, PySem.W.mg_of X G a14⟩⟩, ⟨_, _, ⟨F15, b15, PySem.W.mg_of X G a15⟩⟩, ⟨_, _, ⟨F16, b16, PySem.W.mg_of X G a16⟩⟩, ⟨_, _, ⟨F17, b17, PySem.W.mg_of X G a17⟩⟩, ⟨_, _, ⟨F18, b18, PySem.W.mg_of X G a18⟩⟩, ⟨_, _, ⟨F19, b19, PySem.W.mg_of X G a19⟩⟩, ⟨_, _, ⟨F20, b20, PySem.W.mg_of X G a20⟩⟩, ⟨_, _, ⟨F21, b21, PySem.W.mg_of X G a21⟩⟩⟩
  refine ⟨_, fun s v => ?_, fun base _ _ => ok_law F22 Z⟩
  exact .of_eq rfl
theorem tells : Tells spLaw := fun K H a ns hl hS => ⟨a, ns, rfl, hS, hl, fun _ => rfl⟩
end Fw

open PySem PySem.W PyProof.Rows in
set_option maxRecDepth 100000 in
set_option maxHeartbeats 0 in
theorem PySem.Challenge.cw_fromwithin_k59_whole_fewest_by_search_holds : PySem.Challenge.rw_fromwithin_k59_whole_fewest_by_search.Holds := by
  w_on; o_law; k_head; (case hw => w_witness2)
  k_fill
  refine Fw.walkG (l := PySem.Challenge.rw_fromwithin_k59_whole_fewest_by_search) (k := 8) Fw.tells rfl rfl ⟨rfl, by decide, by decide⟩ (fun w h Y => PySem.W.kIn_of Y) ?F
  case F =>
    intro w mg fa h KX G hmg
    refine' Fw.all_mk KX G hmg ?a1 ?l1 ?c1 ?k1 ?a2 ?l2 ?c2 ?k2 ?a3 ?l3 ?c3 ?k3 ?a4 ?l4 ?c4 ?k4 ?a5 ?l5 ?c5 ?k5 ?a6 ?l6 ?c6 ?k6 ?a7 ?l7 ?c7 ?k7 ?a8 ?l8 ?c8 ?k8 ?a9 ?l9 ?c9 ?k9 ?a10 ?l10 ?c10 ?k10 ?a11 ?l11 ?c11 ?k11 ?a12 ?l12 ?c12 ?k12 ?a13 ?l13 ?c13 ?k13 ?a14 ?l14 ?c14 ?k14 ?a15 ?l15 ?c15 ?k15 ?a16 ?l16 ?c16 ?k16 ?a17 ?l17 ?c17 ?k17 ?a18 ?l18 ?c18 ?k18 ?a19 ?l19 ?c19 ?k19 ?a20 ?l20 ?c20 ?k20 ?a21 ?l21 ?c21 ?k21 ?a22 ?l22 ?c22 ?k22 ?z_abs ?z_len ?z_list ?z_range ?z_min ?z_max ?z_tuple ?z_sorted ?z_isinstance ?z_all ?z_zip ?z_bool ?z_int ?z_str ?z_repr ?z_any ?z_enumerate ?z_sum
    (case a1 => k_is)
    (case l1 => k_is)
    (case c1 => k_is)
    (case k1 => k_is)
    (case a2 => k_is)
    (case l2 => k_is)
    (case c2 => k_is)
    (case k2 => k_is)
    (case a3 => k_is)
    (case l3 => k_is)
    (case c3 => k_is)
    (case k3 => k_is)
    (case a4 => k_is)
    (case l4 => k_is)
    (case c4 => k_is)
    (case k4 => k_is)
    (case a5 => k_is)
    (case l5 => k_is)
    (case c5 => k_is)
    (case k5 => k_is)
    (case a6 => k_is)
    (case l6 => k_is)
    (case c6 => k_is)
    (case k6 => k_is)
    (case a7 => k_is)
    (case l7 => k_is)
    (case c7 => k_is)
    (case k7 => k_is)
    (case a8 => k_is)
    (case l8 => k_is)
    (case c8 => k_is)
    (case k8 => k_is)
    (case a9 => k_is)
    (case l9 => k_is)
    (case c9 => k_is)
    (case k9 => k_is)
    (case a10 => k_is)
    (case l10 => k_is)
    (case c10 => k_is)
    (case k10 => k_is)
    (case a11 => k_is)
    (case l11 => k_is)
    (case c11 => k_is)
    (case k11 => k_is)
    (case a12 => k_is)
    (case l12 => k_is)
    (case c12 => k_is)
    (case k12 => k_is)
    (case a13 => k_is)
    (case l13 => k_is)
    (case c13 => k_is)
    (case k13 => k_is)
    (case a14 => k_is)
    (case l14 => k_is)
    (case c14 => k_is)
    (case k14 => k_is)
    (case a15 => k_is)
    (case l15 => k_is)
    (case c15 => k_is)
    (case k15 => k_is)
    (case a16 => k_is)
    (case l16 => k_is)
    (case c16 => k_is)
    (case k16 => k_is)
    (case a17 => k_is)
    (case l17 => k_is)
    (case c17 => k_is)
    (case k17 => k_is)
    (case a18 => k_is)
    (case l18 => k_is)
    (case c18 => k_is)
    (case k18 => k_is)
    (case a19 => k_is)
    (case l19 => k_is)
    (case c19 => k_is)
    (case k19 => k_is)
    (case a20 => k_is)
    (case l20 => k_is)
    (case c20 => k_is)
    (case k20 => k_is)
    (case a21 => k_is)
    (case l21 => k_is)
    (case c21 => k_is)
    (case k21 => k_is)
    (case a22 => k_is)
    (case l22 => k_is)
    (case c22 => k_is)
    (case k22 => k_is)
    (case z_abs => k_is)
    (case z_len => k_is)
    (case z_list => k_is)
    (case z_range => k_is)
    (case z_min => k_is)
    (case z_max => k_is)
    (case z_tuple => k_is)
    (case z_sorted => k_is)
    (case z_isinstance => k_is)
    (case z_all => k_is)
    (case z_zip => k_is)
    (case z_bool => k_is)
    (case z_int => k_is)
    (case z_str => k_is)
    (case z_repr => k_is)
    (case z_any => k_is)
    (case z_enumerate => k_is)
    (case z_sum => k_is)
